/-
  GridPoses: the walk.
-/
import Derived.Test.YtdaideiagebmdaaGridCellsWalk
import Derived.Test.YtdaideiagebmdaaGridPoseR
namespace Go.Proofs.Ytdaideiagebmdaa.Grid
set_option linter.unusedVariables false
set_option linter.unusedSimpArgs false
open Go Go.RowKit Go.Shelf Go.Proofs
attribute [local go_sem] Oper.semAt_some

theorem same_yes (g1 g2 : Nat) (x y x2 y2 : Int) (w : World) (h1 : w.heap[g1]? = some (.cells #[.int .i64 x, .int .i64 y, .int .i64 x2, .int .i64 y2] 35 (0, 0))) (h2 : w.heap[g2]? = some (.cells #[.int .i64 x, .int .i64 y, .int .i64 x2, .int .i64 y2] 35 (0, 0))) :
    Calls Try.prog 34 #[.slice (some ⟨g1, 0, none⟩) 2 2, .slice (some ⟨g2, 0, none⟩) 2 2] w fun e w' => ∃ r, e = .returned r ∧ r = .bool true ∧ Below w.heap.size w w' := by
  have := sameCells_any (fun b => b = g1) (fun b => b = g2) [(x, y), (x2, y2)] [(x, y), (x2, y2)] _ _ w (list_two h1) (list_two h2) (fun b hb => by rw [hb]; exact lt_of_heap h1) (fun b hb => by rw [hb]; exact lt_of_heap h2) (by simp) (by simp)
  rw [decide_eq_true rfl] at this
  exact this
theorem eqPose2 (x y : Int) (d : Bool) (x' y' : Int) (d' : Bool) (w : World) : (Op.equalIn 10000 41 (.agg #[.int .i64 x, .int .i64 y, .bool d]) (.agg #[.int .i64 x', .int .i64 y', .bool d'])).run Try.prog w = .ok (decide (((x, y), d) = ((x', y'), d'))) w := by
  go_simp
  repeat' split
  all_goals simp_all
theorem guardPose2 : Try.prog.eqGuardType Try.prog.depth 41 = false := by kernel_rfl
theorem run_eql_pose2 {o : Oper} {a : Act} {w : World} (x y : Operand) (ho : o.op = .binOp .eql 41 x y 41) (p q : Int) (d : Bool) (p' q' : Int) (d' : Bool) (hx : a.eval x = .agg #[.int .i64 p, .int .i64 q, .bool d]) (hy : a.eval y = .agg #[.int .i64 p', .int .i64 q', .bool d']) :
    (execOp a.eval o).run Try.prog w = .ok (.value (.bool (decide (((p, q), d) = ((p', q'), d'))))) w := by
  unfold execOp
  simp only [ho, hx, hy, Sem.run_bind, Sem.run_pure, Result.andThen_ok, run_eqGuard_agg _ _ _ _ _ _ _ guardPose2, run_eql_struct, eqPose2]
theorem fits_same {c : Conf} {G : GS} (h : newP c = some G) (p : Pose) : fitsU c.W c.H G.uses p = decide (fitsR c p) := by
  rw [Bool.eq_iff_iff, decide_eq_true_eq]
  unfold fitsU
  rw [open_same h, open_same h, Bool.and_eq_true, decide_eq_true_eq, decide_eq_true_eq]
  exact Iff.rfl
set_option maxRecDepth 100000 in
set_option maxHeartbeats 4000000 in
theorem poses_all_law (c : Conf) (vb vp vr vs : Value) (w : World) (hA : ConfAt (Old w) c vb vp vr vs w) (l1 : c.blocked.length ≤ 8796093022208) (l2 : c.ports.length ≤ 8796093022208) (l3 : c.robots.length ≤ 5864062014805) (l4 : c.stacks.length ≤ 3518437208880) (l5 : ∀ s ∈ c.stacks, s.2.length ≤ 17592186044416) (x y : Int) (d : Bool) (dir n : Int) : Calls Try.prog 5 #[.agg #[.int .i64 c.W, .int .i64 c.H, .int .i64 c.height, vb, vp, vr, vs, .int .i64 c.unit, .int .i64 c.accel, .int .i64 c.speed, .int .i64 c.turn, .int .i64 c.hoist, .int .i64 c.queue, .int .i64 c.resend, .int .i64 c.budget, .bool c.back], .agg #[.int .i64 x, .int .i64 y, .bool d], .int .i64 dir, .int .i64 n] w fun e w' => e = .returned (.bool true) ∧ Below w.heap.size w w' := by
  have L := fun (u : World) (b : Below w.heap.size w u) g (hg : Old w g) => Nat.lt_of_lt_of_le hg b.size
  have hAu := fun u (b : Below w.heap.size w u) => hA.go (fun _ h => h) b
  have cC := fun u (b : Below w.heap.size w u) => copyConf_any (Old w) c vb vp vr vs u (hAu u b) (L u b) l1 l2 l3 l4 l5
  have cM := fun u (b : Below w.heap.size w u) => mayR_call (F := Old w) (hAu u b) (L u b) l1 l2 l3 l4 l5
  have Q0 := two_new w #[.int .i64 c.W, .int .i64 c.H, .int .i64 c.height, vb, vp, vr, vs, .int .i64 c.unit, .int .i64 c.accel, .int .i64 c.speed, .int .i64 c.turn, .int .i64 c.hoist, .int .i64 c.queue, .int .i64 c.resend, .int .i64 c.budget, .bool c.back] #[.int .i64 x, .int .i64 y, .bool d] 41
  cases hN : newP c with
  | none =>
    have cN := fun {n : Nat} {u : World} {v1 v2 v3 v4 : Value} (a : ConfAt (Since n u) c v1 v2 v3 v4 u) => new_no a since_lt l1 l2 l3 l4 hN
    rw [hN] at cM
    simp only [Option.isSome_none, Option.isSome_some] at cM
    clear hA L hN hAu
    go_enter Try.func5, Try.ntmps5
    go_wp2_with (first
      | (have X' := Q2; refine wpList_load_row rfl 26 (.tmp 4) rfl w.heap.size rfl 26 #[.int .i64 c.W, .int .i64 c.H, .int .i64 c.height, vb, vp, vr, vs, .int .i64 c.unit, .int .i64 c.accel, .int .i64 c.speed, .int .i64 c.turn, .int .i64 c.hoist, .int .i64 c.queue, .int .i64 c.resend, .int .i64 c.budget, .bool c.back] (0, 0) _ Q2.a Try.underlying26 rfl info_conf ?_)
      | (refine wpList_load_row rfl 26 (.tmp 4) rfl w.heap.size rfl 26 #[.int .i64 c.W, .int .i64 c.H, .int .i64 c.height, vb, vp, vr, vs, .int .i64 c.unit, .int .i64 c.accel, .int .i64 c.speed, .int .i64 c.turn, .int .i64 c.hoist, .int .i64 c.queue, .int .i64 c.resend, .int .i64 c.budget, .bool c.back] (0, 0) _ Q0.a Try.underlying26 rfl info_conf ?_)
      | (go_at_call 20; refine (cC _ Q0.below).mono ?_; rintro e w1 ⟨r1, rfl, ⟨v1, v2, v3, v4, rfl, A1⟩, b1⟩; have Q1 := Q0.go b1)
      | (go_at_call 19; refine (cN A1).mono ?_; rintro e w2 ⟨rfl, b2⟩; have Q2 := Q1.go b2)
      | (go_at_call 21; refine (cM _ Q2.below).mono ?_; rintro e w3 ⟨r3, rfl, rfl, b3⟩; have Q3 := Q2.go b3)
      | (go_at_call 23; refine (awake_any _).mono ?_; rintro e w9 ⟨rfl, b9⟩))
    go_ret
    exact ⟨rfl, bcat Q3.below b9 (Nat.le_refl _)⟩
  | some G =>
    have cN := fun {n : Nat} {u : World} {v1 v2 v3 v4 : Value} (a : ConfAt (Since n u) c v1 v2 v3 v4 u) => new_yes a since_lt l1 l2 l3 l4 hN
    rw [hN] at cM
    simp only [Option.isSome_none, Option.isSome_some] at cM
    have cSh := fun (v : Value) u => shift_any v x y d dir n u
    have cSr := fun u => shiftRef_any x y d dir n u
    have cFi := fun (g u0 : Nat) (v' : Value) u (q : GridAt u g u0 c.W c.H G.uses v') => ret_of (fits_any g u0 c.W c.H G.uses v' x y d u q)
    have cFr := fun u (b : Below w.heap.size w u) => fitsR_any (Old w) c vb vp vr vs x y d u (hAu u b) (L u b) (by omega)
    rw [fits_same hN] at cFi
    generalize decide (fitsR c ((x, y), d)) = FB at cFi cFr
    have cCg := fun (v : Value) u => cellsG_any v x y d u
    have cCr := fun u => cellsR_any x y d u
    generalize (second ((x, y), d)).1 = x2 at cCg cCr
    generalize (second ((x, y), d)).2 = y2 at cCg cCr
    generalize shiftR ((x, y), d) dir n = sp at cSh cSr
    generalize mayShift dir n = mb at cSh cSr
    obtain ⟨⟨sx, sy⟩, sd⟩ := sp
    unfold poseCs at cSh cSr
    simp only at cSh cSr
    clear hA hN hAu
    go_enter Try.func5, Try.ntmps5
    go_wp2_with (first
      | (have X' := Q4; refine wpList_load_row rfl 41 (.tmp 5) rfl (w.heap.size + 1) rfl 41 #[.int .i64 x, .int .i64 y, .bool d] (0, 0) _ Q4.b Try.underlying41 rfl infoPose2 ?_)
      | (have X' := Q3; refine wpList_load_row rfl 41 (.tmp 5) rfl (w.heap.size + 1) rfl 41 #[.int .i64 x, .int .i64 y, .bool d] (0, 0) _ Q3.b Try.underlying41 rfl infoPose2 ?_)
      | (go_at_call 32; refine (cSh _ _).mono ?_; rintro e w4 ⟨rfl, b4⟩; have Q4 := (Q3.go b4).go (below_new (Below.refl _ _) (.cells #[.int .i64 sx, .int .i64 sy, .bool sd] 41)))
      | (go_at_call 33; refine (cSr _).mono ?_; rintro e w5 ⟨rfl, b5⟩; have Q5 := Q4.go b5)
      | (first
      | (have X' := Q2; refine wpList_load_row rfl 26 (.tmp 4) rfl w.heap.size rfl 26 #[.int .i64 c.W, .int .i64 c.H, .int .i64 c.height, vb, vp, vr, vs, .int .i64 c.unit, .int .i64 c.accel, .int .i64 c.speed, .int .i64 c.turn, .int .i64 c.hoist, .int .i64 c.queue, .int .i64 c.resend, .int .i64 c.budget, .bool c.back] (0, 0) _ Q2.a Try.underlying26 rfl info_conf ?_)
      | (refine wpList_load_row rfl 26 (.tmp 4) rfl w.heap.size rfl 26 #[.int .i64 c.W, .int .i64 c.H, .int .i64 c.height, vb, vp, vr, vs, .int .i64 c.unit, .int .i64 c.accel, .int .i64 c.speed, .int .i64 c.turn, .int .i64 c.hoist, .int .i64 c.queue, .int .i64 c.resend, .int .i64 c.budget, .bool c.back] (0, 0) _ Q0.a Try.underlying26 rfl info_conf ?_)
      | (go_at_call 20; refine (cC _ Q0.below).mono ?_; rintro e w1 ⟨r1, rfl, ⟨v1, v2, v3, v4, rfl, A1⟩, b1⟩; have Q1 := Q0.go b1)
      | (go_at_call 19; refine (cN A1).mono ?_; rintro e w2 ⟨g, u0, v', rfl, G2, _, _, own2, b2⟩; have Q2 := Q1.go b2)
      | (go_at_call 21; refine (cM _ Q2.below).mono ?_; rintro e w3 ⟨r3, rfl, rfl, b3⟩; have Q3 := Q2.go b3)
      | (go_at_call 23; refine (awake_any _).mono ?_; rintro e w9 ⟨rfl, b9⟩)))
    obtain ⟨w6, hw6⟩ : ∃ w6, w6 = w5.alloc (.cells #[.int .i64 sx, .int .i64 sy, .bool sd] 41) := ⟨_, rfl⟩
    rw [← hw6]
    have b6 : Below w5.heap.size w5 w6 := by rw [hw6]; exact below_new (Below.refl _ _) _
    have Q6 := Q5.go b6
    have G6 := (((G2.go b3).go b4).go (below_new (Below.refl _ _) (.cells #[.int .i64 sx, .int .i64 sy, .bool sd] 41))).go (bcat b5 b6 (Nat.le_refl _))
    have B := Q6.below
    have eA := Q6.a
    have eB := Q6.b
    have eq4 : (w4.alloc (.cells #[.int .i64 sx, .int .i64 sy, .bool sd] 41)).heap[w4.heap.size]? = some (.cells #[.int .i64 sx, .int .i64 sy, .bool sd] 41 (0, 0)) := heap_alloc_new w4 _
    have eC : w6.heap[w4.heap.size]? = some (.cells #[.int .i64 sx, .int .i64 sy, .bool sd] 41 (0, 0)) := ((bcat b5 b6 (Nat.le_refl _)).block _ (lt_of_heap eq4)).trans eq4
    have eD : w6.heap[w5.heap.size]? = some (.cells #[.int .i64 sx, .int .i64 sy, .bool sd] 41 (0, 0)) := by rw [hw6]; exact heap_alloc_new w5 _
    clear hw6 eq4 b6
    obtain ⟨IH, hIH⟩ : ∃ I : World → Prop, I = Below w6.heap.size w6 := ⟨_, rfl⟩
    have kI : ∀ u, IH u → Below w6.heap.size w6 u := fun u hu => by rw [hIH] at hu; exact hu
    have hS : IH w6.drew := by rw [hIH]; exact (Below.refl _ _).drew
    have D0 : Below w6.heap.size w6 w6.drew := (Below.refl _ _).drew
    have HC : Hid (∀ u, IH u → ∀ j z, #[.int .i64 c.W, .int .i64 c.H, .int .i64 c.height, vb, vp, vr, vs, .int .i64 c.unit, .int .i64 c.accel, .int .i64 c.speed, .int .i64 c.turn, .int .i64 c.hoist, .int .i64 c.queue, .int .i64 c.resend, .int .i64 c.budget, .bool c.back][j]? = some z → u.cell? ((⟨w.heap.size, 0, none⟩ : Addr).add j) = some z) := fun u hu => row_below eA (kI u hu)
    have HX : Hid (∀ u, IH u → ∀ j z, #[Value.int .i64 x, .int .i64 y, .bool d][j]? = some z → u.cell? ((⟨w.heap.size + 1, 0, none⟩ : Addr).add j) = some z) := fun u hu => row_below eB (kI u hu)
    have HY : Hid (∀ u, IH u → ∀ j z, #[Value.int .i64 sx, .int .i64 sy, .bool sd][j]? = some z → u.cell? ((⟨w4.heap.size, 0, none⟩ : Addr).add j) = some z) := fun u hu => row_below eC (kI u hu)
    have HZ : Hid (∀ u, IH u → ∀ j z, #[Value.int .i64 sx, .int .i64 sy, .bool sd][j]? = some z → u.cell? ((⟨w5.heap.size, 0, none⟩ : Addr).add j) = some z) := fun u hu => row_below eD (kI u hu)
    have cF1 := fun u (b : Below w6.heap.size w6 u) => cFi g u0 v' u (G6.go b)
    clear cFi
    refine start_held (S := IH) 29 rfl (by kernel_rfl) (hS) ?_
    simp only [Array.replicate_succ, Array.replicate_zero, List.push_toArray, List.nil_append, List.cons_append]
    refine take_held 0 (by assumption) rfl (by kernel_rfl) (by kernel_rfl) (by kernel_rfl) (fun _ _ _ h => h) (by kernel_rfl) (v := ?v54) ?y54 ?r54
    case y54 => (intro u hu; go_simp; try rfl)
    simp only [Act.put, List.setIfInBounds_toArray, List.set_cons_zero, List.set_cons_succ]
    refine take_held 1 (by assumption) rfl (by kernel_rfl) (by kernel_rfl) (by kernel_rfl) (fun _ _ _ h => h) (by kernel_rfl) (v := .agg #[.int .i64 x, .int .i64 y, .bool d]) ?y55 ?r55
    case y55 => (intro u hu; exact run_load_op 41 _ rfl ⟨w.heap.size + 1, 0, none⟩ _ rfl (HX.out u hu) (aggPose u) infoPose2)
    simp only [Act.put, List.setIfInBounds_toArray, List.set_cons_zero, List.set_cons_succ]
    refine take_held 3 (by assumption) rfl (by kernel_rfl) (by kernel_rfl) (by kernel_rfl) (fun _ _ _ h => h) (by kernel_rfl) (v := .agg #[.int .i64 x, .int .i64 y, .bool d]) ?y56 ?r56
    case y56 => (intro u hu; exact run_load_op 41 _ rfl ⟨w.heap.size + 1, 0, none⟩ _ rfl (HX.out u hu) (aggPose u) infoPose2)
    simp only [Act.put, List.setIfInBounds_toArray, List.set_cons_zero, List.set_cons_succ]
    refine wpAnyH_ready (rs := [2]) (by kernel_rfl) (by simp) (AllReadyH.cons ((nth_eq _ 2).trans rfl) ?_ AllReadyH.nil)
    intro K' hK
    refine call_in hK (by kernel_rfl) 35 #[.pointer (some ⟨g, 0, none⟩), .agg #[.int .i64 x, .int .i64 y, .bool d]] (by go_simp) _ (cCg _ _) ?_
    rintro v w10 ⟨⟨g1, rfl, hg1, hG1⟩, b10⟩
    have D10 := bcat D0 b10 (Nat.le_refl _)
    have hS10 : IH w10 := by rw [hIH]; exact D10
    refine ⟨hS10, ?_⟩
    simp only [Act.put, List.setIfInBounds_toArray, List.set_cons_zero, List.set_cons_succ]
    refine wpAnyH_ready (rs := [4]) (by kernel_rfl) (by simp) (AllReadyH.cons ((nth_eq _ 4).trans rfl) ?_ AllReadyH.nil)
    intro K' hK
    refine call_in hK (by kernel_rfl) 36 #[.agg #[.int .i64 x, .int .i64 y, .bool d]] (by go_simp) _ (cCr _) ?_
    rintro v w11 ⟨⟨g2, rfl, hg2, hG2⟩, b11⟩
    have D11 := bcat D10 b11 (Nat.le_refl _)
    have hS11 : IH w11 := by rw [hIH]; exact D11
    have hG1 := (b11.block _ (lt_of_heap hG1)).trans hG1
    refine ⟨hS11, ?_⟩
    simp only [Act.put, List.setIfInBounds_toArray, List.set_cons_zero, List.set_cons_succ]
    refine wpAnyH_ready (rs := [5]) (by kernel_rfl) (by simp) (AllReadyH.cons ((nth_eq _ 5).trans rfl) ?_ AllReadyH.nil)
    intro K' hK
    refine call_in hK (by kernel_rfl) 34 #[.slice (some ⟨g1, 0, none⟩) 2 2, .slice (some ⟨g2, 0, none⟩) 2 2] (by go_simp) _ (same_yes g1 g2 x y x2 y2 _ hG1 hG2) ?_
    rintro v w12 ⟨rfl, b12⟩
    have D12 := bcat D11 b12 (Nat.le_refl _)
    have hS12 : IH w12 := by rw [hIH]; exact D12
    refine ⟨hS12, ?_⟩
    simp only [Act.put, List.setIfInBounds_toArray, List.set_cons_zero, List.set_cons_succ]
    refine take_held 6 (by assumption) rfl (by kernel_rfl) (by kernel_rfl) (by kernel_rfl) (fun _ _ _ h => h) (by kernel_rfl) (v := ?v57) ?y57 ?r57
    case y57 => (intro u hu; go_simp; try rfl)
    simp only [Act.put, List.setIfInBounds_toArray, List.set_cons_zero, List.set_cons_succ]
    refine take_held 7 (by assumption) rfl (by kernel_rfl) (by kernel_rfl) (by kernel_rfl) (fun _ _ _ h => h) (by kernel_rfl) (v := ?v58) ?y58 ?r58
    case y58 => (intro u hu; go_simp; try rfl)
    simp only [Act.put, List.setIfInBounds_toArray, List.set_cons_zero, List.set_cons_succ]
    refine take_held 8 (by assumption) rfl (by kernel_rfl) (by kernel_rfl) (by kernel_rfl) (fun _ _ _ h => h) (by kernel_rfl) (v := .agg #[.int .i64 x, .int .i64 y, .bool d]) ?y59 ?r59
    case y59 => (intro u hu; exact run_load_op 41 _ rfl ⟨w.heap.size + 1, 0, none⟩ _ rfl (HX.out u hu) (aggPose u) infoPose2)
    simp only [Act.put, List.setIfInBounds_toArray, List.set_cons_zero, List.set_cons_succ]
    refine take_held 10 (by assumption) rfl (by kernel_rfl) (by kernel_rfl) (by kernel_rfl) (fun _ _ _ h => h) (by kernel_rfl) (v := .agg #[.int .i64 c.W, .int .i64 c.H, .int .i64 c.height, vb, vp, vr, vs, .int .i64 c.unit, .int .i64 c.accel, .int .i64 c.speed, .int .i64 c.turn, .int .i64 c.hoist, .int .i64 c.queue, .int .i64 c.resend, .int .i64 c.budget, .bool c.back]) ?y60 ?r60
    case y60 => (intro u hu; exact run_load_op 26 _ rfl ⟨w.heap.size, 0, none⟩ _ rfl (HC.out u hu) (aggConf u) info_conf)
    simp only [Act.put, List.setIfInBounds_toArray, List.set_cons_zero, List.set_cons_succ]
    refine take_held 11 (by assumption) rfl (by kernel_rfl) (by kernel_rfl) (by kernel_rfl) (fun _ _ _ h => h) (by kernel_rfl) (v := .agg #[.int .i64 x, .int .i64 y, .bool d]) ?y61 ?r61
    case y61 => (intro u hu; exact run_load_op 41 _ rfl ⟨w.heap.size + 1, 0, none⟩ _ rfl (HX.out u hu) (aggPose u) infoPose2)
    simp only [Act.put, List.setIfInBounds_toArray, List.set_cons_zero, List.set_cons_succ]
    refine wpAnyH_ready (rs := [9]) (by kernel_rfl) (by simp) (AllReadyH.cons ((nth_eq _ 9).trans rfl) ?_ AllReadyH.nil)
    intro K' hK
    refine call_in hK (by kernel_rfl) 37 #[.pointer (some ⟨g, 0, none⟩), .agg #[.int .i64 x, .int .i64 y, .bool d]] (by go_simp) _ (cF1 _ D12) ?_
    rintro v w13 ⟨rfl, b13⟩
    have D13 := bcat D12 b13 (Nat.le_refl _)
    have hS13 : IH w13 := by rw [hIH]; exact D13
    refine ⟨hS13, ?_⟩
    simp only [Act.put, List.setIfInBounds_toArray, List.set_cons_zero, List.set_cons_succ]
    refine wpAnyH_ready (rs := [12]) (by kernel_rfl) (by simp) (AllReadyH.cons ((nth_eq _ 12).trans rfl) ?_ AllReadyH.nil)
    intro K' hK
    refine call_in hK (by kernel_rfl) 38 #[.agg #[.int .i64 c.W, .int .i64 c.H, .int .i64 c.height, vb, vp, vr, vs, .int .i64 c.unit, .int .i64 c.accel, .int .i64 c.speed, .int .i64 c.turn, .int .i64 c.hoist, .int .i64 c.queue, .int .i64 c.resend, .int .i64 c.budget, .bool c.back], .agg #[.int .i64 x, .int .i64 y, .bool d]] (by go_simp) _ (cFr _ (bcat B D13 (Nat.le_refl _))) ?_
    rintro v w14 ⟨rfl, b14⟩
    have D14 := bcat D13 b14 (Nat.le_refl _)
    have hS14 : IH w14 := by rw [hIH]; exact D14
    refine ⟨hS14, ?_⟩
    simp only [Act.put, List.setIfInBounds_toArray, List.set_cons_zero, List.set_cons_succ]
    refine take_held 13 (by assumption) rfl (by kernel_rfl) (by kernel_rfl) (by kernel_rfl) (fun _ _ _ h => h) (by kernel_rfl) (v := .bool true) ?y62 ?r62
    case y62 => (intro u hu; go_simp; try simp)
    simp only [Act.put, List.setIfInBounds_toArray, List.set_cons_zero, List.set_cons_succ]
    refine take_held 14 (by assumption) rfl (by kernel_rfl) (by kernel_rfl) (by kernel_rfl) (fun _ _ _ h => h) (by kernel_rfl) (v := ?v63) ?y63 ?r63
    case y63 => (intro u hu; go_simp; try rfl)
    simp only [Act.put, List.setIfInBounds_toArray, List.set_cons_zero, List.set_cons_succ]
    refine take_held 15 (by assumption) rfl (by kernel_rfl) (by kernel_rfl) (by kernel_rfl) (fun _ _ _ h => h) (by kernel_rfl) (v := ?v64) ?y64 ?r64
    case y64 => (intro u hu; go_simp; try rfl)
    simp only [Act.put, List.setIfInBounds_toArray, List.set_cons_zero, List.set_cons_succ]
    refine take_held 16 (by assumption) rfl (by kernel_rfl) (by kernel_rfl) (by kernel_rfl) (fun _ _ _ h => h) (by kernel_rfl) (v := .agg #[.int .i64 sx, .int .i64 sy, .bool sd]) ?y65 ?r65
    case y65 => (intro u hu; exact run_load_op 41 _ rfl ⟨w4.heap.size, 0, none⟩ _ rfl (HY.out u hu) (aggPose u) infoPose2)
    simp only [Act.put, List.setIfInBounds_toArray, List.set_cons_zero, List.set_cons_succ]
    refine take_held 17 (by assumption) rfl (by kernel_rfl) (by kernel_rfl) (by kernel_rfl) (fun _ _ _ h => h) (by kernel_rfl) (v := .agg #[.int .i64 sx, .int .i64 sy, .bool sd]) ?y66 ?r66
    case y66 => (intro u hu; exact run_load_op 41 _ rfl ⟨w5.heap.size, 0, none⟩ _ rfl (HZ.out u hu) (aggPose u) infoPose2)
    simp only [Act.put, List.setIfInBounds_toArray, List.set_cons_zero, List.set_cons_succ]
    refine take_held 18 (by assumption) rfl (by kernel_rfl) (by kernel_rfl) (by kernel_rfl) (fun _ _ _ h => h) (by kernel_rfl) (v := .bool true) ?y67 ?r67
    case y67 => (intro u hu; exact (run_eql_pose2 _ _ rfl sx sy sd sx sy sd rfl rfl).trans (by simp))
    simp only [Act.put, List.setIfInBounds_toArray, List.set_cons_zero, List.set_cons_succ]
    refine take_held 19 (by assumption) rfl (by kernel_rfl) (by kernel_rfl) (by kernel_rfl) (fun _ _ _ h => h) (by kernel_rfl) (v := ?v68) ?y68 ?r68
    case y68 => (intro u hu; go_simp; try rfl)
    simp only [Act.put, List.setIfInBounds_toArray, List.set_cons_zero, List.set_cons_succ]
    refine take_held 20 (by assumption) rfl (by kernel_rfl) (by kernel_rfl) (by kernel_rfl) (fun _ _ _ h => h) (by kernel_rfl) (v := ?v69) ?y69 ?r69
    case y69 => (intro u hu; go_simp; try rfl)
    simp only [Act.put, List.setIfInBounds_toArray, List.set_cons_zero, List.set_cons_succ]
    refine take_held 21 (by assumption) rfl (by kernel_rfl) (by kernel_rfl) (by kernel_rfl) (fun _ _ _ h => h) (by kernel_rfl) (v := ?v70) ?y70 ?r70
    case y70 => (intro u hu; go_simp; try rfl)
    simp only [Act.put, List.setIfInBounds_toArray, List.set_cons_zero, List.set_cons_succ]
    refine take_held 22 (by assumption) rfl (by kernel_rfl) (by kernel_rfl) (by kernel_rfl) (fun _ _ _ h => h) (by kernel_rfl) (v := ?v71) ?y71 ?r71
    case y71 => (intro u hu; go_simp; try rfl)
    simp only [Act.put, List.setIfInBounds_toArray, List.set_cons_zero, List.set_cons_succ]
    refine take_held 23 (by assumption) rfl (by kernel_rfl) (by kernel_rfl) (by kernel_rfl) (fun _ _ _ h => h) (by kernel_rfl) (v := .bool true) ?y72 ?r72
    case y72 => (intro u hu; go_simp; try simp)
    simp only [Act.put, List.setIfInBounds_toArray, List.set_cons_zero, List.set_cons_succ]
    refine take_held 24 (by assumption) rfl (by kernel_rfl) (by kernel_rfl) (by kernel_rfl) (fun _ _ _ h => h) (by kernel_rfl) (v := ?v73) ?y73 ?r73
    case y73 => (intro u hu; go_simp; try rfl)
    simp only [Act.put, List.setIfInBounds_toArray, List.set_cons_zero, List.set_cons_succ]
    refine take_held 25 (by assumption) rfl (by kernel_rfl) (by kernel_rfl) (by kernel_rfl) (fun _ _ _ h => h) (by kernel_rfl) (v := ?v74) ?y74 ?r74
    case y74 => (intro u hu; go_simp; try rfl)
    simp only [Act.put, List.setIfInBounds_toArray, List.set_cons_zero, List.set_cons_succ]
    refine wpAnyH_ready (rs := [26]) (by kernel_rfl) (by simp) (AllReadyH.cons ((nth_eq _ 26).trans rfl) ?_ AllReadyH.nil)
    intro K' hK
    refine call_in hK (by kernel_rfl) 23 #[] (by go_simp) _ (awake_call _) ?_
    rintro v w15 ⟨rfl, b15⟩
    have D15 := bcat D14 b15 (Nat.le_refl _)
    have hS15 : IH w15 := by rw [hIH]; exact D15
    refine ⟨hS15, ?_⟩
    simp only [Act.put, List.setIfInBounds_toArray, List.set_cons_zero, List.set_cons_succ]
    refine take_held 27 (by assumption) rfl (by kernel_rfl) (by kernel_rfl) (by kernel_rfl) (fun _ _ _ h => h) (by kernel_rfl) (v := ?v75) ?y75 ?r75
    case y75 => (intro u hu; go_simp; try rfl)
    simp only [Act.put, List.setIfInBounds_toArray, List.set_cons_zero, List.set_cons_succ]
    refine take_held 28 (by assumption) rfl (by kernel_rfl) (by kernel_rfl) (by kernel_rfl) (fun _ _ _ h => h) (by kernel_rfl) (v := ?v76) ?y76 ?r76
    case y76 => (intro u hu; go_simp; try rfl)
    simp only [Act.put, List.setIfInBounds_toArray, List.set_cons_zero, List.set_cons_succ]
    refine done_held (by kernel_rfl) ?_ _
    go_wp2
    go_ret
    exact ⟨rfl, bcat B D15 (Nat.le_refl _)⟩
end Go.Proofs.Ytdaideiagebmdaa.Grid
