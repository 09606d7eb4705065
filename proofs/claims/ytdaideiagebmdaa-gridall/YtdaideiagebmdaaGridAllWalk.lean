/-
  GridAll: the walk.
-/
import Derived.Test.YtdaideiagebmdaaGridCellsWalk
import Derived.Test.YtdaideiagebmdaaGridRuns
namespace Go.Proofs.Ytdaideiagebmdaa.Grid
set_option linter.unusedVariables false
set_option linter.unusedSimpArgs false
open Go Go.RowKit Go.Shelf Go.Proofs
attribute [local go_sem] Oper.semAt_some

instance dec2 : DecidableEq (Int × Int) := inferInstance
instance decPose : DecidableEq Pose := inferInstance
instance dec3 : DecidableEq (Pose × Int × Int) := inferInstance
instance dec4 : DecidableEq (Pose × Pose × Int × Int) := inferInstance
instance dec5 : DecidableEq (Int × Int × Pose × Pose × Int × Int) := inferInstance
instance decMove : DecidableEq Move := inferInstanceAs (DecidableEq (Int × Int × Int × Pose × Pose × Int × Int))
set_option maxRecDepth 100000 in
theorem eqMove_flat (kd dir n fx fy tx ty ma me kd' dir' n' fx' fy' tx' ty' ma' me' : Int) (fd td fd' td' : Bool) (w : World) : (Op.equalIn 10000 50 (.agg #[.int .i64 kd, .int .i64 dir, .int .i64 n, .int .i64 fx, .int .i64 fy, .bool fd, .int .i64 tx, .int .i64 ty, .bool td, .int .i64 ma, .int .i64 me]) (.agg #[.int .i64 kd', .int .i64 dir', .int .i64 n', .int .i64 fx', .int .i64 fy', .bool fd', .int .i64 tx', .int .i64 ty', .bool td', .int .i64 ma', .int .i64 me'])).run Try.prog w = .ok (decide ((kd, dir, n, ((fx, fy), fd), ((tx, ty), td), ma, me) = (kd', dir', n', ((fx', fy'), fd'), ((tx', ty'), td'), ma', me'))) w := by
  go_simp
  simp only [if_ok, Bool.and_true]
  congr 1
  rw [Bool.eq_iff_iff]
  simp only [Bool.and_eq_true, decide_eq_true_eq, and_assoc]
theorem guardMove : Try.prog.eqGuardType Try.prog.depth 50 = false := by kernel_rfl
theorem run_eql_move {o : Oper} {a : Act} {w : World} (x y : Operand) (ho : o.op = .binOp .eql 50 x y 50) (p q : Move) (hx : a.eval x = .agg (moveCs p)) (hy : a.eval y = .agg (moveCs q)) :
    (execOp a.eval o).run Try.prog w = .ok (.value (.bool (decide (p = q)))) w := by
  obtain ⟨kd, dir, n, ⟨⟨fx, fy⟩, fd⟩, ⟨⟨tx, ty⟩, td⟩, ma, me⟩ := p
  obtain ⟨kd', dir', n', ⟨⟨fx', fy'⟩, fd'⟩, ⟨⟨tx', ty'⟩, td'⟩, ma', me'⟩ := q
  have hx' : a.eval x = .agg #[.int .i64 kd, .int .i64 dir, .int .i64 n, .int .i64 fx, .int .i64 fy, .bool fd, .int .i64 tx, .int .i64 ty, .bool td, .int .i64 ma, .int .i64 me] := hx
  have hy' : a.eval y = .agg #[.int .i64 kd', .int .i64 dir', .int .i64 n', .int .i64 fx', .int .i64 fy', .bool fd', .int .i64 tx', .int .i64 ty', .bool td', .int .i64 ma', .int .i64 me'] := hy
  unfold execOp
  simp only [ho, hx', hy', Sem.run_bind, Sem.run_pure, Result.andThen_ok, run_eqGuard_agg _ _ _ _ _ _ _ guardMove, run_eql_struct, eqMove_flat]
theorem aggMove (w : World) : (isAgg 50).run Try.prog w = .ok true w := by unfold isAgg; rw [Sem.run_bind, run_underlying Try.underlying50 w]; rfl
theorem Two.setb {w : World} {cs ds : Array Value} {td : TypeId} {W : World} (h : Two w cs ds td W) (j : Nat) (v : Value) : Two w cs (ds.setIfInBounds j v) td (W.setCell ⟨w.heap.size + 1, j, none⟩ v) :=
  ⟨below_set h.below (by omega) _ _, (heap_setCell_other _ _ _ _ (by simp)).trans h.a, heap_setCell_same _ _ _ _ _ _ h.b⟩
theorem count_takeM (l : List Move) (x : Move) (k : Nat) (h : k < l.length) : (l.take (k + 1)).count x = (l.take k).count x + if l[k]'h = x then 1 else 0 := by
  rw [List.take_add_one, List.count_append, List.getElem?_eq_getElem h]
  simp [List.count_singleton]
theorem three_at {w : World} {b o : Nat} {x y : Int} {d : Bool} (h0 : w.cell? ⟨b, o, none⟩ = some (.int .i64 x)) (h1 : w.cell? ⟨b, o + 1, none⟩ = some (.int .i64 y)) (h2 : w.cell? ⟨b, o + 2, none⟩ = some (.bool d)) : ∀ j z, #[Value.int .i64 x, .int .i64 y, .bool d][j]? = some z → w.cell? ((⟨b, o, none⟩ : Addr).add j) = some z := by
  intro j z hj
  rw [Addr.add_lit]
  match j with
  | 0 => simp at hj; rw [← hj]; exact h0
  | 1 => simp at hj; rw [← hj]; exact h1
  | 2 => simp at hj; rw [← hj]; exact h2
  | j + 3 => simp at hj
set_option maxRecDepth 100000 in
set_option maxHeartbeats 4000000 in
theorem all_all_law (c : Conf) (vb vp vr vs : Value) (w : World) (hA : ConfAt (Old w) c vb vp vr vs w) (l1 : c.blocked.length ≤ 8796093022208) (l2 : c.ports.length ≤ 8796093022208) (l3 : c.robots.length ≤ 5864062014805) (l4 : c.stacks.length ≤ 3518437208880) (l5 : ∀ s ∈ c.stacks, s.2.length ≤ 17592186044416) (kd dir n fx fy tx ty ma me : Int) (fd td : Bool) : Calls Try.prog 9 #[.agg #[.int .i64 c.W, .int .i64 c.H, .int .i64 c.height, vb, vp, vr, vs, .int .i64 c.unit, .int .i64 c.accel, .int .i64 c.speed, .int .i64 c.turn, .int .i64 c.hoist, .int .i64 c.queue, .int .i64 c.resend, .int .i64 c.budget, .bool c.back], .agg #[.int .i64 kd, .int .i64 dir, .int .i64 n, .int .i64 fx, .int .i64 fy, .bool fd, .int .i64 tx, .int .i64 ty, .bool td, .int .i64 ma, .int .i64 me]] w fun e w' => e = .returned (.bool true) ∧ Below w.heap.size w w' := by
  have L := fun (u : World) (b : Below w.heap.size w u) g (hg : Old w g) => Nat.lt_of_lt_of_le hg b.size
  have hAu := fun u (b : Below w.heap.size w u) => hA.go (fun _ h => h) b
  have cC := fun u (b : Below w.heap.size w u) => copyConf_any (Old w) c vb vp vr vs u (hAu u b) (L u b) l1 l2 l3 l4 l5
  have cM := fun u (b : Below w.heap.size w u) => mayR_call (F := Old w) (hAu u b) (L u b) l1 l2 l3 l4 l5
  have Q0 := two_new w #[.int .i64 c.W, .int .i64 c.H, .int .i64 c.height, vb, vp, vr, vs, .int .i64 c.unit, .int .i64 c.accel, .int .i64 c.speed, .int .i64 c.turn, .int .i64 c.hoist, .int .i64 c.queue, .int .i64 c.resend, .int .i64 c.budget, .bool c.back] #[.int .i64 kd, .int .i64 dir, .int .i64 n, .int .i64 fx, .int .i64 fy, .bool fd, .int .i64 tx, .int .i64 ty, .bool td, .int .i64 ma, .int .i64 me] 50
  cases hN : newP c with
  | none =>
    have cN := fun {n : Nat} {u : World} {v1 v2 v3 v4 : Value} (a : ConfAt (Since n u) c v1 v2 v3 v4 u) => new_no a since_lt l1 l2 l3 l4 hN
    rw [hN] at cM
    simp only [Option.isSome_none, Option.isSome_some] at cM
    clear hA L hN hAu
    go_enter Try.func9, Try.ntmps9
    go_wp2_with (first
      | (have X' := Q2; refine wpList_load_row rfl 26 (.tmp 2) rfl w.heap.size rfl 26 #[.int .i64 c.W, .int .i64 c.H, .int .i64 c.height, vb, vp, vr, vs, .int .i64 c.unit, .int .i64 c.accel, .int .i64 c.speed, .int .i64 c.turn, .int .i64 c.hoist, .int .i64 c.queue, .int .i64 c.resend, .int .i64 c.budget, .bool c.back] (0, 0) _ Q2.a Try.underlying26 rfl info_conf ?_)
      | (refine wpList_load_row rfl 26 (.tmp 2) rfl w.heap.size rfl 26 #[.int .i64 c.W, .int .i64 c.H, .int .i64 c.height, vb, vp, vr, vs, .int .i64 c.unit, .int .i64 c.accel, .int .i64 c.speed, .int .i64 c.turn, .int .i64 c.hoist, .int .i64 c.queue, .int .i64 c.resend, .int .i64 c.budget, .bool c.back] (0, 0) _ Q0.a Try.underlying26 rfl info_conf ?_)
      | (go_at_call 20; refine (cC _ Q0.below).mono ?_; rintro e w1 ⟨r1, rfl, ⟨v1, v2, v3, v4, rfl, A1⟩, b1⟩; have Q1 := Q0.go b1)
      | (go_at_call 19; refine (cN A1).mono ?_; rintro e w2 ⟨rfl, b2⟩; have Q2 := Q1.go b2)
      | (go_at_call 21; refine (cM _ Q2.below).mono ?_; rintro e w3 ⟨r3, rfl, rfl, b3⟩; have Q3 := Q2.go b3)
      | (go_at_call 23; refine (awake_any _).mono ?_; rintro e w9 ⟨rfl, b9⟩))
    go_ret
    exact ⟨rfl, bcat Q3.below b9 (Nat.le_refl _)⟩
  | some G =>
    have cN := fun {n : Nat} {u : World} {v1 v2 v3 v4 : Value} (a : ConfAt (Since n u) c v1 v2 v3 v4 u) => new_yes a since_lt l1 l2 l3 l4 hN
    rw [hN] at cM
    simp only [Option.isSome_none, Option.isSome_some] at cM
    have hsd := limited_sides (new_some hN).1.1
    have HCt : Hid ((movesP c.W c.H G.uses ((fx, fy), fd)).count (kd, dir, n, ((fx, fy), fd), ((tx, ty), td), (0 : Int), (0 : Int)) = if legalU c.W c.H G.uses (kd, dir, n, ((fx, fy), fd), ((tx, ty), td), (0 : Int), (0 : Int)) = true ∧ (kd = 1 ∨ kd = 2) then 1 else 0) := count_moves (m := (kd, dir, n, ((fx, fy), fd), ((tx, ty), td), (0 : Int), (0 : Int))) (by omega) (by omega) rfl rfl
    have hml : (movesP c.W c.H G.uses ((fx, fy), fd)).length ≤ 65 := moves_len
    have cMv := fun (wx : World) (g u : Nat) (vp : Value) (hG : GridAt wx g u c.W c.H G.uses vp) => lawMoves_any g u c.W c.H G.uses vp wx.heap.size (wx.heap.size + 1) fx fy fd 1000 (by decide) (by decide) _ (ctx_new hG ((fx, fy), fd))
    have cLe := fun (wx : World) (g u : Nat) (vp : Value) (hG : GridAt wx g u c.W c.H G.uses vp) => legal_any g u c.W c.H G.uses vp (kd, dir, n, ((fx, fy), fd), ((tx, ty), td), (0 : Int), (0 : Int)) wx hG
    have htk : (movesP c.W c.H G.uses ((fx, fy), fd)).take (1000 : Int).toNat = movesP c.W c.H G.uses ((fx, fy), fd) := List.take_of_length_le (by have : (1000 : Int).toNat = 1000 := rfl; omega)
    rw [htk] at cMv
    generalize movesP c.W c.H G.uses ((fx, fy), fd) = LS at *
    generalize legalU c.W c.H G.uses (kd, dir, n, ((fx, fy), fd), ((tx, ty), td), (0 : Int), (0 : Int)) = LB at *
    change ∀ (wx : World) (g u : Nat) (vp : Value), GridAt wx g u c.W c.H G.uses vp → Calls Try.prog 39 #[.pointer (some ⟨g, 0, none⟩), .agg #[.int .i64 kd, .int .i64 dir, .int .i64 n, .int .i64 fx, .int .i64 fy, .bool fd, .int .i64 tx, .int .i64 ty, .bool td, .int .i64 0, .int .i64 0]] wx _ at cLe
    clear hA hN hAu hsd htk
    obtain ⟨N, hNl⟩ : ∃ N, LS.length = N := ⟨_, rfl⟩
    have HNl : Hid (LS.length = N) := hNl
    rw [hNl] at cMv hml
    clear hNl
    go_enter Try.func9, Try.ntmps9
    go_wp2_with (first
      | (refine wpList_load_row rfl 26 (.tmp 2) rfl w.heap.size rfl 26 #[.int .i64 c.W, .int .i64 c.H, .int .i64 c.height, vb, vp, vr, vs, .int .i64 c.unit, .int .i64 c.accel, .int .i64 c.speed, .int .i64 c.turn, .int .i64 c.hoist, .int .i64 c.queue, .int .i64 c.resend, .int .i64 c.budget, .bool c.back] (0, 0) _ Q0.a Try.underlying26 rfl info_conf ?_)
      | (go_at_call 20; refine (cC _ Q0.below).mono ?_; rintro e w1 ⟨r1, rfl, ⟨v1, v2, v3, v4, rfl, A1⟩, b1⟩; have Q1 := Q0.go b1)
      | (go_at_call 19; refine (cN A1).mono ?_; rintro e w2 ⟨g, u0, v', rfl, G2, hg1, hg2, _, b2⟩; have Q2 := Q1.go b2; have hbg := Q1.big; have f9 := frozen_of Q2.b 9; have d9 := cell_of Q2.b 9; have Q3 : Two w #[.int .i64 c.W, .int .i64 c.H, .int .i64 c.height, vb, vp, vr, vs, .int .i64 c.unit, .int .i64 c.accel, .int .i64 c.speed, .int .i64 c.turn, .int .i64 c.hoist, .int .i64 c.queue, .int .i64 c.resend, .int .i64 c.budget, .bool c.back] #[.int .i64 kd, .int .i64 dir, .int .i64 n, .int .i64 fx, .int .i64 fy, .bool fd, .int .i64 tx, .int .i64 ty, .bool td, .int .i64 0, .int .i64 me] 50 (w2.setCell ⟨w.heap.size + 1, 9, none⟩ (.int .i64 0)) := Q2.setb 9 _; have G3 : GridAt (w2.setCell ⟨w.heap.size + 1, 9, none⟩ (.int .i64 0)) g u0 c.W c.H G.uses v' := G2.same (heap_setCell_other _ _ _ _ (by simp; omega)) (heap_setCell_other _ _ _ _ (by simp; omega)); have f10 := frozen_of Q3.b 10; have d10 := cell_of Q3.b 10; obtain ⟨w4, hw4⟩ : ∃ w4, w4 = (w2.setCell ⟨w.heap.size + 1, 9, none⟩ (.int .i64 0)).setCell ⟨w.heap.size + 1, 10, none⟩ (.int .i64 0) := ⟨_, rfl⟩; have Q4 : Two w #[.int .i64 c.W, .int .i64 c.H, .int .i64 c.height, vb, vp, vr, vs, .int .i64 c.unit, .int .i64 c.accel, .int .i64 c.speed, .int .i64 c.turn, .int .i64 c.hoist, .int .i64 c.queue, .int .i64 c.resend, .int .i64 c.budget, .bool c.back] #[.int .i64 kd, .int .i64 dir, .int .i64 n, .int .i64 fx, .int .i64 fy, .bool fd, .int .i64 tx, .int .i64 ty, .bool td, .int .i64 0, .int .i64 0] 50 w4 := (by rw [hw4]; exact Q3.setb 10 _); have G4 : GridAt w4 g u0 c.W c.H G.uses v' := (by rw [hw4]; exact G3.same (heap_setCell_other _ _ _ _ (by simp; omega)) (heap_setCell_other _ _ _ _ (by simp; omega))); have y3 := cell_of Q4.b 3; have y4 := cell_of Q4.b 4; have y5 := cell_of Q4.b 5; have HW4 : Hid (w4 = (w2.setCell ⟨w.heap.size + 1, 9, none⟩ (.int .i64 0)).setCell ⟨w.heap.size + 1, 10, none⟩ (.int .i64 0)) := hw4; clear hw4)
      | (have X' := Q4; refine wpList_load_at rfl 41 (.tmp 31) rfl ⟨w.heap.size + 1, 3, none⟩ rfl #[.int .i64 fx, .int .i64 fy, .bool fd] (three_at (by rw [← HW4.out]; exact y3) (by rw [← HW4.out]; exact y4) (by rw [← HW4.out]; exact y5)) (aggPose _) infoPose2 ?_)
      | (go_at_call 43; rw [← HW4.out]; refine (gridMoves_any g fx fy fd _).mono ?_; rintro e w5 ⟨rfl, rfl⟩)
      | (go_at_call 49; refine (cMv w4 g u0 v' G4).mono ?_; rintro e w6 ⟨v6, rfl, o6, b6⟩; have b46 := (below_two w4 _ _).trans (b6.mono (by simp; omega)); have Q6 := Q4.go b46; have G6 := G4.go b46; obtain ⟨a6, cap6, hv6, _⟩ := own_form o6; subst hv6))
    have L6 : ListAt 11 (ElL moveL) _ LS (.slice a6 LS.length cap6) w6 := list_of_own kindMove.len (by rw [HNl.out]; exact o6)
    rw [HNl.out] at L6
    have HL6 : Hid (ListAt 11 (ElL moveL) _ LS (.slice a6 N cap6) w6) := L6
    obtain ⟨IW, hIW⟩ : ∃ I : World → Prop, I = Below w6.heap.size w6 := ⟨_, rfl⟩
    have kW : ∀ u, IW u → Below w6.heap.size w6 u := fun u hu => by rw [hIW] at hu; exact hu
    have HW0 : Hid (IW w6) := by show IW w6; rw [hIW]; exact Below.refl _ _
    clear L6 o6 y3 y4 y5 f9 d9 f10 d10 HW4 Q3 G3 b46 b6
    go_loopw [8, 9] (fun s i wq => ∃ k : Nat, k ≤ N ∧ i = .int .i64 k ∧ Hid (s = .int .i64 ((LS.take k).count (kd, dir, n, ((fx, fy), fd), ((tx, ty), td), (0 : Int), (0 : Int)) : Nat)) ∧ Hid (IW wq)) (fun _ i _ => N - (intOf i).toNat)
    case atStart => exact ⟨0, Nat.zero_le _, rfl, rfl, HW0⟩
    case round =>
      obtain ⟨k, hk, rfl, HS, HI⟩ := hrel
      obtain rfl := HS.out
      clear HW0 HS
      have hcl : (LS.take k).count (kd, dir, n, ((fx, fy), fd), ((tx, ty), td), (0 : Int), (0 : Int)) ≤ k := Nat.le_trans List.count_le_length (by rw [List.length_take]; omega)
      by_cases hlt : k < N
      · have hlt' : k < LS.length := by rw [HNl.out]; exact hlt
        have HC : Hid (((LS.take (k + 1)).count (kd, dir, n, ((fx, fy), fd), ((tx, ty), td), (0 : Int), (0 : Int))) = (LS.take k).count (kd, dir, n, ((fx, fy), fd), ((tx, ty), td), (0 : Int), (0 : Int)) + if LS[k]'hlt' = (kd, dir, n, ((fx, fy), fd), ((tx, ty), td), (0 : Int), (0 : Int)) then 1 else 0) := count_takeM LS (kd, dir, n, ((fx, fy), fd), ((tx, ty), td), (0 : Int), (0 : Int)) k hlt'
        obtain ⟨p, cs, cap', hv, hpF, hcs, hrd⟩ := HL6.out.item hlt'
        generalize LS[k]'hlt' = qm at *
        obtain rfl := hcs
        rw [HNl.out] at hv
        obtain ⟨rfl, rfl⟩ : a6 = some p ∧ cap6 = cap' := by injection hv with h1 h2 h3; exact ⟨h1, h3⟩
        clear hv
        generalize (LS.take k).count (kd, dir, n, ((fx, fy), fd), ((tx, ty), td), (0 : Int), (0 : Int)) = cn at *
        go_wp2
        have hSd : IW wr.drew := by
          have := HI.out
          rw [hIW] at this ⊢
          exact bcat this (Below.refl _ _).drew (Nat.le_refl _)
        have HX : Hid (∀ u, IW u → ∀ j z, (moveCs qm)[j]? = some z → u.cell? ((p.add (k * 11)).add j) = some z) := fun u hu j z hj => cell_below (hrd j z hj) (kW u hu)
        have eM := Q6.b
        have HY : Hid (∀ u, IW u → ∀ j z, #[Value.int .i64 kd, .int .i64 dir, .int .i64 n, .int .i64 fx, .int .i64 fy, .bool fd, .int .i64 tx, .int .i64 ty, .bool td, .int .i64 0, .int .i64 0][j]? = some z → u.cell? ((⟨w.heap.size + 1, 0, none⟩ : Addr).add j) = some z) := fun u hu => row_below eM (kW u hu)
        clear hrd eM
        refine start_held (S := IW) 6 rfl (by kernel_rfl) (hSd) ?_
        simp only [Array.replicate_succ, Array.replicate_zero, List.push_toArray, List.nil_append, List.cons_append]
        refine take_held 0 (by assumption) rfl (by kernel_rfl) (by kernel_rfl) (by kernel_rfl) (fun _ _ _ h => h) (by kernel_rfl) (v := ?v41) ?y41 ?r41
        case y41 => (intro u hu; go_simp; try rfl)
        simp only [Act.put, List.setIfInBounds_toArray, List.set_cons_zero, List.set_cons_succ]
        refine take_held 1 (by assumption) rfl (by kernel_rfl) (by kernel_rfl) (by kernel_rfl) (fun _ _ _ h => h) (by kernel_rfl) (v := ?v42) ?y42 ?r42
        case y42 => (intro u hu; go_simp; try rfl)
        simp only [Act.put, List.setIfInBounds_toArray, List.set_cons_zero, List.set_cons_succ]
        refine take_held 2 (by assumption) rfl (by kernel_rfl) (by kernel_rfl) (by kernel_rfl) (fun _ _ _ h => h) (by kernel_rfl) (v := ?v43) ?y43 ?r43
        case y43 => (intro u hu; go_simp; try rfl)
        simp only [Act.put, List.setIfInBounds_toArray, List.set_cons_zero, List.set_cons_succ]
        refine take_held 3 (by assumption) rfl (by kernel_rfl) (by kernel_rfl) (by kernel_rfl) (fun _ _ _ h => h) (by kernel_rfl) (v := .agg (moveCs qm)) ?y44 ?r44
        case y44 => (intro u hu; exact run_load_op 50 _ rfl (p.add (k * 11)) _ rfl (HX.out u hu) (aggMove u) info_move)
        simp only [Act.put, List.setIfInBounds_toArray, List.set_cons_zero, List.set_cons_succ]
        refine take_held 4 (by assumption) rfl (by kernel_rfl) (by kernel_rfl) (by kernel_rfl) (fun _ _ _ h => h) (by kernel_rfl) (v := .agg #[.int .i64 kd, .int .i64 dir, .int .i64 n, .int .i64 fx, .int .i64 fy, .bool fd, .int .i64 tx, .int .i64 ty, .bool td, .int .i64 0, .int .i64 0]) ?y45 ?r45
        case y45 => (intro u hu; exact run_load_op 50 _ rfl ⟨w.heap.size + 1, 0, none⟩ _ rfl (HY.out u hu) (aggMove u) info_move)
        simp only [Act.put, List.setIfInBounds_toArray, List.set_cons_zero, List.set_cons_succ]
        refine take_held 5 (by assumption) rfl (by kernel_rfl) (by kernel_rfl) (by kernel_rfl) (fun _ _ _ h => h) (by kernel_rfl) (v := .bool (decide (qm = (kd, dir, n, ((fx, fy), fd), ((tx, ty), td), (0 : Int), (0 : Int))))) ?y46 ?r46
        case y46 => (intro u hu; exact run_eql_move _ _ rfl qm (kd, dir, n, ((fx, fy), fd), ((tx, ty), td), (0 : Int), (0 : Int)) rfl rfl)
        simp only [Act.put, List.setIfInBounds_toArray, List.set_cons_zero, List.set_cons_succ]
        refine done_held (by kernel_rfl) ?_ _
        have HI9 : Hid (IW wr.drew) := hSd
        by_cases hz : qm = (kd, dir, n, ((fx, fy), fd), ((tx, ty), td), (0 : Int), (0 : Int))
        · rw [if_pos hz] at HC
          rw [decide_eq_true hz]
          go_wp2
          go_roundw
          case rel => exact ⟨k + 1, by omega, by go_num, by rw [HC.out]; exact (by go_num), HI9⟩
          case measure => simp [intOf]; omega
        · rw [if_neg hz] at HC
          rw [decide_eq_false hz]
          go_wp2
          go_roundw
          case rel => exact ⟨k + 1, by omega, by go_num, by rw [HC.out]; rfl, HI9⟩
          case measure => simp [intOf]; omega
      · obtain rfl : N = k := by omega
        rw [show LS.take N = LS from List.take_of_length_le (by rw [HNl.out]; omega)] at *
        have bW := kW _ HI.out
        have Q7 := Q6.go bW
        have G7 := G6.go bW
        have eM := Q7.b
        generalize hcn : LS.count (kd, dir, n, ((fx, fy), fd), ((tx, ty), td), (0 : Int), (0 : Int)) = cn at *
        have HCN : Hid (cn = if LB = true ∧ (kd = 1 ∨ kd = 2) then 1 else 0) := HCt.out
        clear hcn HCt Q6 G6 hcl
        cases LB
        · skip
          obtain rfl : cn = 0 := by rw [HCN.out]; simp [*]
          clear HCN
          try clear h1
          try clear h2
          go_wp2_with (first
            | (refine wpList_load_row rfl 50 (.tmp 3) rfl (w.heap.size + 1) rfl 50 #[.int .i64 kd, .int .i64 dir, .int .i64 n, .int .i64 fx, .int .i64 fy, .bool fd, .int .i64 tx, .int .i64 ty, .bool td, .int .i64 0, .int .i64 0] (0, 0) _ eM Try.underlying50 rfl info_move ?_)
            | (go_at_call 39; refine (cLe _ g u0 v' G7).mono ?_; rintro e w8 ⟨rfl, b8⟩; have Q8 := Q7.go b8; have y0 := cell_of Q8.b 0)
            | (go_at_call 23; refine (awake_any _).mono ?_; rintro e w9 ⟨rfl, b9⟩))
          go_ret
          exact ⟨rfl, bcat Q8.below b9 (Nat.le_refl _)⟩
        · by_cases h1 : kd = 1
          · have h1b : (kd == 1) = true := by rw [beq_iff_eq]; exact h1
            obtain rfl : cn = 1 := by rw [HCN.out]; simp [*]
            clear HCN
            try clear h1
            try clear h2
            go_wp2_with (first
              | (refine wpList_load_row rfl 50 (.tmp 3) rfl (w.heap.size + 1) rfl 50 #[.int .i64 kd, .int .i64 dir, .int .i64 n, .int .i64 fx, .int .i64 fy, .bool fd, .int .i64 tx, .int .i64 ty, .bool td, .int .i64 0, .int .i64 0] (0, 0) _ eM Try.underlying50 rfl info_move ?_)
              | (go_at_call 39; refine (cLe _ g u0 v' G7).mono ?_; rintro e w8 ⟨rfl, b8⟩; have Q8 := Q7.go b8; have y0 := cell_of Q8.b 0)
              | (go_at_call 23; refine (awake_any _).mono ?_; rintro e w9 ⟨rfl, b9⟩))
            go_ret
            exact ⟨rfl, bcat Q8.below b9 (Nat.le_refl _)⟩
          · have h1b : (kd == 1) = false := by rw [beq_eq_false_iff_ne]; exact h1
            by_cases h2 : kd = 2
            · have h2b : (kd == 2) = true := by rw [beq_iff_eq]; exact h2
              obtain rfl : cn = 1 := by rw [HCN.out]; simp [*]
              clear HCN
              try clear h1
              try clear h2
              go_wp2_with (first
                | (refine wpList_load_row rfl 50 (.tmp 3) rfl (w.heap.size + 1) rfl 50 #[.int .i64 kd, .int .i64 dir, .int .i64 n, .int .i64 fx, .int .i64 fy, .bool fd, .int .i64 tx, .int .i64 ty, .bool td, .int .i64 0, .int .i64 0] (0, 0) _ eM Try.underlying50 rfl info_move ?_)
                | (go_at_call 39; refine (cLe _ g u0 v' G7).mono ?_; rintro e w8 ⟨rfl, b8⟩; have Q8 := Q7.go b8; have y0 := cell_of Q8.b 0)
                | (go_at_call 23; refine (awake_any _).mono ?_; rintro e w9 ⟨rfl, b9⟩))
              go_ret
              exact ⟨rfl, bcat Q8.below b9 (Nat.le_refl _)⟩
            · have h2b : (kd == 2) = false := by rw [beq_eq_false_iff_ne]; exact h2
              obtain rfl : cn = 0 := by rw [HCN.out]; simp [*]
              clear HCN
              try clear h1
              try clear h2
              go_wp2_with (first
                | (refine wpList_load_row rfl 50 (.tmp 3) rfl (w.heap.size + 1) rfl 50 #[.int .i64 kd, .int .i64 dir, .int .i64 n, .int .i64 fx, .int .i64 fy, .bool fd, .int .i64 tx, .int .i64 ty, .bool td, .int .i64 0, .int .i64 0] (0, 0) _ eM Try.underlying50 rfl info_move ?_)
                | (go_at_call 39; refine (cLe _ g u0 v' G7).mono ?_; rintro e w8 ⟨rfl, b8⟩; have Q8 := Q7.go b8; have y0 := cell_of Q8.b 0)
                | (go_at_call 23; refine (awake_any _).mono ?_; rintro e w9 ⟨rfl, b9⟩))
              go_ret
              exact ⟨rfl, bcat Q8.below b9 (Nat.le_refl _)⟩
end Go.Proofs.Ytdaideiagebmdaa.Grid
