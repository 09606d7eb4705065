/-
  GridCells: the walk.
-/
import Derived.Test.YtkamjbpjfgehjaaGridLaw
import Derived.Test.YtkamjbpjfgehjaaGridPort
namespace Go.Proofs.Ytkamjbpjfgehjaa.Grid
set_option linter.unusedVariables false
set_option linter.unusedSimpArgs false
open Go Go.RowKit Go.Shelf Go.Proofs
attribute [local go_sem] Oper.semAt_some

theorem awake_call (w : World) : Calls Try.prog 23 #[] w fun e w' => ∃ v, e = .returned v ∧ v = .bool true ∧ Below w.heap.size w w' := (awake_any w).mono fun e w' ⟨h, b⟩ => ⟨_, h, rfl, b⟩
set_option maxRecDepth 100000 in
set_option maxHeartbeats 4000000 in
theorem cells_all_law (c : Conf) (vb vp vr vs : Value) (w : World) (hA : ConfAt (Old w) c vb vp vr vs w) (l1 : c.blocked.length ≤ 8796093022208) (l2 : c.ports.length ≤ 8796093022208) (l3 : c.robots.length ≤ 5864062014805) (l4 : c.stacks.length ≤ 3518437208880) (l5 : ∀ s ∈ c.stacks, s.2.length ≤ 17592186044416) (x y : Int) : Calls Try.prog 4 #[.agg #[.int .i64 c.W, .int .i64 c.H, .int .i64 c.height, vb, vp, vr, vs, .int .i64 c.unit, .int .i64 c.accel, .int .i64 c.speed, .int .i64 c.turn, .int .i64 c.hoist, .int .i64 c.queue, .int .i64 c.resend, .int .i64 c.budget, .bool c.back], .agg #[.int .i64 x, .int .i64 y]] w fun e w' => e = .returned (.bool true) ∧ Below w.heap.size w w' := by
  have L := fun (u : World) (b : Below w.heap.size w u) g (hg : Old w g) => Nat.lt_of_lt_of_le hg b.size
  have hAu := fun u (b : Below w.heap.size w u) => hA.go (fun _ h => h) b
  have cC := fun u (b : Below w.heap.size w u) => copyConf_any (Old w) c vb vp vr vs u (hAu u b) (L u b) l1 l2 l3 l4 l5
  have cM := fun u (b : Below w.heap.size w u) => mayR_call (F := Old w) (hAu u b) (L u b) l1 l2 l3 l4 l5
  have Q0 := two_new w #[.int .i64 c.W, .int .i64 c.H, .int .i64 c.height, vb, vp, vr, vs, .int .i64 c.unit, .int .i64 c.accel, .int .i64 c.speed, .int .i64 c.turn, .int .i64 c.hoist, .int .i64 c.queue, .int .i64 c.resend, .int .i64 c.budget, .bool c.back] #[.int .i64 x, .int .i64 y] 35
  cases hN : newP c with
  | none =>
    have cN := fun {n : Nat} {u : World} {v1 v2 v3 v4 : Value} (a : ConfAt (Since n u) c v1 v2 v3 v4 u) => new_no a since_lt l1 l2 l3 l4 hN
    rw [hN] at cM
    simp only [Option.isSome_none, Option.isSome_some] at cM
    clear hA L hN hAu
    go_enter Try.func4, Try.ntmps4
    go_wp2_with (first
      | (have X' := Q2; refine wpList_load_row rfl 26 (.tmp 2) rfl w.heap.size rfl 26 #[.int .i64 c.W, .int .i64 c.H, .int .i64 c.height, vb, vp, vr, vs, .int .i64 c.unit, .int .i64 c.accel, .int .i64 c.speed, .int .i64 c.turn, .int .i64 c.hoist, .int .i64 c.queue, .int .i64 c.resend, .int .i64 c.budget, .bool c.back] (0, 0) _ Q2.a Try.underlying26 rfl info_conf ?_)
      | (refine wpList_load_row rfl 26 (.tmp 2) rfl w.heap.size rfl 26 #[.int .i64 c.W, .int .i64 c.H, .int .i64 c.height, vb, vp, vr, vs, .int .i64 c.unit, .int .i64 c.accel, .int .i64 c.speed, .int .i64 c.turn, .int .i64 c.hoist, .int .i64 c.queue, .int .i64 c.resend, .int .i64 c.budget, .bool c.back] (0, 0) _ Q0.a Try.underlying26 rfl info_conf ?_)
      | (go_at_call 20; refine (cC _ Q0.below).mono ?_; rintro e w1 ⟨r1, rfl, ⟨v1, v2, v3, v4, rfl, A1⟩, b1⟩; have Q1 := Q0.go b1)
      | (go_at_call 19; refine (cN A1).mono ?_; rintro e w2 ⟨rfl, b2⟩; have Q2 := Q1.go b2)
      | (go_at_call 21; refine (cM _ Q2.below).mono ?_; rintro e w3 ⟨r3, rfl, rfl, b3⟩; have Q3 := Q2.go b3)
      | (go_at_call 23; refine (awake_any _).mono ?_; rintro e w9 ⟨rfl, b9⟩))
    go_ret
    exact ⟨rfl, bcat Q3.below b9 (Nat.le_refl _)⟩
  | some G =>
    have cN := fun {n : Nat} {u : World} {v1 v2 v3 v4 : Value} (a : ConfAt (Since n u) c v1 v2 v3 v4 u) => new_yes a since_lt l1 l2 l3 l4 hN
    rw [hN] at cM
    simp only [Option.isSome_none, Option.isSome_some] at cM
    have hsd := limited_sides (new_some hN).1.1
    have cO := fun (g u0 : Nat) (v' : Value) u (q : GridAt u g u0 c.W c.H G.uses v') => ret_of (open_any g u0 c.W c.H G.uses v' x y u q)
    have cS := fun (g u0 : Nat) (v' : Value) u (q : GridAt u g u0 c.W c.H G.uses v') => ret_of (stacked_any g u0 c.W c.H G.uses v' x y u q)
    have cK := fun (g u0 : Nat) (v' : Value) u (q : GridAt u g u0 c.W c.H G.uses v') => ret_of (number_any g u0 c.W c.H G.uses v' x y u q)
    have cP := fun (g u0 : Nat) (v' : Value) (F : Nat → Prop) u (q : GridAt u g u0 c.W c.H G.uses v') (hL : ListAt 2 cellEl F c.ports v' u) (hF : ∀ b, F b → b < u.heap.size) => port_any g u0 c.W c.H G.uses v' F c.ports x y u q hL hF (by omega)
    have cOR := fun u (b : Below w.heap.size w u) => openR_any (Old w) c vb vp vr vs x y u (hAu u b) (L u b) (by omega)
    have cSR := fun u (b : Below w.heap.size w u) => stackedR_any (Old w) c vb vp vr vs x y u (hAu u b) (L u b) (by omega) (by omega) (by omega)
    have cPR := fun u (b : Below w.heap.size w u) => portR_any (Old w) c vb vp vr vs x y u (hAu u b) (L u b) (by omega)
    have cKR := fun u => numberR_any c vb vp vr vs x y u (by omega) (by omega)
    rw [open_same hN] at cO
    rw [stacked_same hN] at cS
    generalize decide (openR c (x, y)) = OB at cO cOR
    generalize decide (stackedR c (x, y)) = SB at cS cSR
    generalize portP c.ports (x, y) 0 = PB at cP cPR
    generalize number c.W c.H (x, y) = KB at cK cKR
    clear hA hN hAu hsd
    go_enter Try.func4, Try.ntmps4
    go_wp2_with (first
      | (have X' := Q2; refine wpList_load_row rfl 26 (.tmp 2) rfl w.heap.size rfl 26 #[.int .i64 c.W, .int .i64 c.H, .int .i64 c.height, vb, vp, vr, vs, .int .i64 c.unit, .int .i64 c.accel, .int .i64 c.speed, .int .i64 c.turn, .int .i64 c.hoist, .int .i64 c.queue, .int .i64 c.resend, .int .i64 c.budget, .bool c.back] (0, 0) _ Q2.a Try.underlying26 rfl info_conf ?_)
      | (refine wpList_load_row rfl 26 (.tmp 2) rfl w.heap.size rfl 26 #[.int .i64 c.W, .int .i64 c.H, .int .i64 c.height, vb, vp, vr, vs, .int .i64 c.unit, .int .i64 c.accel, .int .i64 c.speed, .int .i64 c.turn, .int .i64 c.hoist, .int .i64 c.queue, .int .i64 c.resend, .int .i64 c.budget, .bool c.back] (0, 0) _ Q0.a Try.underlying26 rfl info_conf ?_)
      | (go_at_call 20; refine (cC _ Q0.below).mono ?_; rintro e w1 ⟨r1, rfl, ⟨v1, v2, v3, v4, rfl, A1⟩, b1⟩; have Q1 := Q0.go b1)
      | (go_at_call 19; refine (cN A1).mono ?_; rintro e w2 ⟨g, u0, v', rfl, G2, _, _, own2, b2⟩; have Q2 := Q1.go b2)
      | (go_at_call 21; refine (cM _ Q2.below).mono ?_; rintro e w3 ⟨r3, rfl, rfl, b3⟩; have Q3 := Q2.go b3)
      | (go_at_call 23; refine (awake_any _).mono ?_; rintro e w9 ⟨rfl, b9⟩))
    have G3 := G2.go b3
    have L2 : ListAt 2 cellEl (Since w1.heap.size w2) c.ports v' w2 := list_of_own kindCell.len own2
    have L3 := L2.go heldCell since_lt b3
    have F3 : ∀ b, Since w1.heap.size w2 b → b < w3.heap.size := fun b h => Nat.lt_of_lt_of_le h.2 b3.size
    have B := Q3.below
    have eA := Q3.a
    have eB := Q3.b
    obtain ⟨IH, hIH⟩ : ∃ I : World → Prop, I = Below w3.heap.size w3 := ⟨_, rfl⟩
    have kI : ∀ u, IH u → Below w3.heap.size w3 u := fun u hu => by rw [hIH] at hu; exact hu
    have hS : IH w3.drew := by rw [hIH]; exact (Below.refl _ _).drew
    have D0 : Below w3.heap.size w3 w3.drew := (Below.refl _ _).drew
    have HC : Hid (∀ u, IH u → ∀ j z, #[.int .i64 c.W, .int .i64 c.H, .int .i64 c.height, vb, vp, vr, vs, .int .i64 c.unit, .int .i64 c.accel, .int .i64 c.speed, .int .i64 c.turn, .int .i64 c.hoist, .int .i64 c.queue, .int .i64 c.resend, .int .i64 c.budget, .bool c.back][j]? = some z → u.cell? ((⟨w.heap.size, 0, none⟩ : Addr).add j) = some z) := fun u hu => row_below eA (kI u hu)
    have HX : Hid (∀ u, IH u → ∀ j z, #[Value.int .i64 x, .int .i64 y][j]? = some z → u.cell? ((⟨w.heap.size + 1, 0, none⟩ : Addr).add j) = some z) := fun u hu => row_below eB (kI u hu)
    have cO1 := fun u (b : Below w3.heap.size w3 u) => cO g u0 v' u (G3.go b)
    have cS1 := fun u (b : Below w3.heap.size w3 u) => cS g u0 v' u (G3.go b)
    have cK1 := fun u (b : Below w3.heap.size w3 u) => cK g u0 v' u (G3.go b)
    have cP1 := fun u (b : Below w3.heap.size w3 u) => cP g u0 v' _ u (G3.go b) (L3.go heldCell F3 b) (fun q hq => Nat.lt_of_lt_of_le (F3 q hq) b.size)
    clear cO cS cK cP
    refine start_held (S := IH) 38 rfl (by kernel_rfl) (hS) ?_
    simp only [Array.replicate_succ, Array.replicate_zero, List.push_toArray, List.nil_append, List.cons_append]
    refine take_held 0 (by assumption) rfl (by kernel_rfl) (by kernel_rfl) (by kernel_rfl) (fun _ _ _ h => h) (by kernel_rfl) (v := ?v12) ?y12 ?r12
    case y12 => (intro u hu; go_simp; try rfl)
    simp only [Act.put, List.setIfInBounds_toArray, List.set_cons_zero, List.set_cons_succ]
    refine take_held 1 (by assumption) rfl (by kernel_rfl) (by kernel_rfl) (by kernel_rfl) (fun _ _ _ h => h) (by kernel_rfl) (v := .agg #[.int .i64 x, .int .i64 y]) ?y13 ?r13
    case y13 => (intro u hu; exact run_load_op 35 _ rfl ⟨w.heap.size + 1, 0, none⟩ _ rfl (HX.out u hu) (aggCell u) infoCell2)
    simp only [Act.put, List.setIfInBounds_toArray, List.set_cons_zero, List.set_cons_succ]
    refine take_held 3 (by assumption) rfl (by kernel_rfl) (by kernel_rfl) (by kernel_rfl) (fun _ _ _ h => h) (by kernel_rfl) (v := .agg #[.int .i64 c.W, .int .i64 c.H, .int .i64 c.height, vb, vp, vr, vs, .int .i64 c.unit, .int .i64 c.accel, .int .i64 c.speed, .int .i64 c.turn, .int .i64 c.hoist, .int .i64 c.queue, .int .i64 c.resend, .int .i64 c.budget, .bool c.back]) ?y14 ?r14
    case y14 => (intro u hu; exact run_load_op 26 _ rfl ⟨w.heap.size, 0, none⟩ _ rfl (HC.out u hu) (aggConf u) info_conf)
    simp only [Act.put, List.setIfInBounds_toArray, List.set_cons_zero, List.set_cons_succ]
    refine take_held 4 (by assumption) rfl (by kernel_rfl) (by kernel_rfl) (by kernel_rfl) (fun _ _ _ h => h) (by kernel_rfl) (v := .agg #[.int .i64 x, .int .i64 y]) ?y15 ?r15
    case y15 => (intro u hu; exact run_load_op 35 _ rfl ⟨w.heap.size + 1, 0, none⟩ _ rfl (HX.out u hu) (aggCell u) infoCell2)
    simp only [Act.put, List.setIfInBounds_toArray, List.set_cons_zero, List.set_cons_succ]
    refine wpAnyH_ready (rs := [2]) (by kernel_rfl) (by simp) (AllReadyH.cons ((nth_eq _ 2).trans rfl) ?_ AllReadyH.nil)
    intro K' hK
    refine call_in hK (by kernel_rfl) 24 #[.pointer (some ⟨g, 0, none⟩), .agg #[.int .i64 x, .int .i64 y]] (by go_simp) _ (cO1 _ D0) ?_
    rintro v w5 ⟨rfl, b5⟩
    have D5 := bcat D0 b5 (Nat.le_refl _)
    have hS5 : IH w5 := by rw [hIH]; exact D5
    refine ⟨hS5, ?_⟩
    simp only [Act.put, List.setIfInBounds_toArray, List.set_cons_zero, List.set_cons_succ]
    refine wpAnyH_ready (rs := [5]) (by kernel_rfl) (by simp) (AllReadyH.cons ((nth_eq _ 5).trans rfl) ?_ AllReadyH.nil)
    intro K' hK
    refine call_in hK (by kernel_rfl) 25 #[.agg #[.int .i64 c.W, .int .i64 c.H, .int .i64 c.height, vb, vp, vr, vs, .int .i64 c.unit, .int .i64 c.accel, .int .i64 c.speed, .int .i64 c.turn, .int .i64 c.hoist, .int .i64 c.queue, .int .i64 c.resend, .int .i64 c.budget, .bool c.back], .agg #[.int .i64 x, .int .i64 y]] (by go_simp) _ (cOR _ (bcat B D5 (Nat.le_refl _))) ?_
    rintro v w6 ⟨rfl, b6⟩
    have D6 := bcat D5 b6 (Nat.le_refl _)
    have hS6 : IH w6 := by rw [hIH]; exact D6
    refine ⟨hS6, ?_⟩
    simp only [Act.put, List.setIfInBounds_toArray, List.set_cons_zero, List.set_cons_succ]
    refine take_held 6 (by assumption) rfl (by kernel_rfl) (by kernel_rfl) (by kernel_rfl) (fun _ _ _ h => h) (by kernel_rfl) (v := .bool true) ?y16 ?r16
    case y16 => (intro u hu; go_simp; try simp)
    simp only [Act.put, List.setIfInBounds_toArray, List.set_cons_zero, List.set_cons_succ]
    refine take_held 7 (by assumption) rfl (by kernel_rfl) (by kernel_rfl) (by kernel_rfl) (fun _ _ _ h => h) (by kernel_rfl) (v := ?v17) ?y17 ?r17
    case y17 => (intro u hu; go_simp; try rfl)
    simp only [Act.put, List.setIfInBounds_toArray, List.set_cons_zero, List.set_cons_succ]
    refine take_held 8 (by assumption) rfl (by kernel_rfl) (by kernel_rfl) (by kernel_rfl) (fun _ _ _ h => h) (by kernel_rfl) (v := ?v18) ?y18 ?r18
    case y18 => (intro u hu; go_simp; try rfl)
    simp only [Act.put, List.setIfInBounds_toArray, List.set_cons_zero, List.set_cons_succ]
    refine take_held 9 (by assumption) rfl (by kernel_rfl) (by kernel_rfl) (by kernel_rfl) (fun _ _ _ h => h) (by kernel_rfl) (v := .agg #[.int .i64 x, .int .i64 y]) ?y19 ?r19
    case y19 => (intro u hu; exact run_load_op 35 _ rfl ⟨w.heap.size + 1, 0, none⟩ _ rfl (HX.out u hu) (aggCell u) infoCell2)
    simp only [Act.put, List.setIfInBounds_toArray, List.set_cons_zero, List.set_cons_succ]
    refine take_held 11 (by assumption) rfl (by kernel_rfl) (by kernel_rfl) (by kernel_rfl) (fun _ _ _ h => h) (by kernel_rfl) (v := .agg #[.int .i64 c.W, .int .i64 c.H, .int .i64 c.height, vb, vp, vr, vs, .int .i64 c.unit, .int .i64 c.accel, .int .i64 c.speed, .int .i64 c.turn, .int .i64 c.hoist, .int .i64 c.queue, .int .i64 c.resend, .int .i64 c.budget, .bool c.back]) ?y20 ?r20
    case y20 => (intro u hu; exact run_load_op 26 _ rfl ⟨w.heap.size, 0, none⟩ _ rfl (HC.out u hu) (aggConf u) info_conf)
    simp only [Act.put, List.setIfInBounds_toArray, List.set_cons_zero, List.set_cons_succ]
    refine take_held 12 (by assumption) rfl (by kernel_rfl) (by kernel_rfl) (by kernel_rfl) (fun _ _ _ h => h) (by kernel_rfl) (v := .agg #[.int .i64 x, .int .i64 y]) ?y21 ?r21
    case y21 => (intro u hu; exact run_load_op 35 _ rfl ⟨w.heap.size + 1, 0, none⟩ _ rfl (HX.out u hu) (aggCell u) infoCell2)
    simp only [Act.put, List.setIfInBounds_toArray, List.set_cons_zero, List.set_cons_succ]
    refine wpAnyH_ready (rs := [10]) (by kernel_rfl) (by simp) (AllReadyH.cons ((nth_eq _ 10).trans rfl) ?_ AllReadyH.nil)
    intro K' hK
    refine call_in hK (by kernel_rfl) 26 #[.pointer (some ⟨g, 0, none⟩), .agg #[.int .i64 x, .int .i64 y]] (by go_simp) _ (cP1 _ D6) ?_
    rintro v w7 ⟨rfl, b7⟩
    have D7 := bcat D6 b7 (Nat.le_refl _)
    have hS7 : IH w7 := by rw [hIH]; exact D7
    refine ⟨hS7, ?_⟩
    simp only [Act.put, List.setIfInBounds_toArray, List.set_cons_zero, List.set_cons_succ]
    refine wpAnyH_ready (rs := [13]) (by kernel_rfl) (by simp) (AllReadyH.cons ((nth_eq _ 13).trans rfl) ?_ AllReadyH.nil)
    intro K' hK
    refine call_in hK (by kernel_rfl) 27 #[.agg #[.int .i64 c.W, .int .i64 c.H, .int .i64 c.height, vb, vp, vr, vs, .int .i64 c.unit, .int .i64 c.accel, .int .i64 c.speed, .int .i64 c.turn, .int .i64 c.hoist, .int .i64 c.queue, .int .i64 c.resend, .int .i64 c.budget, .bool c.back], .agg #[.int .i64 x, .int .i64 y]] (by go_simp) _ (cPR _ (bcat B D7 (Nat.le_refl _))) ?_
    rintro v w8 ⟨rfl, b8⟩
    have D8 := bcat D7 b8 (Nat.le_refl _)
    have hS8 : IH w8 := by rw [hIH]; exact D8
    refine ⟨hS8, ?_⟩
    simp only [Act.put, List.setIfInBounds_toArray, List.set_cons_zero, List.set_cons_succ]
    refine take_held 14 (by assumption) rfl (by kernel_rfl) (by kernel_rfl) (by kernel_rfl) (fun _ _ _ h => h) (by kernel_rfl) (v := .bool true) ?y22 ?r22
    case y22 => (intro u hu; go_simp; try simp)
    simp only [Act.put, List.setIfInBounds_toArray, List.set_cons_zero, List.set_cons_succ]
    refine take_held 15 (by assumption) rfl (by kernel_rfl) (by kernel_rfl) (by kernel_rfl) (fun _ _ _ h => h) (by kernel_rfl) (v := ?v23) ?y23 ?r23
    case y23 => (intro u hu; go_simp; try rfl)
    simp only [Act.put, List.setIfInBounds_toArray, List.set_cons_zero, List.set_cons_succ]
    refine take_held 16 (by assumption) rfl (by kernel_rfl) (by kernel_rfl) (by kernel_rfl) (fun _ _ _ h => h) (by kernel_rfl) (v := ?v24) ?y24 ?r24
    case y24 => (intro u hu; go_simp; try rfl)
    simp only [Act.put, List.setIfInBounds_toArray, List.set_cons_zero, List.set_cons_succ]
    refine take_held 17 (by assumption) rfl (by kernel_rfl) (by kernel_rfl) (by kernel_rfl) (fun _ _ _ h => h) (by kernel_rfl) (v := ?v25) ?y25 ?r25
    case y25 => (intro u hu; go_simp; try rfl)
    simp only [Act.put, List.setIfInBounds_toArray, List.set_cons_zero, List.set_cons_succ]
    refine take_held 18 (by assumption) rfl (by kernel_rfl) (by kernel_rfl) (by kernel_rfl) (fun _ _ _ h => h) (by kernel_rfl) (v := .agg #[.int .i64 x, .int .i64 y]) ?y26 ?r26
    case y26 => (intro u hu; exact run_load_op 35 _ rfl ⟨w.heap.size + 1, 0, none⟩ _ rfl (HX.out u hu) (aggCell u) infoCell2)
    simp only [Act.put, List.setIfInBounds_toArray, List.set_cons_zero, List.set_cons_succ]
    refine take_held 20 (by assumption) rfl (by kernel_rfl) (by kernel_rfl) (by kernel_rfl) (fun _ _ _ h => h) (by kernel_rfl) (v := .agg #[.int .i64 c.W, .int .i64 c.H, .int .i64 c.height, vb, vp, vr, vs, .int .i64 c.unit, .int .i64 c.accel, .int .i64 c.speed, .int .i64 c.turn, .int .i64 c.hoist, .int .i64 c.queue, .int .i64 c.resend, .int .i64 c.budget, .bool c.back]) ?y27 ?r27
    case y27 => (intro u hu; exact run_load_op 26 _ rfl ⟨w.heap.size, 0, none⟩ _ rfl (HC.out u hu) (aggConf u) info_conf)
    simp only [Act.put, List.setIfInBounds_toArray, List.set_cons_zero, List.set_cons_succ]
    refine take_held 21 (by assumption) rfl (by kernel_rfl) (by kernel_rfl) (by kernel_rfl) (fun _ _ _ h => h) (by kernel_rfl) (v := .agg #[.int .i64 x, .int .i64 y]) ?y28 ?r28
    case y28 => (intro u hu; exact run_load_op 35 _ rfl ⟨w.heap.size + 1, 0, none⟩ _ rfl (HX.out u hu) (aggCell u) infoCell2)
    simp only [Act.put, List.setIfInBounds_toArray, List.set_cons_zero, List.set_cons_succ]
    refine wpAnyH_ready (rs := [19]) (by kernel_rfl) (by simp) (AllReadyH.cons ((nth_eq _ 19).trans rfl) ?_ AllReadyH.nil)
    intro K' hK
    refine call_in hK (by kernel_rfl) 28 #[.pointer (some ⟨g, 0, none⟩), .agg #[.int .i64 x, .int .i64 y]] (by go_simp) _ (cS1 _ D8) ?_
    rintro v w9 ⟨rfl, b9⟩
    have D9 := bcat D8 b9 (Nat.le_refl _)
    have hS9 : IH w9 := by rw [hIH]; exact D9
    refine ⟨hS9, ?_⟩
    simp only [Act.put, List.setIfInBounds_toArray, List.set_cons_zero, List.set_cons_succ]
    refine wpAnyH_ready (rs := [22]) (by kernel_rfl) (by simp) (AllReadyH.cons ((nth_eq _ 22).trans rfl) ?_ AllReadyH.nil)
    intro K' hK
    refine call_in hK (by kernel_rfl) 29 #[.agg #[.int .i64 c.W, .int .i64 c.H, .int .i64 c.height, vb, vp, vr, vs, .int .i64 c.unit, .int .i64 c.accel, .int .i64 c.speed, .int .i64 c.turn, .int .i64 c.hoist, .int .i64 c.queue, .int .i64 c.resend, .int .i64 c.budget, .bool c.back], .agg #[.int .i64 x, .int .i64 y]] (by go_simp) _ (cSR _ (bcat B D9 (Nat.le_refl _))) ?_
    rintro v w10 ⟨rfl, b10⟩
    have D10 := bcat D9 b10 (Nat.le_refl _)
    have hS10 : IH w10 := by rw [hIH]; exact D10
    refine ⟨hS10, ?_⟩
    simp only [Act.put, List.setIfInBounds_toArray, List.set_cons_zero, List.set_cons_succ]
    refine take_held 23 (by assumption) rfl (by kernel_rfl) (by kernel_rfl) (by kernel_rfl) (fun _ _ _ h => h) (by kernel_rfl) (v := .bool true) ?y29 ?r29
    case y29 => (intro u hu; go_simp; try simp)
    simp only [Act.put, List.setIfInBounds_toArray, List.set_cons_zero, List.set_cons_succ]
    refine take_held 24 (by assumption) rfl (by kernel_rfl) (by kernel_rfl) (by kernel_rfl) (fun _ _ _ h => h) (by kernel_rfl) (v := ?v30) ?y30 ?r30
    case y30 => (intro u hu; go_simp; try rfl)
    simp only [Act.put, List.setIfInBounds_toArray, List.set_cons_zero, List.set_cons_succ]
    refine take_held 25 (by assumption) rfl (by kernel_rfl) (by kernel_rfl) (by kernel_rfl) (fun _ _ _ h => h) (by kernel_rfl) (v := ?v31) ?y31 ?r31
    case y31 => (intro u hu; go_simp; try rfl)
    simp only [Act.put, List.setIfInBounds_toArray, List.set_cons_zero, List.set_cons_succ]
    refine take_held 26 (by assumption) rfl (by kernel_rfl) (by kernel_rfl) (by kernel_rfl) (fun _ _ _ h => h) (by kernel_rfl) (v := ?v32) ?y32 ?r32
    case y32 => (intro u hu; go_simp; try rfl)
    simp only [Act.put, List.setIfInBounds_toArray, List.set_cons_zero, List.set_cons_succ]
    refine take_held 27 (by assumption) rfl (by kernel_rfl) (by kernel_rfl) (by kernel_rfl) (fun _ _ _ h => h) (by kernel_rfl) (v := .agg #[.int .i64 x, .int .i64 y]) ?y33 ?r33
    case y33 => (intro u hu; exact run_load_op 35 _ rfl ⟨w.heap.size + 1, 0, none⟩ _ rfl (HX.out u hu) (aggCell u) infoCell2)
    simp only [Act.put, List.setIfInBounds_toArray, List.set_cons_zero, List.set_cons_succ]
    refine take_held 29 (by assumption) rfl (by kernel_rfl) (by kernel_rfl) (by kernel_rfl) (fun _ _ _ h => h) (by kernel_rfl) (v := .agg #[.int .i64 c.W, .int .i64 c.H, .int .i64 c.height, vb, vp, vr, vs, .int .i64 c.unit, .int .i64 c.accel, .int .i64 c.speed, .int .i64 c.turn, .int .i64 c.hoist, .int .i64 c.queue, .int .i64 c.resend, .int .i64 c.budget, .bool c.back]) ?y34 ?r34
    case y34 => (intro u hu; exact run_load_op 26 _ rfl ⟨w.heap.size, 0, none⟩ _ rfl (HC.out u hu) (aggConf u) info_conf)
    simp only [Act.put, List.setIfInBounds_toArray, List.set_cons_zero, List.set_cons_succ]
    refine take_held 30 (by assumption) rfl (by kernel_rfl) (by kernel_rfl) (by kernel_rfl) (fun _ _ _ h => h) (by kernel_rfl) (v := .agg #[.int .i64 x, .int .i64 y]) ?y35 ?r35
    case y35 => (intro u hu; exact run_load_op 35 _ rfl ⟨w.heap.size + 1, 0, none⟩ _ rfl (HX.out u hu) (aggCell u) infoCell2)
    simp only [Act.put, List.setIfInBounds_toArray, List.set_cons_zero, List.set_cons_succ]
    refine wpAnyH_ready (rs := [28]) (by kernel_rfl) (by simp) (AllReadyH.cons ((nth_eq _ 28).trans rfl) ?_ AllReadyH.nil)
    intro K' hK
    refine call_in hK (by kernel_rfl) 30 #[.pointer (some ⟨g, 0, none⟩), .agg #[.int .i64 x, .int .i64 y]] (by go_simp) _ (cK1 _ D10) ?_
    rintro v w11 ⟨rfl, b11⟩
    have D11 := bcat D10 b11 (Nat.le_refl _)
    have hS11 : IH w11 := by rw [hIH]; exact D11
    refine ⟨hS11, ?_⟩
    simp only [Act.put, List.setIfInBounds_toArray, List.set_cons_zero, List.set_cons_succ]
    refine wpAnyH_ready (rs := [31]) (by kernel_rfl) (by simp) (AllReadyH.cons ((nth_eq _ 31).trans rfl) ?_ AllReadyH.nil)
    intro K' hK
    refine call_in hK (by kernel_rfl) 31 #[.agg #[.int .i64 c.W, .int .i64 c.H, .int .i64 c.height, vb, vp, vr, vs, .int .i64 c.unit, .int .i64 c.accel, .int .i64 c.speed, .int .i64 c.turn, .int .i64 c.hoist, .int .i64 c.queue, .int .i64 c.resend, .int .i64 c.budget, .bool c.back], .agg #[.int .i64 x, .int .i64 y]] (by go_simp) _ (cKR _) ?_
    rintro v w12 ⟨rfl, b12⟩
    have D12 := bcat D11 b12 (Nat.le_refl _)
    have hS12 : IH w12 := by rw [hIH]; exact D12
    refine ⟨hS12, ?_⟩
    simp only [Act.put, List.setIfInBounds_toArray, List.set_cons_zero, List.set_cons_succ]
    refine take_held 32 (by assumption) rfl (by kernel_rfl) (by kernel_rfl) (by kernel_rfl) (fun _ _ _ h => h) (by kernel_rfl) (v := .bool true) ?y36 ?r36
    case y36 => (intro u hu; go_simp; try simp)
    simp only [Act.put, List.setIfInBounds_toArray, List.set_cons_zero, List.set_cons_succ]
    refine take_held 33 (by assumption) rfl (by kernel_rfl) (by kernel_rfl) (by kernel_rfl) (fun _ _ _ h => h) (by kernel_rfl) (v := ?v37) ?y37 ?r37
    case y37 => (intro u hu; go_simp; try rfl)
    simp only [Act.put, List.setIfInBounds_toArray, List.set_cons_zero, List.set_cons_succ]
    refine take_held 34 (by assumption) rfl (by kernel_rfl) (by kernel_rfl) (by kernel_rfl) (fun _ _ _ h => h) (by kernel_rfl) (v := ?v38) ?y38 ?r38
    case y38 => (intro u hu; go_simp; try rfl)
    simp only [Act.put, List.setIfInBounds_toArray, List.set_cons_zero, List.set_cons_succ]
    refine wpAnyH_ready (rs := [35]) (by kernel_rfl) (by simp) (AllReadyH.cons ((nth_eq _ 35).trans rfl) ?_ AllReadyH.nil)
    intro K' hK
    refine call_in hK (by kernel_rfl) 23 #[] (by go_simp) _ (awake_call _) ?_
    rintro v w13 ⟨rfl, b13⟩
    have D13 := bcat D12 b13 (Nat.le_refl _)
    have hS13 : IH w13 := by rw [hIH]; exact D13
    refine ⟨hS13, ?_⟩
    simp only [Act.put, List.setIfInBounds_toArray, List.set_cons_zero, List.set_cons_succ]
    refine take_held 36 (by assumption) rfl (by kernel_rfl) (by kernel_rfl) (by kernel_rfl) (fun _ _ _ h => h) (by kernel_rfl) (v := ?v39) ?y39 ?r39
    case y39 => (intro u hu; go_simp; try rfl)
    simp only [Act.put, List.setIfInBounds_toArray, List.set_cons_zero, List.set_cons_succ]
    refine take_held 37 (by assumption) rfl (by kernel_rfl) (by kernel_rfl) (by kernel_rfl) (fun _ _ _ h => h) (by kernel_rfl) (v := ?v40) ?y40 ?r40
    case y40 => (intro u hu; go_simp; try rfl)
    simp only [Act.put, List.setIfInBounds_toArray, List.set_cons_zero, List.set_cons_succ]
    refine done_held (by kernel_rfl) ?_ _
    go_wp2
    go_ret
    exact ⟨rfl, bcat B D13 (Nat.le_refl _)⟩
end Go.Proofs.Ytkamjbpjfgehjaa.Grid
