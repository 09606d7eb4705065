/-
  The chapter's own answer, further: whether a pose fits; whether a cell is a robot's.
-/
import Derived.Test.YtabbdclpjghdbaaRgE
namespace Go.Proofs.Ytabbdclpjghdbaa.Grid
set_option linter.unusedVariables false
set_option linter.unusedSimpArgs false
open Go Go.RowKit Go.Shelf Go.Proofs
attribute [local go_sem] Oper.semAt_some

theorem aggConf (w : World) : (isAgg 26).run Try.prog w = .ok true w := by unfold isAgg; rw [Sem.run_bind, run_underlying Try.underlying26 w]; rfl
/- A struct in a block, read in any later world. -/
theorem row_below {w u : World} {g : Nat} {cs : Array Value} {t : TypeId} (h : w.heap[g]? = some (.cells cs t (0, 0))) (hb : Below w.heap.size w u) : ∀ j z, cs[j]? = some z → u.cell? ((⟨g, 0, none⟩ : Addr).add j) = some z := by
  intro j z hj
  rw [Addr.add_lit, Nat.zero_add]
  exact cell_below (by rw [cell_of h]; exact hj) hb
theorem pair_below {w u : World} {g k : Nat} {p q p' q' : Int} (h : w.heap[g]? = some (.cells #[.int .i64 p, .int .i64 q, .int .i64 p', .int .i64 q'] 39 (0, 0))) (hb : Below w.heap.size w u) (hk : k = 0 ∨ k = 1) :
    ∀ j z, #[Value.int .i64 (if k = 0 then p else p'), .int .i64 (if k = 0 then q else q')][j]? = some z → u.cell? ((⟨g, k * 2, none⟩ : Addr).add j) = some z := by
  intro j z hj
  rw [Addr.add_lit]
  refine cell_below ?_ hb
  rw [cell_of h]
  rcases hk with rfl | rfl
  · match j with
    | 0 => simpa using hj
    | 1 => simpa using hj
    | j + 2 => simp at hj
  · match j with
    | 0 => simpa using hj
    | 1 => simpa using hj
    | j + 2 => simp at hj
set_option maxRecDepth 100000 in
set_option maxHeartbeats 4000000 in
theorem fitsR_any (F : Nat → Prop) (c : Conf) (vb vp vr vs : Value) (x y : Int) (d : Bool) (w : World) (hA : ConfAt F c vb vp vr vs w) (hF : ∀ b, F b → b < w.heap.size) (hm : c.blocked.length ≤ 9223372036854775807) :
    Calls Try.prog 37 #[.agg #[.int .i64 c.W, .int .i64 c.H, .int .i64 c.height, vb, vp, vr, vs, .int .i64 c.unit, .int .i64 c.accel, .int .i64 c.speed, .int .i64 c.turn, .int .i64 c.hoist, .int .i64 c.queue, .int .i64 c.resend, .int .i64 c.budget, .bool c.back], .agg #[.int .i64 x, .int .i64 y, .bool d]] w fun e w' => ∃ r, e = .returned r ∧ r = .bool (decide (fitsR c ((x, y), d))) ∧ Below w.heap.size w w' := by
  have HO : Hid (decide (fitsR c ((x, y), d)) = (decide (openR c (x, y)) && decide (openR c ((second ((x, y), d)).1, (second ((x, y), d)).2)))) := by
    show decide (fitsR c ((x, y), d)) = _
    refine dec_iff ?_
    unfold fitsR
    simp
  have cC := fun u => cellsR_any x y d u
  generalize (second ((x, y), d)).1 = x2 at *
  generalize (second ((x, y), d)).2 = y2 at *
  have cE := fun u (b : Below w.heap.size w u) => openR_any F c vb vp vr vs x y u (hA.go hF b) (fun g hg => Nat.lt_of_lt_of_le (hF g hg) b.size) hm
  have cS := fun u (b : Below w.heap.size w u) => openR_any F c vb vp vr vs x2 y2 u (hA.go hF b) (fun g hg => Nat.lt_of_lt_of_le (hF g hg) b.size) hm
  generalize decide (fitsR c ((x, y), d)) = R at *
  generalize decide (openR c (x, y)) = I at *
  generalize decide (openR c (x2, y2)) = J at *
  have Q0 := two_new w #[.int .i64 c.W, .int .i64 c.H, .int .i64 c.height, vb, vp, vr, vs, .int .i64 c.unit, .int .i64 c.accel, .int .i64 c.speed, .int .i64 c.turn, .int .i64 c.hoist, .int .i64 c.queue, .int .i64 c.resend, .int .i64 c.budget, .bool c.back] #[.int .i64 x, .int .i64 y, .bool d] 72
  have n0 : ((w.alloc (.cells #[.int .i64 c.W, .int .i64 c.H, .int .i64 c.height, vb, vp, vr, vs, .int .i64 c.unit, .int .i64 c.accel, .int .i64 c.speed, .int .i64 c.turn, .int .i64 c.hoist, .int .i64 c.queue, .int .i64 c.resend, .int .i64 c.budget, .bool c.back] 26)).alloc (.cells #[.int .i64 x, .int .i64 y, .bool d] 72)).cell? ⟨w.heap.size + 1, 0, none⟩ = some (.int .i64 x) := cell_of Q0.b 0
  have n1 : ((w.alloc (.cells #[.int .i64 c.W, .int .i64 c.H, .int .i64 c.height, vb, vp, vr, vs, .int .i64 c.unit, .int .i64 c.accel, .int .i64 c.speed, .int .i64 c.turn, .int .i64 c.hoist, .int .i64 c.queue, .int .i64 c.resend, .int .i64 c.budget, .bool c.back] 26)).alloc (.cells #[.int .i64 x, .int .i64 y, .bool d] 72)).cell? ⟨w.heap.size + 1, 1, none⟩ = some (.int .i64 y) := cell_of Q0.b 1
  have n2 : ((w.alloc (.cells #[.int .i64 c.W, .int .i64 c.H, .int .i64 c.height, vb, vp, vr, vs, .int .i64 c.unit, .int .i64 c.accel, .int .i64 c.speed, .int .i64 c.turn, .int .i64 c.hoist, .int .i64 c.queue, .int .i64 c.resend, .int .i64 c.budget, .bool c.back] 26)).alloc (.cells #[.int .i64 x, .int .i64 y, .bool d] 72)).cell? ⟨w.heap.size + 1, 2, none⟩ = some (.bool d) := cell_of Q0.b 2
  clear hA
  go_enter Try.func37, Try.ntmps37
  go_wp2_with (first
    | (go_at_call 38; refine (cC _).mono ?_; rintro e w1 ⟨r1, rfl, ⟨g, rfl, hg, hG⟩, b1⟩; have Q1 := Q0.go b1))
  have eA := Q1.a
  have B1 := Q1.below
  obtain ⟨IH, hIH⟩ : ∃ I : World → Prop, I = Below w1.heap.size w1 := ⟨_, rfl⟩
  have kI : ∀ u, IH u → Below w1.heap.size w1 u := fun u hu => by rw [hIH] at hu; exact hu
  have hS : IH w1.drew := by rw [hIH]; exact (Below.refl _ _).drew
  have HC : Hid (∀ u, IH u → ∀ j z, #[.int .i64 c.W, .int .i64 c.H, .int .i64 c.height, vb, vp, vr, vs, .int .i64 c.unit, .int .i64 c.accel, .int .i64 c.speed, .int .i64 c.turn, .int .i64 c.hoist, .int .i64 c.queue, .int .i64 c.resend, .int .i64 c.budget, .bool c.back][j]? = some z → u.cell? ((⟨w.heap.size, 0, none⟩ : Addr).add j) = some z) := fun u hu => row_below eA (kI u hu)
  have H1 : Hid (∀ u, IH u → ∀ j z, #[Value.int .i64 x, .int .i64 y][j]? = some z → u.cell? ((⟨g, 0, none⟩ : Addr).add j) = some z) := fun u hu => pair_below (k := 0) hG (kI u hu) (Or.inl rfl)
  have H2 : Hid (∀ u, IH u → ∀ j z, #[Value.int .i64 x2, .int .i64 y2][j]? = some z → u.cell? ((⟨g, 2, none⟩ : Addr).add j) = some z) := fun u hu => pair_below (k := 1) hG (kI u hu) (Or.inr rfl)
  refine start_held (S := IH) 13 rfl (by kernel_rfl) (hS) ?_
  simp only [Array.replicate_succ, Array.replicate_zero, List.push_toArray, List.nil_append, List.cons_append]
  refine take_held 0 (by assumption) rfl (by kernel_rfl) (by kernel_rfl) (by kernel_rfl) (fun _ _ _ h => h) (by kernel_rfl) (v := .agg #[.int .i64 c.W, .int .i64 c.H, .int .i64 c.height, vb, vp, vr, vs, .int .i64 c.unit, .int .i64 c.accel, .int .i64 c.speed, .int .i64 c.turn, .int .i64 c.hoist, .int .i64 c.queue, .int .i64 c.resend, .int .i64 c.budget, .bool c.back]) ?y0 ?r0
  case y0 => (intro u hu; exact run_load_op 26 _ rfl ⟨w.heap.size, 0, none⟩ _ rfl (HC.out u hu) (aggConf u) info_conf)
  simp only [Act.put, List.setIfInBounds_toArray, List.set_cons_zero, List.set_cons_succ]
  refine take_held 1 (by assumption) rfl (by kernel_rfl) (by kernel_rfl) (by kernel_rfl) (fun _ _ _ h => h) (by kernel_rfl) (v := ?v1) ?y1 ?r1
  case y1 => (intro u hu; go_simp; try rfl)
  simp only [Act.put, List.setIfInBounds_toArray, List.set_cons_zero, List.set_cons_succ]
  refine take_held 2 (by assumption) rfl (by kernel_rfl) (by kernel_rfl) (by kernel_rfl) (fun _ _ _ h => h) (by kernel_rfl) (v := ?v2) ?y2 ?r2
  case y2 => (intro u hu; go_simp; try rfl)
  simp only [Act.put, List.setIfInBounds_toArray, List.set_cons_zero, List.set_cons_succ]
  refine take_held 3 (by assumption) rfl (by kernel_rfl) (by kernel_rfl) (by kernel_rfl) (fun _ _ _ h => h) (by kernel_rfl) (v := .agg #[.int .i64 x, .int .i64 y]) ?y3 ?r3
  case y3 => (intro u hu; exact run_load_op 39 _ rfl ⟨g, 0, none⟩ _ rfl (H1.out u hu) (aggCell u) infoCell2)
  simp only [Act.put, List.setIfInBounds_toArray, List.set_cons_zero, List.set_cons_succ]
  refine wpAnyH_ready (rs := [4]) (by kernel_rfl) (by simp) (AllReadyH.cons ((nth_eq _ 4).trans rfl) ?_ AllReadyH.nil)
  intro K' hK
  refine call_in hK (by kernel_rfl) 41 #[.agg #[.int .i64 c.W, .int .i64 c.H, .int .i64 c.height, vb, vp, vr, vs, .int .i64 c.unit, .int .i64 c.accel, .int .i64 c.speed, .int .i64 c.turn, .int .i64 c.hoist, .int .i64 c.queue, .int .i64 c.resend, .int .i64 c.budget, .bool c.back], .agg #[.int .i64 x, .int .i64 y]] (by go_simp) _ (cE _ (bcat B1 (Below.refl _ _).drew (Nat.le_refl _))) ?_
  rintro v w6 ⟨rfl, b6⟩
  have B6 := bcat (bcat B1 (Below.refl _ _).drew (Nat.le_refl _)) b6 (Nat.le_refl _)
  have hS6 : IH w6 := by rw [hIH]; exact bcat (Below.refl _ _).drew b6 (Nat.le_refl _)
  refine ⟨hS6, ?_⟩
  simp only [Act.put, List.setIfInBounds_toArray, List.set_cons_zero, List.set_cons_succ]
  refine take_held 5 (by assumption) rfl (by kernel_rfl) (by kernel_rfl) (by kernel_rfl) (fun _ _ _ h => h) (by kernel_rfl) (v := ?v4) ?y4 ?r4
  case y4 => (intro u hu; go_simp; try rfl)
  simp only [Act.put, List.setIfInBounds_toArray, List.set_cons_zero, List.set_cons_succ]
  cases I
  · skip
    refine skip_held 6 (by assumption) rfl (by kernel_rfl) (by kernel_rfl) (by kernel_rfl) (fun _ _ _ h => h) (by kernel_rfl) ?_
    simp only [Act.put, List.setIfInBounds_toArray, List.set_cons_zero, List.set_cons_succ]
    refine skip_held 7 (by assumption) rfl (by kernel_rfl) (by kernel_rfl) (by kernel_rfl) (fun _ _ _ h => h) (by kernel_rfl) ?_
    simp only [Act.put, List.setIfInBounds_toArray, List.set_cons_zero, List.set_cons_succ]
    refine skip_held 8 (by assumption) rfl (by kernel_rfl) (by kernel_rfl) (by kernel_rfl) (fun _ _ _ h => h) (by kernel_rfl) ?_
    simp only [Act.put, List.setIfInBounds_toArray, List.set_cons_zero, List.set_cons_succ]
    refine skip_held 9 (by assumption) rfl (by kernel_rfl) (by kernel_rfl) (by kernel_rfl) (fun _ _ _ h => h) (by kernel_rfl) ?_
    simp only [Act.put, List.setIfInBounds_toArray, List.set_cons_zero, List.set_cons_succ]
    refine skip_held 10 (by assumption) rfl (by kernel_rfl) (by kernel_rfl) (by kernel_rfl) (fun _ _ _ h => h) (by kernel_rfl) ?_
    simp only [Act.put, List.setIfInBounds_toArray, List.set_cons_zero, List.set_cons_succ]
    refine take_held 11 (by assumption) rfl (by kernel_rfl) (by kernel_rfl) (by kernel_rfl) (fun _ _ _ h => h) (by kernel_rfl) (v := ?v5) ?y5 ?r5
    case y5 => (intro u hu; go_simp; try rfl)
    simp only [Act.put, List.setIfInBounds_toArray, List.set_cons_zero, List.set_cons_succ]
    refine take_held 12 (by assumption) rfl (by kernel_rfl) (by kernel_rfl) (by kernel_rfl) (fun _ _ _ h => h) (by kernel_rfl) (v := ?v6) ?y6 ?r6
    case y6 => (intro u hu; go_simp; try rfl)
    simp only [Act.put, List.setIfInBounds_toArray, List.set_cons_zero, List.set_cons_succ]
    refine done_held (by kernel_rfl) ?_ _
    go_wp2
    go_ret
    exact ⟨_, rfl, congrArg Value.bool (by rw [HO.out]; rfl), B6⟩
  · skip
    refine take_held 6 (by assumption) rfl (by kernel_rfl) (by kernel_rfl) (by kernel_rfl) (fun _ _ _ h => h) (by kernel_rfl) (v := .agg #[.int .i64 c.W, .int .i64 c.H, .int .i64 c.height, vb, vp, vr, vs, .int .i64 c.unit, .int .i64 c.accel, .int .i64 c.speed, .int .i64 c.turn, .int .i64 c.hoist, .int .i64 c.queue, .int .i64 c.resend, .int .i64 c.budget, .bool c.back]) ?y7 ?r7
    case y7 => (intro u hu; exact run_load_op 26 _ rfl ⟨w.heap.size, 0, none⟩ _ rfl (HC.out u hu) (aggConf u) info_conf)
    simp only [Act.put, List.setIfInBounds_toArray, List.set_cons_zero, List.set_cons_succ]
    refine take_held 7 (by assumption) rfl (by kernel_rfl) (by kernel_rfl) (by kernel_rfl) (fun _ _ _ h => h) (by kernel_rfl) (v := ?v8) ?y8 ?r8
    case y8 => (intro u hu; go_simp; try rfl)
    simp only [Act.put, List.setIfInBounds_toArray, List.set_cons_zero, List.set_cons_succ]
    refine take_held 8 (by assumption) rfl (by kernel_rfl) (by kernel_rfl) (by kernel_rfl) (fun _ _ _ h => h) (by kernel_rfl) (v := ?v9) ?y9 ?r9
    case y9 => (intro u hu; go_simp; try rfl)
    simp only [Act.put, List.setIfInBounds_toArray, List.set_cons_zero, List.set_cons_succ]
    refine take_held 9 (by assumption) rfl (by kernel_rfl) (by kernel_rfl) (by kernel_rfl) (fun _ _ _ h => h) (by kernel_rfl) (v := .agg #[.int .i64 x2, .int .i64 y2]) ?y10 ?r10
    case y10 => (intro u hu; exact run_load_op 39 _ rfl ⟨g, 2, none⟩ _ rfl (H2.out u hu) (aggCell u) infoCell2)
    simp only [Act.put, List.setIfInBounds_toArray, List.set_cons_zero, List.set_cons_succ]
    refine wpAnyH_ready (rs := [10]) (by kernel_rfl) (by simp) (AllReadyH.cons ((nth_eq _ 10).trans rfl) ?_ AllReadyH.nil)
    intro K' hK
    refine call_in hK (by kernel_rfl) 41 #[.agg #[.int .i64 c.W, .int .i64 c.H, .int .i64 c.height, vb, vp, vr, vs, .int .i64 c.unit, .int .i64 c.accel, .int .i64 c.speed, .int .i64 c.turn, .int .i64 c.hoist, .int .i64 c.queue, .int .i64 c.resend, .int .i64 c.budget, .bool c.back], .agg #[.int .i64 x2, .int .i64 y2]] (by go_simp) _ (cS _ B6) ?_
    rintro v w7 ⟨rfl, b7⟩
    have B7 := bcat B6 b7 (Nat.le_refl _)
    have hS7 : IH w7 := by rw [hIH]; rw [hIH] at hS6; exact bcat hS6 b7 (Nat.le_refl _)
    refine ⟨hS7, ?_⟩
    simp only [Act.put, List.setIfInBounds_toArray, List.set_cons_zero, List.set_cons_succ]
    refine take_held 11 (by assumption) rfl (by kernel_rfl) (by kernel_rfl) (by kernel_rfl) (fun _ _ _ h => h) (by kernel_rfl) (v := ?v11) ?y11 ?r11
    case y11 => (intro u hu; go_simp; try rfl)
    simp only [Act.put, List.setIfInBounds_toArray, List.set_cons_zero, List.set_cons_succ]
    refine take_held 12 (by assumption) rfl (by kernel_rfl) (by kernel_rfl) (by kernel_rfl) (fun _ _ _ h => h) (by kernel_rfl) (v := ?v12) ?y12 ?r12
    case y12 => (intro u hu; go_simp; try rfl)
    simp only [Act.put, List.setIfInBounds_toArray, List.set_cons_zero, List.set_cons_succ]
    refine done_held (by kernel_rfl) ?_ _
    go_wp2
    go_ret
    exact ⟨_, rfl, congrArg Value.bool (by rw [HO.out]; rfl), B7⟩
end Go.Proofs.Ytabbdclpjghdbaa.Grid
