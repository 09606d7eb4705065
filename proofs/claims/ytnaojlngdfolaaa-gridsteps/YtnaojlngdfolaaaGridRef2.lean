/-
  The chapter's own answer, further: open cells, a cell beside an open one, the numbers, a pose's cells.
-/
import Derived.Test.YtnaojlngdfolaaaGridRef
namespace Go.Proofs.Ytnaojlngdfolaaa.Grid
set_option linter.unusedVariables false
set_option linter.unusedSimpArgs false
open Go Go.RowKit Go.Shelf Go.Proofs
attribute [local go_sem] Oper.semAt_some

/- A config and a cell, in boxes of the call's own. -/
structure Two (w : World) (cs ds : Array Value) (td : TypeId) (W : World) : Prop where
  below : Below w.heap.size w W
  a : W.heap[w.heap.size]? = some (.cells cs 26 (0, 0))
  b : W.heap[w.heap.size + 1]? = some (.cells ds td (0, 0))
section
variable {w : World} {cs ds : Array Value} {td : TypeId} {W W' : World}
theorem Two.go (h : Two w cs ds td W) (hb : Below W.heap.size W W') : Two w cs ds td W' :=
  ⟨bcat h.below hb (Nat.le_refl _), (hb.block _ (lt_of_heap h.a)).trans h.a, (hb.block _ (lt_of_heap h.b)).trans h.b⟩
theorem two_new (w : World) (cs ds : Array Value) (td : TypeId) : Two w cs ds td ((w.alloc (.cells cs 26)).alloc (.cells ds td)) :=
  ⟨below_two _ _ _, (alloc_old _ _ _ (by simp)).trans (heap_alloc_new w _), heap_new2 _ _ _⟩
end
theorem Two.at_ {w : World} {c : Conf} {vb vp vr vs : Value} {x y : Int} {W : World} (h : Two w #[.int .i64 c.W, .int .i64 c.H, .int .i64 c.height, vb, vp, vr, vs, .int .i64 c.unit, .int .i64 c.accel, .int .i64 c.speed, .int .i64 c.turn, .int .i64 c.hoist, .int .i64 c.queue, .int .i64 c.resend, .int .i64 c.budget, .bool c.back] #[.int .i64 x, .int .i64 y] 28 W) :
    W.cell? ⟨w.heap.size, 0, none⟩ = some (.int .i64 c.W) ∧ W.cell? ⟨w.heap.size, 1, none⟩ = some (.int .i64 c.H) ∧ W.cell? ⟨w.heap.size, 2, none⟩ = some (.int .i64 c.height) ∧ W.cell? ⟨w.heap.size, 3, none⟩ = some (vb) ∧ W.cell? ⟨w.heap.size, 4, none⟩ = some (vp) ∧ W.cell? ⟨w.heap.size, 5, none⟩ = some (vr) ∧ W.cell? ⟨w.heap.size, 6, none⟩ = some (vs) ∧ W.cell? ⟨w.heap.size, 7, none⟩ = some (.int .i64 c.unit) ∧ W.cell? ⟨w.heap.size, 8, none⟩ = some (.int .i64 c.accel) ∧ W.cell? ⟨w.heap.size, 9, none⟩ = some (.int .i64 c.speed) ∧ W.cell? ⟨w.heap.size, 10, none⟩ = some (.int .i64 c.turn) ∧ W.cell? ⟨w.heap.size, 11, none⟩ = some (.int .i64 c.hoist) ∧ W.cell? ⟨w.heap.size, 12, none⟩ = some (.int .i64 c.queue) ∧ W.cell? ⟨w.heap.size, 13, none⟩ = some (.int .i64 c.resend) ∧ W.cell? ⟨w.heap.size, 14, none⟩ = some (.int .i64 c.budget) ∧ W.cell? ⟨w.heap.size, 15, none⟩ = some (.bool c.back) ∧ W.cell? ⟨w.heap.size + 1, 0, none⟩ = some (.int .i64 x) ∧ W.cell? ⟨w.heap.size + 1, 1, none⟩ = some (.int .i64 y) :=
  ⟨cell_of h.a 0, cell_of h.a 1, cell_of h.a 2, cell_of h.a 3, cell_of h.a 4, cell_of h.a 5, cell_of h.a 6, cell_of h.a 7, cell_of h.a 8, cell_of h.a 9, cell_of h.a 10, cell_of h.a 11, cell_of h.a 12, cell_of h.a 13, cell_of h.a 14, cell_of h.a 15, cell_of h.b 0, cell_of h.b 1⟩
theorem dec_iff {p : Prop} [Decidable p] {b : Bool} (h : p ↔ b = true) : decide p = b := by
  rw [Bool.eq_iff_iff, decide_eq_true_eq]
  exact h
theorem openR_dec (c : Conf) (x y : Int) : decide (openR c (x, y)) = (decide (In c.W c.H (x, y)) && decide (c.blocked.count (x, y) = 0)) := by
  refine dec_iff ?_
  unfold openR
  simp [List.count_eq_zero]
set_option maxRecDepth 100000 in
set_option maxHeartbeats 4000000 in
theorem openR_any (F : Nat → Prop) (c : Conf) (vb vp vr vs : Value) (x y : Int) (w : World) (hA : ConfAt F c vb vp vr vs w) (hF : ∀ b, F b → b < w.heap.size) (hm : c.blocked.length ≤ 9223372036854775807) :
    Calls Try.prog 96 #[.agg #[.int .i64 c.W, .int .i64 c.H, .int .i64 c.height, vb, vp, vr, vs, .int .i64 c.unit, .int .i64 c.accel, .int .i64 c.speed, .int .i64 c.turn, .int .i64 c.hoist, .int .i64 c.queue, .int .i64 c.resend, .int .i64 c.budget, .bool c.back], .agg #[.int .i64 x, .int .i64 y]] w fun e w' => ∃ r, e = .returned r ∧ r = .bool (decide (openR c (x, y))) ∧ Below w.heap.size w w' := by
  have cI := fun u => inR_any #[.int .i64 c.W, .int .i64 c.H, .int .i64 c.height, vb, vp, vr, vs, .int .i64 c.unit, .int .i64 c.accel, .int .i64 c.speed, .int .i64 c.turn, .int .i64 c.hoist, .int .i64 c.queue, .int .i64 c.resend, .int .i64 c.budget, .bool c.back] c vb vp vr vs x y u (cells_conf c vb vp vr vs)
  have cM := fun u (b : Below w.heap.size w u) => among_any F c.blocked vb x y u (hA.b.go heldCell hF b) (fun g hg => Nat.lt_of_lt_of_le (hF g hg) b.size) hm
  have HO : Hid (decide (openR c (x, y)) = (decide (In c.W c.H (x, y)) && decide (c.blocked.count (x, y) = 0))) := openR_dec c x y
  generalize decide (openR c (x, y)) = R at *
  generalize decide (In c.W c.H (x, y)) = I at *
  generalize c.blocked.count (x, y) = m at *
  have Q0 := two_new w #[.int .i64 c.W, .int .i64 c.H, .int .i64 c.height, vb, vp, vr, vs, .int .i64 c.unit, .int .i64 c.accel, .int .i64 c.speed, .int .i64 c.turn, .int .i64 c.hoist, .int .i64 c.queue, .int .i64 c.resend, .int .i64 c.budget, .bool c.back] #[.int .i64 x, .int .i64 y] 28
  obtain ⟨p0, p1, p2, p3, p4, p5, p6, p7, p8, p9, p10, p11, p12, p13, p14, p15, p16, p17⟩ := Q0.at_
  clear hA
  cases I
  · go_enter Try.func96, Try.ntmps96
    go_wp2_with (first
      | (go_at_call 71; refine (cI _).mono ?_; rintro e w1 ⟨r1, rfl, rfl, b1⟩; have Q1 := Q0.go b1))
    go_ret
    exact ⟨_, rfl, congrArg Value.bool (by rw [HO.out]; rfl), Q1.below⟩
  · go_enter Try.func96, Try.ntmps96
    go_wp2_with (first
      | (go_at_call 71; refine (cI _).mono ?_; rintro e w1 ⟨r1, rfl, rfl, b1⟩; have Q1 := Q0.go b1; clear p0 p1 p2 p3 p4 p5 p6 p7 p8 p9 p10 p11 p12 p13 p14 p15 p16 p17; obtain ⟨q0, q1, q2, q3, q4, q5, q6, q7, q8, q9, q10, q11, q12, q13, q14, q15, q16, q17⟩ := Q1.at_)
      | (go_at_call 72; refine (cM _ Q1.below).mono ?_; rintro e w2 ⟨r2, rfl, rfl, b2⟩; have Q2 := Q1.go b2))
    go_ret
    exact ⟨_, rfl, congrArg Value.bool (by rw [HO.out, eq_dec, Bool.true_and]; exact decide_eq_decide.2 (by omega)), Q2.below⟩
set_option maxRecDepth 100000 in
set_option maxHeartbeats 4000000 in
theorem besideR_any (F : Nat → Prop) (c : Conf) (vb vp vr vs : Value) (x y : Int) (w : World) (hA : ConfAt F c vb vp vr vs w) (hF : ∀ b, F b → b < w.heap.size) (hm : c.blocked.length ≤ 9223372036854775807) :
    Calls Try.prog 74 #[.agg #[.int .i64 c.W, .int .i64 c.H, .int .i64 c.height, vb, vp, vr, vs, .int .i64 c.unit, .int .i64 c.accel, .int .i64 c.speed, .int .i64 c.turn, .int .i64 c.hoist, .int .i64 c.queue, .int .i64 c.resend, .int .i64 c.budget, .bool c.back], .agg #[.int .i64 x, .int .i64 y]] w fun e w' => ∃ r, e = .returned r ∧ r = .bool (decide (besideR c (x, y))) ∧ Below w.heap.size w w' := by
  have cE := fun u (b : Below w.heap.size w u) => openR_any F c vb vp vr vs (w64 (x + 1)) y u (hA.go hF b) (fun g hg => Nat.lt_of_lt_of_le (hF g hg) b.size) hm
  have cS := fun u (b : Below w.heap.size w u) => openR_any F c vb vp vr vs x (w64 (y + 1)) u (hA.go hF b) (fun g hg => Nat.lt_of_lt_of_le (hF g hg) b.size) hm
  have HO : Hid (decide (besideR c (x, y)) = (decide (openR c (w64 (x + 1), y)) || decide (openR c (x, w64 (y + 1))))) := by
    show decide (besideR c (x, y)) = (decide (openR c (w64 (x + 1), y)) || decide (openR c (x, w64 (y + 1))))
    refine dec_iff ?_
    unfold besideR east south
    simp
  generalize decide (besideR c (x, y)) = R at *
  generalize decide (openR c (w64 (x + 1), y)) = I at *
  generalize decide (openR c (x, w64 (y + 1))) = J at *
  generalize hx1 : w64 (x + 1) = x1 at *
  generalize hy1 : w64 (y + 1) = y1 at *
  rw [w64_wrap] at hx1 hy1
  have Q0 := two_new w #[.int .i64 c.W, .int .i64 c.H, .int .i64 c.height, vb, vp, vr, vs, .int .i64 c.unit, .int .i64 c.accel, .int .i64 c.speed, .int .i64 c.turn, .int .i64 c.hoist, .int .i64 c.queue, .int .i64 c.resend, .int .i64 c.budget, .bool c.back] #[.int .i64 x, .int .i64 y] 28
  obtain ⟨p0, p1, p2, p3, p4, p5, p6, p7, p8, p9, p10, p11, p12, p13, p14, p15, p16, p17⟩ := Q0.at_
  clear hA
  cases I
  · go_enter Try.func74, Try.ntmps74
    go_wp2_with (first
      | (have X' := b1; go_at_call 96; refine (cS _ Q1.below).mono ?_; rintro e w2 ⟨r2, rfl, rfl, b2⟩; have Q2 := Q1.go b2)
      | (go_at_call 96; refine (cE _ Q0.below).mono ?_; rintro e w1 ⟨r1, rfl, rfl, b1⟩; have Q1 := Q0.go b1; clear p0 p1 p2 p3 p4 p5 p6 p7 p8 p9 p10 p11 p12 p13 p14 p15 p16 p17; obtain ⟨q0, q1, q2, q3, q4, q5, q6, q7, q8, q9, q10, q11, q12, q13, q14, q15, q16, q17⟩ := Q1.at_))
    go_ret
    exact ⟨_, rfl, congrArg Value.bool (by rw [HO.out]; simp), Q2.below⟩
  · go_enter Try.func74, Try.ntmps74
    go_wp2_with (first
      | (go_at_call 96; refine (cE _ Q0.below).mono ?_; rintro e w1 ⟨r1, rfl, rfl, b1⟩; have Q1 := Q0.go b1))
    go_ret
    exact ⟨_, rfl, congrArg Value.bool (by rw [HO.out]; simp), Q1.below⟩
/- The cells of a pose, in a block of their own. -/
set_option maxRecDepth 100000 in
set_option maxHeartbeats 2000000 in
theorem cellsR_any (x y : Int) (d : Bool) (w : World) : Calls Try.prog 76 #[.agg #[.int .i64 x, .int .i64 y, .bool d]] w fun e w' => ∃ r, e = .returned r ∧
    (∃ g, r = .slice (some ⟨g, 0, none⟩) 2 2 ∧ w.heap.size ≤ g ∧ w'.heap[g]? = some (.cells #[.int .i64 x, .int .i64 y, .int .i64 (second ((x, y), d)).1, .int .i64 (second ((x, y), d)).2] 28 (0, 0))) ∧ Below w.heap.size w w' := by
  obtain ⟨x1, hx1⟩ : ∃ x1, w64 (x + 1) = x1 := ⟨_, rfl⟩
  obtain ⟨y1, hy1⟩ : ∃ y1, w64 (y + 1) = y1 := ⟨_, rfl⟩
  cases d
  · have HS : Hid (second ((x, y), false) = (x1, y)) := by show second ((x, y), false) = (x1, y); rw [← hx1]; rfl
    rw [w64_wrap] at hx1 hy1
    go_enter Try.func76, Try.ntmps76
    go_wp2
    go_ret
    exact ⟨_, rfl, ⟨_, rfl, by simp, by rw [HS.out]; exact heap_new2 _ _ _⟩, below_two _ _ _⟩
  · have HS : Hid (second ((x, y), true) = (x, y1)) := by show second ((x, y), true) = (x, y1); rw [← hy1]; rfl
    rw [w64_wrap] at hx1 hy1
    go_enter Try.func76, Try.ntmps76
    go_wp2
    go_ret
    exact ⟨_, rfl, ⟨_, rfl, by simp, by rw [HS.out]; exact heap_new2 _ _ _⟩, below_two _ _ _⟩
theorem list_two {w : World} {g : Nat} {p q p' q' : Int} (h : w.heap[g]? = some (.cells #[.int .i64 p, .int .i64 q, .int .i64 p', .int .i64 q'] 28 (0, 0))) : ListAt 2 cellEl (fun b => b = g) [(p, q), (p', q')] (.slice (some ⟨g, 0, none⟩) 2 2) w := by
  refine ⟨some ⟨g, 0, none⟩, 2, [((p, q), #[.int .i64 p, .int .i64 q]), ((p', q'), #[.int .i64 p', .int .i64 q'])], rfl, rfl, fun y hy => ?_, fun i hi => ⟨_, rfl, rfl, fun j u hj => ?_⟩, fun h => by cases h⟩
  · simp at hy
    rcases hy with rfl | rfl <;> rfl
  · rw [Addr.add_lit, Nat.zero_add, cell_of h]
    match i, hi with
    | 0, _ =>
      match j with
      | 0 => simpa using hj
      | 1 => simpa using hj
      | j + 2 => simp at hj
    | 1, _ =>
      match j with
      | 0 => simpa using hj
      | 1 => simpa using hj
      | j + 2 => simp at hj
end Go.Proofs.Ytnaojlngdfolaaa.Grid
