/-
  The chapter's own answer, further: stack cells.
-/
import Derived.Test.YtabbdclpjghdbaaRgF
namespace Go.Proofs.Ytabbdclpjghdbaa.Grid
set_option linter.unusedVariables false
set_option linter.unusedSimpArgs false
open Go Go.RowKit Go.Shelf Go.Proofs
attribute [local go_sem] Oper.semAt_some

/- A struct that is read where it is asked for. -/
theorem wpList_load_want {ops : Array Oper} {rest : List Oper} {o : Oper} {a : Act} {w : World} {Q : Exit → Act → World → Prop} (hw : Region.wanted o (yielded ops a.tmps) = true) (ty : TypeId) (x : Operand) (ho : o.op = .load ty x)
    (g : Nat) (hx : a.eval x = .pointer (some ⟨g, 0, none⟩)) (t : TypeId) (cs : Array Value) (fr : Nat × Nat) {fs} (hg : w.heap[g]? = some (.cells cs t fr))
    (hu : Try.prog.underlying ty = some (.struct fs)) (hi : (Try.prog.info? ty).map (·.size) = some cs.size)
    (h : wpList Try.prog ops Q rest (a.put o.dst (.agg cs)) w) : wpList Try.prog ops Q (o :: rest) a w :=
  BigFrame.wpList_want hw fun _ hK => wp_load_row ty x ho g hx t cs fr _ hg hu rfl hi (hK _ _ h)
abbrev Says (w : World) (f : FuncId) (cs ds : Array Value) (v : Value) : Prop := ∀ u, Below w.heap.size w u → Calls Try.prog f #[.agg cs, .agg ds] u fun e w' => ∃ r, e = .returned r ∧ r = v ∧ Below u.heap.size u w'
section
variable (w : World) (cs : Array Value) (x y : Int) (hz : cs.size = 16) (P1 P3 P4 : Bool) (P2 : Int)
include hz
set_option maxRecDepth 100000 in
set_option maxHeartbeats 4000000 in
theorem stk1 (c1 : Says w 41 cs #[.int .i64 x, .int .i64 y] (.bool false)) : Calls Try.prog 62 #[.agg cs, .agg #[.int .i64 x, .int .i64 y]] w fun e w' => ∃ r, e = .returned r ∧ r = .bool false ∧ Below w.heap.size w w' := by
  have Q0 := two_new w cs #[.int .i64 x, .int .i64 y] 39
  have i0 : (Try.prog.info? 26).map (·.size) = some cs.size := by rw [hz]; exact info_conf
  clear hz
  go_enter Try.func62, Try.ntmps62
  go_wp2_with (first
    | (refine wpList_load_want (by kernel_rfl) 26 (.tmp 2) rfl w.heap.size rfl 26 cs (0, 0) Q0.a Try.underlying26 i0 ?_)
    | (go_at_call 41; refine (c1 _ Q0.below).mono ?_; rintro e w1 ⟨r1, rfl, rfl, b1⟩; have Q1 := Q0.go b1; have m1 := cell_of Q1.b 0; have n1 := cell_of Q1.b 1))
  go_ret
  exact ⟨_, rfl, rfl, Q1.below⟩
set_option maxRecDepth 100000 in
set_option maxHeartbeats 4000000 in
theorem stk2 (c1 : Says w 41 cs #[.int .i64 x, .int .i64 y] (.bool true)) (c2 : Says w 65 cs #[.int .i64 x, .int .i64 y] (.int .i64 P2)) (hP : ¬ P2 < 0) : Calls Try.prog 62 #[.agg cs, .agg #[.int .i64 x, .int .i64 y]] w fun e w' => ∃ r, e = .returned r ∧ r = .bool false ∧ Below w.heap.size w w' := by
  have Q0 := two_new w cs #[.int .i64 x, .int .i64 y] 39
  have i0 : (Try.prog.info? 26).map (·.size) = some cs.size := by rw [hz]; exact info_conf
  clear hz
  go_enter Try.func62, Try.ntmps62
  go_wp2_with (first
    | (refine wpList_load_want (by kernel_rfl) 26 (.tmp 2) rfl w.heap.size rfl 26 cs (0, 0) Q1.a Try.underlying26 i0 ?_)
    | (refine wpList_load_want (by kernel_rfl) 26 (.tmp 2) rfl w.heap.size rfl 26 cs (0, 0) Q0.a Try.underlying26 i0 ?_)
    | (go_at_call 41; refine (c1 _ Q0.below).mono ?_; rintro e w1 ⟨r1, rfl, rfl, b1⟩; have Q1 := Q0.go b1; have m1 := cell_of Q1.b 0; have n1 := cell_of Q1.b 1)
    | (go_at_call 65; refine (c2 _ Q1.below).mono ?_; rintro e w2 ⟨r2, rfl, rfl, b2⟩; have Q2 := Q1.go b2; have m2 := cell_of Q2.b 0; have n2 := cell_of Q2.b 1))
  go_ret
  exact ⟨_, rfl, by simp; try omega, Q2.below⟩
set_option maxRecDepth 100000 in
set_option maxHeartbeats 4000000 in
theorem stk3 (c1 : Says w 41 cs #[.int .i64 x, .int .i64 y] (.bool true)) (c2 : Says w 65 cs #[.int .i64 x, .int .i64 y] (.int .i64 P2)) (c3 : Says w 35 cs #[.int .i64 x, .int .i64 y] (.bool true)) (hP : P2 < 0) : Calls Try.prog 62 #[.agg cs, .agg #[.int .i64 x, .int .i64 y]] w fun e w' => ∃ r, e = .returned r ∧ r = .bool false ∧ Below w.heap.size w w' := by
  have Q0 := two_new w cs #[.int .i64 x, .int .i64 y] 39
  have i0 : (Try.prog.info? 26).map (·.size) = some cs.size := by rw [hz]; exact info_conf
  clear hz
  go_enter Try.func62, Try.ntmps62
  go_wp2_with (first
    | (refine wpList_load_want (by kernel_rfl) 26 (.tmp 2) rfl w.heap.size rfl 26 cs (0, 0) Q2.a Try.underlying26 i0 ?_)
    | (refine wpList_load_want (by kernel_rfl) 26 (.tmp 2) rfl w.heap.size rfl 26 cs (0, 0) Q1.a Try.underlying26 i0 ?_)
    | (refine wpList_load_want (by kernel_rfl) 26 (.tmp 2) rfl w.heap.size rfl 26 cs (0, 0) Q0.a Try.underlying26 i0 ?_)
    | (go_at_call 41; refine (c1 _ Q0.below).mono ?_; rintro e w1 ⟨r1, rfl, rfl, b1⟩; have Q1 := Q0.go b1; have m1 := cell_of Q1.b 0; have n1 := cell_of Q1.b 1)
    | (go_at_call 65; refine (c2 _ Q1.below).mono ?_; rintro e w2 ⟨r2, rfl, rfl, b2⟩; have Q2 := Q1.go b2; have m2 := cell_of Q2.b 0; have n2 := cell_of Q2.b 1)
    | (go_at_call 35; refine (c3 _ Q2.below).mono ?_; rintro e w3 ⟨r3, rfl, rfl, b3⟩; have Q3 := Q2.go b3; have m3 := cell_of Q3.b 0; have n3 := cell_of Q3.b 1))
  go_ret
  exact ⟨_, rfl, rfl, Q3.below⟩
set_option maxRecDepth 100000 in
set_option maxHeartbeats 4000000 in
theorem stk4 (c1 : Says w 41 cs #[.int .i64 x, .int .i64 y] (.bool true)) (c2 : Says w 65 cs #[.int .i64 x, .int .i64 y] (.int .i64 P2)) (c3 : Says w 35 cs #[.int .i64 x, .int .i64 y] (.bool false)) (c4 : Says w 36 cs #[.int .i64 x, .int .i64 y] (.bool P4)) (hP : P2 < 0) : Calls Try.prog 62 #[.agg cs, .agg #[.int .i64 x, .int .i64 y]] w fun e w' => ∃ r, e = .returned r ∧ r = .bool P4 ∧ Below w.heap.size w w' := by
  have Q0 := two_new w cs #[.int .i64 x, .int .i64 y] 39
  have i0 : (Try.prog.info? 26).map (·.size) = some cs.size := by rw [hz]; exact info_conf
  clear hz
  go_enter Try.func62, Try.ntmps62
  go_wp2_with (first
    | (refine wpList_load_want (by kernel_rfl) 26 (.tmp 2) rfl w.heap.size rfl 26 cs (0, 0) Q3.a Try.underlying26 i0 ?_)
    | (refine wpList_load_want (by kernel_rfl) 26 (.tmp 2) rfl w.heap.size rfl 26 cs (0, 0) Q2.a Try.underlying26 i0 ?_)
    | (refine wpList_load_want (by kernel_rfl) 26 (.tmp 2) rfl w.heap.size rfl 26 cs (0, 0) Q1.a Try.underlying26 i0 ?_)
    | (refine wpList_load_want (by kernel_rfl) 26 (.tmp 2) rfl w.heap.size rfl 26 cs (0, 0) Q0.a Try.underlying26 i0 ?_)
    | (go_at_call 41; refine (c1 _ Q0.below).mono ?_; rintro e w1 ⟨r1, rfl, rfl, b1⟩; have Q1 := Q0.go b1; have m1 := cell_of Q1.b 0; have n1 := cell_of Q1.b 1)
    | (go_at_call 65; refine (c2 _ Q1.below).mono ?_; rintro e w2 ⟨r2, rfl, rfl, b2⟩; have Q2 := Q1.go b2; have m2 := cell_of Q2.b 0; have n2 := cell_of Q2.b 1)
    | (go_at_call 35; refine (c3 _ Q2.below).mono ?_; rintro e w3 ⟨r3, rfl, rfl, b3⟩; have Q3 := Q2.go b3; have m3 := cell_of Q3.b 0; have n3 := cell_of Q3.b 1)
    | (go_at_call 36; refine (c4 _ Q3.below).mono ?_; rintro e w4 ⟨r4, rfl, rfl, b4⟩; have Q4 := Q3.go b4; have m4 := cell_of Q4.b 0; have n4 := cell_of Q4.b 1))
  go_ret
  exact ⟨_, rfl, rfl, Q4.below⟩
end
theorem stackedR_any (F : Nat → Prop) (c : Conf) (vb vp vr vs : Value) (x y : Int) (w : World) (hA : ConfAt F c vb vp vr vs w) (hF : ∀ b, F b → b < w.heap.size) (hm : c.blocked.length ≤ 9223372036854775807) (hmp : c.ports.length ≤ 9223372036854775807) (hmr : c.robots.length ≤ 9223372036854775807) :
    Calls Try.prog 62 #[.agg #[.int .i64 c.W, .int .i64 c.H, .int .i64 c.height, vb, vp, vr, vs, .int .i64 c.unit, .int .i64 c.accel, .int .i64 c.speed, .int .i64 c.turn, .int .i64 c.hoist, .int .i64 c.queue, .int .i64 c.resend, .int .i64 c.budget, .bool c.back], .agg #[.int .i64 x, .int .i64 y]] w fun e w' => ∃ r, e = .returned r ∧ r = .bool (decide (stackedR c (x, y))) ∧ Below w.heap.size w w' := by
  have L := fun (u : World) (b : Below w.heap.size w u) g (hg : F g) => Nat.lt_of_lt_of_le (hF g hg) b.size
  have c1 : Says w 41 #[.int .i64 c.W, .int .i64 c.H, .int .i64 c.height, vb, vp, vr, vs, .int .i64 c.unit, .int .i64 c.accel, .int .i64 c.speed, .int .i64 c.turn, .int .i64 c.hoist, .int .i64 c.queue, .int .i64 c.resend, .int .i64 c.budget, .bool c.back] #[.int .i64 x, .int .i64 y] (.bool (decide (openR c (x, y)))) := fun u b => openR_any F c vb vp vr vs x y u (hA.go hF b) (L u b) hm
  have c2 : Says w 65 #[.int .i64 c.W, .int .i64 c.H, .int .i64 c.height, vb, vp, vr, vs, .int .i64 c.unit, .int .i64 c.accel, .int .i64 c.speed, .int .i64 c.turn, .int .i64 c.hoist, .int .i64 c.queue, .int .i64 c.resend, .int .i64 c.budget, .bool c.back] #[.int .i64 x, .int .i64 y] (.int .i64 (portP c.ports (x, y) 0)) := fun u b => portR_any F c vb vp vr vs x y u (hA.go hF b) (L u b) hmp
  have c3 : Says w 35 #[.int .i64 c.W, .int .i64 c.H, .int .i64 c.height, vb, vp, vr, vs, .int .i64 c.unit, .int .i64 c.accel, .int .i64 c.speed, .int .i64 c.turn, .int .i64 c.hoist, .int .i64 c.queue, .int .i64 c.resend, .int .i64 c.budget, .bool c.back] #[.int .i64 x, .int .i64 y] (.bool (decide ((x, y) ∈ homes c))) := fun u b => homeR_any F c vb vp vr vs x y u (hA.go hF b) (L u b) hmr
  have c4 : Says w 36 #[.int .i64 c.W, .int .i64 c.H, .int .i64 c.height, vb, vp, vr, vs, .int .i64 c.unit, .int .i64 c.accel, .int .i64 c.speed, .int .i64 c.turn, .int .i64 c.hoist, .int .i64 c.queue, .int .i64 c.resend, .int .i64 c.budget, .bool c.back] #[.int .i64 x, .int .i64 y] (.bool (decide (besideR c (x, y)))) := fun u b => besideR_any F c vb vp vr vs x y u (hA.go hF b) (L u b) hm
  have hO : decide (stackedR c (x, y)) = (decide (openR c (x, y)) && (decide (portP c.ports (x, y) 0 < 0) && (!decide ((x, y) ∈ homes c) && decide (besideR c (x, y))))) := by
    refine dec_iff ?_
    unfold stackedR
    rw [← portP_neg c.ports (x, y) 0]
    simp
  rw [hO]
  generalize decide (openR c (x, y)) = P1 at *
  generalize portP c.ports (x, y) 0 = P2 at *
  generalize decide ((x, y) ∈ homes c) = P3 at *
  generalize decide (besideR c (x, y)) = P4 at *
  cases P1
  · exact stk1 w _ x y rfl c1
  · by_cases h2 : P2 < 0
    · rw [decide_eq_true h2]
      cases P3
      · exact stk4 w _ x y rfl P4 P2 c1 c2 c3 c4 h2
      · exact stk3 w _ x y rfl P2 c1 c2 c3 h2
    · rw [decide_eq_false h2]
      exact stk2 w _ x y rfl P2 c1 c2 h2
end Go.Proofs.Ytabbdclpjghdbaa.Grid
