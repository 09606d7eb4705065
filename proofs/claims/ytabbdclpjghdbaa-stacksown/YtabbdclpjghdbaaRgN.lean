/-
  What the laws over a config share: a copy of it, its grid, whether it may be.
  Whether a config is small.
-/
import Derived.Test.YtabbdclpjghdbaaGridRef10
import Derived.Test.YtabbdclpjghdbaaRgJ
import Derived.BigQuiet
namespace Go.Proofs.Ytabbdclpjghdbaa.Grid
set_option linter.unusedVariables false
set_option linter.unusedSimpArgs false
open Go Go.RowKit Go.Shelf Go.Proofs
attribute [local go_sem] Oper.semAt_some

section
variable {F : Nat → Prop} {c : Conf} {v1 v2 v3 v4 : Value} {w : World} (hA : ConfAt F c v1 v2 v3 v4 w) (hF : ∀ b, F b → b < w.heap.size) (l1 : c.blocked.length ≤ 8796093022208) (l2 : c.ports.length ≤ 8796093022208) (l3 : c.robots.length ≤ 5864062014805) (l4 : c.stacks.length ≤ 3518437208880)
include hA hF l1 l2 l3 l4
theorem new_no (h : newP c = none) : Calls Try.prog 30 #[.agg #[.int .i64 c.W, .int .i64 c.H, .int .i64 c.height, v1, v2, v3, v4, .int .i64 c.unit, .int .i64 c.accel, .int .i64 c.speed, .int .i64 c.turn, .int .i64 c.hoist, .int .i64 c.queue, .int .i64 c.resend, .int .i64 c.budget, .bool c.back]] w fun e w' => e = .returned (.tuple #[.pointer none, .int .i64 5]) ∧ Below w.heap.size w w' :=
  (new_any F #[.int .i64 c.W, .int .i64 c.H, .int .i64 c.height, v1, v2, v3, v4, .int .i64 c.unit, .int .i64 c.accel, .int .i64 c.speed, .int .i64 c.turn, .int .i64 c.hoist, .int .i64 c.queue, .int .i64 c.resend, .int .i64 c.budget, .bool c.back] c v1 v2 v3 v4 w (cells_conf _ _ _ _ _) hA hF (by omega) (by omega) (by omega) (by omega)).mono fun e w' q => by
    rcases q with ⟨b, ⟨G, g, u, v', q1, _⟩ | ⟨_, q2⟩⟩
    · rw [h] at q1; cases q1
    · exact ⟨q2, b⟩
theorem new_yes {G : GS} (h : newP c = some G) : Calls Try.prog 30 #[.agg #[.int .i64 c.W, .int .i64 c.H, .int .i64 c.height, v1, v2, v3, v4, .int .i64 c.unit, .int .i64 c.accel, .int .i64 c.speed, .int .i64 c.turn, .int .i64 c.hoist, .int .i64 c.queue, .int .i64 c.resend, .int .i64 c.budget, .bool c.back]] w fun e w' => ∃ g u v', e = .returned (.tuple #[.pointer (some ⟨g, 0, none⟩), .int .i64 0]) ∧ GridAt w' g u c.W c.H G.uses v' ∧ w.heap.size ≤ g ∧ w.heap.size ≤ u ∧ w'.ownsRow w.heap.size 39 2 v' c.ports.length (rowL cellL c.ports) ∧ Below w.heap.size w w' :=
  (new_any F #[.int .i64 c.W, .int .i64 c.H, .int .i64 c.height, v1, v2, v3, v4, .int .i64 c.unit, .int .i64 c.accel, .int .i64 c.speed, .int .i64 c.turn, .int .i64 c.hoist, .int .i64 c.queue, .int .i64 c.resend, .int .i64 c.budget, .bool c.back] c v1 v2 v3 v4 w (cells_conf _ _ _ _ _) hA hF (by omega) (by omega) (by omega) (by omega)).mono fun e w' q => by
    rcases q with ⟨b, ⟨G', g, u, v', q1, q2, q3, q4, q5, q6⟩ | ⟨q1, _⟩⟩
    · rw [h] at q1; cases q1; exact ⟨g, u, v', q2, q3, q4, q5, q6, b⟩
    · rw [h] at q1; cases q1
theorem mayR_call (l5 : ∀ s ∈ c.stacks, s.2.length ≤ 17592186044416) : Calls Try.prog 9 #[.agg #[.int .i64 c.W, .int .i64 c.H, .int .i64 c.height, v1, v2, v3, v4, .int .i64 c.unit, .int .i64 c.accel, .int .i64 c.speed, .int .i64 c.turn, .int .i64 c.hoist, .int .i64 c.queue, .int .i64 c.resend, .int .i64 c.budget, .bool c.back]] w fun e w' => ∃ r, e = .returned r ∧ r = .bool (newP c).isSome ∧ Below w.heap.size w w' :=
  mayR_any F c v1 v2 v3 v4 w hA hF (by omega) (by omega) (by omega) l4 l5
end
theorem ret_of {f : FuncId} {args : Array Value} {w : World} {val : Value} (h : Calls Try.prog f args w fun e w' => e = .returned val ∧ Below w.heap.size w w') : Calls Try.prog f args w fun e w' => ∃ v, e = .returned v ∧ v = val ∧ Below w.heap.size w w' := h.mono fun e w' ⟨h, b⟩ => ⟨_, h, rfl, b⟩
theorem since_lt {W : World} {n : Nat} : ∀ b, Since n W b → b < W.heap.size := fun b h => h.2
end Go.Proofs.Ytabbdclpjghdbaa.Grid
namespace Go.Proofs.Ytabbdclpjghdbaa.Dig
set_option linter.unusedVariables false
set_option linter.unusedSimpArgs false
open Go Go.RowKit Go.Shelf Go.Proofs Go.Proofs.Ytabbdclpjghdbaa.Grid
attribute [local go_sem] Oper.semAt_some

def smallN (c : Conf) : Bool := decide (c.W ≤ 6) && decide (c.H ≤ 6) && decide (c.budget ≤ 4000) && decide (c.unit ≤ 100) && decide (c.turn ≤ 200) && decide (c.hoist ≤ 200) && decide (c.robots.length ≤ 4)
set_option maxRecDepth 100000 in
set_option maxHeartbeats 4000000 in
theorem small_any (F : Nat → Prop) (c : Conf) (vb vp vr vs : Value) (w : World) (hA : ConfAt F c vb vp vr vs w) (hF : ∀ b, F b → b < w.heap.size) (l1 : c.blocked.length ≤ 8796093022208) (l2 : c.ports.length ≤ 8796093022208) (l3 : c.robots.length ≤ 5864062014805) (l4 : c.stacks.length ≤ 3518437208880) (l5 : ∀ s ∈ c.stacks, s.2.length ≤ 17592186044416) :
    Calls Try.prog 6 #[.agg #[.int .i64 c.W, .int .i64 c.H, .int .i64 c.height, vb, vp, vr, vs, .int .i64 c.unit, .int .i64 c.accel, .int .i64 c.speed, .int .i64 c.turn, .int .i64 c.hoist, .int .i64 c.queue, .int .i64 c.resend, .int .i64 c.budget, .bool c.back]] w fun e w' => ∃ r, e = .returned r ∧ r = .bool (smallN c && (newP c).isSome) ∧ Below w.heap.size w w' := by
  obtain ⟨a3, cap3, hv3, _⟩ := hA.r.form
  subst hv3
  have Q0 : One w #[.int .i64 c.W, .int .i64 c.H, .int .i64 c.height, vb, vp, .slice a3 c.robots.length cap3, vs, .int .i64 c.unit, .int .i64 c.accel, .int .i64 c.speed, .int .i64 c.turn, .int .i64 c.hoist, .int .i64 c.queue, .int .i64 c.resend, .int .i64 c.budget, .bool c.back] (w.alloc (.cells #[.int .i64 c.W, .int .i64 c.H, .int .i64 c.height, vb, vp, .slice a3 c.robots.length cap3, vs, .int .i64 c.unit, .int .i64 c.accel, .int .i64 c.speed, .int .i64 c.turn, .int .i64 c.hoist, .int .i64 c.queue, .int .i64 c.resend, .int .i64 c.budget, .bool c.back] 26)) := ⟨below_new (Below.refl _ _) _, heap_alloc_new w _⟩
  have cM := mayR_call (hA.go hF Q0.below) (fun b hb => Nat.lt_of_lt_of_le (hF b hb) Q0.below.size) l1 l2 l3 l4 l5
  have HS : Hid (smallN c = (decide (c.W ≤ 6) && decide (c.H ≤ 6) && decide (c.budget ≤ 4000) && decide (c.unit ≤ 100) && decide (c.turn ≤ 200) && decide (c.hoist ≤ 200) && decide (c.robots.length ≤ 4))) := rfl
  clear hA l5
  generalize (newP c).isSome = MB at *
  obtain ⟨nR, hnR⟩ : ∃ n, c.robots.length = n := ⟨_, rfl⟩
  rw [hnR] at Q0 cM HS l3 ⊢
  clear hnR
  have x0 := cell_of Q0.a 0
  have x1 := cell_of Q0.a 1
  have x5 := cell_of Q0.a 5
  have x7 := cell_of Q0.a 7
  have x10 := cell_of Q0.a 10
  have x11 := cell_of Q0.a 11
  have x14 := cell_of Q0.a 14
  have b0 := Q0.below
  by_cases g0 : c.W ≤ 6
  rotate_left
  · have HT : Hid ((smallN c && MB) = false) := by show (smallN c && MB) = false; rw [HS.out]; simp; omega
    go_enter Try.func6, Try.ntmps6
    go_wp2
    go_ret
    exact ⟨_, rfl, congrArg Value.bool HT.out.symm, b0⟩
  by_cases g1 : c.H ≤ 6
  rotate_left
  · have HT : Hid ((smallN c && MB) = false) := by show (smallN c && MB) = false; rw [HS.out]; simp; omega
    go_enter Try.func6, Try.ntmps6
    go_wp2
    go_ret
    exact ⟨_, rfl, congrArg Value.bool HT.out.symm, b0⟩
  by_cases g2 : c.budget ≤ 4000
  rotate_left
  · have HT : Hid ((smallN c && MB) = false) := by show (smallN c && MB) = false; rw [HS.out]; simp; omega
    go_enter Try.func6, Try.ntmps6
    go_wp2
    go_ret
    exact ⟨_, rfl, congrArg Value.bool HT.out.symm, b0⟩
  by_cases g3 : c.unit ≤ 100
  rotate_left
  · have HT : Hid ((smallN c && MB) = false) := by show (smallN c && MB) = false; rw [HS.out]; simp; omega
    go_enter Try.func6, Try.ntmps6
    go_wp2
    go_ret
    exact ⟨_, rfl, congrArg Value.bool HT.out.symm, b0⟩
  by_cases g4 : c.turn ≤ 200
  rotate_left
  · have HT : Hid ((smallN c && MB) = false) := by show (smallN c && MB) = false; rw [HS.out]; simp; omega
    go_enter Try.func6, Try.ntmps6
    go_wp2
    go_ret
    exact ⟨_, rfl, congrArg Value.bool HT.out.symm, b0⟩
  by_cases g5 : c.hoist ≤ 200
  rotate_left
  · have HT : Hid ((smallN c && MB) = false) := by show (smallN c && MB) = false; rw [HS.out]; simp; omega
    go_enter Try.func6, Try.ntmps6
    go_wp2
    go_ret
    exact ⟨_, rfl, congrArg Value.bool HT.out.symm, b0⟩
  by_cases g6 : (nR : Int) ≤ 4
  rotate_left
  · have HT : Hid ((smallN c && MB) = false) := by show (smallN c && MB) = false; rw [HS.out]; simp; omega
    go_enter Try.func6, Try.ntmps6
    go_wp2
    go_ret
    exact ⟨_, rfl, congrArg Value.bool HT.out.symm, b0⟩
  have HT : Hid ((smallN c && MB) = MB) := by
    show (smallN c && MB) = MB
    have : smallN c = true := by rw [HS.out]; simp; omega
    rw [this, Bool.true_and]
  go_enter Try.func6, Try.ntmps6
  go_wp2_with (first
    | (refine wpList_load_row rfl 26 (.tmp 1) rfl w.heap.size rfl 26 #[.int .i64 c.W, .int .i64 c.H, .int .i64 c.height, vb, vp, .slice a3 nR cap3, vs, .int .i64 c.unit, .int .i64 c.accel, .int .i64 c.speed, .int .i64 c.turn, .int .i64 c.hoist, .int .i64 c.queue, .int .i64 c.resend, .int .i64 c.budget, .bool c.back] (0, 0) _ Q0.a Try.underlying26 rfl info_conf ?_)
    | (go_at_call 9; refine cM.mono ?_; rintro e w1 ⟨r1, rfl, rfl, b1⟩))
  go_ret
  exact ⟨_, rfl, congrArg Value.bool HT.out.symm, bcat b0 b1 (Nat.le_refl _)⟩
end Go.Proofs.Ytabbdclpjghdbaa.Dig
