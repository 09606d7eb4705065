/-
  What the laws over a config share: a copy of it, its grid, whether it may be.
  Whether a config is small.
-/
import Derived.Test.YtedhoghleelhfaaGreatPGridRef10
import Derived.Test.YtedhoghleelhfaaGreatPRgJ
import Derived.BigQuiet
namespace Go.Proofs.YtedhoghleelhfaaGreat.Grid
set_option linter.unusedVariables false
set_option linter.unusedSimpArgs false
open Go Go.RowKit Go.Shelf Go.Proofs
attribute [local go_sem] Oper.semAt_some

section
variable {F : Nat → Prop} {c : Conf} {v1 v2 v3 v4 : Value} {w : World} (hA : ConfAt F c v1 v2 v3 v4 w) (hF : ∀ b, F b → b < w.heap.size) (l1 : c.blocked.length ≤ 8796093022208) (l2 : c.ports.length ≤ 8796093022208) (l3 : c.robots.length ≤ 5864062014805) (l4 : c.stacks.length ≤ 3518437208880)
include hA hF l1 l2 l3 l4
theorem new_no (h : newP c = none) : Calls Tryz.prog 14 #[.agg #[.int .i64 c.W, .int .i64 c.H, .int .i64 c.height, v1, v2, v3, v4, .int .i64 c.unit, .int .i64 c.accel, .int .i64 c.speed, .int .i64 c.turn, .int .i64 c.hoist, .int .i64 c.queue, .int .i64 c.resend, .int .i64 c.budget, .bool c.back]] w fun e w' => e = .returned (.tuple #[.pointer none, .int .i64 5]) ∧ Below w.heap.size w w' :=
  (new_any F #[.int .i64 c.W, .int .i64 c.H, .int .i64 c.height, v1, v2, v3, v4, .int .i64 c.unit, .int .i64 c.accel, .int .i64 c.speed, .int .i64 c.turn, .int .i64 c.hoist, .int .i64 c.queue, .int .i64 c.resend, .int .i64 c.budget, .bool c.back] c v1 v2 v3 v4 w (cells_conf _ _ _ _ _) hA hF (by omega) (by omega) (by omega) (by omega)).mono fun e w' q => by
    rcases q with ⟨b, ⟨G, g, u, v', q1, _⟩ | ⟨_, q2⟩⟩
    · rw [h] at q1; cases q1
    · exact ⟨q2, b⟩
theorem new_yes {G : GS} (h : newP c = some G) : Calls Tryz.prog 14 #[.agg #[.int .i64 c.W, .int .i64 c.H, .int .i64 c.height, v1, v2, v3, v4, .int .i64 c.unit, .int .i64 c.accel, .int .i64 c.speed, .int .i64 c.turn, .int .i64 c.hoist, .int .i64 c.queue, .int .i64 c.resend, .int .i64 c.budget, .bool c.back]] w fun e w' => ∃ g u v', e = .returned (.tuple #[.pointer (some ⟨g, 0, none⟩), .int .i64 0]) ∧ GridAt w' g u c.W c.H G.uses v' ∧ w.heap.size ≤ g ∧ w.heap.size ≤ u ∧ w'.ownsRow w.heap.size 40 2 v' c.ports.length (rowL cellL c.ports) ∧ Below w.heap.size w w' :=
  (new_any F #[.int .i64 c.W, .int .i64 c.H, .int .i64 c.height, v1, v2, v3, v4, .int .i64 c.unit, .int .i64 c.accel, .int .i64 c.speed, .int .i64 c.turn, .int .i64 c.hoist, .int .i64 c.queue, .int .i64 c.resend, .int .i64 c.budget, .bool c.back] c v1 v2 v3 v4 w (cells_conf _ _ _ _ _) hA hF (by omega) (by omega) (by omega) (by omega)).mono fun e w' q => by
    rcases q with ⟨b, ⟨G', g, u, v', q1, q2, q3, q4, q5, q6⟩ | ⟨q1, _⟩⟩
    · rw [h] at q1; cases q1; exact ⟨g, u, v', q2, q3, q4, q5, q6, b⟩
    · rw [h] at q1; cases q1
end
theorem since_lt {W : World} {n : Nat} : ∀ b, Since n W b → b < W.heap.size := fun b h => h.2
end Go.Proofs.YtedhoghleelhfaaGreat.Grid
namespace Go.Proofs.YtedhoghleelhfaaGreat.Dig
set_option linter.unusedVariables false
set_option linter.unusedSimpArgs false
open Go Go.RowKit Go.Shelf Go.Proofs Go.Proofs.YtedhoghleelhfaaGreat.Grid
attribute [local go_sem] Oper.semAt_some

end Go.Proofs.YtedhoghleelhfaaGreat.Dig
