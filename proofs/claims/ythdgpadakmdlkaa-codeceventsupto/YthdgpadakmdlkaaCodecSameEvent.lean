/-
  The law's SameEvent, over two like events.
-/
import Derived.Test.YthdgpadakmdlkaaCodecCopyEvent
namespace Go.Proofs.Ythdgpadakmdlkaa.Codec
set_option linter.unusedVariables false
set_option linter.unusedSimpArgs false
open Go Go.RowKit

set_option maxRecDepth 100000 in
set_option maxHeartbeats 4000000 in
theorem sameEvent_same (w : World) (x : TEvent) (cs ds : Array Value) (F G : Nat → Prop) (hx : eventEl F x cs w) (hy : eventEl G x ds w) (hF : ∀ g, F g → g < w.heap.size) (hG : ∀ g, G g → g < w.heap.size) (hn : x.2.2.2.2.length ≤ 140737488355328) :
    Calls Try.prog 12 #[.agg cs, .agg ds] w fun e w' => e = .returned (.bool true) ∧ Below w.heap.size w w' := by
  obtain ⟨k, a0, b0, ⟨⟨px, py⟩, d⟩, xs⟩ := x
  obtain ⟨v, rfl, l1⟩ := hx
  obtain ⟨u, rfl, l2⟩ := hy
  dsimp only at l1 l2 hn ⊢
  have B : Below w.heap.size w ((w.alloc (.cells #[.int .i64 k, .int .i64 a0, .int .i64 b0, .int .i64 px, .int .i64 py, .bool d, v] 28)).alloc (.cells #[.int .i64 k, .int .i64 a0, .int .i64 b0, .int .i64 px, .int .i64 py, .bool d, u] 28)) := ((Below.refl _ _).alloc (Nat.le_refl _) _).alloc (by simp) _
  have cS := sameMoves_same F G v u xs _ (l1.stable heldMoveEl fun g hg => B.block g (hF g hg)) (l2.stable heldMoveEl fun g hg => B.block g (hG g hg)) hn
  obtain ⟨va, vc, rfl, _⟩ := l1.form
  obtain ⟨ua, uc, rfl, _⟩ := l2.form
  clear l1 l2
  go_enter Try.func12, Try.ntmps12
  go_wp2_with (first
    | (refine wpIn_wide.2 ?_; go_at_call 34; refine cS.mono ?_; rintro e1 w1 ⟨rfl, b1⟩)
    | (go_at_call 34; refine cS.mono ?_; rintro e1 w1 ⟨rfl, b1⟩))
  go_ret
  exact ⟨rfl, bcat B b1 (Nat.le_refl _)⟩
end Go.Proofs.Ythdgpadakmdlkaa.Codec
