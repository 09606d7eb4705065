/-
  What each call of package tick answers in the model, for every pair of numbers: contracts over the plain functions; memory is at most new blocks.
-/
import Derived.Test.YtdplacpdbknlgaaChecked
import Derived.Test.YtdplacpdbknlgaaTickPlain
import Derived.WalkKit
import Derived.ProofKit
import Derived.OpenShut
import Derived.BigQuiet
import Derived.Deep.QuietTactic
import Derived.WalkSmall
namespace Go.Proofs.Ytdplacpdbknlgaa.Tick
open Go.RowKit
open Plain

/- Nothing old has turned, and what is frozen stays as it was. -/
structure Kept (w w' : World) : Prop where
  below : Below w.heap.size w w'
  froz : ∀ a, w'.frozen? a = w.frozen? a

theorem Kept.refl (w : World) : Kept w w := ⟨Below.refl _ _, fun _ => rfl⟩
theorem Kept.trans {a b c : World} (h : Kept a b) (k : Kept b c) : Kept a c :=
  ⟨h.below.trans (k.below.mono h.below.size), fun x => (k.froz x).trans (h.froz x)⟩
theorem Kept.onto {a b c : World} (k : Kept b c) (h : Kept a b) : Kept a c := h.trans k
theorem Kept.alloc {a w : World} (h : Kept a w) (c : Array Value) (t : TypeId) : Kept a (w.alloc (.cells c t)) :=
  ⟨h.below.alloc h.below.size _, fun x => (frozen?_alloc_cells _ _ _ x).trans (h.froz x)⟩
theorem Kept.setCell {a w : World} (h : Kept a w) {p : Addr} (hp : a.heap.size ≤ p.block) (u : Value) : Kept a (w.setCell p u) :=
  ⟨h.below.setCell hp _, fun x => (World.frozen?_setCell _ _ _ _).trans (h.froz x)⟩
theorem Kept.drew {a w : World} (h : Kept a w) : Kept a w.drew := ⟨h.below.drew, h.froz⟩
theorem Kept.drewN {a w : World} (h : Kept a w) (n : Nat) : Kept a (w.drewN n) := ⟨below_drewN h.below n, h.froz⟩
theorem Kept.grown {w w' : World} (h : Kept w w') : Grown w w' := ⟨h.below.frame _, h.froz, h.below.size⟩

/- The end of a walk behind one call of cutBoth. -/
theorem wrap_in {n : Int} (h : 0 ≤ n) (k : n ≤ 4611686018427387904) : wrap64 n = n := by unfold wrap64; omega
theorem ret_int {k : IntKind} {a b : Int} (h : a = b) : Ending.returned (.int k a) = .returned (.int k b) := by rw [h]

end Go.Proofs.Ytdplacpdbknlgaa.Tick
