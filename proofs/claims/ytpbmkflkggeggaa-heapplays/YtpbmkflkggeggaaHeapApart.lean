/-
  Several heaps, apart.
-/
import Derived.Test.YtpbmkflkggeggaaHeapPlace
namespace Go.Proofs.Ytpbmkflkggeggaa.Hp
set_option linter.unusedVariables false
set_option linter.unusedSimpArgs false
open Go Go.RowKit Go.Shelf Go.Proofs
attribute [local go_sem] Oper.semAt_some

def Apart (b : Nat) (v : Value) (b' : Nat) (v' : Value) : Prop := b ≠ b' ∧ v.ownBlock ≠ some b' ∧ v'.ownBlock ≠ some b ∧ ∀ k, v.ownBlock = some k → v'.ownBlock ≠ some k
theorem Apart.symm {b b' : Nat} {v v' : Value} (h : Apart b v b' v') : Apart b' v' b v := ⟨fun e => h.1 e.symm, h.2.2.1, h.2.1, fun k hk e => h.2.2.2 k e hk⟩
theorem Apart.turn {B b b' c' : Nat} {v v1 v' : Value} {w w' : World} {s' : List It} (h : Apart b v b' v') (t : Tn b v v1 w w') (h' : HpAt B w b' v' s' c') : Apart b v1 b' v' := by
  refine ⟨h.1, fun e => ?_, h.2.2.1, fun k hk e => ?_⟩
  · rcases t.own _ e with q | q
    · exact h.2.1 q
    · have := h'.lt; omega
  · rcases t.own _ hk with q | q
    · exact h.2.2.2 k q e
    · have := (h'.own k e).2.1; omega
theorem HpAt.aside {B b b' c' : Nat} {v v1 v' : Value} {w w' : World} {s' : List It} (h' : HpAt B w b' v' s' c') (t : Tn b v v1 w w') (h : Apart b v b' v') : HpAt B w' b' v' s' c' :=
  h'.same (t.block b' h'.lt (fun e => h.1 e.symm) h.2.1) fun k hk => t.block k (h'.own k hk).2.1 (fun e => h.2.2.1 (by rw [hk, e])) (fun e => h.2.2.2 k e hk)
/- A heap that is new is apart from what there was. -/
theorem apart_new {B b c : Nat} {v : Value} {w : World} {s : List It} (h : HpAt B w b v s c) : Apart b v w.heap.size (.slice none 0 0) :=
  ⟨by have := h.lt; omega, fun e => by have := (h.own _ e).2.1; omega, fun e => (by cases e), fun k _ e => by cases e⟩
end Go.Proofs.Ytpbmkflkggeggaa.Hp
