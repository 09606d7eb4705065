/-
  Whether a config may be.
-/
import Derived.Test.YtkamjbpjfgehjaaGridAwake
namespace Go.Proofs.Ytkamjbpjfgehjaa.Grid
set_option linter.unusedVariables false
set_option linter.unusedSimpArgs false
open Go Go.RowKit Go.Shelf Go.Proofs

set_option maxRecDepth 100000 in
set_option maxHeartbeats 2000000 in
theorem may_any (F : Nat → Prop) (cs : Array Value) (c : Conf) (vb vp vr vs : Value) (w : World) (hC : Cells cs c vb vp vr vs) (hA : ConfAt F c vb vp vr vs w) (hF : ∀ b, F b → b < w.heap.size)
    (hmb : c.blocked.length ≤ 9223372036854775807) (hmp : c.ports.length ≤ 9223372036854775807) (hmr : c.robots.length ≤ 9223372036854775807) (hms : c.stacks.length ≤ 9223372036854775807) :
    Calls Try.prog 22 #[.agg cs] w fun e w' => e = .returned (.bool (newP c).isSome) ∧ Below w.heap.size w w' := by
  have i0 : (Try.prog.info? 26).map (·.size) = some cs.size := by rw [hC.size]; exact info_conf
  have eH := heap_alloc_new w (.cells cs 26)
  have cN := new_any F cs c vb vp vr vs (w.alloc (.cells cs 26)) hC (hA.go hF (below_new (Below.refl _ _) _)) (fun b hb => by have := hF b hb; simp; omega) hmb hmp hmr hms
  generalize newP c = R at *
  clear hC hA
  cases R with
  | none =>
    go_enter Try.func22, Try.ntmps22
    go_wp2_with (first
      | (refine wpList_load_row rfl 26 (.tmp 1) rfl w.heap.size rfl 26 cs (0, 0) _ eH Try.underlying26 rfl i0 ?_)
      | (go_at_call 19; refine cN.mono ?_; rintro e w1 ⟨b1, ⟨G, g, u, v', q1, _⟩ | ⟨_, rfl⟩⟩; exact absurd q1 (by simp)))
    go_ret
    exact ⟨rfl, bcat (below_new (Below.refl _ _) _) b1 (Nat.le_refl _)⟩
  | some G0 =>
    go_enter Try.func22, Try.ntmps22
    go_wp2_with (first
      | (refine wpList_load_row rfl 26 (.tmp 1) rfl w.heap.size rfl 26 cs (0, 0) _ eH Try.underlying26 rfl i0 ?_)
      | (go_at_call 19; refine cN.mono ?_; rintro e w1 ⟨b1, ⟨G, g, u, v', q1, rfl, _⟩ | ⟨q1, _⟩⟩; rotate_left; exact absurd q1 (by simp)))
    go_ret
    exact ⟨rfl, bcat (below_new (Below.refl _ _) _) b1 (Nat.le_refl _)⟩
theorem new_empty (c : Conf) (h1 : c.blocked = []) (h2 : c.ports = []) (h3 : c.robots = []) (h4 : c.stacks = []) : (newP c).isSome = limited c := by
  cases hl : limited c
  · unfold newP
    rw [if_neg (by rw [hl]; decide)]
    rfl
  · cases e : newP c with
    | some G => rfl
    | none =>
      refine absurd ?_ (new_none e)
      unfold mayR homes mayBeP
      rw [h1, h2, h3, h4]
      simp [hl]
end Go.Proofs.Ytkamjbpjfgehjaa.Grid
