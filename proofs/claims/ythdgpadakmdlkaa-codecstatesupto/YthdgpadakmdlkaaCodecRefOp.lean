/-
  The chapter's own answer: an operation's bytes, bytes as an operation.
-/
import Derived.Test.YthdgpadakmdlkaaCodecRefRead
import Derived.Test.YthdgpadakmdlkaaCodecFace
import Derived.Deep.DeepCutAuto
namespace Go.Proofs.Ythdgpadakmdlkaa.Codec
set_option linter.unusedVariables false
set_option linter.unusedSimpArgs false
open Go Go.RowKit

theorem goes_below {b : Value} {w w' : World} (h : Below w.heap.size w w') : Goes b w b w' := ⟨⟨h.os, h.tape, h.output, h.size, fun k hk _ => h.block k hk⟩, fun g hg => Or.inl hg⟩
theorem drew_below4 (w : World) : Below w.heap.size w w.drew := below_drewN w 1
set_option maxHeartbeats 1000000 in
theorem refnum_any (w : World) (b : Value) (zs : List Int) (v : Int) (hm : Mine w b zs) (hv : I64 v) (hl : zs.length + 10 ≤ 140737488355328) :
    Calls Try.prog 33 #[b, .int .i64 v] w fun e w' => ∃ b', e = .returned b' ∧ Mine w' b' (zs ++ num v) ∧ Goes b w b' w' := by
  have c1 := fun u : World => refNumber_any v u hv
  have hN := num_len v
  generalize num v = NV at *
  go_enter Try.func33, Try.ntmps33
  go_wp2_with (first
    | (go_at_call 71; refine (c1 _).mono ?_; rintro e1 w1 ⟨b1, rfl, m1, B1, n1⟩; obtain ⟨a1, k1, rfl, r1, z1, l1, l2⟩ := m1.form)
    | (have X' := r1; at_builtin; refine wpList_append_mine rfl (.tmp 5) (.tmp 7) rfl _ zs rfl (hm.later B1) _ _ _ NV rfl r1 (fun h => (z1 h).2) (by omega) ?_; intro v2 w2 m2 g2))
  go_ret
  exact ⟨v2, rfl, m2, (goes_below B1).trans g2⟩

set_option maxHeartbeats 1000000 in
theorem rwhole_any (w : World) (R : Nat) (a : Option Addr) (cap : Nat) (zs : List Int) (k : Nat) (bad : Bool) (h : RR w R a cap zs k bad) :
    Calls Try.prog 30 #[.pointer (some ⟨R, 0, none⟩)] w fun e w' => e = .returned (.bool (!bad && decide (k = zs.length))) ∧ ∃ m, w' = w.drewN m := by
  have h1 := h.s
  have h2 := h.i
  have h3 := h.b
  generalize zs.length = L at *
  clear h
  cases bad with
  | true =>
    go_enter Try.func30, Try.ntmps30
    go_wp2
    go_quiet (fail)
    go_wp2
    go_ret
    exact ⟨rfl, nq, rfl⟩
  | false =>
    have HE : Hid ((!false && decide (k = L)) = ((k : Int) == (L : Int))) := by
      show (!false && decide (k = L)) = ((k : Int) == (L : Int))
      by_cases g : k = L
      · rw [g]; simp
      · rw [decide_eq_false g, beq_eq_false_iff_ne.2 (by omega)]; rfl
    rw [HE.out]
    clear HE
    go_enter Try.func30, Try.ntmps30
    go_wp2
    go_quiet (fail)
    go_wp2
    go_ret
    exact ⟨rfl, nq, rfl⟩
end Go.Proofs.Ythdgpadakmdlkaa.Codec
