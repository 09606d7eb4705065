/-
  An item that rises, an item that sinks.
-/
import Derived.Test.YtpbmkflkggeggaaHeapAhead
namespace Go.Proofs.Ytpbmkflkggeggaa.Hp
set_option linter.unusedVariables false
set_option linter.unusedSimpArgs false
open Go Go.RowKit Go.Shelf Go.Proofs
attribute [local go_sem] Oper.semAt_some
set_option maxHeartbeats 2000000 in
theorem rise_any (B b : Nat) (v : Value) (l : List It) (c : Nat) (w : World) (h : HAt B w b v l c) (hm : l.length ≤ 1000000) (i : Nat) (hi : i < l.length) (hr : Rise l i) :
    Calls Try.prog 37 #[.pointer (some ⟨b, 0, none⟩), .int .i64 i] w fun e w' => e = .returned (.tuple #[]) ∧ ∃ l', HAt B w' b v l' c ∧ l'.Perm l ∧ Heap l' ∧ Tn b v v w w' := by
  have h0 : Hid (Rise l i ∧ HAt B w b v l c ∧ Tn b v v w w) := ⟨hr, h, Tn.refl _ _ _⟩
  clear h hr
  go_enter Try.func37, Try.ntmps37
  go_wp2
  go_loopw [1] (fun ix wr => ∃ (l1 : List It) (i1 : Nat), ix = .int .i64 i1 ∧ i1 < l1.length ∧ Hid (l1.Perm l) ∧ Hid (Rise l1 i1 ∧ HAt B wr b v l1 c ∧ Tn b v v w wr)) (fun ix wr => (intOf ix).toNat)
  case atStart => exact ⟨l, i, rfl, hi, List.Perm.refl _, h0⟩
  case round =>
    obtain ⟨l1, i1, rfl, hi1, hp, hh⟩ := hrel
    have hl1 : l1.length ≤ 1000000 := by rw [hp.out.length_eq]; exact hm
    by_cases hz : i1 = 0
    · subst hz
      go_wp2
      go_end0
      exact ⟨rfl, l1, hh.out.2.1, hp.out, rise_done hh.out.1 hi1 (Or.inl rfl), hh.out.2.2⟩
    · obtain ⟨p, hpe⟩ : ∃ p, (i1 - 1) / 2 = p := ⟨_, rfl⟩
      have hpi : ((i1 : Int) - 1) / 2 = (p : Int) := by omega
      have hp1 : p < i1 := by omega
      have hpl : p < l1.length := by omega
      have cA := ahead_any B b v l1 c wr hh.out.2.1 i1 p hi1 hpl
      rw [ahB_eq] at cA
      by_cases hb : Bf l1[i1] l1[p]
      · rw [decide_eq_true hb] at cA
        have cS := fun (w2 : World) (b2 : Below wr.heap.size wr w2) => swap_any B b v l1 c w2 (hh.out.2.1.go b2) i1 p hi1 hpl (by omega)
        have HB : Hid (Rise (swp l1 i1 p hi1 hpl) p) := rise_step hh.out.1 hi1 (by omega) hpe hpl hb
        clear hb hpe
        go_wp2_with (first
          | (go_at_call 46; try rw [hpi]; refine cA.mono ?_; rintro e w2 ⟨rfl, b2⟩)
          | (go_at_call 47; refine (cS _ b2).mono ?_; rintro e w3 ⟨rfl, h3, t3⟩))
        try rw [hpi]
        go_roundw
        case rel => exact ⟨swp l1 i1 p hi1 hpl, p, rfl, by rw [swp_len]; exact hpl, (swp_perm l1 i1 p hi1 hpl).trans hp.out, HB.out, h3, (hh.out.2.2.then b2).trans t3⟩
        case measure => simp [intOf]; omega
      · rw [decide_eq_false hb] at cA
        have HB : Hid (Heap l1) := by
          refine rise_done hh.out.1 hi1 (Or.inr ?_)
          simp only [hpe]
          exact hb
        clear hb hpe
        go_wp2_with (go_at_call 46; try rw [hpi]; refine cA.mono ?_; rintro e w2 ⟨rfl, b2⟩)
        refine bodyPost_ret (results_none rfl _ _ _) rfl ?_
        exact ⟨rfl, l1, hh.out.2.1.go b2, hp.out, HB.out, hh.out.2.2.then b2⟩
end Go.Proofs.Ytpbmkflkggeggaa.Hp
