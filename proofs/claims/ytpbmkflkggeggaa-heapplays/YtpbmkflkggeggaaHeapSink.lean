/-
  An item that sinks.
-/
import Derived.Test.YtpbmkflkggeggaaHeapAhead
namespace Go.Proofs.Ytpbmkflkggeggaa.Hp
set_option linter.unusedVariables false
set_option linter.unusedSimpArgs false
open Go Go.RowKit Go.Shelf Go.Proofs
attribute [local go_sem] Oper.semAt_some
/- The first of i and of those below it that were looked at. -/
def Least (l : List It) (i f k : Nat) : Prop := ∃ (hf : f < l.length) (hi : i < l.length), (f = i ∨ (0 < f ∧ (f - 1) / 2 = i ∧ Bf l[f] l[i])) ∧ ¬ Bf l[i] l[f] ∧ ∀ c (hc : c < l.length), 2 * i + 1 ≤ c → c < k → ¬ Bf l[c] l[f]
theorem least_start {l : List It} {i : Nat} (hi : i < l.length) : Least l i i (2 * i + 1) := ⟨hi, hi, Or.inl rfl, bf_irrefl _, fun c _ h1 h2 => by omega⟩
theorem least_yes {l : List It} {i f k : Nat} (h : Least l i f k) (hk : k < l.length) (hf : f < l.length) (k1 : 2 * i + 1 ≤ k) (k2 : k ≤ 2 * i + 2) (hb : Bf l[k] l[f]) : Least l i k (k + 1) := by
  obtain ⟨hf, hi, h1, h2, h3⟩ := h
  have hki : Bf l[k] l[i] := by
    rcases h1 with rfl | h1
    · exact hb
    · exact bf_trans hb h1.2.2
  refine ⟨hk, hi, Or.inr ⟨by omega, by omega, hki⟩, bf_asymm hki, fun c hc c1 c2 => ?_⟩
  by_cases e : c = k
  · subst e; exact bf_irrefl _
  · exact nbf_bf hb (h3 c hc c1 (by omega))
theorem least_no {l : List It} {i f k : Nat} (h : Least l i f k) (hk : k < l.length) (hf : f < l.length) (hb : ¬ Bf l[k] l[f]) : Least l i f (k + 1) := by
  obtain ⟨hf, hi, h1, h2, h3⟩ := h
  refine ⟨hf, hi, h1, h2, fun c hc c1 c2 => ?_⟩
  by_cases e : c = k
  · subst e; exact hb
  · exact h3 c hc c1 (by omega)
theorem least_all {l : List It} {i f k : Nat} (h : Least l i f k) (hk : k = 2 * i + 3 ∨ l.length ≤ k) (hf : f < l.length) : ∀ c (hc : c < l.length), 0 < c → (c - 1) / 2 = i → ¬ Bf l[c] l[f] := by
  obtain ⟨hf, hi, h1, h2, h3⟩ := h
  intro c hc h0 he
  exact h3 c hc (by omega) (by omega)
set_option maxHeartbeats 4000000 in
theorem sink_any (B b : Nat) (v : Value) (l : List It) (c : Nat) (w : World) (h : HAt B w b v l c) (hm : l.length ≤ 1000000) (i : Nat) (hi : i < l.length ∨ l = []) (hr : Sink l i) (hi0 : i ≤ 1000000) :
    Calls Try.prog 48 #[.pointer (some ⟨b, 0, none⟩), .int .i64 i] w fun e w' => e = .returned (.tuple #[]) ∧ ∃ l', HAt B w' b v l' c ∧ l'.Perm l ∧ Heap l' ∧ Tn b v v w w' := by
  have h0 : Hid (Sink l i ∧ HAt B w b v l c ∧ Tn b v v w w) := ⟨hr, h, Tn.refl _ _ _⟩
  clear h hr
  go_enter Try.func48, Try.ntmps48
  go_wp2
  go_loopw [1] (fun ix wr => ∃ (l1 : List It) (i1 : Nat), ix = .int .i64 i1 ∧ i1 ≤ 1000000 ∧ Hid (i1 < l1.length ∨ l1 = []) ∧ Hid (l1.Perm l) ∧ Hid (Sink l1 i1 ∧ HAt B wr b v l1 c ∧ Tn b v v w wr)) (fun ix wr => l.length - (intOf ix).toNat)
  case atStart => exact ⟨l, i, rfl, hi0, hi, List.Perm.refl _, h0⟩
  case round =>
    obtain ⟨l1, i1, rfl, hi2, hi1, hp, hh⟩ := hrel
    have hl1 : l1.length ≤ 1000000 := by rw [hp.out.length_eq]; exact hm
    have hle : l1.length = l.length := hp.out.length_eq
    obtain ⟨wo, rfl⟩ : ∃ wo, wo = wr := ⟨_, rfl⟩
    obtain ⟨va, vc, hv, _⟩ := own_form hh.out.2.1.row
    have HV : Hid (v = .slice va l1.length vc) := hv
    clear hv
    by_cases he : l1 = []
    · subst he
      have hit := hh.out.2.1.items
      rw [HV.out] at hit
      simp only [List.length_nil] at hit
      go_wp2
      go_loopw [4, 5] (fun f k wq => f = .int .i64 i1 ∧ k = .int .i64 (2 * (i1 : Int) + 1) ∧ wq = wo) (fun f k wq => 0)
      case atStart => exact ⟨rfl, rfl, rfl⟩
      case round =>
        obtain ⟨rfl, rfl, rfl⟩ := hrel
        have d1 : (2 * (i1 : Int) + 1 ≤ 2 * (i1 : Int) + 2) := by omega
        have d2 : ¬ (2 * (i1 : Int) + 1 < 0) := by omega
        go_wp2
        refine bodyPost_ret (results_none rfl _ _ _) rfl ?_
        exact ⟨rfl, [], hh.out.2.1, hp.out, fun j hj => by simp at hj, hh.out.2.2⟩
    · have hi3 : i1 < l1.length := by rcases hi1.out with q | q; exact q; exact (he q).elim
      clear hi1 he
      have HF : Hid (Least l1 i1 i1 (2 * i1 + 1)) := least_start hi3
      go_wp2
      go_loopw [4, 5] (fun f k wq => ∃ f1 k1 : Nat, f = .int .i64 f1 ∧ k = .int .i64 k1 ∧ f1 < l1.length ∧ 2 * i1 + 1 ≤ k1 ∧ k1 ≤ 2 * i1 + 3 ∧ Hid (Least l1 i1 f1 k1) ∧ Below wo.heap.size wo wq) (fun f k wq => 2 * i1 + 3 - (intOf k).toNat)
      case atStart => exact ⟨i1, 2 * i1 + 1, rfl, by go_num, hi3, Nat.le_refl _, by omega, HF, Below.refl _ _⟩
      case round =>
        obtain ⟨f1, k1, rfl, rfl, hf1, hk1, hk2, hL, bq⟩ := hrel
        have hA := hh.out.2.1.go bq
        have hit := hA.items
        rw [HV.out] at hit
        by_cases hk3 : k1 = 2 * i1 + 3
        · have hd : ∀ c (hc : c < l1.length), 0 < c → (c - 1) / 2 = i1 → ¬ Bf l1[c] l1[f1] := least_all hL.out (Or.inl hk3) hf1
          by_cases hfi : f1 = i1
          · subst hfi
            have HH : Hid (Heap l1) := sink_done hh.out.1 hd
            clear hd hL HF
            go_wp2
            refine bodyPost_ret (results_none rfl _ _ _) rfl ?_
            exact ⟨rfl, l1, hA, hp.out, HH.out, hh.out.2.2.then bq⟩
          · obtain ⟨g1, g2, g3⟩ : 0 < f1 ∧ (f1 - 1) / 2 = i1 ∧ Bf l1[f1] l1[i1] := by
              obtain ⟨_, _, q, _⟩ := hL.out
              rcases q with q | q
              · exact (hfi q).elim
              · exact q
            have HS : Hid (Sink (swp l1 i1 f1 hi3 hf1) f1) := sink_step hh.out.1 hi3 hf1 g1 g2 g3 hd
            have cS := swap_any B b _ l1 c wr hA i1 f1 hi3 hf1 (fun e => hfi e.symm)
            have hfi' : ((f1 : Int) == (i1 : Int)) = false := by rw [beq_eq_false_iff_ne]; omega
            clear hd hL HF g3
            go_wp2_with (go_at_call 47; refine cS.mono ?_; rintro e w3 ⟨rfl, h3, t3⟩)
            go_roundw
            case rel => exact ⟨swp l1 i1 f1 hi3 hf1, f1, rfl, by omega, Or.inl (by rw [swp_len]; exact hf1), (swp_perm l1 i1 f1 hi3 hf1).trans hp.out, HS.out, h3, (hh.out.2.2.then bq).trans t3⟩
            case measure => simp [intOf]; omega
        · by_cases hk4 : k1 < l1.length
          · have cA := ahead_any B b _ l1 c wr hA k1 f1 hk4 hf1
            rw [ahB_eq] at cA
            have d1 : (k1 : Int) ≤ 2 * (i1 : Int) + 2 := by omega
            have d2 : (k1 : Int) < (l1.length : Int) := by omega
            by_cases hb : Bf l1[k1] l1[f1]
            · rw [decide_eq_true hb] at cA
              have HL : Hid (Least l1 i1 k1 (k1 + 1)) := least_yes hL.out hk4 hf1 hk1 (by omega) hb
              clear hb hL HF hh
              go_wp2_with (go_at_call 46; refine cA.mono ?_; rintro e w2 ⟨rfl, b2⟩)
              go_roundw
              case rel => exact ⟨k1, k1 + 1, rfl, by go_num, hk4, by omega, by omega, HL.out, bcat bq b2⟩
              case measure => simp [intOf]; omega
            · rw [decide_eq_false hb] at cA
              have HL : Hid (Least l1 i1 f1 (k1 + 1)) := least_no hL.out hk4 hf1 hb
              clear hb hL HF hh
              go_wp2_with (go_at_call 46; refine cA.mono ?_; rintro e w2 ⟨rfl, b2⟩)
              go_roundw
              case rel => exact ⟨f1, k1 + 1, rfl, by go_num, hf1, by omega, by omega, HL.out, bcat bq b2⟩
              case measure => simp [intOf]; omega
          · have hd : ∀ c (hc : c < l1.length), 0 < c → (c - 1) / 2 = i1 → ¬ Bf l1[c] l1[f1] := least_all hL.out (Or.inr (by omega)) hf1
            have d1 : (k1 : Int) ≤ 2 * (i1 : Int) + 2 := by omega
            have d2 : ¬ (k1 : Int) < (l1.length : Int) := by omega
            by_cases hfi : f1 = i1
            · subst hfi
              have HH : Hid (Heap l1) := sink_done hh.out.1 hd
              clear hd hL HF
              go_wp2
              refine bodyPost_ret (results_none rfl _ _ _) rfl ?_
              exact ⟨rfl, l1, hA, hp.out, HH.out, hh.out.2.2.then bq⟩
            · obtain ⟨g1, g2, g3⟩ : 0 < f1 ∧ (f1 - 1) / 2 = i1 ∧ Bf l1[f1] l1[i1] := by
                obtain ⟨_, _, q, _⟩ := hL.out
                rcases q with q | q
                · exact (hfi q).elim
                · exact q
              have HS : Hid (Sink (swp l1 i1 f1 hi3 hf1) f1) := sink_step hh.out.1 hi3 hf1 g1 g2 g3 hd
              have cS := swap_any B b _ l1 c wr hA i1 f1 hi3 hf1 (fun e => hfi e.symm)
              have hfi' : ((f1 : Int) == (i1 : Int)) = false := by rw [beq_eq_false_iff_ne]; omega
              clear hd hL HF g3
              go_wp2_with (go_at_call 47; refine cS.mono ?_; rintro e w3 ⟨rfl, h3, t3⟩)
              go_roundw
              case rel => exact ⟨swp l1 i1 f1 hi3 hf1, f1, rfl, by omega, Or.inl (by rw [swp_len]; exact hf1), (swp_perm l1 i1 f1 hi3 hf1).trans hp.out, HS.out, h3, (hh.out.2.2.then bq).trans t3⟩
              case measure => simp [intOf]; omega
end Go.Proofs.Ytpbmkflkggeggaa.Hp
