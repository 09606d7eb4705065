/-
  Both disks tell alike.
-/
import Derived.Test.YtnifpfkemjolkaaDiskBoth
namespace Go.Proofs.Ytnifpfkemjolkaa.Disk
set_option linter.unusedVariables false
set_option linter.unusedSimpArgs false
open Go Go.RowKit
attribute [local go_sem ↓] Go.wp_at_zero Go.wp_at_succ

theorem Both.lone {W w : World} {P : Nat → Prop} {D E : Nat} {σ τ : St} {m : Nat} (h : Both W w P D E σ τ m) : Lone W w D σ m := by
  obtain ⟨own, own2, h1, h2, h3, h4, h5⟩ := h.both
  exact ⟨⟨own, h1, fun k hk => (h3 k hk).1⟩, h.below⟩
theorem rread_step {W w : World} {P : Nat → Prop} {D E : Nat} {σ : St} {m : Nat} (h : Both W w P D E σ σ m) (hm : m < 262143) (f : Int) (zs : List Int) (n : Nat) (hz : readOf σ f = zs) (hn : zs.length = n) : Calls Try.prog 21 #[.pointer (some ⟨E, 0, none⟩), .int .i64 f] w fun e w' => ∃ v, e = .returned v ∧ ∃ a' cap', v = .slice a' n cap' ∧ Row w' a' n zs ∧ Below w.heap.size w w' := by
  subst hz
  subst hn
  have hs := h.lone.small f
  obtain ⟨own, own2, h1, h2, h3, h4, h5⟩ := h.both
  exact (rread_any E w own2 σ m h2 (by omega) f).mono fun e w' ⟨a', cap', he, ho, hb⟩ => ⟨_, he, a', cap', rfl, (owns_row ho hs).1, hb⟩
theorem size_step {W w : World} {P : Nat → Prop} {D E : Nat} {σ : St} {m : Nat} (h : Both W w P D E σ σ m) (f : Int) (n : Nat) (hn : (readOf σ f).length = n) : Calls Try.prog 22 #[.pointer (some ⟨D, 0, none⟩), .int .i64 f] w fun e w' => ∃ v, e = .returned v ∧ v = .int .i64 n ∧ w' = w := by
  subst hn
  exact (lone_size h.lone f).mono fun e w' ⟨he, hw⟩ => ⟨_, he, rfl, hw⟩
theorem rsize_step {W w : World} {P : Nat → Prop} {D E : Nat} {σ : St} {m : Nat} (h : Both W w P D E σ σ m) (hm : m < 262143) (f : Int) (n : Nat) (hn : (readOf σ f).length = n) : Calls Try.prog 23 #[.pointer (some ⟨E, 0, none⟩), .int .i64 f] w fun e w' => ∃ v, e = .returned v ∧ v = .int .i64 n ∧ Below w.heap.size w w' := by
  subst hn
  obtain ⟨own, own2, h1, h2, h3, h4, h5⟩ := h.both
  exact (rsize_any E w own2 σ m h2 (by omega) f).mono fun e w' ⟨he, hw⟩ => ⟨_, he, rfl, hw⟩
theorem rpending_step {W w : World} {P : Nat → Prop} {D E : Nat} {σ : St} {m : Nat} (h : Both W w P D E σ σ m) (f : Int) (n : Nat) (hn : pendOf σ f = n) : Calls Try.prog 24 #[.pointer (some ⟨E, 0, none⟩), .int .i64 f] w fun e w' => ∃ v, e = .returned v ∧ v = .int .i64 n ∧ w' = w := by
  subst hn
  obtain ⟨own, own2, h1, h2, h3, h4, h5⟩ := h.both
  exact (rpending_any E w own2 σ m h2 f).mono fun e w' ⟨he, hw⟩ => ⟨_, he, rfl, hw⟩

set_option maxRecDepth 100000 in
set_option maxHeartbeats 4000000 in
theorem same_any {W w : World} {P : Nat → Prop} {D E : Nat} {σ : St} {m : Nat} (h : Both W w P D E σ σ m) (hm : m < 262143) : Calls Try.prog 8 #[.pointer (some ⟨D, 0, none⟩), .pointer (some ⟨E, 0, none⟩)] w fun e w' => e = .returned (.bool true) ∧ Below w.heap.size w w' := by
  go_enter Try.func8, Try.ntmps8
  go_wp2_with fail
  go_loopw [5] (fun i wr => ∃ f : Int, -1 ≤ f ∧ f ≤ 3 ∧ i = .int .i64 f ∧ Below w.heap.size w wr) (fun i _ => (3 - intOf i).toNat)
  case atStart => exact ⟨-1, by decide, by decide, rfl, Below.refl _ _⟩
  case round =>
    obtain ⟨f, hf0, hf1, rfl, hbr⟩ := hrel
    by_cases hlt : f < 3
    · have hB := (h.later hbr).drew
      obtain ⟨A, hA⟩ : ∃ A, readOf σ f = A := ⟨_, rfl⟩
      obtain ⟨l, hAl⟩ : ∃ l, A.length = l := ⟨_, rfl⟩
      obtain ⟨s, hs⟩ : ∃ s, strOfNums A = s := ⟨_, rfl⟩
      obtain ⟨q, hq⟩ : ∃ q, pendOf σ f = q := ⟨_, rfl⟩
      have hAn : (readOf σ f).length = l := by rw [hA]; exact hAl
      go_wp2_with fail
      · have hS := (Since.refl wr).drew
        refine start_since 27 rfl (by kernel_rfl) ?_
        refine take_since 0 (by assumption) rfl (by kernel_rfl) (by kernel_rfl) (by kernel_rfl) (fun _ _ _ h => h) (by kernel_rfl) (v := ?v0) ?y0 ?r0
        case y0 => (intro u hu; go_simp; try rfl)
        simp only [Act.put, List.setIfInBounds_toArray, List.set_cons_zero, List.set_cons_succ]
        refine take_since 1 (by assumption) rfl (by kernel_rfl) (by kernel_rfl) (by kernel_rfl) (fun _ _ _ h => h) (by kernel_rfl) (v := ?v1) ?y1 ?r1
        case y1 => (intro u hu; go_simp; try rfl)
        simp only [Act.put, List.setIfInBounds_toArray, List.set_cons_zero, List.set_cons_succ]
        refine take_since 4 (by assumption) rfl (by kernel_rfl) (by kernel_rfl) (by kernel_rfl) (fun _ _ _ h => h) (by kernel_rfl) (v := ?v2) ?y2 ?r2
        case y2 => (intro u hu; go_simp; try rfl)
        simp only [Act.put, List.setIfInBounds_toArray, List.set_cons_zero, List.set_cons_succ]
        refine take_since 5 (by assumption) rfl (by kernel_rfl) (by kernel_rfl) (by kernel_rfl) (fun _ _ _ h => h) (by kernel_rfl) (v := ?v3) ?y3 ?r3
        case y3 => (intro u hu; go_simp; try rfl)
        simp only [Act.put, List.setIfInBounds_toArray, List.set_cons_zero, List.set_cons_succ]
        refine wpAnyH_ready (rs := [2]) (by kernel_rfl) (by simp) (AllReadyH.cons ((nth_eq _ 2).trans rfl) ?_ AllReadyH.nil)
        intro K' hK
        refine call_in hK (by kernel_rfl) 14 #[.pointer (some ⟨D, 0, none⟩), .int .i64 f] (by go_simp) _ (read_step hB.lone (by omega) f A l hA hAl) ?_
        rintro v w1 ⟨a1, cap1, rfl, hr1, hb1⟩
        refine ⟨hS.on hb1, rebase (hS.on hb1) ?_⟩
        simp only [Act.put, List.setIfInBounds_toArray, List.set_cons_zero, List.set_cons_succ]
        have hB1 := hB.later hb1
        have k1 : ∀ u, Since w1 u → (convert 28 9 (.slice a1 l cap1)).run Try.prog u = .ok (.string s) u := fun u hu => by have := conv_row (hr1.after hu) cap1; rwa [hs] at this
        have hS1 := Since.refl w1
        refine take_since 3 (by assumption) rfl (by kernel_rfl) (by kernel_rfl) (by kernel_rfl) (fun _ _ _ h => h) (by kernel_rfl) (v := ?v4) ?y4 ?r4
        case y4 => (intro u hu; have := k1 u hu; go_simp; try rfl)
        simp only [Act.put, List.setIfInBounds_toArray, List.set_cons_zero, List.set_cons_succ]
        refine wpAnyH_ready (rs := [6]) (by kernel_rfl) (by simp) (AllReadyH.cons ((nth_eq _ 6).trans rfl) ?_ AllReadyH.nil)
        intro K' hK
        refine call_in hK (by kernel_rfl) 21 #[.pointer (some ⟨E, 0, none⟩), .int .i64 f] (by go_simp) _ (rread_step hB1 (by omega) f A l hA hAl) ?_
        rintro v w2 ⟨a2, cap2, rfl, hr2, hb2⟩
        refine ⟨hS1.on hb2, rebase (hS1.on hb2) ?_⟩
        simp only [Act.put, List.setIfInBounds_toArray, List.set_cons_zero, List.set_cons_succ]
        have hB2 := hB1.later hb2
        have k2 : ∀ u, Since w2 u → (convert 28 9 (.slice a2 l cap2)).run Try.prog u = .ok (.string s) u := fun u hu => by have := conv_row (hr2.after hu) cap2; rwa [hs] at this
        have hS2 := Since.refl w2
        refine take_since 7 (by assumption) rfl (by kernel_rfl) (by kernel_rfl) (by kernel_rfl) (fun _ _ _ h => h) (by kernel_rfl) (v := ?v5) ?y5 ?r5
        case y5 => (intro u hu; have := k2 u hu; go_simp; try rfl)
        simp only [Act.put, List.setIfInBounds_toArray, List.set_cons_zero, List.set_cons_succ]
        refine take_since 8 (by assumption) rfl (by kernel_rfl) (by kernel_rfl) (by kernel_rfl) (fun _ _ _ h => h) (by kernel_rfl) (v := .bool false) ?y6 ?r6
        case y6 => (intro u hu; first | (go_simp; done) | (go_simp; rfl) | (go_simp; simp))
        simp only [Act.put, List.setIfInBounds_toArray, List.set_cons_zero, List.set_cons_succ]
        refine take_since 9 (by assumption) rfl (by kernel_rfl) (by kernel_rfl) (by kernel_rfl) (fun _ _ _ h => h) (by kernel_rfl) (v := ?v7) ?y7 ?r7
        case y7 => (intro u hu; go_simp; try rfl)
        simp only [Act.put, List.setIfInBounds_toArray, List.set_cons_zero, List.set_cons_succ]
        refine take_since 10 (by assumption) rfl (by kernel_rfl) (by kernel_rfl) (by kernel_rfl) (fun _ _ _ h => h) (by kernel_rfl) (v := ?v8) ?y8 ?r8
        case y8 => (intro u hu; go_simp; try rfl)
        simp only [Act.put, List.setIfInBounds_toArray, List.set_cons_zero, List.set_cons_succ]
        refine take_since 11 (by assumption) rfl (by kernel_rfl) (by kernel_rfl) (by kernel_rfl) (fun _ _ _ h => h) (by kernel_rfl) (v := ?v9) ?y9 ?r9
        case y9 => (intro u hu; go_simp; try rfl)
        simp only [Act.put, List.setIfInBounds_toArray, List.set_cons_zero, List.set_cons_succ]
        refine take_since 13 (by assumption) rfl (by kernel_rfl) (by kernel_rfl) (by kernel_rfl) (fun _ _ _ h => h) (by kernel_rfl) (v := ?v10) ?y10 ?r10
        case y10 => (intro u hu; go_simp; try rfl)
        simp only [Act.put, List.setIfInBounds_toArray, List.set_cons_zero, List.set_cons_succ]
        refine take_since 14 (by assumption) rfl (by kernel_rfl) (by kernel_rfl) (by kernel_rfl) (fun _ _ _ h => h) (by kernel_rfl) (v := ?v11) ?y11 ?r11
        case y11 => (intro u hu; go_simp; try rfl)
        simp only [Act.put, List.setIfInBounds_toArray, List.set_cons_zero, List.set_cons_succ]
        refine wpAnyH_ready (rs := [12]) (by kernel_rfl) (by simp) (AllReadyH.cons ((nth_eq _ 12).trans rfl) ?_ AllReadyH.nil)
        intro K' hK
        refine call_in hK (by kernel_rfl) 22 #[.pointer (some ⟨D, 0, none⟩), .int .i64 f] (by go_simp) _ (size_step hB2 f l hAn) ?_
        rintro v w3 ⟨rfl, rfl⟩
        refine ⟨hS2, ?_⟩
        simp only [Act.put, List.setIfInBounds_toArray, List.set_cons_zero, List.set_cons_succ]
        refine wpAnyH_ready (rs := [15]) (by kernel_rfl) (by simp) (AllReadyH.cons ((nth_eq _ 15).trans rfl) ?_ AllReadyH.nil)
        intro K' hK
        refine call_in hK (by kernel_rfl) 23 #[.pointer (some ⟨E, 0, none⟩), .int .i64 f] (by go_simp) _ (rsize_step hB2 (by omega) f l hAn) ?_
        rintro v w4 ⟨rfl, hb4⟩
        refine ⟨hS2.on hb4, rebase (hS2.on hb4) ?_⟩
        simp only [Act.put, List.setIfInBounds_toArray, List.set_cons_zero, List.set_cons_succ]
        have hB4 := hB2.later hb4
        have hS4 := Since.refl w4
        refine take_since 16 (by assumption) rfl (by kernel_rfl) (by kernel_rfl) (by kernel_rfl) (fun _ _ _ h => h) (by kernel_rfl) (v := .bool false) ?y12 ?r12
        case y12 => (intro u hu; first | (go_simp; done) | (go_simp; rfl) | (go_simp; simp))
        simp only [Act.put, List.setIfInBounds_toArray, List.set_cons_zero, List.set_cons_succ]
        refine take_since 17 (by assumption) rfl (by kernel_rfl) (by kernel_rfl) (by kernel_rfl) (fun _ _ _ h => h) (by kernel_rfl) (v := .bool false) ?y13 ?r13
        case y13 => (intro u hu; first | (go_simp; done) | (go_simp; rfl) | (go_simp; simp))
        simp only [Act.put, List.setIfInBounds_toArray, List.set_cons_zero, List.set_cons_succ]
        refine take_since 18 (by assumption) rfl (by kernel_rfl) (by kernel_rfl) (by kernel_rfl) (fun _ _ _ h => h) (by kernel_rfl) (v := ?v14) ?y14 ?r14
        case y14 => (intro u hu; go_simp; try rfl)
        simp only [Act.put, List.setIfInBounds_toArray, List.set_cons_zero, List.set_cons_succ]
        refine take_since 19 (by assumption) rfl (by kernel_rfl) (by kernel_rfl) (by kernel_rfl) (fun _ _ _ h => h) (by kernel_rfl) (v := ?v15) ?y15 ?r15
        case y15 => (intro u hu; go_simp; try rfl)
        simp only [Act.put, List.setIfInBounds_toArray, List.set_cons_zero, List.set_cons_succ]
        refine take_since 20 (by assumption) rfl (by kernel_rfl) (by kernel_rfl) (by kernel_rfl) (fun _ _ _ h => h) (by kernel_rfl) (v := ?v16) ?y16 ?r16
        case y16 => (intro u hu; go_simp; try rfl)
        simp only [Act.put, List.setIfInBounds_toArray, List.set_cons_zero, List.set_cons_succ]
        refine take_since 22 (by assumption) rfl (by kernel_rfl) (by kernel_rfl) (by kernel_rfl) (fun _ _ _ h => h) (by kernel_rfl) (v := ?v17) ?y17 ?r17
        case y17 => (intro u hu; go_simp; try rfl)
        simp only [Act.put, List.setIfInBounds_toArray, List.set_cons_zero, List.set_cons_succ]
        refine take_since 23 (by assumption) rfl (by kernel_rfl) (by kernel_rfl) (by kernel_rfl) (fun _ _ _ h => h) (by kernel_rfl) (v := ?v18) ?y18 ?r18
        case y18 => (intro u hu; go_simp; try rfl)
        simp only [Act.put, List.setIfInBounds_toArray, List.set_cons_zero, List.set_cons_succ]
        refine wpAnyH_ready (rs := [21]) (by kernel_rfl) (by simp) (AllReadyH.cons ((nth_eq _ 21).trans rfl) ?_ AllReadyH.nil)
        intro K' hK
        refine call_in hK (by kernel_rfl) 13 #[.pointer (some ⟨D, 0, none⟩), .int .i64 f] (by go_simp) _ (pending_step hB4.lone f q hq) ?_
        rintro v w5 ⟨rfl, rfl⟩
        refine ⟨hS4, ?_⟩
        simp only [Act.put, List.setIfInBounds_toArray, List.set_cons_zero, List.set_cons_succ]
        refine wpAnyH_ready (rs := [24]) (by kernel_rfl) (by simp) (AllReadyH.cons ((nth_eq _ 24).trans rfl) ?_ AllReadyH.nil)
        intro K' hK
        refine call_in hK (by kernel_rfl) 24 #[.pointer (some ⟨E, 0, none⟩), .int .i64 f] (by go_simp) _ (rpending_step hB4 f q hq) ?_
        rintro v w6 ⟨rfl, rfl⟩
        refine ⟨hS4, ?_⟩
        simp only [Act.put, List.setIfInBounds_toArray, List.set_cons_zero, List.set_cons_succ]
        refine take_since 25 (by assumption) rfl (by kernel_rfl) (by kernel_rfl) (by kernel_rfl) (fun _ _ _ h => h) (by kernel_rfl) (v := .bool false) ?y19 ?r19
        case y19 => (intro u hu; first | (go_simp; done) | (go_simp; rfl) | (go_simp; simp))
        simp only [Act.put, List.setIfInBounds_toArray, List.set_cons_zero, List.set_cons_succ]
        refine take_since 26 (by assumption) rfl (by kernel_rfl) (by kernel_rfl) (by kernel_rfl) (fun _ _ _ h => h) (by kernel_rfl) (v := .bool false) ?y20 ?r20
        case y20 => (intro u hu; first | (go_simp; done) | (go_simp; rfl) | (go_simp; simp))
        simp only [Act.put, List.setIfInBounds_toArray, List.set_cons_zero, List.set_cons_succ]
        refine done_since (by kernel_rfl) ?_ _
        have hbe : Below w.heap.size w _ := hbr.trans ((((Below.refl _ _).drew.trans (hb1.mono (Nat.le_refl _))).trans ((hb2.mono hb1.size).trans (hb4.mono (Nat.le_trans hb1.size hb2.size)))).mono hbr.size)
        go_wp2
        go_roundw
        case rel => exact ⟨f + 1, by omega, by omega, by go_num, hbe⟩
        case measure => simp [intOf]; omega
    · obtain rfl : f = 3 := by omega
      go_wp2
      go_ret
      exact ⟨rfl, hbr⟩

end Go.Proofs.Ytnifpfkemjolkaa.Disk
