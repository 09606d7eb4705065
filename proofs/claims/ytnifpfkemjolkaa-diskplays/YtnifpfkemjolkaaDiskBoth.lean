/-
  Two disks side by side: the program's and the chapter's own, both made since some moment (the world W), apart from each other; blocks that are neither's (P).
-/
import Derived.Test.YtnifpfkemjolkaaDiskRef7
namespace Go.Proofs.Ytnifpfkemjolkaa.Disk
set_option linter.unusedVariables false
set_option linter.unusedSimpArgs false
open Go Go.RowKit

structure Both (W w : World) (P : Nat → Prop) (D E : Nat) (σ τ : St) (m : Nat) : Prop where
  both : ∃ own own2, DiskIs w own D σ m ∧ RefIs w own2 E τ m ∧ (∀ k, own k ≠ none → W.heap.size ≤ k ∧ own2 k = none) ∧ (∀ k, own2 k ≠ none → W.heap.size ≤ k) ∧ ∀ k, P k → own k = none ∧ own2 k = none ∧ k < w.heap.size
  below : Below W.heap.size W w
theorem RefIs.old {w : World} {own : Own} {D : Nat} {σ : St} {m : Nat} (h : RefIs w own D σ m) : ∀ k, own k ≠ none → k < w.heap.size := by
  obtain ⟨F, hF, _⟩ := h
  exact hF.old
theorem RefIs.same {w w' : World} {own : Own} {D : Nat} {σ : St} {m m' : Nat} (h : RefIs w own D σ m) (hb : ∀ k, own k ≠ none → w'.heap[k]? = w.heap[k]?) (hs : w.heap.size ≤ w'.heap.size) (hm : m ≤ m') : RefIs w' own D σ m' := by
  obtain ⟨F, h, hF⟩ := h
  exact ⟨F, ⟨by rw [hb D (by rw [h.mine]; simp)]; exact h.block, h.mine, fun k hk => Nat.lt_of_lt_of_le (h.old k hk) hs, fun i hi => (h.file i hi).kept (fun k t j hk _ => hb k (by rw [hk]; simp)) (fun _ _ => rfl) hm⟩, hF⟩
theorem DiskIs.same {w w' : World} {own : Own} {D : Nat} {σ : St} {m : Nat} (h : DiskIs w own D σ m) (hb : ∀ k, own k ≠ none → w'.heap[k]? = w.heap[k]?) (hs : w.heap.size ≤ w'.heap.size) : DiskIs w' own D σ m := by
  obtain ⟨F, hF, h⟩ := h
  exact ⟨F, hF.same hb hs, h⟩
theorem Both.later {W w w' : World} {P : Nat → Prop} {D E : Nat} {σ τ : St} {m : Nat} (h : Both W w P D E σ τ m) (hb : Below w.heap.size w w') : Both W w' P D E σ τ m := by
  obtain ⟨own, own2, h1, h2, h3, h4, h5⟩ := h.both
  exact ⟨⟨own, own2, h1.later hb, h2.later hb (Nat.le_refl _), h3, h4, fun k hk => ⟨(h5 k hk).1, (h5 k hk).2.1, Nat.lt_of_lt_of_le (h5 k hk).2.2 hb.size⟩⟩, h.below.trans (hb.mono h.below.size)⟩
theorem Both.drew {W w : World} {P : Nat → Prop} {D E : Nat} {σ τ : St} {m : Nat} (h : Both W w P D E σ τ m) : Both W w.drew P D E σ τ m := h.later (Below.refl _ _).drew
theorem Both.fresh {W w w' : World} {P : Nat → Prop} {D E : Nat} {σ τ : St} {m : Nat} (Q : Nat → Prop) (h : Both W w P D E σ τ m) (hb : Below w.heap.size w w') (hQ : ∀ k, Q k → w.heap.size ≤ k ∧ k < w'.heap.size) : Both W w' Q D E σ τ m := by
  have h' := h.later hb
  obtain ⟨own, own2, h1, h2, h3, h4, h5⟩ := h.both
  refine ⟨⟨own, own2, h1.later hb, h2.later hb (Nat.le_refl _), h3, h4, fun k hk => ⟨?_, ?_, (hQ k hk).2⟩⟩, h'.below⟩
  · by_cases hn : own k = none
    · exact hn
    · have := h1.old k hn; have := (hQ k hk).1; omega
  · by_cases hn : own2 k = none
    · exact hn
    · have := h2.old k hn; have := (hQ k hk).1; omega
theorem Both.turn {W w w' : World} {P : Nat → Prop} {D E : Nat} {σ τ : St} {m : Nat} (h : Both W w P D E σ τ m) (hP : ∀ k, P k → W.heap.size ≤ k) (hs : w.heap.size ≤ w'.heap.size) (hb : ∀ k, k < w.heap.size → ¬ P k → w'.heap[k]? = w.heap[k]?)
    (ho : w'.os = w.os) (ht : w'.tape = w.tape) (hu : w'.output = w.output) : Both W w' P D E σ τ m := by
  obtain ⟨own, own2, h1, h2, h3, h4, h5⟩ := h.both
  have hW := h.below.size
  exact ⟨⟨own, own2, h1.same (fun k hk => hb k (h1.old k hk) fun hp => hk (h5 k hp).1) hs, h2.same (fun k hk => hb k (h2.old k hk) fun hp => hk (h5 k hp).2.1) hs (Nat.le_refl _), h3, h4, fun k hk => ⟨(h5 k hk).1, (h5 k hk).2.1, Nat.lt_of_lt_of_le (h5 k hk).2.2 hs⟩⟩,
    h.below.trans ⟨ho, ht, hu, hs, fun k hk => hb k (by omega) fun hp => by have := hP k hp; omega⟩⟩

theorem Both.goes {W w w' : World} {P : Nat → Prop} {D E : Nat} {own own2 : Own} {σ σ' τ : St} {m : Nat} (hb : Below W.heap.size W w) (h1 : DiskIs w own D σ m) (h2 : RefIs w own2 E τ m) (h3 : ∀ k, own k ≠ none → W.heap.size ≤ k ∧ own2 k = none) (h4 : ∀ k, own2 k ≠ none → W.heap.size ≤ k) (h5 : ∀ k, P k → own k = none ∧ own2 k = none ∧ k < w.heap.size)
    (hg : Goes own D w w' σ' (m + 1)) : Both W w' P D E σ' τ (m + 1) := by
  obtain ⟨own', hd, hu, hk⟩ := hg
  have hs := hk.size
  have hW := hb.size
  refine ⟨⟨own', own2, hd, h2.same (fun k hn => hk.block k (h2.old k hn) ?_) hk.size (Nat.le_succ m), fun k hn => ?_, h4, fun k hp => ⟨by rw [hu k (h5 k hp).2.2]; exact (h5 k hp).1, (h5 k hp).2.1, Nat.lt_of_lt_of_le (h5 k hp).2.2 hs⟩⟩, hb.trans ⟨hk.os, hk.tape, hk.output, hk.size, fun k hlt => hk.block k (by omega) ?_⟩⟩
  · by_cases h : own k = none
    · exact h
    · exact absurd (h3 k h).2 hn
  · by_cases hlt : k < w.heap.size
    · rw [hu k hlt] at hn; exact h3 k hn
    · refine ⟨by omega, ?_⟩
      by_cases h : own2 k = none
      · exact h
      · have := h2.old k h; omega
  · by_cases h : own k = none
    · exact h
    · have := (h3 k h).1; omega
theorem Both.rgoes {W w w' : World} {P : Nat → Prop} {D E : Nat} {own own2 : Own} {σ τ τ' : St} {m : Nat} (hb : Below W.heap.size W w) (h1 : DiskIs w own D σ m) (h2 : RefIs w own2 E τ m) (h3 : ∀ k, own k ≠ none → W.heap.size ≤ k ∧ own2 k = none) (h4 : ∀ k, own2 k ≠ none → W.heap.size ≤ k) (h5 : ∀ k, P k → own k = none ∧ own2 k = none ∧ k < w.heap.size)
    (hg : RGoes own2 E w w' τ' (m + 1)) : Both W w' P D E σ τ' (m + 1) := by
  obtain ⟨own', hd, hu, hk⟩ := hg
  have hs := hk.size
  have hW := hb.size
  refine ⟨⟨own, own', (h1.same (fun k hn => hk.block k (h1.old k hn) (h3 k hn).2) hk.size).more (Nat.le_succ m), hd, fun k hn => ⟨(h3 k hn).1, by rw [hu k (h1.old k hn)]; exact (h3 k hn).2⟩, fun k hn => ?_, fun k hp => ⟨(h5 k hp).1, by rw [hu k (h5 k hp).2.2]; exact (h5 k hp).2.1, Nat.lt_of_lt_of_le (h5 k hp).2.2 hs⟩⟩, hb.trans ⟨hk.os, hk.tape, hk.output, hk.size, fun k hlt => hk.block k (by omega) ?_⟩⟩
  · by_cases hlt : k < w.heap.size
    · rw [hu k hlt] at hn; exact h4 k hn
    · omega
  · by_cases h : own2 k = none
    · exact h
    · have := h4 k h; omega

theorem both_append {W w : World} {P : Nat → Prop} {D E : Nat} {σ τ : St} {m : Nat} (h : Both W w P D E σ τ m) (hm : m < 262143) (f : Int) (a : Option Addr) (l cap : Nat) (bs : List Int) (hr : Row w a l bs) (h0 : a = none → cap = 0) (hl : l ≤ 140737488355328) :
    Calls Try.prog 9 #[.pointer (some ⟨D, 0, none⟩), .int .i64 f, .slice a l cap] w fun e w' => ∃ v, e = .returned v ∧ v = .int .i64 (appErr σ f l) ∧ Both W w' P D E (appSt σ f bs) τ (m + 1) ∧ ∀ k, P k → w'.heap[k]? = w.heap[k]? := by
  obtain ⟨own, own2, h1, h2, h3, h4, h5⟩ := h.both
  exact (append_any D w own σ m h1 (by omega) f a l cap bs hr h0 hl).mono fun e w' ⟨he, hg⟩ => ⟨_, he, rfl, .goes h.below h1 h2 h3 h4 h5 hg, fun k hp => by obtain ⟨_, _, _, hk⟩ := hg; exact hk.block k (h5 k hp).2.2 (h5 k hp).1⟩
theorem both_rappend {W w : World} {P : Nat → Prop} {D E : Nat} {σ τ : St} {m : Nat} (h : Both W w P D E σ τ m) (hm : m < 262143) (f : Int) (a : Option Addr) (l cap : Nat) (bs : List Int) (hr : Row w a l bs) (ha : 0 < l → ∀ x, a = some x → x.block < W.heap.size) (hl : l ≤ 140737488355328) :
    Calls Try.prog 17 #[.pointer (some ⟨E, 0, none⟩), .int .i64 f, .slice a l cap] w fun e w' => ∃ v, e = .returned v ∧ v = .int .i64 (appErr τ f l) ∧ Both W w' P D E σ (appSt τ f bs) (m + 1) ∧ ∀ k, P k → w'.heap[k]? = w.heap[k]? := by
  obtain ⟨own, own2, h1, h2, h3, h4, h5⟩ := h.both
  refine (rappend_any E w own2 τ m h2 hm f a l cap bs hr (fun hl0 x hx => ⟨?_, Nat.lt_of_lt_of_le (ha hl0 x hx) h.below.size⟩) hl).mono fun e w' ⟨he, hg⟩ => ⟨_, he, rfl, .rgoes h.below h1 h2 h3 h4 h5 hg, fun k hp => by obtain ⟨_, _, _, hk⟩ := hg; exact hk.block k (h5 k hp).2.2 (h5 k hp).2.1⟩
  by_cases hn : own2 x.block = none
  · exact hn
  · have := h4 _ hn; have := ha hl0 x hx; omega
theorem both_cut {W w : World} {P : Nat → Prop} {D E : Nat} {σ τ : St} {m : Nat} (h : Both W w P D E σ τ m) (hm : m < 262143) (f s : Int) :
    Calls Try.prog 11 #[.pointer (some ⟨D, 0, none⟩), .int .i64 f, .int .i64 s] w fun e w' => ∃ v, e = .returned v ∧ v = .int .i64 (cutErr σ f s) ∧ Both W w' P D E (cutSt σ f s) τ (m + 1) ∧ ∀ k, P k → w'.heap[k]? = w.heap[k]? := by
  obtain ⟨own, own2, h1, h2, h3, h4, h5⟩ := h.both
  exact (cut_any D w own σ m h1 (by omega) f s).mono fun e w' ⟨he, hg⟩ => ⟨_, he, rfl, .goes h.below h1 h2 h3 h4 h5 hg, fun k hp => by obtain ⟨_, _, _, hk⟩ := hg; exact hk.block k (h5 k hp).2.2 (h5 k hp).1⟩
theorem both_rcut {W w : World} {P : Nat → Prop} {D E : Nat} {σ τ : St} {m : Nat} (h : Both W w P D E σ τ m) (hm : m < 262143) (f s : Int) :
    Calls Try.prog 18 #[.pointer (some ⟨E, 0, none⟩), .int .i64 f, .int .i64 s] w fun e w' => ∃ v, e = .returned v ∧ v = .int .i64 (cutErr τ f s) ∧ Both W w' P D E σ (cutSt τ f s) (m + 1) ∧ ∀ k, P k → w'.heap[k]? = w.heap[k]? := by
  obtain ⟨own, own2, h1, h2, h3, h4, h5⟩ := h.both
  exact (rcut_any E w own2 τ m h2 hm f s).mono fun e w' ⟨he, hg⟩ => ⟨_, he, rfl, .rgoes h.below h1 h2 h3 h4 h5 hg, fun k hp => by obtain ⟨_, _, _, hk⟩ := hg; exact hk.block k (h5 k hp).2.2 (h5 k hp).2.1⟩
theorem both_sync {W w : World} {P : Nat → Prop} {D E : Nat} {σ τ : St} {m : Nat} (h : Both W w P D E σ τ m) (hm : m < 262143) (f : Int) :
    Calls Try.prog 10 #[.pointer (some ⟨D, 0, none⟩), .int .i64 f] w fun e w' => ∃ v, e = .returned v ∧ v = .int .i64 (syncErr f) ∧ Both W w' P D E (syncSt σ f) τ (m + 1) ∧ ∀ k, P k → w'.heap[k]? = w.heap[k]? := by
  obtain ⟨own, own2, h1, h2, h3, h4, h5⟩ := h.both
  exact (sync_any D w own σ m h1 (by omega) f).mono fun e w' ⟨he, hg⟩ => ⟨_, he, rfl, .goes h.below h1 h2 h3 h4 h5 hg, fun k hp => by obtain ⟨_, _, _, hk⟩ := hg; exact hk.block k (h5 k hp).2.2 (h5 k hp).1⟩
theorem both_rsync {W w : World} {P : Nat → Prop} {D E : Nat} {σ τ : St} {m : Nat} (h : Both W w P D E σ τ m) (hm : m < 262143) (f : Int) :
    Calls Try.prog 19 #[.pointer (some ⟨E, 0, none⟩), .int .i64 f] w fun e w' => ∃ v, e = .returned v ∧ v = .int .i64 (syncErr f) ∧ Both W w' P D E σ (syncSt τ f) (m + 1) ∧ ∀ k, P k → w'.heap[k]? = w.heap[k]? := by
  obtain ⟨own, own2, h1, h2, h3, h4, h5⟩ := h.both
  refine (rsync_any E w own2 τ m h2 hm f).mono fun e w' ⟨he, own', hd, hu, hk⟩ => ⟨_, he, rfl, .rgoes h.below h1 h2 h3 h4 h5 ⟨own', hd.later (Below.refl _ _) (Nat.le_succ m), hu, hk⟩, fun k hp => hk.block k (h5 k hp).2.2 (h5 k hp).2.1⟩

/- A disk that was made since V, its blocks of V's time none; the same of the chapter's. -/
def NewD (V w : World) (D : Nat) (σ : St) : Prop := ∃ own, DiskIs w own D σ 0 ∧ ∀ k, own k ≠ none → V.heap.size ≤ k
def NewR (V w : World) (D : Nat) (σ : St) : Prop := ∃ own, RefIs w own D σ 0 ∧ ∀ k, own k ≠ none → V.heap.size ≤ k
theorem both_crash {W w : World} {P : Nat → Prop} {D E : Nat} {σ τ : St} {m : Nat} (h : Both W w P D E σ τ m) (hm : m < 262143) (a b : Int) (ha : a ≤ 9223372036854775807) (hb : b ≤ 9223372036854775807) :
    Calls Try.prog 12 #[.pointer (some ⟨D, 0, none⟩), .int .i64 a, .int .i64 b] w fun e w' => ∃ v, e = .returned v ∧ ∃ D', v = .pointer (some ⟨D', 0, none⟩) ∧ NewD w w' D' (crashSt σ a b) ∧ Both W w' P D E σ τ m ∧ Below w.heap.size w w' := by
  obtain ⟨own, own2, h1, h2, h3, h4, h5⟩ := h.both
  exact (crash_any D w own σ m h1 (by omega) a b ha hb).mono fun e w' ⟨D', own', he, hd, hn, hbw⟩ => ⟨_, he, D', rfl, ⟨own', hd, hn⟩, h.later hbw, hbw⟩
theorem both_rcrash {W w : World} {P : Nat → Prop} {D E : Nat} {σ τ : St} {m : Nat} (h : Both W w P D E σ τ m) (hm : m < 262143) (a b : Int) :
    Calls Try.prog 20 #[.pointer (some ⟨E, 0, none⟩), .int .i64 a, .int .i64 b] w fun e w' => ∃ v, e = .returned v ∧ ∃ E', v = .pointer (some ⟨E', 0, none⟩) ∧ NewR w w' E' (crashSt τ a b) ∧ Both W w' P D E σ τ m ∧ Below w.heap.size w w' := by
  obtain ⟨own, own2, h1, h2, h3, h4, h5⟩ := h.both
  exact (rcrash_any E w own2 τ m h2 (by omega) a b).mono fun e w' ⟨E', own', he, hd, hn, hbw⟩ => ⟨_, he, E', rfl, ⟨own', hd, hn⟩, h.later hbw, hbw⟩
theorem both_of {W v w : World} {D E : Nat} {σ τ : St} {m : Nat} (hb : Below W.heap.size W v) (h1 : NewD W v D σ) (h2 : NewR v w E τ) (hv : Below v.heap.size v w) : Both W w (fun _ => False) D E σ τ m := by
  obtain ⟨own, hd, hn⟩ := h1
  obtain ⟨own2, hr, hn2⟩ := h2
  refine ⟨⟨own, own2, (hd.later hv).more (Nat.zero_le _), hr.later (Below.refl _ _) (Nat.zero_le _), fun k hk => ⟨hn k hk, ?_⟩, fun k hk => Nat.le_trans hb.size (hn2 k hk), fun k hk => hk.elim⟩, hb.trans (hv.mono hb.size)⟩
  by_cases h : own2 k = none
  · exact h
  · have := hn2 k h; have := hd.old k hk; omega
theorem both_fo {W v w : World} {D E : Nat} {σ τ : St} {m : Nat} (hb : Below W.heap.size W v) (h2 : NewR W v E τ) (h1 : NewD v w D σ) (hv : Below v.heap.size v w) : Both W w (fun _ => False) D E σ τ m := by
  obtain ⟨own, hd, hn⟩ := h1
  obtain ⟨own2, hr, hn2⟩ := h2
  refine ⟨⟨own, own2, hd.more (Nat.zero_le _), hr.later hv (Nat.zero_le _), fun k hk => ⟨Nat.le_trans hb.size (hn k hk), ?_⟩, hn2, fun k hk => hk.elim⟩, hb.trans (hv.mono hb.size)⟩
  by_cases h : own2 k = none
  · exact h
  · have := hr.old k h; have := hn k hk; omega
theorem NewD.rebase {V W w : World} {D : Nat} {σ : St} (h : NewD V w D σ) (hs : W.heap.size ≤ V.heap.size) : NewD W w D σ := by
  obtain ⟨own, hd, hn⟩ := h
  exact ⟨own, hd, fun k hk => Nat.le_trans hs (hn k hk)⟩
theorem NewR.rebase {V W w : World} {D : Nat} {σ : St} (h : NewR V w D σ) (hs : W.heap.size ≤ V.heap.size) : NewR W w D σ := by
  obtain ⟨own, hd, hn⟩ := h
  exact ⟨own, hd, fun k hk => Nat.le_trans hs (hn k hk)⟩

end Go.Proofs.Ytnifpfkemjolkaa.Disk
