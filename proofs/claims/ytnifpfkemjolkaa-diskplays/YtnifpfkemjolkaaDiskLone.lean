/-
  A disk that was made since some moment (the world W): what each call does to it, and that nothing of W is turned.
-/
import Derived.Test.YtnifpfkemjolkaaDiskCrash
namespace Go.Proofs.Ytnifpfkemjolkaa.Disk
set_option linter.unusedVariables false
set_option linter.unusedSimpArgs false
open Go Go.RowKit

theorem DiskIn.same {w w' : World} {own : Own} {D : Nat} {F : Nat → FileS} {m : Nat} (h : DiskIn w own D F m) (hb : ∀ k, own k ≠ none → w'.heap[k]? = w.heap[k]?) (hs : w.heap.size ≤ w'.heap.size) : DiskIn w' own D F m :=
  ⟨by rw [hb D (by rw [h.mine]; simp)]; exact h.block, h.mine, fun k hk => Nat.lt_of_lt_of_le (h.old k hk) hs, fun i hi => (h.file i hi).kept (fun k t j hk _ => hb k (by rw [hk]; simp)) (fun _ _ => rfl) (Nat.le_refl _)⟩
theorem DiskIs.later {w w' : World} {own : Own} {D : Nat} {σ : St} {m : Nat} (h : DiskIs w own D σ m) (hb : Below w.heap.size w w') : DiskIs w' own D σ m := by
  obtain ⟨F, hF, hs⟩ := h
  exact ⟨F, hF.same (fun k hk => hb.block k (hF.old k hk)) hb.size, hs⟩
theorem DiskIs.old {w : World} {own : Own} {D : Nat} {σ : St} {m : Nat} (h : DiskIs w own D σ m) : ∀ k, own k ≠ none → k < w.heap.size := by
  obtain ⟨F, hF, _⟩ := h
  exact hF.old
theorem DiskIs.more {w : World} {own : Own} {D : Nat} {σ : St} {m m' : Nat} (h : DiskIs w own D σ m) (hm : m ≤ m') : DiskIs w own D σ m' := by
  obtain ⟨F, hF, hs⟩ := h
  exact ⟨F, hF.more hm, hs⟩

structure Lone (W w : World) (D : Nat) (σ : St) (m : Nat) : Prop where
  disk : ∃ own, DiskIs w own D σ m ∧ ∀ k, own k ≠ none → W.heap.size ≤ k
  below : Below W.heap.size W w

theorem Lone.later {W w w' : World} {D : Nat} {σ : St} {m : Nat} (h : Lone W w D σ m) (hb : Below w.heap.size w w') : Lone W w' D σ m := by
  obtain ⟨own, h1, h2⟩ := h.disk
  exact ⟨⟨own, h1.later hb, h2⟩, h.below.trans (hb.mono h.below.size)⟩
theorem Lone.rebase {V W w : World} {D : Nat} {σ : St} {m : Nat} (h : Lone W w D σ m) (hb : Below V.heap.size V W) : Lone V w D σ m := by
  obtain ⟨own, h1, h2⟩ := h.disk
  exact ⟨⟨own, h1, fun k hk => Nat.le_trans hb.size (h2 k hk)⟩, hb.trans (h.below.mono hb.size)⟩
theorem Lone.more {W w : World} {D : Nat} {σ : St} {m m' : Nat} (h : Lone W w D σ m) (hm : m ≤ m') : Lone W w D σ m' := by
  obtain ⟨own, h1, h2⟩ := h.disk
  exact ⟨⟨own, h1.more hm, h2⟩, h.below⟩
theorem Lone.goes {W w w' : World} {own : Own} {D : Nat} {σ σ' : St} {m m' : Nat} (hb : Below W.heap.size W w) (h1 : DiskIs w own D σ m) (h2 : ∀ k, own k ≠ none → W.heap.size ≤ k) (hg : Goes own D w w' σ' m') : Lone W w' D σ' m' := by
  obtain ⟨own', hd, hu, hk⟩ := hg
  refine ⟨⟨own', hd, fun k hn => ?_⟩, hb.trans ⟨hk.os, hk.tape, hk.output, hk.size, fun k hlt => ?_⟩⟩
  · by_cases hlt : k < w.heap.size
    · rw [hu k hlt] at hn; exact h2 k hn
    · have := hb.size; omega
  · refine hk.block k (Nat.lt_of_lt_of_le hlt hb.size) ?_
    by_cases hn : own k = none
    · exact hn
    · have := h2 k hn; omega

theorem now_bound {w : World} {own : Own} {D : Nat} {σ : St} {m : Nat} (h : DiskIs w own D σ m) (i : Nat) (hi : i < 2) : (now σ i).length ≤ 16777216 := by
  obtain ⟨F, hF, hs⟩ := h
  have := (hF.file i hi).full (units (F i).cs).length
  rw [List.take_length, (hs i hi).1, (hs i hi).2] at this
  exact this
theorem now_small {w : World} {own : Own} {D : Nat} {σ : St} {m : Nat} (h : DiskIs w own D σ m) (i : Nat) (hi : i < 2) : ∀ z ∈ now σ i, 0 ≤ z ∧ z < 256 := by
  obtain ⟨F, hF, hs⟩ := h
  have := run_small (units (F i).cs) (F i).zs (hF.file i hi).zsmall (hF.file i hi).usmall
  rw [(hs i hi).1, (hs i hi).2] at this
  exact this
theorem Lone.bound {W w : World} {D : Nat} {σ : St} {m : Nat} (h : Lone W w D σ m) (i : Nat) (hi : i < 2) : (now σ i).length ≤ 16777216 := by
  obtain ⟨own, h1, _⟩ := h.disk
  exact now_bound h1 i hi
theorem Lone.small {W w : World} {D : Nat} {σ : St} {m : Nat} (h : Lone W w D σ m) (f : Int) : ∀ z ∈ readOf σ f, 0 ≤ z ∧ z < 256 := by
  obtain ⟨own, h1, _⟩ := h.disk
  unfold readOf
  by_cases hf : f = 0 ∨ f = 1
  · rw [isFile_yes hf, if_pos rfl]
    exact now_small h1 _ (by omega)
  · rw [isFile_no hf]
    intro z hz
    cases hz

theorem lone_new (W w : World) (hb : Below W.heap.size W w) : Calls Try.prog 5 #[] w fun e w' => e = .returned (.pointer (some ⟨w.heap.size, 0, none⟩)) ∧ Lone W w' w.heap.size (fun _ => ([], [])) 0 := by
  refine (new_any w).mono ?_
  rintro e w' ⟨rfl, rfl⟩
  refine ⟨rfl, ⟨⟨_, ⟨_, new_in w, fun i _ => ⟨rfl, rfl⟩⟩, fun k hk => ?_⟩, hb.alloc hb.size _⟩⟩
  by_cases h : k = w.heap.size
  · have := hb.size; omega
  · exact absurd (if_neg h) hk

theorem lone_append {W w : World} {D : Nat} {σ : St} {m : Nat} (h : Lone W w D σ m) (hm : m < 4194304) (f : Int) (a : Option Addr) (l cap : Nat) (bs : List Int) (hr : Row w a l bs) (h0 : a = none → cap = 0) (hl : l ≤ 140737488355328) :
    Calls Try.prog 9 #[.pointer (some ⟨D, 0, none⟩), .int .i64 f, .slice a l cap] w fun e w' => e = .returned (.int .i64 (appErr σ f l)) ∧ Lone W w' D (appSt σ f bs) (m + 1) := by
  obtain ⟨own, h1, h2⟩ := h.disk
  refine (append_any D w own σ m h1 hm f a l cap bs hr h0 hl).mono ?_
  rintro e w' ⟨he, hg⟩
  exact ⟨he, Lone.goes h.below h1 h2 hg⟩
theorem lone_append_ok {W w : World} {D : Nat} {σ : St} {m : Nat} (h : Lone W w D σ m) (hm : m < 4194304) (i : Nat) (hi : i < 2) (a : Option Addr) (l cap : Nat) (bs : List Int) (hr : Row w a l bs) (h0 : a = none → cap = 0) (hl : (now σ i).length + l ≤ 16777216) :
    Calls Try.prog 9 #[.pointer (some ⟨D, 0, none⟩), .int .i64 i, .slice a l cap] w fun e w' => e = .returned (.int .i64 0) ∧ Lone W w' D (setSt σ i ((σ i).1, (σ i).2 ++ bs.map Sum.inl)) (m + 1) := by
  refine (lone_append h hm i a l cap bs hr h0 (by omega)).mono ?_
  have e : appErr σ i l = 0 := by simp only [appErr, isFile_yes (show (i : Int) = 0 ∨ (i : Int) = 1 by omega), Int.toNat_natCast, if_true, if_neg (show ¬ 16777216 < (now σ i).length + l by omega)]
  have e2 : appSt σ i bs = setSt σ i ((σ i).1, (σ i).2 ++ bs.map Sum.inl) := by unfold appSt; rw [hr.len, e]; rfl
  rintro e' w' ⟨he, hg⟩
  rw [e] at he
  rw [e2] at hg
  exact ⟨he, hg⟩
theorem lone_append_full {W w : World} {D : Nat} {σ : St} {m : Nat} (h : Lone W w D σ m) (hm : m < 4194304) (i : Nat) (hi : i < 2) (a : Option Addr) (l cap : Nat) (bs : List Int) (hr : Row w a l bs) (h0 : a = none → cap = 0) (hl : 16777216 < (now σ i).length + l) (hl2 : l ≤ 140737488355328) :
    Calls Try.prog 9 #[.pointer (some ⟨D, 0, none⟩), .int .i64 i, .slice a l cap] w fun e w' => e = .returned (.int .i64 2) ∧ Lone W w' D σ (m + 1) := by
  refine (lone_append h hm i a l cap bs hr h0 hl2).mono ?_
  have e : appErr σ i l = 2 := by simp only [appErr, isFile_yes (show (i : Int) = 0 ∨ (i : Int) = 1 by omega), Int.toNat_natCast, if_true, if_pos hl]
  have e2 : appSt σ i bs = σ := by unfold appSt; rw [hr.len, e]; rfl
  rintro e' w' ⟨he, hg⟩
  rw [e] at he
  rw [e2] at hg
  exact ⟨he, hg⟩
theorem lone_cut {W w : World} {D : Nat} {σ : St} {m : Nat} (h : Lone W w D σ m) (hm : m < 4194304) (f s : Int) : Calls Try.prog 11 #[.pointer (some ⟨D, 0, none⟩), .int .i64 f, .int .i64 s] w fun e w' => e = .returned (.int .i64 (cutErr σ f s)) ∧ Lone W w' D (cutSt σ f s) (m + 1) := by
  obtain ⟨own, h1, h2⟩ := h.disk
  refine (cut_any D w own σ m h1 hm f s).mono ?_
  rintro e w' ⟨he, hg⟩
  exact ⟨he, Lone.goes h.below h1 h2 hg⟩
theorem lone_cut_ok {W w : World} {D : Nat} {σ : St} {m : Nat} (h : Lone W w D σ m) (hm : m < 4194304) (i : Nat) (hi : i < 2) (s : Nat) (hs : s ≤ (now σ i).length) :
    Calls Try.prog 11 #[.pointer (some ⟨D, 0, none⟩), .int .i64 i, .int .i64 s] w fun e w' => e = .returned (.int .i64 0) ∧ Lone W w' D (setSt σ i ((σ i).1, (σ i).2 ++ [.inr s])) (m + 1) := by
  refine (lone_cut h hm i s).mono ?_
  have e : cutErr σ i s = 0 := by
    unfold cutErr
    rw [if_pos ⟨isFile_yes (by omega), by omega, by rw [Int.toNat_natCast]; omega⟩]
  have e2 : cutSt σ i s = setSt σ i ((σ i).1, (σ i).2 ++ [.inr s]) := by unfold cutSt; rw [e]; rfl
  rintro e' w' ⟨he, hg⟩
  rw [e] at he
  rw [e2] at hg
  exact ⟨he, hg⟩
theorem lone_sync {W w : World} {D : Nat} {σ : St} {m : Nat} (h : Lone W w D σ m) (hm : m < 4194304) (f : Int) : Calls Try.prog 10 #[.pointer (some ⟨D, 0, none⟩), .int .i64 f] w fun e w' => e = .returned (.int .i64 (syncErr f)) ∧ Lone W w' D (syncSt σ f) (m + 1) := by
  obtain ⟨own, h1, h2⟩ := h.disk
  refine (sync_any D w own σ m h1 hm f).mono ?_
  rintro e w' ⟨he, hg⟩
  exact ⟨he, Lone.goes h.below h1 h2 hg⟩
theorem lone_sync_ok {W w : World} {D : Nat} {σ : St} {m : Nat} (h : Lone W w D σ m) (hm : m < 4194304) (i : Nat) (hi : i < 2) : Calls Try.prog 10 #[.pointer (some ⟨D, 0, none⟩), .int .i64 i] w fun e w' => e = .returned (.int .i64 0) ∧ Lone W w' D (setSt σ i (now σ i, [])) (m + 1) := by
  refine (lone_sync h hm i).mono ?_
  have e : isFile i = true := isFile_yes (by omega)
  rintro e' w' ⟨he, hg⟩
  rw [syncErr, e, if_pos rfl] at he
  rw [syncSt, e, if_pos rfl, Int.toNat_natCast] at hg
  exact ⟨he, hg⟩
theorem lone_read {W w : World} {D : Nat} {σ : St} {m : Nat} (h : Lone W w D σ m) (hm : m < 4194304) (f : Int) : Calls Try.prog 14 #[.pointer (some ⟨D, 0, none⟩), .int .i64 f] w fun e w' => ∃ a' cap', e = .returned (.slice a' (readOf σ f).length cap') ∧ w'.ownsRow w.heap.size 5 1 (.slice a' (readOf σ f).length cap') (readOf σ f).length ((readOf σ f).map (Value.int .u8)) ∧
    Row w' a' (readOf σ f).length (readOf σ f) ∧ (a' = none → cap' = 0) ∧ Below w.heap.size w w' := by
  obtain ⟨own, h1, h2⟩ := h.disk
  refine (read_any D w own σ m h1 hm f).mono ?_
  rintro e w' ⟨a', cap', he, ho, hb⟩
  obtain ⟨r1, r2, _⟩ := owns_row ho (h.small f)
  exact ⟨a', cap', he, ho, r1, r2, hb⟩
theorem lone_read_of {W w : World} {D : Nat} {σ : St} {m : Nat} (h : Lone W w D σ m) (hm : m < 4194304) (f : Int) (zs : List Int) (n : Nat) (hz : readOf σ f = zs) (hn : zs.length = n) : Calls Try.prog 14 #[.pointer (some ⟨D, 0, none⟩), .int .i64 f] w fun e w' => ∃ a' cap', e = .returned (.slice a' n cap') ∧ w'.ownsRow w.heap.size 5 1 (.slice a' n cap') n (zs.map (Value.int .u8)) ∧
    Row w' a' n zs ∧ (a' = none → cap' = 0) ∧ Below w.heap.size w w' := by
  subst hz
  subst hn
  exact lone_read h hm f
theorem lone_crash {W w : World} {D : Nat} {σ : St} {m : Nat} (h : Lone W w D σ m) (hm : m < 4194304) (a b : Int) (ha : a ≤ 9223372036854775807) (hb : b ≤ 9223372036854775807) :
    Calls Try.prog 12 #[.pointer (some ⟨D, 0, none⟩), .int .i64 a, .int .i64 b] w fun e w' => ∃ D', e = .returned (.pointer (some ⟨D', 0, none⟩)) ∧ Lone w w' D' (crashSt σ a b) 0 := by
  obtain ⟨own, h1, h2⟩ := h.disk
  refine (crash_any D w own σ m h1 hm a b ha hb).mono ?_
  rintro e w' ⟨D', own', he, hd, hn, hb'⟩
  exact ⟨D', he, ⟨⟨own', hd, hn⟩, hb'⟩⟩
theorem lone_size {W w : World} {D : Nat} {σ : St} {m : Nat} (h : Lone W w D σ m) (f : Int) : Calls Try.prog 22 #[.pointer (some ⟨D, 0, none⟩), .int .i64 f] w fun e w' => e = .returned (.int .i64 (readOf σ f).length) ∧ w' = w := by
  obtain ⟨own, h1, h2⟩ := h.disk
  exact size_any D w own σ m h1 f
theorem lone_pending {W w : World} {D : Nat} {σ : St} {m : Nat} (h : Lone W w D σ m) (f : Int) : Calls Try.prog 13 #[.pointer (some ⟨D, 0, none⟩), .int .i64 f] w fun e w' => e = .returned (.int .i64 (pendOf σ f)) ∧ w' = w := by
  obtain ⟨own, h1, h2⟩ := h.disk
  exact pending_any D w own σ m h1 f
end Go.Proofs.Ytnifpfkemjolkaa.Disk
