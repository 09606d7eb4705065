/-
  A disk of the chapter's own answer in memory: what its Read, Size and Pending tell.
-/
import Derived.Test.YtnifpfkemjolkaaDiskRef
namespace Go.Proofs.Ytnifpfkemjolkaa.Disk
set_option linter.unusedVariables false
set_option linter.unusedSimpArgs false
open Go Go.RowKit
attribute [local go_sem ↓] Go.wp_at_zero Go.wp_at_succ

structure RFile where
  ca : Option Addr
  ccap : Nat
  zs : List Int
  pa : Option Addr
  pcap : Nat
  us : List U
structure RFileIn (w : World) (own : Own) (i : Nat) (f : RFile) (m : Nat) : Prop where
  crow : w.ownsRow 0 5 1 (.slice f.ca f.zs.length f.ccap) f.zs.length (f.zs.map (Value.int .u8))
  cown : ∀ k, Value.ownBlock (.slice f.ca f.zs.length f.ccap) = some k → own k = some (1, i, 0)
  prow : w.ownsRow 0 64 3 (.slice f.pa f.us.length f.pcap) f.us.length (usCells f.us)
  pown : ∀ k, Value.ownBlock (.slice f.pa f.us.length f.pcap) = some k → own k = some (2, i, 0)
  zsmall : ∀ z ∈ f.zs, 0 ≤ z ∧ z < 256
  usmall : ∀ z, Sum.inl z ∈ f.us → 0 ≤ z ∧ z < 256
  ok : okb f.zs f.us
  full : ∀ k, (run f.zs (f.us.take k)).length ≤ 16777216
  less : f.us.length ≤ m * 16777216
theorem RFileIn.kept {w w' : World} {own own' : Own} {i : Nat} {f : RFile} {m m' : Nat} (h : RFileIn w own i f m) (hb : ∀ k t j, own k = some (t, i, j) → t ≠ 0 → w'.heap[k]? = w.heap[k]?)
    (ho : ∀ k, k < w.heap.size → own' k = own k) (hm : m ≤ m') : RFileIn w' own' i f m' := by
  refine ⟨owns_same h.crow fun k hk => hb k _ _ (h.cown k hk) (by decide), fun k hk => ?_, owns_same h.prow fun k hk => hb k _ _ (h.pown k hk) (by decide), fun k hk => ?_, h.zsmall, h.usmall, h.ok, h.full, Nat.le_trans h.less (Nat.mul_le_mul_right _ hm)⟩
  · rw [ho k (h.crow.lt k hk).2]; exact h.cown k hk
  · rw [ho k (h.prow.lt k hk).2]; exact h.pown k hk
def rrow (f g : RFile) : Array Value := #[.slice f.ca f.zs.length f.ccap, .slice f.pa f.us.length f.pcap, .slice g.ca g.zs.length g.ccap, .slice g.pa g.us.length g.pcap]
structure RefIn (w : World) (own : Own) (D : Nat) (F : Nat → RFile) (m : Nat) : Prop where
  block : w.heap[D]? = some (.cells (rrow (F 0) (F 1)) 53 (0, 0))
  mine : own D = some (0, 2, 0)
  old : ∀ k, own k ≠ none → k < w.heap.size
  file : ∀ i, i < 2 → RFileIn w own i (F i) m
theorem RefIn.cell {w : World} {own : Own} {D : Nat} {F : Nat → RFile} {m : Nat} (h : RefIn w own D F m) (i : Nat) (hi : i < 2) :
    w.cell? ⟨D, 2 * i, none⟩ = some (.slice (F i).ca (F i).zs.length (F i).ccap) ∧ w.cell? ⟨D, 2 * i + 1, none⟩ = some (.slice (F i).pa (F i).us.length (F i).pcap) := by
  have hc := fun j => cell_of_row w D j _ _ _ h.block
  rcases (show i = 0 ∨ i = 1 by omega) with rfl | rfl
  · exact ⟨hc 0, hc 1⟩
  · exact ⟨hc 2, hc 3⟩
theorem RefIn.lt {w : World} {own : Own} {D : Nat} {F : Nat → RFile} {m : Nat} (h : RefIn w own D F m) : D < w.heap.size := h.old D (by rw [h.mine]; simp)
def RefIs (w : World) (own : Own) (D : Nat) (σ : St) (m : Nat) : Prop := ∃ F, RefIn w own D F m ∧ ∀ i, i < 2 → (F i).zs = (σ i).1 ∧ (F i).us = (σ i).2

set_option maxRecDepth 100000 in
set_option maxHeartbeats 2000000 in
theorem rread_any (D : Nat) (w : World) (own : Own) (σ : St) (m : Nat) (hd : RefIs w own D σ m) (hm : m < 4194304) (f : Int) :
    Calls Try.prog 21 #[.pointer (some ⟨D, 0, none⟩), .int .i64 f] w fun e W => ∃ a' cap', e = .returned (.slice a' (readOf σ f).length cap') ∧
      W.ownsRow w.heap.size 5 1 (.slice a' (readOf σ f).length cap') (readOf σ f).length ((readOf σ f).map (Value.int .u8)) ∧ Below w.heap.size w W := by
  by_cases hff : f = 0 ∨ f = 1
  · obtain ⟨F, hF, hs⟩ := hd
    obtain ⟨i, hi, rfl⟩ : ∃ i : Nat, i < 2 ∧ f = (i : Int) := ⟨f.toNat, by omega, by omega⟩
    obtain ⟨hc0, hc1⟩ := hF.cell i hi
    have hf := hF.file i hi
    have hless := hf.less
    have hz := hf.full 0
    rw [List.take_zero, run_nil] at hz
    have cw := with_any w.drew (F i).ca (F i).ccap (F i).zs (F i).pa (F i).pcap (F i).us (F i).us.length hf.crow hf.prow hf.zsmall hf.usmall hf.ok (by omega)
    have hE : run (F i).zs ((F i).us.take ((F i).us.length : Int).toNat) = readOf σ i := by
      rw [Int.toNat_natCast, List.take_length, (hs i hi).1, (hs i hi).2, read_len σ i hi]
      rfl
    rw [hE] at cw
    have cw2 := cw.mono (R' := fun e W => ∃ v, e = .returned v ∧ ∃ a' cap', v = .slice a' (readOf σ i).length cap' ∧ W.ownsRow w.heap.size 5 1 (.slice a' (readOf σ i).length cap') (readOf σ i).length ((readOf σ i).map (Value.int .u8)) ∧ Below w.heap.size w W)
      (fun e W ⟨a', cap', he, ho, hb⟩ => ⟨_, he, a', cap', rfl, ho, ⟨hb.os, hb.tape, hb.output, hb.size, hb.block⟩⟩)
    clear cw hE hf hF hs
    generalize F i = f at *
    obtain ⟨ca, ccap, zs, pa, pcap, us⟩ := f
    simp only at hc0 hc1 cw2
    rcases (show i = 0 ∨ i = 1 by omega) with rfl | rfl
    all_goals
      simp only [Nat.mul_zero, Nat.mul_one, Nat.zero_add, Nat.reduceAdd] at hc0 hc1
      go_enter Try.func21, Try.ntmps21
      go_wp2_with fail
      go_region_law (refine step_call rfl 30 #[.agg #[.slice ca zs.length ccap, .slice pa us.length pcap], .int .i64 us.length] (by go_simp) _ cw2 ?_; rintro v w1 ⟨a', cap', rfl, ho, hb⟩)
      all_goals
        go_wp2
        go_ret
        exact ⟨a', cap', rfl, ho, hb⟩
  · have HE : Hid (readOf σ f = []) := by simp [readOf, isFile_no hff, Hid]
    have e0 : (f != 0) = true := by simp; omega
    have e1 : (f != 1) = true := by simp; omega
    clear hd
    go_enter Try.func21, Try.ntmps21
    go_wp2
    go_ret
    rw [HE.out]
    exact ⟨none, 0, rfl, World.ownsRow_nil _ _ _ _, Below.refl _ _⟩

set_option maxHeartbeats 1000000 in
theorem rsize_any (D : Nat) (w : World) (own : Own) (σ : St) (m : Nat) (hd : RefIs w own D σ m) (hm : m < 4194304) (f : Int) :
    Calls Try.prog 23 #[.pointer (some ⟨D, 0, none⟩), .int .i64 f] w fun e W => e = .returned (.int .i64 (readOf σ f).length) ∧ Below w.heap.size w W := by
  have cr := rread_any D w own σ m hd hm f
  generalize readOf σ f = A at cr
  go_enter Try.func23, Try.ntmps23
  go_wp2_with (go_at_call 21; refine cr.mono ?_; rintro e w1 ⟨a1, cap1, rfl, ho, hb⟩)
  go_ret
  exact ⟨rfl, hb⟩

set_option maxHeartbeats 1000000 in
theorem rpending_any (D : Nat) (w : World) (own : Own) (σ : St) (m : Nat) (hd : RefIs w own D σ m) (f : Int) :
    Calls Try.prog 24 #[.pointer (some ⟨D, 0, none⟩), .int .i64 f] w fun e W => e = .returned (.int .i64 (pendOf σ f)) ∧ W = w := by
  by_cases hff : f = 0 ∨ f = 1
  · obtain ⟨F, hF, hs⟩ := hd
    obtain ⟨i, hi, rfl⟩ : ∃ i : Nat, i < 2 ∧ f = (i : Int) := ⟨f.toNat, by omega, by omega⟩
    obtain ⟨_, hc1⟩ := hF.cell i hi
    have HE : Hid ((F i).us.length = pendOf σ i) := by
      rw [(hs i hi).2]
      simp only [pendOf, isFile_yes (show (i : Int) = 0 ∨ (i : Int) = 1 by omega), Int.toNat_natCast, if_true]
      trivial
    clear hF hs
    generalize F i = f at *
    obtain ⟨ca, ccap, zs, pa, pcap, us⟩ := f
    simp only at hc1 HE
    rcases (show i = 0 ∨ i = 1 by omega) with rfl | rfl
    all_goals
      simp only [Nat.mul_zero, Nat.mul_one, Nat.zero_add, Nat.reduceAdd] at hc1
      go_enter Try.func24, Try.ntmps24
      go_wp2
      go_ret
      exact ⟨ret_int (congrArg (fun n : Nat => (n : Int)) HE.out), rfl⟩
  · have HE : Hid (pendOf σ f = 0) := by simp [pendOf, isFile_no hff, Hid]
    have e0 : (f != 0) = true := by simp; omega
    have e1 : (f != 1) = true := by simp; omega
    clear hd
    go_enter Try.func24, Try.ntmps24
    go_wp2
    go_ret
    exact ⟨ret_int (by rw [HE.out]; rfl), rfl⟩

end Go.Proofs.Ytnifpfkemjolkaa.Disk
