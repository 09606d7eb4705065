/-
  Sync of the chapter's own answer.
-/
import Derived.Test.YtnifpfkemjolkaaDiskRef4
namespace Go.Proofs.Ytnifpfkemjolkaa.Disk
set_option linter.unusedVariables false
set_option linter.unusedSimpArgs false
open Go Go.RowKit
attribute [local go_sem ↓] Go.wp_at_zero Go.wp_at_succ

theorem rfile_in {w w1 : World} {own : Own} {D : Nat} {F : Nat → RFile} {m i : Nat} (hd : RefIn w own D F m) (hi : i < 2) (zs : List Int) (a' : Option Addr) (cap' : Nat)
    (hown : w1.ownsRow w.heap.size 5 1 (.slice a' zs.length cap') zs.length (zs.map (Value.int .u8))) (hb : Below w.heap.size w w1) (hsm : ∀ z ∈ zs, 0 ≤ z ∧ z < 256) (hlen : zs.length ≤ 16777216)
    (W : World) (hW : W.heap = ((w1.setCell ⟨D, 2 * i, none⟩ (.slice a' zs.length cap')).setCell ⟨D, 2 * i + 1, none⟩ (.slice none 0 0)).heap) (hos : W.os = w1.os) (hta : W.tape = w1.tape) (hou : W.output = w1.output) : RTurned own D F m i w W zs [] := by
  have h0 : w1.heap[D]? = some (.cells (rrow (F 0) (F 1)) 53 (0, 0)) := by rw [hb.block D hd.lt]; exact hd.block
  have h1 := heap_setCell_same w1 D (2 * i) _ _ (.slice a' zs.length cap') h0
  have h2 := heap_setCell_same _ D (2 * i + 1) _ _ (.slice none 0 0) h1
  rw [← hW] at h2
  have hWk : ∀ k, k ≠ D → W.heap[k]? = w1.heap[k]? := fun k hk => by rw [hW, Below.heap_setCell _ _ _ _ hk, Below.heap_setCell _ _ _ _ hk]
  have hWs : W.heap.size = w1.heap.size := by rw [hW]; simp
  have hsame : ∀ k, k < w.heap.size → k ≠ D → W.heap[k]? = w.heap[k]? := fun k hk hkD => by rw [hWk k hkD, hb.block k hk]
  have hup : ∀ k, k < w.heap.size → (if (Value.slice a' zs.length cap').ownBlock = some k then some (1, i, 0) else own k) = own k := fun k hk => by
    rw [if_neg]
    intro h
    have := (hown.lt k h).1
    omega
  have hsz := hb.size
  refine ⟨fun k => if (Value.slice a' zs.length cap').ownBlock = some k then some (1, i, 0) else own k, ⟨a', cap', zs, none, 0, []⟩, ⟨?_, ?_, fun k hk => ?_, fun i' hi' => ?_⟩, hup, ⟨hos.trans hb.os, hta.trans hb.tape, hou.trans hb.output, by rw [hWs]; exact hsz, fun k hk hn => hsame k hk (fun e => by subst e; rw [hd.mine] at hn; simp at hn)⟩, rfl, rfl⟩
  · rw [h2]
    rcases (show i = 0 ∨ i = 1 by omega) with rfl | rfl
    · simp [rrow, rupd]
    · simp [rrow, rupd]
  · rw [hup D hd.lt]; exact hd.mine
  · rw [hWs]
    by_cases h : (Value.slice a' zs.length cap').ownBlock = some k
    · exact (hown.lt k h).2
    · rw [if_neg h] at hk
      have := hd.old k hk
      omega
  · unfold rupd
    by_cases hii : i' = i
    · subst hii
      rw [if_pos rfl]
      refine ⟨owns_same (owns_zero hown) fun k hk => hWk k ?_, fun k hk => ?_, World.ownsRow_nil _ _ _ _, fun k hk => (by cases hk), hsm, fun z hz => (by cases hz), trivial, fun k => ?_, Nat.zero_le _⟩
      · have := (hown.lt k hk).1; have := hd.lt; omega
      · rw [if_pos hk]
      · show (run zs (([] : List U).take k)).length ≤ _
        rw [List.take_nil, run_nil]
        exact hlen
    · rw [if_neg hii]
      exact (hd.file i' hi').kept (fun k t j hk ht => hsame k (hd.old k (by rw [hk]; simp)) (fun e => by subst e; rw [hd.mine] at hk; simp at hk; omega)) hup (Nat.le_refl _)

set_option maxRecDepth 100000 in
set_option maxHeartbeats 2000000 in
theorem rsync_any (D : Nat) (w : World) (own : Own) (σ : St) (m : Nat) (hd : RefIs w own D σ m) (hm : m < 262143) (f : Int) :
    Calls Try.prog 19 #[.pointer (some ⟨D, 0, none⟩), .int .i64 f] w fun e W => e = .returned (.int .i64 (syncErr f)) ∧ RGoes own D w W (syncSt σ f) m := by
  by_cases hff : f = 0 ∨ f = 1
  · obtain ⟨i, hi, rfl⟩ : ∃ i : Nat, i < 2 ∧ f = (i : Int) := ⟨f.toNat, by omega, by omega⟩
    have hdd : RefIs w.drew own D σ m := hd.later (Below.refl _ _).drew (Nat.le_refl _)
    have cr := rread_any D w.drew own σ m hdd (by omega) i
    rw [read_len σ i hi] at cr
    have cr2 := cr.mono (R' := fun e W => ∃ v, e = .returned v ∧ ∃ a' cap', v = .slice a' (now σ i).length cap' ∧ W.ownsRow w.heap.size 5 1 (.slice a' (now σ i).length cap') (now σ i).length ((now σ i).map (Value.int .u8)) ∧ Below w.heap.size w W)
      (fun e W ⟨a', cap', he, ho, hb⟩ => ⟨_, he, a', cap', rfl, ho, ⟨hb.os, hb.tape, hb.output, hb.size, hb.block⟩⟩)
    obtain ⟨F, hF, hs⟩ := hd
    have hf := hF.file i hi
    have hn : run (F i).zs (F i).us = now σ i := by rw [(hs i hi).1, (hs i hi).2]; rfl
    have hfu := hf.full (F i).us.length
    rw [List.take_length, hn] at hfu
    have hsm := run_small _ _ hf.zsmall hf.usmall
    rw [hn] at hsm
    obtain ⟨hc0, hc1⟩ := hF.cell i hi
    have hfz := fun j => frozen_of_row _ _ j _ _ hF.block
    have hD := hF.lt
    have HG : Hid (∀ (a' : Option Addr) (cap' : Nat) (w1 W : World), w1.ownsRow w.heap.size 5 1 (.slice a' (now σ i).length cap') (now σ i).length ((now σ i).map (Value.int .u8)) → Below w.heap.size w w1 →
        W.heap = ((w1.setCell ⟨D, 2 * i, none⟩ (.slice a' (now σ i).length cap')).setCell ⟨D, 2 * i + 1, none⟩ (.slice none 0 0)).heap → W.os = w1.os → W.tape = w1.tape → W.output = w1.output → RGoes own D w W (syncSt σ i) m) := by
      intro a' cap' w1 W b1 b2 b3 b4 b5 b6
      have := (rfile_in hF hi _ a' cap' b1 b2 hsm hfu W b3 b4 b5 b6).goes hs
      have e : syncSt σ i = setSt σ i (now σ i, []) := by
        simp only [syncSt, isFile_yes (show (i : Int) = 0 ∨ (i : Int) = 1 by omega), Int.toNat_natCast, if_true]
      rw [e]
      exact this
    have HE : Hid (syncErr i = 0) := by
      unfold syncErr
      rw [isFile_yes (show (i : Int) = 0 ∨ (i : Int) = 1 by omega)]
      rfl
    clear cr hf hF hs hdd hn hsm hfu
    generalize F i = f at *
    obtain ⟨ca, ccap, zs, pa, pcap, us⟩ := f
    simp only at hc0 hc1
    generalize now σ i = A at *
    rcases (show i = 0 ∨ i = 1 by omega) with rfl | rfl
    · simp only [Nat.mul_zero, Nat.mul_one, Nat.zero_add, Nat.reduceAdd] at hc0 hc1 HG
      have f0 := hfz 0
      have f1 := hfz 1
      clear hfz
      go_enter Try.func19, Try.ntmps19
      go_wp2_with fail
      go_region_law (refine step_call rfl 21 #[.pointer (some ⟨D, 0, none⟩), .int .i64 0] (by go_simp) _ cr2 ?_; rintro v w1 ⟨a', cap', rfl, ho, hb⟩; have k0 := (hb.cell (p := ⟨D, 0, none⟩) hD).trans hc0; have k1 := (hb.cell (p := ⟨D, 1, none⟩) hD).trans hc1; have g0 := (hb.frozen (p := ⟨D, 0, none⟩) hD).trans f0; have g1 := (hb.frozen (p := ⟨D, 1, none⟩) hD).trans f1)
      all_goals
        go_wp2
        go_ret
        exact ⟨ret_int HE.out.symm, HG.out a' cap' w1 _ ho hb rfl rfl rfl rfl⟩
    · simp only [Nat.mul_zero, Nat.mul_one, Nat.zero_add, Nat.reduceAdd] at hc0 hc1 HG
      have f0 := hfz 2
      have f1 := hfz 3
      clear hfz
      go_enter Try.func19, Try.ntmps19
      go_wp2_with fail
      go_region_law (refine step_call rfl 21 #[.pointer (some ⟨D, 0, none⟩), .int .i64 1] (by go_simp) _ cr2 ?_; rintro v w1 ⟨a', cap', rfl, ho, hb⟩; have k0 := (hb.cell (p := ⟨D, 2, none⟩) hD).trans hc0; have k1 := (hb.cell (p := ⟨D, 3, none⟩) hD).trans hc1; have g0 := (hb.frozen (p := ⟨D, 2, none⟩) hD).trans f0; have g1 := (hb.frozen (p := ⟨D, 3, none⟩) hD).trans f1)
      all_goals
        go_wp2
        go_ret
        exact ⟨ret_int HE.out.symm, HG.out a' cap' w1 _ ho hb rfl rfl rfl rfl⟩
  · have HE : Hid (syncErr f = 1 ∧ syncSt σ f = σ) := ⟨by simp [syncErr, isFile_no hff], by simp [syncSt, isFile_no hff]⟩
    have HG : Hid (RGoes own D w w σ m) := ⟨own, hd, fun _ _ => rfl, kept_below (Below.refl _ _)⟩
    have e0 : (f != 0) = true := by simp; omega
    have e1 : (f != 1) = true := by simp; omega
    clear hd
    go_enter Try.func19, Try.ntmps19
    go_wp2
    go_ret
    exact ⟨ret_int HE.out.1.symm, by rw [HE.out.2]; exact HG.out⟩

end Go.Proofs.Ytnifpfkemjolkaa.Disk
