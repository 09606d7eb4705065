/-
  A new disk; what was pending made certain; what is left of a disk when the power goes.
-/
import Derived.Test.YtnifpfkemjolkaaDiskCalls
namespace Go.Proofs.Ytnifpfkemjolkaa.Disk
set_option linter.unusedVariables false
set_option linter.unusedSimpArgs false
open Go Go.RowKit
attribute [local go_sem ↓] Go.wp_at_zero Go.wp_at_succ

set_option maxHeartbeats 1000000 in
theorem new_any (w : World) : Calls Try.prog 5 #[] w fun e W => e = .returned (.pointer (some ⟨w.heap.size, 0, none⟩)) ∧ W = w.alloc (.cells (rowOf ⟨none, 0, [], none, 0, []⟩ ⟨none, 0, [], none, 0, []⟩) 47) := by
  go_enter Try.func5, Try.ntmps5
  go_wp2
  go_ret
  exact ⟨rfl, rfl⟩

theorem new_in (w : World) : DiskIn (w.alloc (.cells (rowOf ⟨none, 0, [], none, 0, []⟩ ⟨none, 0, [], none, 0, []⟩) 47)) (fun k => if k = w.heap.size then some (0, 2, 0) else none) w.heap.size (fun _ => ⟨none, 0, [], none, 0, []⟩) 0 := by
  refine ⟨heap_alloc_new w _, by simp, fun k hk => ?_, fun i hi => ⟨World.ownsRow_nil _ _ _ _, fun k hk => (by cases hk), World.ownsRow_nil _ _ _ _, fun k hk => (by cases hk), fun j h => (by simp at h), fun j h => (by simp at h), fun z hz => (by cases hz), fun z hz => (by cases hz), trivial, fun k => ?_, Nat.le_refl _, by simp [units]⟩⟩
  · by_cases h : k = w.heap.size
    · simp; omega
    · rw [if_neg h] at hk; exact absurd rfl hk
  · simp [units, run]

theorem sync_in {w w1 : World} {own : Own} {D : Nat} {F : Nat → FileS} {m i : Nat} (hd : DiskIn w own D F m) (hi : i < 2) (a' : Option Addr) (cap' : Nat)
    (hown : w1.ownsRow 0 5 1 (.slice a' (run (F i).zs (units (F i).cs)).length cap') (run (F i).zs (units (F i).cs)).length ((run (F i).zs (units (F i).cs)).map (Value.int .u8)))
    (hgrow : w.grownBy w1 (Value.slice (F i).ca (F i).zs.length (F i).ccap).ownBlock) (hat : ∀ g, (Value.slice a' (run (F i).zs (units (F i).cs)).length cap').ownBlock = some g → (Value.slice (F i).ca (F i).zs.length (F i).ccap).ownBlock = some g ∨ w.heap.size ≤ g)
    (W : World) (hW : W.heap = (((w1.setCell ⟨D, 4 * i, none⟩ (.slice a' (run (F i).zs (units (F i).cs)).length cap')).setCell ⟨D, 4 * i + 1, none⟩ (.slice none 0 0)).setCell ⟨D, 4 * i + 3, none⟩ (.int .i64 0)).heap)
    (hos : W.os = w1.os) (hta : W.tape = w1.tape) (hou : W.output = w1.output) : Turned own D F (m + 1) i w W (run (F i).zs (units (F i).cs)) [] := by
  have hf := hd.file i hi
  have hcD : some D ≠ (Value.slice (F i).ca (F i).zs.length (F i).ccap).ownBlock := fun e => by
    have := hf.cown D e.symm
    rw [hd.mine] at this
    simp at this
  have h1 := heap_setCell_same w1 D (4 * i) _ _ (.slice a' (run (F i).zs (units (F i).cs)).length cap') (show w1.heap[D]? = some (.cells (rowOf (F 0) (F 1)) 47 (0, 0)) by rw [hgrow.block D hd.lt hcD]; exact hd.block)
  have h2 := heap_setCell_same _ D (4 * i + 1) _ _ (.slice none 0 0) h1
  have h3 := heap_setCell_same _ D (4 * i + 3) _ _ (.int .i64 0) h2
  rw [← hW] at h3
  have hWk : ∀ k, k ≠ D → W.heap[k]? = w1.heap[k]? := fun k hk => by rw [hW, Below.heap_setCell _ _ _ _ hk, Below.heap_setCell _ _ _ _ hk, Below.heap_setCell _ _ _ _ hk]
  have hWs : W.heap.size = w1.heap.size := by rw [hW]; simp
  have hsame : ∀ k, k < w.heap.size → k ≠ D → own k ≠ some (1, i, 0) → W.heap[k]? = w.heap[k]? := fun k hk hkD ho => by
    rw [hWk k hkD, hgrow.block k hk fun e => ho (hf.cown k e.symm)]
  have hup : ∀ k, k < w.heap.size → (if (Value.slice a' (run (F i).zs (units (F i).cs)).length cap').ownBlock = some k then some (1, i, 0) else own k) = own k := fun k hk => by
    by_cases h : (Value.slice a' (run (F i).zs (units (F i).cs)).length cap').ownBlock = some k
    · rw [if_pos h]
      rcases hat k h with h4 | h4
      · exact (hf.cown k h4).symm
      · omega
    · rw [if_neg h]
  have hnow := hf.full (units (F i).cs).length
  rw [List.take_length] at hnow
  refine ⟨fun k => if (Value.slice a' (run (F i).zs (units (F i).cs)).length cap').ownBlock = some k then some (1, i, 0) else own k,
    ⟨a', cap', run (F i).zs (units (F i).cs), none, 0, []⟩, ⟨?_, ?_, fun k hk => ?_, fun i' hi' => ?_⟩, hup, ⟨?_, ?_, ?_, ?_, fun k hk hn => ?_⟩, rfl, rfl⟩
  · rw [h3]
    rcases (show i = 0 ∨ i = 1 by omega) with rfl | rfl
    · simp [rowOf, upd, units, run]
    · simp [rowOf, upd, units, run]
  · rw [hup D hd.lt]; exact hd.mine
  · rw [hWs]
    have hsz := hgrow.size
    by_cases h : (Value.slice a' (run (F i).zs (units (F i).cs)).length cap').ownBlock = some k
    · exact (hown.lt k h).2
    · rw [if_neg h] at hk
      have := hd.old k hk
      omega
  · unfold upd
    by_cases hii : i' = i
    · subst hii
      rw [if_pos rfl]
      refine ⟨owns_same hown fun k hk => hWk k ?_, fun k hk => ?_, World.ownsRow_nil _ _ _ _, fun k hk => (by cases hk), fun j h => (by simp at h), fun j h => (by simp at h), run_small _ _ hf.zsmall hf.usmall, fun z hz => (by cases hz), trivial, fun k => ?_, Nat.zero_le _, by simp [units]⟩
      · intro e
        subst e
        rcases hat k hk with h | h
        · exact hcD h.symm
        · have := hd.lt; omega
      · rw [if_pos hk]
      · show (run (run (F i').zs (units (F i').cs)) ((units []).take k)).length ≤ _
        simp only [units, List.flatMap_nil, List.take_nil, run_nil]
        exact hnow
    · rw [if_neg hii]
      refine (hd.file i' hi').kept (fun k t j hk ht => hsame k (hd.old k (by rw [hk]; simp)) (fun e => by subst e; rw [hd.mine] at hk; simp at hk; omega) (by rw [hk]; simp; omega)) hup (by omega)
  · exact hos.trans hgrow.os
  · exact hta.trans hgrow.tape
  · exact hou.trans hgrow.output
  · rw [hWs]; exact hgrow.size
  · exact hsame k hk (fun e => by subst e; rw [hd.mine] at hn; simp at hn) (by rw [hn]; simp)

set_option maxRecDepth 100000 in
set_option maxHeartbeats 2000000 in
theorem sync_any (D : Nat) (w : World) (own : Own) (σ : St) (m : Nat) (hd : DiskIs w own D σ m) (hm : m < 4194304) (f : Int) :
    Calls Try.prog 10 #[.pointer (some ⟨D, 0, none⟩), .int .i64 f] w fun e W => e = .returned (.int .i64 (syncErr f)) ∧ Goes own D w W (syncSt σ f) (m + 1) := by
  by_cases hff : f = 0 ∨ f = 1
  · obtain ⟨F, hF, hs⟩ := hd
    obtain ⟨i, hi, rfl⟩ : ∃ i : Nat, i < 2 ∧ f = (i : Int) := ⟨f.toNat, by omega, by omega⟩
    have c0 := fun w => has_yes i w (by omega)
    have hf := hF.file i hi
    obtain ⟨hc0, hc1, _, hc3⟩ := hF.cell i hi
    have hless := hf.less
    have hfew := hf.few
    have hz := hf.full 0
    rw [List.take_zero, run_nil] at hz
    have cr := redo_any D (4 * i) w.drew (F i).ca (F i).ccap (F i).zs (units (F i).cs).length (F i).pa (F i).pcap (F i).cs hc1 hf.prow hf.brow hf.crow
      (fun g hg => ⟨fun e => by have h1 := hf.cown g hg; have h2 := hf.pown g e; rw [h1] at h2; simp at h2, fun j h e => by have h1 := hf.cown g hg; have h2 := hf.bown j h g e; rw [h1] at h2; simp at h2⟩) hf.usmall hf.ok (by omega) (by omega) (by omega)
    rw [Int.toNat_natCast, List.take_length] at cr
    have cr2 := cr.mono (R' := fun e w1 => ∃ v, e = .returned v ∧ ∃ a' cap', v = .slice a' (run (F i).zs (units (F i).cs)).length cap' ∧ w1.ownsRow 0 5 1 (.slice a' (run (F i).zs (units (F i).cs)).length cap') (run (F i).zs (units (F i).cs)).length ((run (F i).zs (units (F i).cs)).map (Value.int .u8)) ∧
      w.grownBy w1 (Value.slice (F i).ca (F i).zs.length (F i).ccap).ownBlock ∧ ∀ g, (Value.slice a' (run (F i).zs (units (F i).cs)).length cap').ownBlock = some g → (Value.slice (F i).ca (F i).zs.length (F i).ccap).ownBlock = some g ∨ w.heap.size ≤ g)
      (fun e w' ⟨a', cap', he, ho, hg, ha⟩ => ⟨_, he, a', cap', rfl, ho, ⟨hg.os, hg.tape, hg.output, hg.size, hg.block⟩, ha⟩)
    have hcD : some D ≠ (Value.slice (F i).ca (F i).zs.length (F i).ccap).ownBlock := fun e => by
      have := hf.cown D e.symm
      rw [hF.mine] at this
      simp at this
    have hfz := hF.frozen
    have hD := hF.lt
    have HG : Hid (∀ (a' : Option Addr) (cap' : Nat) (w1 W : World), w1.ownsRow 0 5 1 (.slice a' (run (F i).zs (units (F i).cs)).length cap') (run (F i).zs (units (F i).cs)).length ((run (F i).zs (units (F i).cs)).map (Value.int .u8)) →
        w.grownBy w1 (Value.slice (F i).ca (F i).zs.length (F i).ccap).ownBlock → (∀ g, (Value.slice a' (run (F i).zs (units (F i).cs)).length cap').ownBlock = some g → (Value.slice (F i).ca (F i).zs.length (F i).ccap).ownBlock = some g ∨ w.heap.size ≤ g) →
        W.heap = (((w1.setCell ⟨D, 4 * i, none⟩ (.slice a' (run (F i).zs (units (F i).cs)).length cap')).setCell ⟨D, 4 * i + 1, none⟩ (.slice none 0 0)).setCell ⟨D, 4 * i + 3, none⟩ (.int .i64 0)).heap → W.os = w1.os → W.tape = w1.tape → W.output = w1.output →
        Goes own D w W (syncSt σ i) (m + 1)) := by
      intro a' cap' w1 W h1 h2 h3 h4 h5 h6 h7
      have := (sync_in hF hi a' cap' h1 h2 h3 W h4 h5 h6 h7).goes hs
      rw [(hs i hi).1, (hs i hi).2] at this
      have e : syncSt σ i = setSt σ i (run (σ i).1 (σ i).2, []) := by
        simp only [syncSt, isFile_yes (show (i : Int) = 0 ∨ (i : Int) = 1 by omega), Int.toNat_natCast, if_true]
        rfl
      rw [e]
      exact this
    have HE : Hid (syncErr i = 0) := by
      unfold syncErr
      rw [isFile_yes (show (i : Int) = 0 ∨ (i : Int) = 1 by omega)]
      rfl
    clear cr hf hF hs
    generalize (units (F i).cs).length = ul at *
    generalize (run (F i).zs (units (F i).cs)).length = nl at *
    rcases (show i = 0 ∨ i = 1 by omega) with rfl | rfl
    · simp only [Nat.mul_zero, Nat.mul_one, Nat.zero_add, Nat.add_zero, Nat.reduceAdd] at hc0 hc1 hc3 cr2 HG
      have f0 := hfz 0
      have f1 := hfz 1
      have f3 := hfz 3
      clear hfz
      go_enter Try.func10, Try.ntmps10
      go_wp2_with (go_at_call 25; refine (c0 _).mono ?_; rintro e w' ⟨rfl, rfl⟩)
      go_region_law (refine step_call rfl 27 #[.pointer (some ⟨D, 0, none⟩), .slice (F 0).ca (F 0).zs.length (F 0).ccap, .int .i64 ul] (by go_simp) _ cr2 ?_; rintro v w1 ⟨a', cap', rfl, hown1, hgrow1, hat1⟩; have k0 := (hgrow1.cell_far ⟨D, 0, none⟩ hD hcD).trans hc0; have k1 := (hgrow1.cell_far ⟨D, 1, none⟩ hD hcD).trans hc1; have k3 := (hgrow1.cell_far ⟨D, 3, none⟩ hD hcD).trans hc3; have g0 := (hgrow1.frozen_far ⟨D, 0, none⟩ hD hcD).trans f0; have g1 := (hgrow1.frozen_far ⟨D, 1, none⟩ hD hcD).trans f1; have g3 := (hgrow1.frozen_far ⟨D, 3, none⟩ hD hcD).trans f3)
      all_goals
        go_wp2
        go_ret
        exact ⟨ret_int HE.out.symm, HG.out a' cap' w1 _ hown1 hgrow1 hat1 rfl rfl rfl rfl⟩
    · simp only [Nat.mul_zero, Nat.mul_one, Nat.zero_add, Nat.add_zero, Nat.reduceAdd] at hc0 hc1 hc3 cr2 HG
      have f0 := hfz 4
      have f1 := hfz 5
      have f3 := hfz 7
      clear hfz
      go_enter Try.func10, Try.ntmps10
      go_wp2_with (go_at_call 25; refine (c0 _).mono ?_; rintro e w' ⟨rfl, rfl⟩)
      go_region_law (refine step_call rfl 27 #[.pointer (some ⟨D, 4, none⟩), .slice (F 1).ca (F 1).zs.length (F 1).ccap, .int .i64 ul] (by go_simp) _ cr2 ?_; rintro v w1 ⟨a', cap', rfl, hown1, hgrow1, hat1⟩; have k0 := (hgrow1.cell_far ⟨D, 4, none⟩ hD hcD).trans hc0; have k1 := (hgrow1.cell_far ⟨D, 5, none⟩ hD hcD).trans hc1; have k3 := (hgrow1.cell_far ⟨D, 7, none⟩ hD hcD).trans hc3; have g0 := (hgrow1.frozen_far ⟨D, 4, none⟩ hD hcD).trans f0; have g1 := (hgrow1.frozen_far ⟨D, 5, none⟩ hD hcD).trans f1; have g3 := (hgrow1.frozen_far ⟨D, 7, none⟩ hD hcD).trans f3)
      all_goals
        go_wp2
        go_ret
        exact ⟨ret_int HE.out.symm, HG.out a' cap' w1 _ hown1 hgrow1 hat1 rfl rfl rfl rfl⟩
  · have HE : Hid (syncErr f = 1 ∧ syncSt σ f = σ) := by
      exact ⟨by simp [syncErr, isFile_no hff], by simp [syncSt, isFile_no hff]⟩
    have c0 := fun w => has_no f w hff
    have HG : Hid (Goes own D w w σ (m + 1)) := hd.goes (by omega)
    clear hd
    go_enter Try.func10, Try.ntmps10
    go_wp2_with (go_at_call 25; refine (c0 _).mono ?_; rintro e w' ⟨rfl, rfl⟩)
    go_ret
    exact ⟨ret_int HE.out.1.symm, by rw [HE.out.2]; exact HG.out⟩

end Go.Proofs.Ytnifpfkemjolkaa.Disk
