/-
  A unit more behind a file of the chapter's own answer.
-/
import Derived.Test.YtnifpfkemjolkaaDiskRef2
namespace Go.Proofs.Ytnifpfkemjolkaa.Disk
set_option linter.unusedVariables false
set_option linter.unusedSimpArgs false
open Go Go.RowKit

def rupd (F : Nat → RFile) (i : Nat) (f : RFile) : Nat → RFile := fun j => if j = i then f else F j
def RTurned (own : Own) (D : Nat) (F : Nat → RFile) (m : Nat) (i : Nat) (w W : World) (zs : List Int) (us : List U) : Prop :=
  ∃ own' f', RefIn W own' D (rupd F i f') m ∧ (∀ k, k < w.heap.size → own' k = own k) ∧ Kept own w W ∧ f'.zs = zs ∧ f'.us = us
theorem usCells_snoc (us : List U) (u : U) : usCells (us ++ [u]) = usCells us ++ uCells u := by unfold usCells; rw [List.flatMap_append]; simp

theorem rpush_in {w w1 : World} {own : Own} {D : Nat} {F : Nat → RFile} {m m' i : Nat} (hd : RefIn w own D F m) (hi : i < 2) (u : U) (g cap : Nat)
    (hown : w1.ownsRow 0 64 3 (.slice (some ⟨g, 0, none⟩) ((F i).us.length + 1) cap) ((F i).us.length + 1) (usCells (F i).us ++ uCells u))
    (hgrow : w.grownBy w1 (Value.slice (F i).pa (F i).us.length (F i).pcap).ownBlock) (hat : (Value.slice (F i).pa (F i).us.length (F i).pcap).ownBlock = some g ∨ w.heap.size ≤ g)
    (hsm : ∀ z, u = .inl z → 0 ≤ z ∧ z < 256) (hok : ∀ n, u = .inr n → n ≤ (run (F i).zs (F i).us).length) (hfull : (step (run (F i).zs (F i).us) u).length ≤ 16777216) (hm : m ≤ m') (hless : (F i).us.length + 1 ≤ m' * 16777216)
    (W : World) (hW : W.heap = (w1.setCell ⟨D, 2 * i + 1, none⟩ (.slice (some ⟨g, 0, none⟩) ((F i).us.length + 1) cap)).heap)
    (hos : W.os = w1.os) (hta : W.tape = w1.tape) (hou : W.output = w1.output) : RTurned own D F m' i w W (F i).zs ((F i).us ++ [u]) := by
  have hf := hd.file i hi
  have hpD : some D ≠ (Value.slice (F i).pa (F i).us.length (F i).pcap).ownBlock := fun e => by
    have := hf.pown D e.symm
    rw [hd.mine] at this
    simp at this
  have hgD : g ≠ D := by
    rcases hat with h | h
    · intro e; subst e; exact hpD h.symm
    · have := hd.lt; omega
  have h1 := heap_setCell_same w1 D (2 * i + 1) _ _ (.slice (some ⟨g, 0, none⟩) ((F i).us.length + 1) cap) (show w1.heap[D]? = some (.cells (rrow (F 0) (F 1)) 53 (0, 0)) by rw [hgrow.block D hd.lt hpD]; exact hd.block)
  rw [← hW] at h1
  have hWk : ∀ k, k ≠ D → W.heap[k]? = w1.heap[k]? := fun k hk => by rw [hW, Below.heap_setCell _ _ _ _ hk]
  have hWs : W.heap.size = w1.heap.size := by rw [hW]; simp
  have hsame : ∀ k, k < w.heap.size → k ≠ D → own k ≠ some (2, i, 0) → W.heap[k]? = w.heap[k]? := fun k hk hkD ho => by
    rw [hWk k hkD, hgrow.block k hk fun e => ho (hf.pown k e.symm)]
  have hup : ∀ k, k < w.heap.size → (if k = g then some (2, i, 0) else own k) = own k := fun k hk => by
    by_cases h : k = g
    · subst h
      rw [if_pos rfl]
      rcases hat with h | h
      · exact (hf.pown k h).symm
      · omega
    · rw [if_neg h]
  have hl : ((F i).us ++ [u]).length = (F i).us.length + 1 := by simp
  refine ⟨fun k => if k = g then some (2, i, 0) else own k, ⟨(F i).ca, (F i).ccap, (F i).zs, some ⟨g, 0, none⟩, cap, (F i).us ++ [u]⟩, ⟨?_, ?_, fun k hk => ?_, fun i' hi' => ?_⟩, hup, ⟨?_, ?_, ?_, ?_, fun k hk hn => ?_⟩, rfl, rfl⟩
  · rw [h1]
    rcases (show i = 0 ∨ i = 1 by omega) with rfl | rfl
    · simp [rrow, rupd]
    · simp [rrow, rupd]
  · rw [hup D hd.lt]; exact hd.mine
  · rw [hWs]
    have hsz := hgrow.size
    by_cases h : k = g
    · subst h; exact (hown.lt k rfl).2
    · rw [if_neg h] at hk
      have := hd.old k hk
      omega
  · unfold rupd
    by_cases hii : i' = i
    · subst hii
      rw [if_pos rfl]
      refine ⟨owns_same hf.crow fun k hk => hsame k (hf.crow.lt k hk).2 (fun e => by subst e; have := hf.cown k hk; rw [hd.mine] at this; simp at this) (by rw [hf.cown k hk]; simp), fun k hk => ?_, ?_, fun k hk => ?_, hf.zsmall, fun z hz => ?_, ?_, fun k => ?_, ?_⟩
      · rw [hup k (hf.crow.lt k hk).2]; exact hf.cown k hk
      · show W.ownsRow 0 _ 3 (.slice _ ((F i').us ++ [u]).length cap) ((F i').us ++ [u]).length (usCells ((F i').us ++ [u]))
        rw [hl, usCells_snoc]
        exact owns_same hown fun k hk => hWk k (by have : g = k := by simpa [Value.ownBlock] using hk
                                                   omega)
      · have : g = k := by simpa [Value.ownBlock] using hk
        rw [if_pos this.symm]
      · rcases List.mem_append.1 hz with h | h
        · exact hf.usmall z h
        · exact hsm z (List.mem_singleton.1 h).symm
      · exact (okb_append _ _ _).2 ⟨hf.ok, ⟨fun n hn => hok n hn, trivial⟩⟩
      · refine full_on _ _ _ _ hf.full (fun j => ?_) k
        cases j with
        | zero => rw [List.take_zero, run_nil]; have := hf.full (F i').us.length; rwa [List.take_length] at this
        | succ j => rw [List.take_succ_cons, List.take_nil]; exact hfull
      · show ((F i').us ++ [u]).length ≤ _
        rw [hl]; exact hless
    · rw [if_neg hii]
      exact (hd.file i' hi').kept (fun k t j hk ht => hsame k (hd.old k (by rw [hk]; simp)) (fun e => by subst e; rw [hd.mine] at hk; simp at hk; omega) (by rw [hk]; simp; omega)) hup hm
  · exact hos.trans hgrow.os
  · exact hta.trans hgrow.tape
  · exact hou.trans hgrow.output
  · rw [hWs]; exact hgrow.size
  · exact hsame k hk (fun e => by subst e; rw [hd.mine] at hn; simp at hn) (by rw [hn]; simp)

end Go.Proofs.Ytnifpfkemjolkaa.Disk
