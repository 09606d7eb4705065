/-
  What is left of a disk when the power goes: a new one.
-/
import Derived.Test.YtnehkjabhmhijaaDiskSync
namespace Go.Proofs.Ytnehkjabhmhijaa.Disk
set_option linter.unusedVariables false
set_option linter.unusedSimpArgs false
open Go Go.RowKit
attribute [local go_sem ↓] Go.wp_at_zero Go.wp_at_succ

theorem file_in {w w1 : World} {own : Own} {D : Nat} {G : Nat → FileS} {i : Nat} (hd : DiskIn w own D G 0) (hi : i < 2) (zs : List Int) (a' : Option Addr) (cap' : Nat)
    (hown : w1.ownsRow w.heap.size 5 1 (.slice a' zs.length cap') zs.length (zs.map (Value.int .u8))) (hb : Below w.heap.size w w1) (hsm : ∀ z ∈ zs, 0 ≤ z ∧ z < 256) (hlen : zs.length ≤ 16777216)
    (W : World) (hW : W.heap = ((((w1.setCell ⟨D, 4 * i, none⟩ (.slice a' zs.length cap')).setCell ⟨D, 4 * i + 1, none⟩ (.slice none 0 0)).setCell ⟨D, 4 * i + 2, none⟩ (.int .i64 zs.length)).setCell ⟨D, 4 * i + 3, none⟩ (.int .i64 0)).heap) :
    ∃ own', DiskIn W own' D (upd G i ⟨a', cap', zs, none, 0, []⟩) 0 ∧ (∀ k, own' k ≠ none → own k ≠ none ∨ w.heap.size ≤ k) := by
  have h0 : w1.heap[D]? = some (.cells (rowOf (G 0) (G 1)) 56 (0, 0)) := by rw [hb.block D hd.lt]; exact hd.block
  have h1 := heap_setCell_same w1 D (4 * i) _ _ (.slice a' zs.length cap') h0
  have h2 := heap_setCell_same _ D (4 * i + 1) _ _ (.slice none 0 0) h1
  have h3 := heap_setCell_same _ D (4 * i + 2) _ _ (.int .i64 zs.length) h2
  have h4 := heap_setCell_same _ D (4 * i + 3) _ _ (.int .i64 0) h3
  rw [← hW] at h4
  have hWk : ∀ k, k ≠ D → W.heap[k]? = w1.heap[k]? := fun k hk => by rw [hW, Below.heap_setCell _ _ _ _ hk, Below.heap_setCell _ _ _ _ hk, Below.heap_setCell _ _ _ _ hk, Below.heap_setCell _ _ _ _ hk]
  have hWs : W.heap.size = w1.heap.size := by rw [hW]; simp
  have hup : ∀ k, k < w.heap.size → (if (Value.slice a' zs.length cap').ownBlock = some k then some (1, i, 0) else own k) = own k := fun k hk => by
    rw [if_neg]
    intro h
    have := (hown.lt k h).1
    omega
  have hsz := hb.size
  refine ⟨fun k => if (Value.slice a' zs.length cap').ownBlock = some k then some (1, i, 0) else own k, ⟨?_, ?_, fun k hk => ?_, fun i' hi' => ?_⟩, fun k hk => ?_⟩
  · rw [h4]
    rcases (show i = 0 ∨ i = 1 by omega) with rfl | rfl
    · simp [rowOf, upd, units, run]
    · simp [rowOf, upd, units, run]
  · rw [hup D hd.lt]; exact hd.mine
  · rw [hWs]
    by_cases h : (Value.slice a' zs.length cap').ownBlock = some k
    · exact (hown.lt k h).2
    · rw [if_neg h] at hk
      have := hd.old k hk
      omega
  · unfold upd
    by_cases hii : i' = i
    · subst hii
      rw [if_pos rfl]
      refine ⟨owns_same (owns_zero hown) fun k hk => hWk k ?_, fun k hk => ?_, World.ownsRow_nil _ _ _ _, fun k hk => (by cases hk), fun j h => (by simp at h), fun j h => (by simp at h), hsm, fun z hz => (by cases hz), trivial, fun k => ?_, Nat.zero_le _, by simp [units]⟩
      · have := (hown.lt k hk).1; have := hd.lt; omega
      · rw [if_pos hk]
      · show (run zs ((units []).take k)).length ≤ _
        simp only [units, List.flatMap_nil, List.take_nil, run_nil]
        exact hlen
    · rw [if_neg hii]
      refine (hd.file i' hi').kept (fun k t j hk ht => ?_) hup (Nat.le_refl _)
      have hlt := hd.old k (by rw [hk]; simp)
      rw [hWk k (fun e => by subst e; rw [hd.mine] at hk; simp at hk; omega), hb.block k hlt]
  · by_cases h : (Value.slice a' zs.length cap').ownBlock = some k
    · right; exact (hown.lt k h).1
    · left
      have hk' : (if (Value.slice a' zs.length cap').ownBlock = some k then some (1, i, 0) else own k) ≠ none := hk
      rw [if_neg h] at hk'
      exact hk'

theorem four_cell (w : World) (D d o0 o1 o2 o3 j : Nat) (v0 v1 v2 v3 : Value) (h : D ≠ d) : ((((w.setCell ⟨D, o0, none⟩ v0).setCell ⟨D, o1, none⟩ v1).setCell ⟨D, o2, none⟩ v2).setCell ⟨D, o3, none⟩ v3).cell? ⟨d, j, none⟩ = w.cell? ⟨d, j, none⟩ := by
  rw [World.cell?_setCell_far _ _ _ _ h, World.cell?_setCell_far _ _ _ _ h, World.cell?_setCell_far _ _ _ _ h, World.cell?_setCell_far _ _ _ _ h]
theorem four_below {B : Nat} {w w1 : World} (hb : Below B w w1) (D o0 o1 o2 o3 : Nat) (v0 v1 v2 v3 : Value) (h : B ≤ D) : Below B w ((((w1.setCell ⟨D, o0, none⟩ v0).setCell ⟨D, o1, none⟩ v1).setCell ⟨D, o2, none⟩ v2).setCell ⟨D, o3, none⟩ v3) :=
  (((hb.setCell (p := ⟨D, o0, none⟩) h v0).setCell (p := ⟨D, o1, none⟩) h v1).setCell (p := ⟨D, o2, none⟩) h v2).setCell (p := ⟨D, o3, none⟩) h v3
theorem new_at (w : World) (D : Nat) (h : w.heap.size = D) : DiskIn (w.alloc (.cells (rowOf ⟨none, 0, [], none, 0, []⟩ ⟨none, 0, [], none, 0, []⟩) 56)) (fun k => if k = D then some (0, 2, 0) else none) D (fun _ => ⟨none, 0, [], none, 0, []⟩) 0 := by
  subst h
  exact new_in w

end Go.Proofs.Ytnehkjabhmhijaa.Disk
