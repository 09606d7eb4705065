/-
  What is left of a disk when the power goes: a new one.
-/
import Derived.Test.YtnifpfkemjolkaaDiskSync
namespace Go.Proofs.Ytnifpfkemjolkaa.Disk
set_option linter.unusedVariables false
set_option linter.unusedSimpArgs false
open Go Go.RowKit
attribute [local go_sem ↓] Go.wp_at_zero Go.wp_at_succ

theorem file_in {w w1 : World} {own : Own} {D : Nat} {G : Nat → FileS} {i : Nat} (hd : DiskIn w own D G 0) (hi : i < 2) (zs : List Int) (a' : Option Addr) (cap' : Nat)
    (hown : w1.ownsRow w.heap.size 5 1 (.slice a' zs.length cap') zs.length (zs.map (Value.int .u8))) (hb : Below w.heap.size w w1) (hsm : ∀ z ∈ zs, 0 ≤ z ∧ z < 256) (hlen : zs.length ≤ 16777216)
    (W : World) (hW : W.heap = ((((w1.setCell ⟨D, 4 * i, none⟩ (.slice a' zs.length cap')).setCell ⟨D, 4 * i + 1, none⟩ (.slice none 0 0)).setCell ⟨D, 4 * i + 2, none⟩ (.int .i64 zs.length)).setCell ⟨D, 4 * i + 3, none⟩ (.int .i64 0)).heap) :
    ∃ own', DiskIn W own' D (upd G i ⟨a', cap', zs, none, 0, []⟩) 0 ∧ (∀ k, own' k ≠ none → own k ≠ none ∨ w.heap.size ≤ k) := by
  have h0 : w1.heap[D]? = some (.cells (rowOf (G 0) (G 1)) 47 (0, 0)) := by rw [hb.block D hd.lt]; exact hd.block
  have h1 := heap_setCell_same w1 D (4 * i) _ _ (.slice a' zs.length cap') h0
  have h2 := heap_setCell_same _ D (4 * i + 1) _ _ (.slice none 0 0) h1
  have h3 := heap_setCell_same _ D (4 * i + 2) _ _ (.int .i64 zs.length) h2
  have h4 := heap_setCell_same _ D (4 * i + 3) _ _ (.int .i64 0) h3
  rw [← hW] at h4
  have hWk : ∀ k, k ≠ D → W.heap[k]? = w1.heap[k]? := fun k hk => by rw [hW, Below.heap_setCell _ _ _ _ hk, Below.heap_setCell _ _ _ _ hk, Below.heap_setCell _ _ _ _ hk, Below.heap_setCell _ _ _ _ hk]
  have hWs : W.heap.size = w1.heap.size := by rw [hW]; simp
  have hup : ∀ k, k < w.heap.size → (if (Value.slice a' zs.length cap').ownBlock = some k then some (1, i, 0) else own k) = own k := fun k hk => by
    rw [if_neg]
    intro h
    have := (hown.lt k h).1
    omega
  have hsz := hb.size
  refine ⟨fun k => if (Value.slice a' zs.length cap').ownBlock = some k then some (1, i, 0) else own k, ⟨?_, ?_, fun k hk => ?_, fun i' hi' => ?_⟩, fun k hk => ?_⟩
  · rw [h4]
    rcases (show i = 0 ∨ i = 1 by omega) with rfl | rfl
    · simp [rowOf, upd, units, run]
    · simp [rowOf, upd, units, run]
  · rw [hup D hd.lt]; exact hd.mine
  · rw [hWs]
    by_cases h : (Value.slice a' zs.length cap').ownBlock = some k
    · exact (hown.lt k h).2
    · rw [if_neg h] at hk
      have := hd.old k hk
      omega
  · unfold upd
    by_cases hii : i' = i
    · subst hii
      rw [if_pos rfl]
      refine ⟨owns_same (owns_zero hown) fun k hk => hWk k ?_, fun k hk => ?_, World.ownsRow_nil _ _ _ _, fun k hk => (by cases hk), fun j h => (by simp at h), fun j h => (by simp at h), hsm, fun z hz => (by cases hz), trivial, fun k => ?_, Nat.zero_le _, by simp [units]⟩
      · have := (hown.lt k hk).1; have := hd.lt; omega
      · rw [if_pos hk]
      · show (run zs ((units []).take k)).length ≤ _
        simp only [units, List.flatMap_nil, List.take_nil, run_nil]
        exact hlen
    · rw [if_neg hii]
      refine (hd.file i' hi').kept (fun k t j hk ht => ?_) hup (Nat.le_refl _)
      have hlt := hd.old k (by rw [hk]; simp)
      rw [hWk k (fun e => by subst e; rw [hd.mine] at hk; simp at hk; omega), hb.block k hlt]
  · by_cases h : (Value.slice a' zs.length cap').ownBlock = some k
    · right; exact (hown.lt k h).1
    · left
      have hk' : (if (Value.slice a' zs.length cap').ownBlock = some k then some (1, i, 0) else own k) ≠ none := hk
      rw [if_neg h] at hk'
      exact hk'

theorem four_cell (w : World) (D d o0 o1 o2 o3 j : Nat) (v0 v1 v2 v3 : Value) (h : D ≠ d) : ((((w.setCell ⟨D, o0, none⟩ v0).setCell ⟨D, o1, none⟩ v1).setCell ⟨D, o2, none⟩ v2).setCell ⟨D, o3, none⟩ v3).cell? ⟨d, j, none⟩ = w.cell? ⟨d, j, none⟩ := by
  rw [World.cell?_setCell_far _ _ _ _ h, World.cell?_setCell_far _ _ _ _ h, World.cell?_setCell_far _ _ _ _ h, World.cell?_setCell_far _ _ _ _ h]
theorem four_below {B : Nat} {w w1 : World} (hb : Below B w w1) (D o0 o1 o2 o3 : Nat) (v0 v1 v2 v3 : Value) (h : B ≤ D) : Below B w ((((w1.setCell ⟨D, o0, none⟩ v0).setCell ⟨D, o1, none⟩ v1).setCell ⟨D, o2, none⟩ v2).setCell ⟨D, o3, none⟩ v3) :=
  (((hb.setCell (p := ⟨D, o0, none⟩) h v0).setCell (p := ⟨D, o1, none⟩) h v1).setCell (p := ⟨D, o2, none⟩) h v2).setCell (p := ⟨D, o3, none⟩) h v3
theorem new_at (w : World) (D : Nat) (h : w.heap.size = D) : DiskIn (w.alloc (.cells (rowOf ⟨none, 0, [], none, 0, []⟩ ⟨none, 0, [], none, 0, []⟩) 47)) (fun k => if k = D then some (0, 2, 0) else none) D (fun _ => ⟨none, 0, [], none, 0, []⟩) 0 := by
  subst h
  exact new_in w

set_option maxRecDepth 100000 in
set_option maxHeartbeats 2000000 in
theorem crash_any (D : Nat) (w : World) (own : Own) (σ : St) (m : Nat) (hd : DiskIs w own D σ m) (hm : m < 4194304) (a b : Int) (ha : a ≤ 9223372036854775807) (hb : b ≤ 9223372036854775807) :
    Calls Try.prog 12 #[.pointer (some ⟨D, 0, none⟩), .int .i64 a, .int .i64 b] w fun e W => ∃ D' own', e = .returned (.pointer (some ⟨D', 0, none⟩)) ∧ DiskIs W own' D' (crashSt σ a b) 0 ∧ (∀ k, own' k ≠ none → w.heap.size ≤ k) ∧ Below w.heap.size w W := by
  obtain ⟨F, hF, hs⟩ := hd
  have hD := hF.lt
  have cn := fun w => new_any w
  have hcut : ∀ i, i < 2 → ∀ N : Nat, (run (F i).zs ((units (F i).cs).take N)).length ≤ 16777216 := fun i hi N => (hF.file i hi).full N
  have hsml : ∀ i, i < 2 → ∀ N : Nat, ∀ z ∈ run (F i).zs ((units (F i).cs).take N), 0 ≤ z ∧ z < 256 := fun i hi N => run_small _ _ (hF.file i hi).zsmall fun z hz => (hF.file i hi).usmall z (List.mem_of_mem_take hz)
  have cl : ∀ i, i < 2 → ∀ (wr : World) (N : Int), Below w.heap.size w wr → N ≤ 9223372036854775807 → Calls Try.prog 29 #[.pointer (some ⟨D, 4 * i, none⟩), .int .i64 N] wr.drew fun e w' => ∃ v, e = .returned v ∧ ∃ a' cap', v = .slice a' (run (F i).zs ((units (F i).cs).take N.toNat)).length cap' ∧
      w'.ownsRow wr.heap.size 5 1 (.slice a' (run (F i).zs ((units (F i).cs).take N.toNat)).length cap') (run (F i).zs ((units (F i).cs).take N.toNat)).length ((run (F i).zs ((units (F i).cs).take N.toNat)).map (Value.int .u8)) ∧ Below wr.heap.size wr w' := fun i hi wr N hb hN => by
    have hc := hF.cell i hi
    have hfk : FileIn wr.drew own i (F i) m := (hF.file i hi).kept (fun k t j hk ht => hb.block k (hF.old k (by rw [hk]; simp))) (fun _ _ => rfl) (Nat.le_refl _)
    have hsz := hb.size
    have c := left_any D (4 * i) wr.drew own i (F i) m hfk hm (by show D < wr.heap.size; omega) ((hb.cell (p := ⟨D, 4 * i, none⟩) hD).trans hc.1) ((hb.cell (p := ⟨D, 4 * i + 1, none⟩) hD).trans hc.2.1) N hN
    exact c.mono fun e w' ⟨a', cap', he, ho, hb'⟩ => ⟨_, he, a', cap', rfl, ho, ⟨hb'.os, hb'.tape, hb'.output, hb'.size, hb'.block⟩⟩
  have HS : Hid (∀ i, i < 2 → (F i).zs = (σ i).1 ∧ units (F i).cs = (σ i).2) := hs
  clear hs hF
  go_enter Try.func12, Try.ntmps12
  go_wp2_with (go_at_call 5; refine (cn _).mono ?_; rintro e w1 ⟨rfl, rfl⟩)
  go_loopw [15] (fun i wr => ∃ (k : Nat) (own' : Own) (G : Nat → FileS), k ≤ 2 ∧ i = .int .i64 k ∧ DiskIn wr own' (w.heap.size + 1) G 0 ∧ Hid (∀ j, j < k → (G j).zs = run (F j).zs ((units (F j).cs).take (if j = 0 then a else b).toNat) ∧ (G j).cs = []) ∧
      wr.cell? ⟨w.heap.size, 0, none⟩ = some (.int .i64 a) ∧ wr.cell? ⟨w.heap.size, 1, none⟩ = some (.int .i64 b) ∧ Below w.heap.size w wr ∧ (∀ k, own' k ≠ none → w.heap.size + 1 ≤ k))
    (fun i _ => 2 - (intOf i).toNat)
  case atStart =>
    have hdone : ((w.alloc (.cells #[.int .i64 a, .int .i64 b] 62)).alloc (.cells (rowOf ⟨none, 0, [], none, 0, []⟩ ⟨none, 0, [], none, 0, []⟩) 47)).heap[w.heap.size]? = some (.cells #[.int .i64 a, .int .i64 b] 62 (0, 0)) := by
      rw [Below.heap_alloc _ _ _ (by simp)]
      exact heap_alloc_new w _
    refine ⟨0, _, _, by omega, rfl, new_at (w.alloc (.cells #[.int .i64 a, .int .i64 b] 62)) (w.heap.size + 1) (by simp), fun j hj => by omega, cell_of_row _ _ 0 _ _ _ hdone, cell_of_row _ _ 1 _ _ _ hdone, ((Below.refl _ _).alloc (Nat.le_refl _) _).alloc (by simp) _, fun k hk => ?_⟩
    by_cases h : k = w.heap.size + 1
    · omega
    · exact absurd (if_neg h) hk
  case round =>
    obtain ⟨k, own', G, hk, rfl, hG, HG, hca, hcb, hbel, hnew⟩ := hrel
    rcases (show k = 0 ∨ k = 1 ∨ k = 2 by omega) with rfl | rfl | rfl
    · have c0 := cl 0 (by omega) wr a hbel ha
      simp only [Nat.mul_zero, Nat.mul_one] at c0
      have hgc := hG.cell 0 (by omega)
      have hgf := hG.frozen
      simp only [Nat.mul_zero, Nat.mul_one, Nat.zero_add, Nat.reduceAdd] at hgc
      have hDlt := hG.lt
      go_wp2_with fail
      go_region_law (refine step_call rfl 29 #[.pointer (some ⟨D, 0, none⟩), .int .i64 a] (by go_simp) _ c0 ?_; rintro v w1 ⟨a', cap', rfl, hown1, hb1⟩; have k0 := (hb1.cell (p := ⟨w.heap.size + 1, 0, none⟩) hDlt).trans hgc.1; have k1 := (hb1.cell (p := ⟨w.heap.size + 1, 1, none⟩) hDlt).trans hgc.2.1; have k2 := (hb1.cell (p := ⟨w.heap.size + 1, 2, none⟩) hDlt).trans hgc.2.2.1; have k3 := (hb1.cell (p := ⟨w.heap.size + 1, 3, none⟩) hDlt).trans hgc.2.2.2; have g0 := (hb1.frozen (p := ⟨w.heap.size + 1, 0, none⟩) hDlt).trans (hgf 0); have g1 := (hb1.frozen (p := ⟨w.heap.size + 1, 1, none⟩) hDlt).trans (hgf 1); have g2 := (hb1.frozen (p := ⟨w.heap.size + 1, 2, none⟩) hDlt).trans (hgf 2); have g3 := (hb1.frozen (p := ⟨w.heap.size + 1, 3, none⟩) hDlt).trans (hgf 3))
      go_wp2
      go_roundw
      case rel =>
        clear k0 k1 k2 k3 g0 g1 g2 g3 c0 cl cn
        obtain ⟨own2, hd2, hn2⟩ := file_in hG (i := 0) (by omega) _ a' cap' hown1 hb1 (hsml 0 (by omega) _) (hcut 0 (by omega) _) _ rfl
        have hsz := hb1.size
        have hdone : w.heap.size < wr.heap.size := by omega
        refine ⟨1, own2, _, by omega, by rfl, hd2, fun j hj => ?_, ?_, ?_, four_below (hbel.trans (hb1.mono hbel.size)) _ _ _ _ _ _ _ _ _ (by omega), fun k hk => ?_⟩
        · unfold upd
          by_cases hj0 : j = 0
          · subst hj0; exact ⟨rfl, rfl⟩
          · rw [if_neg hj0]; exact HG.out j (by omega)
        · exact (four_cell _ _ _ _ _ _ _ _ _ _ _ _ (by omega)).trans ((hb1.cell (p := ⟨w.heap.size, 0, none⟩) hdone).trans hca)
        · exact (four_cell _ _ _ _ _ _ _ _ _ _ _ _ (by omega)).trans ((hb1.cell (p := ⟨w.heap.size, 1, none⟩) hdone).trans hcb)
        · rcases hn2 k hk with h | h
          · exact hnew k h
          · omega
      case measure => decide
    · have c0 := cl 1 (by omega) wr b hbel hb
      simp only [Nat.mul_zero, Nat.mul_one] at c0
      have hgc := hG.cell 1 (by omega)
      have hgf := hG.frozen
      simp only [Nat.mul_zero, Nat.mul_one, Nat.zero_add, Nat.reduceAdd] at hgc
      have hDlt := hG.lt
      go_wp2_with fail
      go_region_law (refine step_call rfl 29 #[.pointer (some ⟨D, 4, none⟩), .int .i64 b] (by go_simp) _ c0 ?_; rintro v w1 ⟨a', cap', rfl, hown1, hb1⟩; have k0 := (hb1.cell (p := ⟨w.heap.size + 1, 4, none⟩) hDlt).trans hgc.1; have k1 := (hb1.cell (p := ⟨w.heap.size + 1, 5, none⟩) hDlt).trans hgc.2.1; have k2 := (hb1.cell (p := ⟨w.heap.size + 1, 6, none⟩) hDlt).trans hgc.2.2.1; have k3 := (hb1.cell (p := ⟨w.heap.size + 1, 7, none⟩) hDlt).trans hgc.2.2.2; have g0 := (hb1.frozen (p := ⟨w.heap.size + 1, 4, none⟩) hDlt).trans (hgf 4); have g1 := (hb1.frozen (p := ⟨w.heap.size + 1, 5, none⟩) hDlt).trans (hgf 5); have g2 := (hb1.frozen (p := ⟨w.heap.size + 1, 6, none⟩) hDlt).trans (hgf 6); have g3 := (hb1.frozen (p := ⟨w.heap.size + 1, 7, none⟩) hDlt).trans (hgf 7))
      go_wp2
      go_roundw
      case rel =>
        clear k0 k1 k2 k3 g0 g1 g2 g3 c0 cl cn
        obtain ⟨own2, hd2, hn2⟩ := file_in hG (i := 1) (by omega) _ a' cap' hown1 hb1 (hsml 1 (by omega) _) (hcut 1 (by omega) _) _ rfl
        have hsz := hb1.size
        have hdone : w.heap.size < wr.heap.size := by omega
        refine ⟨2, own2, _, by omega, by rfl, hd2, fun j hj => ?_, ?_, ?_, four_below (hbel.trans (hb1.mono hbel.size)) _ _ _ _ _ _ _ _ _ (by omega), fun k hk => ?_⟩
        · unfold upd
          by_cases hj0 : j = 1
          · subst hj0; exact ⟨rfl, rfl⟩
          · rw [if_neg hj0]; exact HG.out j (by omega)
        · exact (four_cell _ _ _ _ _ _ _ _ _ _ _ _ (by omega)).trans ((hb1.cell (p := ⟨w.heap.size, 0, none⟩) hdone).trans hca)
        · exact (four_cell _ _ _ _ _ _ _ _ _ _ _ _ (by omega)).trans ((hb1.cell (p := ⟨w.heap.size, 1, none⟩) hdone).trans hcb)
        · rcases hn2 k hk with h | h
          · exact hnew k h
          · omega
      case measure => decide
    · go_wp2
      go_ret
      refine ⟨_, own', rfl, ⟨G, hG, fun i hi => ?_⟩, fun k hk => by have := hnew k hk; omega, hbel⟩
      obtain ⟨h1, h2⟩ := HG.out i hi
      obtain ⟨h3, h4⟩ := HS.out i hi
      rw [h3, h4] at h1
      exact ⟨h1, by rw [h2]; rfl⟩

end Go.Proofs.Ytnifpfkemjolkaa.Disk
