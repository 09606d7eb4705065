/-
  A new disk of the chapter's own answer, and what is left of one when the power goes.
-/
import Derived.Test.YtnifpfkemjolkaaDiskRef5
namespace Go.Proofs.Ytnifpfkemjolkaa.Disk
set_option linter.unusedVariables false
set_option linter.unusedSimpArgs false
open Go Go.RowKit
attribute [local go_sem ↓] Go.wp_at_zero Go.wp_at_succ

def rnone : RFile := ⟨none, 0, [], none, 0, []⟩
def rzero : Array Value := #[.slice none 0 0, .slice none 0 0, .slice none 0 0, .slice none 0 0]
theorem rnew_in (w : World) : RefIn (w.alloc (.cells #[.slice none 0 0, .slice none 0 0, .slice none 0 0, .slice none 0 0] 53)) (fun k => if k = w.heap.size then some (0, 2, 0) else none) w.heap.size (fun _ => rnone) 0 := by
  refine ⟨heap_alloc_new w _, by simp, fun k hk => ?_, fun i hi => ⟨World.ownsRow_nil _ _ _ _, fun k hk => (by cases hk), World.ownsRow_nil _ _ _ _, fun k hk => (by cases hk), fun z hz => (by cases hz), fun z hz => (by cases hz), trivial, fun k => ?_, Nat.zero_le _⟩⟩
  · by_cases h : k = w.heap.size
    · simp; omega
    · rw [if_neg h] at hk; exact absurd rfl hk
  · simp [rnone, run]

set_option maxHeartbeats 1000000 in
theorem rnew_any (w : World) : Calls Try.prog 6 #[] w fun e W => e = .returned (.pointer (some ⟨w.heap.size, 0, none⟩)) ∧ W = w.alloc (.cells #[.slice none 0 0, .slice none 0 0, .slice none 0 0, .slice none 0 0] 53) := by
  go_enter Try.func6, Try.ntmps6
  go_wp2
  go_ret
  exact ⟨rfl, rfl⟩

theorem rsure_in {w w1 : World} {own : Own} {D : Nat} {G : Nat → RFile} {i : Nat} (hd : RefIn w own D G 0) (hi : i < 2) (hno : G i = rnone) (zs : List Int) (a' : Option Addr) (cap' : Nat)
    (hown : w1.ownsRow w.heap.size 5 1 (.slice a' zs.length cap') zs.length (zs.map (Value.int .u8))) (hb : Below w.heap.size w w1) (hsm : ∀ z ∈ zs, 0 ≤ z ∧ z < 256) (hlen : zs.length ≤ 16777216)
    (W : World) (hW : W.heap = (w1.setCell ⟨D, 2 * i, none⟩ (.slice a' zs.length cap')).heap) :
    ∃ own', RefIn W own' D (rupd G i ⟨a', cap', zs, none, 0, []⟩) 0 ∧ (∀ k, own' k ≠ none → own k ≠ none ∨ w.heap.size ≤ k) := by
  have h0 : w1.heap[D]? = some (.cells (rrow (G 0) (G 1)) 53 (0, 0)) := by rw [hb.block D hd.lt]; exact hd.block
  have h1 := heap_setCell_same w1 D (2 * i) _ _ (.slice a' zs.length cap') h0
  rw [← hW] at h1
  have hWk : ∀ k, k ≠ D → W.heap[k]? = w1.heap[k]? := fun k hk => by rw [hW, Below.heap_setCell _ _ _ _ hk]
  have hWs : W.heap.size = w1.heap.size := by rw [hW]; simp
  have hup : ∀ k, k < w.heap.size → (if (Value.slice a' zs.length cap').ownBlock = some k then some (1, i, 0) else own k) = own k := fun k hk => by
    rw [if_neg]
    intro h
    have := (hown.lt k h).1
    omega
  have hsz := hb.size
  refine ⟨fun k => if (Value.slice a' zs.length cap').ownBlock = some k then some (1, i, 0) else own k, ⟨?_, ?_, fun k hk => ?_, fun i' hi' => ?_⟩, fun k hk => ?_⟩
  · rw [h1]
    rcases (show i = 0 ∨ i = 1 by omega) with rfl | rfl
    · simp [rrow, rupd, hno, rnone]
    · simp [rrow, rupd, hno, rnone]
  · rw [hup D hd.lt]; exact hd.mine
  · rw [hWs]
    by_cases h : (Value.slice a' zs.length cap').ownBlock = some k
    · exact (hown.lt k h).2
    · rw [if_neg h] at hk
      have := hd.old k hk
      omega
  · unfold rupd
    by_cases hii : i' = i
    · subst hii
      rw [if_pos rfl]
      refine ⟨owns_same (owns_zero hown) fun k hk => hWk k ?_, fun k hk => ?_, World.ownsRow_nil _ _ _ _, fun k hk => (by cases hk), hsm, fun z hz => (by cases hz), trivial, fun k => ?_, Nat.zero_le _⟩
      · have := (hown.lt k hk).1; have := hd.lt; omega
      · rw [if_pos hk]
      · show (run zs (([] : List U).take k)).length ≤ _
        rw [List.take_nil, run_nil]
        exact hlen
    · rw [if_neg hii]
      refine (hd.file i' hi').kept (fun k t j hk ht => ?_) hup (Nat.le_refl _)
      have hlt := hd.old k (by rw [hk]; simp)
      rw [hWk k (fun e => by subst e; rw [hd.mine] at hk; simp at hk; omega), hb.block k hlt]
  · by_cases h : (Value.slice a' zs.length cap').ownBlock = some k
    · right; exact (hown.lt k h).1
    · left
      have hk' : (if (Value.slice a' zs.length cap').ownBlock = some k then some (1, i, 0) else own k) ≠ none := hk
      rw [if_neg h] at hk'
      exact hk'

set_option maxRecDepth 100000 in
set_option maxHeartbeats 2000000 in
theorem rcrash_any (D : Nat) (w : World) (own : Own) (σ : St) (m : Nat) (hd : RefIs w own D σ m) (hm : m < 4194304) (a b : Int) :
    Calls Try.prog 20 #[.pointer (some ⟨D, 0, none⟩), .int .i64 a, .int .i64 b] w fun e W => ∃ D' own', e = .returned (.pointer (some ⟨D', 0, none⟩)) ∧ RefIs W own' D' (crashSt σ a b) 0 ∧ (∀ k, own' k ≠ none → w.heap.size ≤ k) ∧ Below w.heap.size w W := by
  obtain ⟨F, hF, hs⟩ := hd
  have hD := hF.lt
  have cl : ∀ i, i < 2 → ∀ (N : Int) (wr : World), Below w.heap.size w wr → Calls Try.prog 30 #[.agg #[.slice (F i).ca (F i).zs.length (F i).ccap, .slice (F i).pa (F i).us.length (F i).pcap], .int .i64 N] wr.drew fun e w' => ∃ v, e = .returned v ∧ ∃ a' cap', v = .slice a' (run (F i).zs ((F i).us.take N.toNat)).length cap' ∧
      w'.ownsRow wr.heap.size 5 1 (.slice a' (run (F i).zs ((F i).us.take N.toNat)).length cap') (run (F i).zs ((F i).us.take N.toNat)).length ((run (F i).zs ((F i).us.take N.toNat)).map (Value.int .u8)) ∧ Below wr.heap.size wr w' := fun i hi N wr hb => by
    have hfk : RFileIn wr.drew own i (F i) m := (hF.file i hi).kept (fun k t j hk ht => hb.block k (hF.old k (by rw [hk]; simp))) (fun _ _ => rfl) (Nat.le_refl _)
    have hz := hfk.full 0
    rw [List.take_zero, run_nil] at hz
    have hless := hfk.less
    have c := with_any wr.drew (F i).ca (F i).ccap (F i).zs (F i).pa (F i).pcap (F i).us N hfk.crow hfk.prow hfk.zsmall hfk.usmall hfk.ok (by omega)
    exact c.mono fun e w' ⟨a', cap', he, ho, hb'⟩ => ⟨_, he, a', cap', rfl, ho, ⟨hb'.os, hb'.tape, hb'.output, hb'.size, hb'.block⟩⟩
  have c0 := cl 0 (by omega) a
  have c1 := cl 1 (by omega) b
  have s0 : ∀ z ∈ run (F 0).zs ((F 0).us.take a.toNat), 0 ≤ z ∧ z < 256 := run_small _ _ (hF.file 0 (by omega)).zsmall fun z hz => (hF.file 0 (by omega)).usmall z (List.mem_of_mem_take hz)
  have s1 : ∀ z ∈ run (F 1).zs ((F 1).us.take b.toNat), 0 ≤ z ∧ z < 256 := run_small _ _ (hF.file 1 (by omega)).zsmall fun z hz => (hF.file 1 (by omega)).usmall z (List.mem_of_mem_take hz)
  have f0 := (hF.file 0 (by omega)).full a.toNat
  have f1 := (hF.file 1 (by omega)).full b.toNat
  have HE : Hid (∀ i, i < 2 → (crashSt σ a b i) = ((if i = 0 then run (F 0).zs ((F 0).us.take a.toNat) else run (F 1).zs ((F 1).us.take b.toNat)), [])) := fun i hi => by
    rcases (show i = 0 ∨ i = 1 by omega) with rfl | rfl
    · simp only [crashSt, if_pos, (hs 0 hi).1, (hs 0 hi).2]
    · simp [crashSt, (hs 1 hi).1, (hs 1 hi).2]
  obtain ⟨x0, x1⟩ := hF.cell 0 (by omega)
  obtain ⟨x2, x3⟩ := hF.cell 1 (by omega)
  simp only [Nat.mul_zero, Nat.mul_one, Nat.zero_add, Nat.reduceAdd] at x0 x1 x2 x3
  generalize run (F 0).zs ((F 0).us.take a.toNat) = A at *
  generalize run (F 1).zs ((F 1).us.take b.toNat) = B at *
  have HN : Hid (RefIn (w.alloc (.cells #[.slice none 0 0, .slice none 0 0, .slice none 0 0, .slice none 0 0] 53)) (fun k => if k = w.heap.size then some (0, 2, 0) else none) w.heap.size (fun _ => rnone) 0) := rnew_in w
  clear cl hs hF
  generalize F 0 = g0 at *
  generalize F 1 = g1 at *
  obtain ⟨ca0, ccp0, zs0, pa0, pc0, us0⟩ := g0
  obtain ⟨ca1, ccp1, zs1, pa1, pc1, us1⟩ := g1
  simp only at c0 c1 x0 x1 x2 x3
  go_enter Try.func20, Try.ntmps20
  go_wp2_with fail
  have hbv : Below w.heap.size w (w.alloc (.cells #[.slice none 0 0, .slice none 0 0, .slice none 0 0, .slice none 0 0] 53)) := (Below.refl _ _).alloc (Nat.le_refl _) _
  have n0 : (w.alloc (.cells #[.slice none 0 0, .slice none 0 0, .slice none 0 0, .slice none 0 0] 53)).heap[w.heap.size]? = _ := heap_alloc_new w _
  generalize w.alloc (.cells #[.slice none 0 0, .slice none 0 0, .slice none 0 0, .slice none 0 0] 53) = v at *
  have y0 := (hbv.cell (p := ⟨D, 0, none⟩) hD).trans x0
  have y1 := (hbv.cell (p := ⟨D, 1, none⟩) hD).trans x1
  have cc0 := c0 v hbv
  have nlt : w.heap.size < v.heap.size := HN.out.lt
  have m0 : v.cell? ⟨w.heap.size, 0, none⟩ = some (.slice none 0 0) := cell_of_row _ _ 0 _ _ _ n0
  have m2 : v.cell? ⟨w.heap.size, 2, none⟩ = some (.slice none 0 0) := cell_of_row _ _ 2 _ _ _ n0
  have z0 : v.frozen? ⟨w.heap.size, 0, none⟩ = false := frozen_of_row _ _ 0 _ _ n0
  have z2 : v.frozen? ⟨w.heap.size, 2, none⟩ = false := frozen_of_row _ _ 2 _ _ n0
  clear n0 x0 x1 c0
  go_region_law (refine step_call rfl 30 #[.agg #[.slice ca0 zs0.length ccp0, .slice pa0 us0.length pc0], .int .i64 a] (by go_simp) _ cc0 ?_; rintro r w1 ⟨a1, cap1, rfl, ho1, hb1⟩; have k0 := (hb1.cell (p := ⟨w.heap.size, 0, none⟩) nlt).trans m0; have k1 := (hb1.frozen (p := ⟨w.heap.size, 0, none⟩) nlt).trans z0)
  all_goals
    go_wp2_with fail
    obtain ⟨own2, hd2, hn2⟩ := rsure_in HN.out (i := 0) (by omega) rfl A a1 cap1 ho1 hb1 s0 f0 _ rfl
    have hb2 : Below w.heap.size w (w1.setCell ⟨w.heap.size, 0, none⟩ (.slice a1 A.length cap1)) := (hbv.trans (hb1.mono hbv.size)).setCell (p := ⟨w.heap.size, 0, none⟩) (Nat.le_refl _) _
    rw [show (2 * 0 : Nat) = 0 from rfl] at hd2
    generalize w1.setCell ⟨w.heap.size, 0, none⟩ (.slice a1 A.length cap1) = u at *
    clear k0 k1 ho1 hb1 m0 m2 z0 z2 cc0 y0 y1
    have y2 := (hb2.cell (p := ⟨D, 2, none⟩) hD).trans x2
    have y3 := (hb2.cell (p := ⟨D, 3, none⟩) hD).trans x3
    have ult := hd2.lt
    have m2 : u.cell? ⟨w.heap.size, 2, none⟩ = some (.slice none 0 0) := (hd2.cell 1 (by omega)).1
    have z2 : u.frozen? ⟨w.heap.size, 2, none⟩ = false := frozen_of_row _ _ 2 _ _ hd2.block
    have cc1 := c1 u hb2
    have HD : Hid (RefIn u own2 w.heap.size (rupd (fun _ => rnone) 0 ⟨a1, cap1, A, none, 0, []⟩) 0) := hd2
    clear hd2
    go_region_law (refine step_call rfl 30 #[.agg #[.slice ca1 zs1.length ccp1, .slice pa1 us1.length pc1], .int .i64 b] (by go_simp) _ cc1 ?_; rintro r w2 ⟨a2, cap2, rfl, ho2, hb3⟩; have k0 := (hb3.cell (p := ⟨w.heap.size, 2, none⟩) ult).trans m2; have k1 := (hb3.frozen (p := ⟨w.heap.size, 2, none⟩) ult).trans z2)
    all_goals
      go_wp2
      go_ret
      obtain ⟨own3, hd3, hn3⟩ := rsure_in HD.out (i := 1) (by omega) rfl B a2 cap2 ho2 hb3 s1 f1 _ rfl
      refine ⟨w.heap.size, own3, rfl, ⟨_, hd3, fun i hi => ?_⟩, fun k hk => ?_, (hb2.trans (hb3.mono hb2.size)).setCell (p := ⟨w.heap.size, 2, none⟩) (Nat.le_refl _) _⟩
      · rw [HE.out i hi]
        rcases (show i = 0 ∨ i = 1 by omega) with rfl | rfl
        · exact ⟨rfl, rfl⟩
        · exact ⟨rfl, rfl⟩
      · rcases hn3 k hk with h | h
        · rcases hn2 k h with h | h
          · by_cases hkw : k = w.heap.size
            · omega
            · exact absurd (if_neg hkw) h
          · have := hbv.size; omega
        · have := hb2.size; omega

end Go.Proofs.Ytnifpfkemjolkaa.Disk
