/-
  Bytes that are put behind a file's, as pending.
-/
import Derived.Test.YtnifpfkemjolkaaDiskStep
namespace Go.Proofs.Ytnifpfkemjolkaa.Disk
set_option linter.unusedVariables false
set_option linter.unusedSimpArgs false
open Go Go.RowKit
attribute [local go_sem ↓] Go.wp_at_zero Go.wp_at_succ

theorem Row.drew {w : World} {a : Option Addr} {n : Nat} {zs : List Int} (h : Row w a n zs) : Row w.drew a n zs := ⟨h.len, h.small, fun i hi => h.cell i hi⟩

set_option maxRecDepth 100000 in
set_option maxHeartbeats 3200000 in
theorem write_new (D o : Nat) (w : World) (pa : Option Addr) (pcap n : Nat) (cells : List Value) (ul nl : Nat) (a : Option Addr) (l cap : Nat) (bs : List Int)
    (hD : D < w.heap.size) (hc1 : w.cell? ⟨D, o + 1, none⟩ = some (.slice pa n pcap)) (hc2 : w.cell? ⟨D, o + 2, none⟩ = some (.int .i64 nl)) (hc3 : w.cell? ⟨D, o + 3, none⟩ = some (.int .i64 ul))
    (hfz : ∀ j, w.frozen? ⟨D, j, none⟩ = false) (hprow : w.ownsRow 0 67 3 (.slice pa n pcap) n cells) (hpD : some D ≠ (Value.slice pa n pcap).ownBlock) (hn : n ≤ 4194304)
    (hu : (ul : Int) ≤ 70368744177664) (hnl : (nl : Int) ≤ 16777216) (hlm : l ≤ 16777216)
    (hr : Row w a l bs) (h0 : a = none → cap = 0)
    (hlast : n = 0 ∨ ∃ k pg, n = k + 1 ∧ pa = some ⟨pg, 0, none⟩ ∧ w.cell? ⟨pg, k * 3, none⟩ = some (.bool true)) :
    Calls Try.prog 26 #[.pointer (some ⟨D, o, none⟩), .slice a l cap] w fun e W => e = .returned (.tuple #[]) ∧ ∃ g cap' ba bcap w1 w2, w1.ownsRow w.heap.size 5 1 (.slice ba l bcap) l (bs.map (Value.int .u8)) ∧
      Below w.heap.size w w1 ∧ w2.ownsRow 0 67 3 (.slice (some ⟨g, 0, none⟩) (n + 1) cap') (n + 1) (cells ++ [.bool false, .int .i64 0, .slice ba l bcap]) ∧ w1.grownBy w2 (Value.slice pa n pcap).ownBlock ∧ ((Value.slice pa n pcap).ownBlock = some g ∨ w1.heap.size < g) ∧
      W.heap = (((w2.setCell ⟨D, o + 1, none⟩ (.slice (some ⟨g, 0, none⟩) (n + 1) cap')).setCell ⟨D, o + 2, none⟩ (.int .i64 (nl + l))).setCell ⟨D, o + 3, none⟩ (.int .i64 (ul + l))).heap ∧ W.os = w2.os ∧ W.tape = w2.tape ∧ W.output = w2.output := by
  obtain ⟨i0, hi0, hz0, hz1, hz2⟩ := info_parts info70
  have c1 := clone_any a l cap bs w.drew hr.drew (by omega) h0
  have c2 := c1.mono (R' := fun e w' => ∃ v, e = .returned v ∧ ∃ ba bcap, v = .slice ba l bcap ∧ w'.ownsRow w.heap.size 5 1 (.slice ba l bcap) l (bs.map (Value.int .u8)) ∧ Below w.heap.size w w') (fun e w' ⟨ba, bcap, he, ho, hb⟩ => ⟨_, he, ba, bcap, rfl, ho, ⟨hb.os, hb.tape, hb.output, hb.size, hb.block⟩⟩)
  have hf1 := hfz (o + 1)
  have hll : (l : Int) ≤ 16777216 := by omega
  have hf2 := hfz (o + 2)
  have hf3 := hfz (o + 3)
  clear hfz c1
  rcases hlast with rfl | ⟨k, pg, rfl, rfl, hcut⟩
  · go_enter Try.func26, Try.ntmps26
    go_wp2_with fail
    go_region_law (first
        | (refine step_call rfl 31 #[.slice a l cap] (by go_simp) _ c2 ?_; rintro v w1 ⟨ba, bcap, rfl, hown1, hb1⟩; have k1 := (hb1.cell (p := ⟨D, o + 1, none⟩) hD).trans hc1; have kf1 := (hb1.frozen (p := ⟨D, o + 1, none⟩) hD).trans hf1; have k1a := fun x => ((hb1.alloc hb1.size x).cell (p := ⟨D, o + 1, none⟩) hD).trans hc1)
        | (refine step_append_lies _ (by rfl) _ _ _ (by rfl) 0 67 i0 _ 3 40 Try.underlying42 hi0 hz0 hz1 hz2 rfl (by decide) (.slice pa 0 pcap) 0 cells (by rfl) (owns_same hprow fun k hk => (hb1.alloc hb1.size _).block k (hprow.lt k hk).2) ⟨w1.heap.size, 0, none⟩ 1 1 [.bool false, .int .i64 0, .slice ba l bcap] (by rfl) (by rfl) (World.news_of_block (cs := #[.bool false, .int .i64 0, .slice ba l bcap]) (t := 67) (fr := (0, 0)) (heap_alloc_new w1 _)) (by simp [Value.oneCell']) (by decide) (by unfold maxLen; omega) (by omega) (Nat.zero_le _) (w1.heap.size + 1) (by simp) ?_; intro g cap' w2 hown2 hgrow2 hat2 hlt2; have hb2 := hb1.alloc hb1.size (.cells #[.bool false, .int .i64 0, .slice ba l bcap] 67); have hDw1 : D < (w1.alloc (.cells #[.bool false, .int .i64 0, .slice ba l bcap] 67)).heap.size := Nat.lt_of_lt_of_le hD hb2.size; have k2 := (hgrow2.cell_far ⟨D, o + 1, none⟩ hDw1 hpD).trans ((hb2.cell (p := ⟨D, o + 1, none⟩) hD).trans hc1); have kf2 := (hgrow2.frozen_far ⟨D, o + 1, none⟩ hDw1 hpD).trans ((hb2.frozen (p := ⟨D, o + 1, none⟩) hD).trans hf1); have k22 := (hgrow2.cell_far ⟨D, o + 2, none⟩ hDw1 hpD).trans ((hb2.cell (p := ⟨D, o + 2, none⟩) hD).trans hc2); have kf22 := (hgrow2.frozen_far ⟨D, o + 2, none⟩ hDw1 hpD).trans ((hb2.frozen (p := ⟨D, o + 2, none⟩) hD).trans hf2); have k23 := (hgrow2.cell_far ⟨D, o + 3, none⟩ hDw1 hpD).trans ((hb2.cell (p := ⟨D, o + 3, none⟩) hD).trans hc3); have kf23 := (hgrow2.frozen_far ⟨D, o + 3, none⟩ hDw1 hpD).trans ((hb2.frozen (p := ⟨D, o + 3, none⟩) hD).trans hf3)))
    all_goals
      go_wp2
      go_end0
      exact ⟨rfl, g, cap', ba, bcap, w1, w2, hown1, hb1, hown2, (World.grownBy_alloc _ _ _).trans hgrow2, hat2.imp id fun h => by omega, rfl, rfl, rfl, rfl⟩
  · go_enter Try.func26, Try.ntmps26
    go_wp2_with fail
    go_region_law (first
        | (refine step_call rfl 31 #[.slice a l cap] (by go_simp) _ c2 ?_; rintro v w1 ⟨ba, bcap, rfl, hown1, hb1⟩; have k1 := (hb1.cell (p := ⟨D, o + 1, none⟩) hD).trans hc1; have kf1 := (hb1.frozen (p := ⟨D, o + 1, none⟩) hD).trans hf1; have k1a := fun x => ((hb1.alloc hb1.size x).cell (p := ⟨D, o + 1, none⟩) hD).trans hc1)
        | (refine step_append_lies _ (by rfl) _ _ _ (by rfl) 0 67 i0 _ 3 40 Try.underlying42 hi0 hz0 hz1 hz2 rfl (by decide) (.slice (some ⟨pg, 0, none⟩) (k + 1) pcap) (k + 1) cells (by rfl) (owns_same hprow fun k hk => (hb1.alloc hb1.size _).block k (hprow.lt k hk).2) ⟨w1.heap.size, 0, none⟩ 1 1 [.bool false, .int .i64 0, .slice ba l bcap] (by rfl) (by rfl) (World.news_of_block (cs := #[.bool false, .int .i64 0, .slice ba l bcap]) (t := 67) (fr := (0, 0)) (heap_alloc_new w1 _)) (by simp [Value.oneCell']) (by decide) (by unfold maxLen; omega) (by omega) (Nat.zero_le _) (w1.heap.size + 1) (by simp) ?_; intro g cap' w2 hown2 hgrow2 hat2 hlt2; have hb2 := hb1.alloc hb1.size (.cells #[.bool false, .int .i64 0, .slice ba l bcap] 67); have hDw1 : D < (w1.alloc (.cells #[.bool false, .int .i64 0, .slice ba l bcap] 67)).heap.size := Nat.lt_of_lt_of_le hD hb2.size; have k2 := (hgrow2.cell_far ⟨D, o + 1, none⟩ hDw1 hpD).trans ((hb2.cell (p := ⟨D, o + 1, none⟩) hD).trans hc1); have kf2 := (hgrow2.frozen_far ⟨D, o + 1, none⟩ hDw1 hpD).trans ((hb2.frozen (p := ⟨D, o + 1, none⟩) hD).trans hf1); have k22 := (hgrow2.cell_far ⟨D, o + 2, none⟩ hDw1 hpD).trans ((hb2.cell (p := ⟨D, o + 2, none⟩) hD).trans hc2); have kf22 := (hgrow2.frozen_far ⟨D, o + 2, none⟩ hDw1 hpD).trans ((hb2.frozen (p := ⟨D, o + 2, none⟩) hD).trans hf2); have k23 := (hgrow2.cell_far ⟨D, o + 3, none⟩ hDw1 hpD).trans ((hb2.cell (p := ⟨D, o + 3, none⟩) hD).trans hc3); have kf23 := (hgrow2.frozen_far ⟨D, o + 3, none⟩ hDw1 hpD).trans ((hb2.frozen (p := ⟨D, o + 3, none⟩) hD).trans hf3)))
    all_goals
      go_wp2
      go_end0
      exact ⟨rfl, g, cap', ba, bcap, w1, w2, hown1, hb1, hown2, (World.grownBy_alloc _ _ _).trans hgrow2, hat2.imp id fun h => by omega, rfl, rfl, rfl, rfl⟩

end Go.Proofs.Ytnifpfkemjolkaa.Disk
