/-
  Bytes that are put behind a file's, as pending, behind bytes that are pending already.
-/
import Derived.Test.YtnifpfkemjolkaaDiskStep
namespace Go.Proofs.Ytnifpfkemjolkaa.Disk
set_option linter.unusedVariables false
set_option linter.unusedSimpArgs false
open Go Go.RowKit
attribute [local go_sem ↓] Go.wp_at_zero Go.wp_at_succ

set_option maxRecDepth 100000 in
set_option maxHeartbeats 3200000 in
theorem write_old (D o : Nat) (w : World) (pg pcap k : Nat) (ca : Option Addr) (cl ccap : Nat) (cb : List Int) (ul nl : Nat) (a : Option Addr) (l cap : Nat) (bs : List Int)
    (hD : D < w.heap.size) (hc1 : w.cell? ⟨D, o + 1, none⟩ = some (.slice (some ⟨pg, 0, none⟩) (k + 1) pcap)) (hc2 : w.cell? ⟨D, o + 2, none⟩ = some (.int .i64 nl)) (hc3 : w.cell? ⟨D, o + 3, none⟩ = some (.int .i64 ul))
    (hfz : ∀ j, w.frozen? ⟨D, j, none⟩ = false) (hp0 : w.cell? ⟨pg, k * 3, none⟩ = some (.bool false)) (hp2 : w.cell? ⟨pg, k * 3 + 2, none⟩ = some (.slice ca cl ccap)) (hpf : w.frozen? ⟨pg, k * 3 + 2, none⟩ = false) (hpg : pg < w.heap.size)
    (hbrow : w.ownsRow 0 5 1 (.slice ca cl ccap) cl (cb.map (Value.int .u8))) (hbD : some D ≠ (Value.slice ca cl ccap).ownBlock) (hbp : some pg ≠ (Value.slice ca cl ccap).ownBlock) (hpD : pg ≠ D) (hn : k ≤ 4194304)
    (hu : (ul : Int) ≤ 70368744177664) (hnl : (nl : Int) ≤ 16777216) (hlm : l ≤ 16777216) (hcl : cl ≤ 70368744177664)
    (hr : Row w a l bs) (h0 : a = none → cap = 0) :
    Calls Try.prog 26 #[.pointer (some ⟨D, o, none⟩), .slice a l cap] w fun e W => e = .returned (.tuple #[]) ∧ ∃ a' cap' w1, w1.ownsRow 0 5 1 (.slice a' (cl + l) cap') (cl + l) ((cb ++ bs).map (Value.int .u8)) ∧
      w.grownBy w1 (Value.slice ca cl ccap).ownBlock ∧ ((Value.slice a' (cl + l) cap').ownBlock = (Value.slice ca cl ccap).ownBlock ∨ (Value.slice a' (cl + l) cap').ownBlock = some w.heap.size) ∧
      W.heap = (((w1.setCell ⟨pg, k * 3 + 2, none⟩ (.slice a' (cl + l) cap')).setCell ⟨D, o + 2, none⟩ (.int .i64 (nl + l))).setCell ⟨D, o + 3, none⟩ (.int .i64 (ul + l))).heap ∧ W.os = w1.os ∧ W.tape = w1.tape ∧ W.output = w1.output := by
  have hf2 := hfz (o + 2)
  have hf3 := hfz (o + 3)
  have hll : (l : Int) ≤ 16777216 := by omega
  have hk0 : (0 : Int) ≤ (k : Int) := Int.natCast_nonneg _
  have hk1 : (k : Int) < (k : Int) + 1 := by omega
  have hk2 : (k : Int) ≤ 4194304 := by omega
  have hown := hbrow.drew
  have hrd : Row w.drew a l bs := ⟨hr.len, hr.small, fun i hi => hr.cell i hi⟩
  clear hfz
  go_enter Try.func26, Try.ntmps26
  go_wp2_with fail
  go_region_law (refine step_append_bytes (by rfl) (.tmp 36) (.tmp 37) (by rfl) (.slice ca cl ccap) cl cb (by simp [Act.eval, Act.put]) hown a l cap bs (by simp [Act.eval, Act.put]) hrd h0 (by omega) ?_; intro a' cap' w1 hown1 hgrow1 hat1; have k1 := (hgrow1.cell_far ⟨D, o + 1, none⟩ hD hbD).trans hc1; have k2 := (hgrow1.cell_far ⟨D, o + 2, none⟩ hD hbD).trans hc2; have k3 := (hgrow1.cell_far ⟨D, o + 3, none⟩ hD hbD).trans hc3; have f2 := (hgrow1.frozen_far ⟨D, o + 2, none⟩ hD hbD).trans hf2; have f3 := (hgrow1.frozen_far ⟨D, o + 3, none⟩ hD hbD).trans hf3; have p2 := (hgrow1.cell_far ⟨pg, k * 3 + 2, none⟩ hpg hbp).trans hp2; have pf2 := (hgrow1.frozen_far ⟨pg, k * 3 + 2, none⟩ hpg hbp).trans hpf)
  all_goals
    go_wp2
    go_end0
    exact ⟨rfl, a', cap', w1, hown1, ⟨hgrow1.os, hgrow1.tape, hgrow1.output, hgrow1.size, hgrow1.block⟩, hat1, rfl, rfl, rfl, rfl⟩

end Go.Proofs.Ytnifpfkemjolkaa.Disk
