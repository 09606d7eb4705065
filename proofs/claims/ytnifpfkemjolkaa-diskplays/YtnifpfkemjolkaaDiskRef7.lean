/-
  Append of the chapter's own answer: a unit for each byte.
-/
import Derived.Test.YtnifpfkemjolkaaDiskRef6
namespace Go.Proofs.Ytnifpfkemjolkaa.Disk
set_option linter.unusedVariables false
set_option linter.unusedSimpArgs false
open Go Go.RowKit
attribute [local go_sem ↓] Go.wp_at_zero Go.wp_at_succ

theorem RGoes.join {own own1 : Own} {D : Nat} {w v W : World} {σ : St} {m : Nat} (ho : ∀ k, k < w.heap.size → own1 k = own k) (hk : Kept own w v) (h : RGoes own1 D v W σ m) : RGoes own D w W σ m := by
  obtain ⟨own', h1, h2, h3⟩ := h
  have hs := hk.size
  exact ⟨own', h1, fun k hlt => (h2 k (by omega)).trans (ho k hlt), ⟨h3.os.trans hk.os, h3.tape.trans hk.tape, h3.output.trans hk.output, Nat.le_trans hk.size h3.size, fun k hlt hn => (h3.block k (by omega) (by rw [ho k hlt]; exact hn)).trans (hk.block k hlt hn)⟩⟩
/- Behind k bytes. -/
def RApp (own : Own) (D : Nat) (w : World) (σ : St) (m i : Nat) (bs : List Int) (k : Nat) (W : World) : Prop := RGoes own D w W (setSt σ i ((σ i).1, (σ i).2 ++ (bs.take k).map Sum.inl)) (m + 1)
theorem setSt_setSt (σ : St) (i : Nat) (p q : List Int × List U) : setSt (setSt σ i p) i q = setSt σ i q := by
  funext j
  unfold setSt
  by_cases h : j = i
  · rw [if_pos h, if_pos h]
  · rw [if_neg h, if_neg h, if_neg h]
theorem setSt_at (σ : St) (i : Nat) (p : List Int × List U) : setSt σ i p i = p := if_pos rfl
theorem RApp.start {own : Own} {D : Nat} {w v : World} {σ : St} {m i : Nat} {bs : List Int} (hd : RefIs w own D σ m) (hb : Below w.heap.size w v) : RApp own D w σ m i bs 0 v := by
  unfold RApp
  rw [List.take_zero, List.map_nil, List.append_nil, show setSt σ i ((σ i).1, (σ i).2) = σ from ?_]
  · exact ⟨own, hd.later hb (Nat.le_succ m), fun _ _ => rfl, kept_below hb⟩
  · funext j
    unfold setSt
    by_cases h : j = i
    · subst h; rw [if_pos rfl]
    · rw [if_neg h]
theorem RApp.one {own : Own} {D : Nat} {w : World} {σ : St} {m i : Nat} {bs : List Int} (hd : RefIs w own D σ m) (hm : m < 262143) (hi : i < 2) (a : Option Addr) (l : Nat) (hr : Row w a l bs)
    (hfar : 0 < l → ∀ x, a = some x → own x.block = none ∧ x.block < w.heap.size) (hfull : (now σ i).length + l ≤ 16777216) (k : Nat) (hk : k < l) (v : World) (h : RApp own D w σ m i bs k v) :
    ∃ z x, a = some x ∧ v.cell? (x.add k) = some (.int .u8 z) ∧ ∃ pa n pcap cells, v.cell? ⟨D, 2 * i + 1, none⟩ = some (.slice pa n pcap) ∧ v.frozen? ⟨D, 2 * i + 1, none⟩ = false ∧ v.ownsRow 0 64 3 (.slice pa n pcap) n cells ∧ some D ≠ (Value.slice pa n pcap).ownBlock ∧ D < v.heap.size ∧ n ≤ 4398046511104 ∧
      ∀ (g cap : Nat) (w1 W : World), w1.ownsRow 0 64 3 (.slice (some ⟨g, 0, none⟩) (n + 1) cap) (n + 1) (cells ++ [.int .u8 z, .bool false, .int .i64 0]) → v.grownBy w1 (Value.slice pa n pcap).ownBlock → ((Value.slice pa n pcap).ownBlock = some g ∨ v.heap.size ≤ g) →
        W.heap = (w1.setCell ⟨D, 2 * i + 1, none⟩ (.slice (some ⟨g, 0, none⟩) (n + 1) cap)).heap → W.os = w1.os → W.tape = w1.tape → W.output = w1.output → RApp own D w σ m i bs (k + 1) W := by
  have hbl := hr.len
  obtain ⟨own1, hd1, ho, hkp⟩ := h
  obtain ⟨F0, hF0, hs0⟩ := hd
  have hle0 := (hF0.file i hi).less
  rw [(hs0 i hi).2] at hle0
  obtain ⟨F, hF, hs⟩ := hd1
  have hf := hF.file i hi
  have hsi := hs i hi
  rw [setSt_at] at hsi
  obtain ⟨hz, hu⟩ := hsi
  simp only at hz hu
  have hul : (F i).us.length = (σ i).2.length + k := by rw [hu, List.length_append, List.length_map, List.length_take]; omega
  obtain ⟨x, hx, hc⟩ := hr.cell k (by omega)
  have hrun : run (F i).zs (F i).us = now σ i ++ bs.take k := by rw [hz, hu, run_append, run_bytes]; rfl
  refine ⟨bs.getD k 0, x, hx, ?_, (F i).pa, (F i).us.length, (F i).pcap, usCells (F i).us, (hF.cell i hi).2, frozen_of_row _ _ _ _ _ hF.block, hf.prow, fun e => by have := hf.pown D e.symm; rw [hF.mine] at this; simp at this, hF.lt, by omega, fun g cap w1 W a1 a2 a3 a4 a5 a6 a7 => ?_⟩
  · obtain ⟨q1, q2⟩ := hfar (by omega) x hx
    rw [← hc]
    exact World.cell?_of_block (by rw [block_add]; exact hkp.block _ q2 q1)
  · have hzm : bs.getD k 0 ∈ bs := by rw [getD_in bs k (by omega)]; exact List.getElem_mem _
    have := (rpush_in hF hi (.inl (bs.getD k 0)) g cap a1 a2 a3 (fun z h => by cases h; exact hr.small _ hzm) (fun n' h => by cases h) (by show (run (F i).zs (F i).us ++ [_]).length ≤ _; rw [hrun]; simp only [List.length_append, List.length_take, List.length_singleton]; omega) (Nat.le_refl (m + 1)) (by rw [hul]; omega) W a4 a5 a6 a7).goes hs
    rw [setSt_setSt, hz, hu, List.append_assoc, show (bs.take k).map (Sum.inl : Int → U) ++ [Sum.inl (bs.getD k 0)] = (bs.take (k + 1)).map Sum.inl by rw [List.take_succ_eq_append_getElem (by omega), List.map_append, getD_in bs k (by omega)]; rfl] at this
    exact this.join ho hkp

set_option maxRecDepth 100000 in
set_option maxHeartbeats 4000000 in
theorem rappend_any (D : Nat) (w : World) (own : Own) (σ : St) (m : Nat) (hd : RefIs w own D σ m) (hm : m < 262143) (f : Int) (a : Option Addr) (l cap : Nat) (bs : List Int) (hr : Row w a l bs)
    (hfar : 0 < l → ∀ x, a = some x → own x.block = none ∧ x.block < w.heap.size) (hl : l ≤ 140737488355328) :
    Calls Try.prog 17 #[.pointer (some ⟨D, 0, none⟩), .int .i64 f, .slice a l cap] w fun e W => e = .returned (.int .i64 (appErr σ f l)) ∧ RGoes own D w W (appSt σ f bs) (m + 1) := by
  obtain ⟨i0, hi0, hz0, hz1, hz2⟩ := info_parts info67
  have cS := rsize_any D w own σ m hd (by omega) f
  have hbl := hr.len
  by_cases hff : f = 0 ∨ f = 1
  · obtain ⟨i, hi, rfl⟩ : ∃ i : Nat, i < 2 ∧ f = (i : Int) := ⟨f.toNat, by omega, by omega⟩
    rw [read_len σ i hi] at cS
    by_cases hs1 : (now σ i).length + l ≤ 16777216
    · have HE : Hid (appErr σ i l = 0 ∧ appSt σ i bs = setSt σ i ((σ i).1, (σ i).2 ++ bs.map Sum.inl)) := by
        have e : appErr σ i l = 0 := by simp only [appErr, isFile_yes (show (i : Int) = 0 ∨ (i : Int) = 1 by omega), Int.toNat_natCast, if_true, if_neg (show ¬ 16777216 < (now σ i).length + l by omega)]
        refine ⟨e, ?_⟩
        unfold appSt
        rw [hbl, e]
        rfl
      have HS : Hid (∀ v, Below w.heap.size w v → RApp own D w σ m i bs 0 v) := fun v hv => .start hd hv
      have HO : Hid (∀ k, k < l → ∀ v, RApp own D w σ m i bs k v → ∃ z x, a = some x ∧ v.cell? (x.add k) = some (.int .u8 z) ∧ ∃ pa n pcap cells, v.cell? ⟨D, 2 * i + 1, none⟩ = some (.slice pa n pcap) ∧ v.frozen? ⟨D, 2 * i + 1, none⟩ = false ∧ v.ownsRow 0 64 3 (.slice pa n pcap) n cells ∧ some D ≠ (Value.slice pa n pcap).ownBlock ∧ D < v.heap.size ∧ n ≤ 4398046511104 ∧
          ∀ (g cap : Nat) (w1 W : World), w1.ownsRow 0 64 3 (.slice (some ⟨g, 0, none⟩) (n + 1) cap) (n + 1) (cells ++ [.int .u8 z, .bool false, .int .i64 0]) → v.grownBy w1 (Value.slice pa n pcap).ownBlock → ((Value.slice pa n pcap).ownBlock = some g ∨ v.heap.size ≤ g) →
            W.heap = (w1.setCell ⟨D, 2 * i + 1, none⟩ (.slice (some ⟨g, 0, none⟩) (n + 1) cap)).heap → W.os = w1.os → W.tape = w1.tape → W.output = w1.output → RApp own D w σ m i bs (k + 1) W) := fun k hk v h => RApp.one hd hm hi a l hr hfar hs1 k hk v h
      have HF : Hid (∀ v, RApp own D w σ m i bs l v → RGoes own D w v (appSt σ i bs) (m + 1)) := fun v h => by
        unfold RApp at h
        rw [← hbl, List.take_length] at h
        rw [HE.out.2]
        exact h
      clear hd hr
      generalize (now σ i).length = nl at *
      have hcmp : ¬ (16777216 : Int) < (nl : Int) + (l : Int) := by omega
      generalize hQ : RApp own D w σ m i bs = Q at *
      rcases (show i = 0 ∨ i = 1 by omega) with rfl | rfl
      · go_enter Try.func17, Try.ntmps17
        go_wp2_with (go_at_call 23; refine cS.mono ?_; rintro e v ⟨rfl, hv⟩)
        have q0 := HS.out v hv
        clear cS hcmp HS
        go_loopw [7] (fun i wr => ∃ k : Nat, k ≤ l ∧ i = .int .i64 k ∧ Q k wr) (fun i _ => l - (intOf i).toNat)
        case atStart => exact ⟨0, Nat.zero_le _, rfl, q0⟩
        case round =>
          obtain ⟨k, hk, rfl, hq⟩ := hrel
          by_cases hlt : (k : Int) < (l : Int)
          · obtain ⟨z, x, rfl, cz, pa, n, pcap, cells, c1, f1, hprow, hpD, hDv, hnb, hfin⟩ := HO.out k (by omega) wr hq
            simp only [Nat.mul_zero, Nat.mul_one, Nat.zero_add, Nat.reduceAdd] at c1 f1 hfin
            have c1a := fun o => (((Below.refl wr.heap.size wr).alloc (Nat.le_refl _) o).cell (p := ⟨D, 1, none⟩) hDv).trans c1
            have t0 : (0 : Int) ≤ (k : Int) := by omega
            clear hq q0 HO
            go_wp2_with fail
            go_region_law (refine step_append_lies _ (by rfl) _ _ _ (by rfl) 0 64 i0 _ 3 16 Try.underlying48 hi0 hz0 hz1 hz2 rfl (by decide) (.slice pa n pcap) n cells (by rfl) ((hprow.alloc _).drew) ⟨wr.heap.size, 0, none⟩ 1 1 [.int .u8 z, .bool false, .int .i64 0] (by rfl) (by rfl) (World.news_of_block (cs := #[.int .u8 z, .bool false, .int .i64 0]) (t := 64) (fr := (0, 0)) (heap_alloc_new wr _)) (by simp [Value.oneCell']) (by decide) (by unfold maxLen; omega) (by omega) (Nat.zero_le _) (wr.heap.size + 1) (by simp) ?_; intro g cap2 w1 hown1 hgrow1 hat1 hlt1; have hDa : D < (wr.alloc (.cells #[.int .u8 z, .bool false, .int .i64 0] 64)).drew.heap.size := Nat.lt_of_lt_of_le hDv ((Below.refl wr.heap.size wr).alloc (Nat.le_refl _) _).size; have k1 := (hgrow1.cell_far ⟨D, 1, none⟩ hDa hpD).trans (c1a _); have kf1 := (hgrow1.frozen_far ⟨D, 1, none⟩ hDa hpD).trans ((((Below.refl wr.heap.size wr).alloc (Nat.le_refl _) _).frozen (p := ⟨D, 1, none⟩) hDv).trans f1))
            all_goals
              go_wp2
              go_roundw
              case rel => exact ⟨k + 1, by omega, by go_num, hfin g cap2 w1 _ hown1 ((World.grownBy_alloc wr _ _).trans ⟨hgrow1.os, hgrow1.tape, hgrow1.output, hgrow1.size, hgrow1.block⟩) (hat1.imp id fun h => by omega) rfl rfl rfl rfl⟩
              case measure => simp [intOf]; omega
          · obtain rfl : k = l := by omega
            go_wp2
            go_ret
            exact ⟨ret_int HE.out.1.symm, HF.out _ hq⟩
      · go_enter Try.func17, Try.ntmps17
        go_wp2_with (go_at_call 23; refine cS.mono ?_; rintro e v ⟨rfl, hv⟩)
        have q0 := HS.out v hv
        clear cS hcmp HS
        go_loopw [7] (fun i wr => ∃ k : Nat, k ≤ l ∧ i = .int .i64 k ∧ Q k wr) (fun i _ => l - (intOf i).toNat)
        case atStart => exact ⟨0, Nat.zero_le _, rfl, q0⟩
        case round =>
          obtain ⟨k, hk, rfl, hq⟩ := hrel
          by_cases hlt : (k : Int) < (l : Int)
          · obtain ⟨z, x, rfl, cz, pa, n, pcap, cells, c1, f1, hprow, hpD, hDv, hnb, hfin⟩ := HO.out k (by omega) wr hq
            simp only [Nat.mul_zero, Nat.mul_one, Nat.zero_add, Nat.reduceAdd] at c1 f1 hfin
            have c1a := fun o => (((Below.refl wr.heap.size wr).alloc (Nat.le_refl _) o).cell (p := ⟨D, 3, none⟩) hDv).trans c1
            have t0 : (0 : Int) ≤ (k : Int) := by omega
            clear hq q0 HO
            go_wp2_with fail
            go_region_law (refine step_append_lies _ (by rfl) _ _ _ (by rfl) 0 64 i0 _ 3 16 Try.underlying48 hi0 hz0 hz1 hz2 rfl (by decide) (.slice pa n pcap) n cells (by rfl) ((hprow.alloc _).drew) ⟨wr.heap.size, 0, none⟩ 1 1 [.int .u8 z, .bool false, .int .i64 0] (by rfl) (by rfl) (World.news_of_block (cs := #[.int .u8 z, .bool false, .int .i64 0]) (t := 64) (fr := (0, 0)) (heap_alloc_new wr _)) (by simp [Value.oneCell']) (by decide) (by unfold maxLen; omega) (by omega) (Nat.zero_le _) (wr.heap.size + 1) (by simp) ?_; intro g cap2 w1 hown1 hgrow1 hat1 hlt1; have hDa : D < (wr.alloc (.cells #[.int .u8 z, .bool false, .int .i64 0] 64)).drew.heap.size := Nat.lt_of_lt_of_le hDv ((Below.refl wr.heap.size wr).alloc (Nat.le_refl _) _).size; have k1 := (hgrow1.cell_far ⟨D, 3, none⟩ hDa hpD).trans (c1a _); have kf1 := (hgrow1.frozen_far ⟨D, 3, none⟩ hDa hpD).trans ((((Below.refl wr.heap.size wr).alloc (Nat.le_refl _) _).frozen (p := ⟨D, 3, none⟩) hDv).trans f1))
            all_goals
              go_wp2
              go_roundw
              case rel => exact ⟨k + 1, by omega, by go_num, hfin g cap2 w1 _ hown1 ((World.grownBy_alloc wr _ _).trans ⟨hgrow1.os, hgrow1.tape, hgrow1.output, hgrow1.size, hgrow1.block⟩) (hat1.imp id fun h => by omega) rfl rfl rfl rfl⟩
              case measure => simp [intOf]; omega
          · obtain rfl : k = l := by omega
            go_wp2
            go_ret
            exact ⟨ret_int HE.out.1.symm, HF.out _ hq⟩
    · have HE : Hid (appErr σ i l = 2 ∧ appSt σ i bs = σ) := by
        have e : appErr σ i l = 2 := by simp only [appErr, isFile_yes (show (i : Int) = 0 ∨ (i : Int) = 1 by omega), Int.toNat_natCast, if_true, if_pos (show 16777216 < (now σ i).length + l by omega)]
        refine ⟨e, ?_⟩
        unfold appSt
        rw [hbl, e]
        rfl
      have HG : Hid (∀ v, Below w.heap.size w v → RGoes own D w v σ (m + 1)) := fun v hv => ⟨own, hd.later hv (by omega), fun _ _ => rfl, kept_below hv⟩
      have hnl : (now σ i).length ≤ 16777216 := by
        obtain ⟨F, hF, hs⟩ := hd
        have := (hF.file i hi).full (F i).us.length
        rw [List.take_length, (hs i hi).1, (hs i hi).2] at this
        exact this
      clear hd
      generalize (now σ i).length = nl at *
      have hcmp : (16777216 : Int) < (nl : Int) + (l : Int) := by omega
      rcases (show i = 0 ∨ i = 1 by omega) with rfl | rfl
      all_goals
        go_enter Try.func17, Try.ntmps17
        go_wp2_with (go_at_call 23; refine cS.mono ?_; rintro e v ⟨rfl, hv⟩)
        go_ret
        exact ⟨ret_int HE.out.1.symm, by rw [HE.out.2]; exact HG.out _ hv⟩
  · have HE : Hid (appErr σ f l = 1 ∧ appSt σ f bs = σ) := by
      have e : ∀ q, appErr σ f q = 1 := fun q => by simp [appErr, isFile_no hff]
      exact ⟨e l, by unfold appSt; rw [e]; rfl⟩
    have HG : Hid (RGoes own D w w σ (m + 1)) := ⟨own, hd.later (Below.refl _ _) (by omega), fun _ _ => rfl, kept_below (Below.refl _ _)⟩
    have e0 : (f != 0) = true := by simp; omega
    have e1 : (f != 1) = true := by simp; omega
    clear hd cS
    go_enter Try.func17, Try.ntmps17
    go_wp2
    go_ret
    exact ⟨ret_int HE.out.1.symm, by rw [HE.out.2]; exact HG.out⟩

end Go.Proofs.Ytnifpfkemjolkaa.Disk
