/-
  Cut of the chapter's own answer.
-/
import Derived.Test.YtnifpfkemjolkaaDiskRef3
namespace Go.Proofs.Ytnifpfkemjolkaa.Disk
set_option linter.unusedVariables false
set_option linter.unusedSimpArgs false
open Go Go.RowKit
attribute [local go_sem ↓] Go.wp_at_zero Go.wp_at_succ

theorem info67 : (Try.prog.info? 64).map (fun i => (i.zero, i.size, i.bytes)) = some (some (.agg #[.int .u8 0, .bool false, .int .i64 0]), 3, 16) := by kernel_rfl
/- What a call may do to it. -/
def RGoes (own : Own) (D : Nat) (w W : World) (σ : St) (m : Nat) : Prop := ∃ own', RefIs W own' D σ m ∧ (∀ k, k < w.heap.size → own' k = own k) ∧ Kept own w W
theorem RTurned.goes {own : Own} {D : Nat} {F : Nat → RFile} {m i : Nat} {w W : World} {zs : List Int} {us : List U} {σ : St} (h : RTurned own D F m i w W zs us) (hs : ∀ i, i < 2 → (F i).zs = (σ i).1 ∧ (F i).us = (σ i).2) : RGoes own D w W (setSt σ i (zs, us)) m := by
  obtain ⟨own', f', hd, hu, hk, h1, h2⟩ := h
  refine ⟨own', ⟨_, hd, fun j hj => ?_⟩, hu, hk⟩
  unfold rupd setSt
  by_cases hji : j = i
  · rw [if_pos hji, if_pos hji]; exact ⟨h1, h2⟩
  · rw [if_neg hji, if_neg hji]; exact hs j hj
theorem RefIn.later {w w' : World} {own : Own} {D : Nat} {F : Nat → RFile} {m m' : Nat} (h : RefIn w own D F m) (hb : Below w.heap.size w w') (hm : m ≤ m') : RefIn w' own D F m' :=
  ⟨by rw [hb.block D h.lt]; exact h.block, h.mine, fun k hk => Nat.lt_of_lt_of_le (h.old k hk) hb.size, fun i hi => (h.file i hi).kept (fun k t j hk _ => hb.block k (h.old k (by rw [hk]; simp))) (fun _ _ => rfl) hm⟩
theorem RefIs.later {w w' : World} {own : Own} {D : Nat} {σ : St} {m m' : Nat} (h : RefIs w own D σ m) (hb : Below w.heap.size w w') (hm : m ≤ m') : RefIs w' own D σ m' := by
  obtain ⟨F, hF, hs⟩ := h
  exact ⟨F, hF.later hb hm, hs⟩
theorem kept_below {own : Own} {w w' : World} (hb : Below w.heap.size w w') : Kept own w w' := ⟨hb.os, hb.tape, hb.output, hb.size, fun k hk _ => hb.block k hk⟩
theorem RGoes.after {own : Own} {D : Nat} {w v W : World} {σ : St} {m : Nat} (hb : Below w.heap.size w v) (h : RGoes own D v W σ m) : RGoes own D w W σ m := by
  obtain ⟨own', h1, h2, h3⟩ := h
  exact ⟨own', h1, fun k hk => h2 k (Nat.lt_of_lt_of_le hk hb.size), ⟨h3.os.trans hb.os, h3.tape.trans hb.tape, h3.output.trans hb.output, Nat.le_trans hb.size h3.size, fun k hk hn => (h3.block k (Nat.lt_of_lt_of_le hk hb.size) hn).trans (hb.block k hk)⟩⟩

set_option maxRecDepth 100000 in
set_option maxHeartbeats 4000000 in
theorem rcut_any (D : Nat) (w : World) (own : Own) (σ : St) (m : Nat) (hd : RefIs w own D σ m) (hm : m < 262143) (f s : Int) :
    Calls Try.prog 18 #[.pointer (some ⟨D, 0, none⟩), .int .i64 f, .int .i64 s] w fun e W => e = .returned (.int .i64 (cutErr σ f s)) ∧ RGoes own D w W (cutSt σ f s) (m + 1) := by
  obtain ⟨i0, hi0, hz0, hz1, hz2⟩ := info_parts info67
  have cS := rsize_any D w own σ m hd (by omega) f
  by_cases hff : f = 0 ∨ f = 1
  · obtain ⟨i, hi, rfl⟩ : ∃ i : Nat, i < 2 ∧ f = (i : Int) := ⟨f.toNat, by omega, by omega⟩
    have hrl := read_len σ i hi
    rw [hrl] at cS
    by_cases hs1 : 0 ≤ s ∧ s ≤ (now σ i).length
    · have HE : Hid (cutErr σ i s = 0 ∧ cutSt σ i s = setSt σ i ((σ i).1, (σ i).2 ++ [.inr s.toNat])) := by
        have e : cutErr σ i s = 0 := by simp only [cutErr, isFile_yes (show (i : Int) = 0 ∨ (i : Int) = 1 by omega), Int.toNat_natCast, hs1, and_self, if_true]
        exact ⟨e, by unfold cutSt; rw [e]; rfl⟩
      obtain ⟨q, rfl⟩ : ∃ q : Nat, s = q := ⟨s.toNat, by omega⟩
      have HP : Hid (∀ v, Below w.heap.size w v → ∃ pa n pcap cells, v.cell? ⟨D, 2 * i + 1, none⟩ = some (.slice pa n pcap) ∧ v.frozen? ⟨D, 2 * i + 1, none⟩ = false ∧ v.ownsRow 0 64 3 (.slice pa n pcap) n cells ∧ some D ≠ (Value.slice pa n pcap).ownBlock ∧ D < v.heap.size ∧ n ≤ 4398046511104 ∧
          ∀ (g cap : Nat) (w1 W : World), w1.ownsRow 0 64 3 (.slice (some ⟨g, 0, none⟩) (n + 1) cap) (n + 1) (cells ++ [.int .u8 0, .bool true, .int .i64 q]) → v.grownBy w1 (Value.slice pa n pcap).ownBlock → ((Value.slice pa n pcap).ownBlock = some g ∨ v.heap.size ≤ g) →
            W.heap = (w1.setCell ⟨D, 2 * i + 1, none⟩ (.slice (some ⟨g, 0, none⟩) (n + 1) cap)).heap → W.os = w1.os → W.tape = w1.tape → W.output = w1.output → RGoes own D w W (cutSt σ i q) (m + 1)) := by
        intro v hv
        obtain ⟨F, hF0, hs⟩ := hd
        have hF := hF0.later hv (Nat.le_refl m)
        have hf := hF.file i hi
        have hless := hf.less
        refine ⟨(F i).pa, (F i).us.length, (F i).pcap, usCells (F i).us, (hF.cell i hi).2, frozen_of_row _ _ _ _ _ hF.block, hf.prow, fun e => by have := hf.pown D e.symm; rw [hF.mine] at this; simp at this, hF.lt, by omega, fun g cap w1 W a1 a2 a3 a4 a5 a6 a7 => ?_⟩
        have hn : run (F i).zs (F i).us = now σ i := by rw [(hs i hi).1, (hs i hi).2]; rfl
        have hfu := hf.full (F i).us.length
        rw [List.take_length] at hfu
        have := (rpush_in hF hi (.inr q) g cap a1 a2 a3 (fun z h => by cases h) (fun n' h => by cases h; rw [hn]; omega) (by show (List.take q (run (F i).zs (F i).us)).length ≤ _; rw [List.length_take]; omega) (Nat.le_succ m) (by omega) W a4 a5 a6 a7).goes hs
        rw [(hs i hi).1, (hs i hi).2] at this
        rw [HE.out.2]
        exact this.after hv
      clear hd
      generalize (now σ i).length = nl at *
      have hcmp : (q : Int) ≤ nl := hs1.2
      have hcm0 : (0 : Int) ≤ q := hs1.1
      rcases (show i = 0 ∨ i = 1 by omega) with rfl | rfl
      · go_enter Try.func18, Try.ntmps18
        go_wp2_with (go_at_call 23; refine cS.mono ?_; rintro e v ⟨rfl, hv⟩)
        obtain ⟨pa, n, pcap, cells, c1, f1, hprow, hpD, hDv, hnb, hfin⟩ := HP.out v hv
        simp only [Nat.mul_zero, Nat.mul_one, Nat.zero_add, Nat.reduceAdd] at c1 f1 hfin
        have c1a := fun o => (((Below.refl v.heap.size v).alloc (Nat.le_refl _) o).cell (p := ⟨D, 1, none⟩) hDv).trans c1
        go_region_law (refine step_append_lies _ (by rfl) _ _ _ (by rfl) 0 64 i0 _ 3 16 Try.underlying48 hi0 hz0 hz1 hz2 rfl (by decide) (.slice pa n pcap) n cells (by rfl) ((hprow.alloc _).drew) ⟨v.heap.size, 0, none⟩ 1 1 [.int .u8 0, .bool true, .int .i64 q] (by rfl) (by rfl) (World.news_of_block (cs := #[.int .u8 0, .bool true, .int .i64 q]) (t := 64) (fr := (0, 0)) (heap_alloc_new v _)) (by simp [Value.oneCell']) (by decide) (by unfold maxLen; omega) (by omega) (Nat.zero_le _) (v.heap.size + 1) (by simp) ?_; intro g cap w1 hown1 hgrow1 hat1 hlt1; have hDa : D < (v.alloc (.cells #[.int .u8 0, .bool true, .int .i64 q] 64)).drew.heap.size := Nat.lt_of_lt_of_le hDv ((Below.refl v.heap.size v).alloc (Nat.le_refl _) _).size; have k1 := (hgrow1.cell_far ⟨D, 1, none⟩ hDa hpD).trans (c1a _); have kf1 := (hgrow1.frozen_far ⟨D, 1, none⟩ hDa hpD).trans ((((Below.refl v.heap.size v).alloc (Nat.le_refl _) _).frozen (p := ⟨D, 1, none⟩) hDv).trans f1))
        all_goals
          go_wp2
          go_ret
          exact ⟨ret_int HE.out.1.symm, hfin g cap w1 _ hown1 ((World.grownBy_alloc v _ _).trans ⟨hgrow1.os, hgrow1.tape, hgrow1.output, hgrow1.size, hgrow1.block⟩) (hat1.imp id fun h => by omega) rfl rfl rfl rfl⟩
      · go_enter Try.func18, Try.ntmps18
        go_wp2_with (go_at_call 23; refine cS.mono ?_; rintro e v ⟨rfl, hv⟩)
        obtain ⟨pa, n, pcap, cells, c1, f1, hprow, hpD, hDv, hnb, hfin⟩ := HP.out v hv
        simp only [Nat.mul_zero, Nat.mul_one, Nat.zero_add, Nat.reduceAdd] at c1 f1 hfin
        have c1a := fun o => (((Below.refl v.heap.size v).alloc (Nat.le_refl _) o).cell (p := ⟨D, 3, none⟩) hDv).trans c1
        go_region_law (refine step_append_lies _ (by rfl) _ _ _ (by rfl) 0 64 i0 _ 3 16 Try.underlying48 hi0 hz0 hz1 hz2 rfl (by decide) (.slice pa n pcap) n cells (by rfl) ((hprow.alloc _).drew) ⟨v.heap.size, 0, none⟩ 1 1 [.int .u8 0, .bool true, .int .i64 q] (by rfl) (by rfl) (World.news_of_block (cs := #[.int .u8 0, .bool true, .int .i64 q]) (t := 64) (fr := (0, 0)) (heap_alloc_new v _)) (by simp [Value.oneCell']) (by decide) (by unfold maxLen; omega) (by omega) (Nat.zero_le _) (v.heap.size + 1) (by simp) ?_; intro g cap w1 hown1 hgrow1 hat1 hlt1; have hDa : D < (v.alloc (.cells #[.int .u8 0, .bool true, .int .i64 q] 64)).drew.heap.size := Nat.lt_of_lt_of_le hDv ((Below.refl v.heap.size v).alloc (Nat.le_refl _) _).size; have k1 := (hgrow1.cell_far ⟨D, 3, none⟩ hDa hpD).trans (c1a _); have kf1 := (hgrow1.frozen_far ⟨D, 3, none⟩ hDa hpD).trans ((((Below.refl v.heap.size v).alloc (Nat.le_refl _) _).frozen (p := ⟨D, 3, none⟩) hDv).trans f1))
        all_goals
          go_wp2
          go_ret
          exact ⟨ret_int HE.out.1.symm, hfin g cap w1 _ hown1 ((World.grownBy_alloc v _ _).trans ⟨hgrow1.os, hgrow1.tape, hgrow1.output, hgrow1.size, hgrow1.block⟩) (hat1.imp id fun h => by omega) rfl rfl rfl rfl⟩
    · have HE : Hid (cutErr σ i s = 1 ∧ cutSt σ i s = σ) := by
        have e : cutErr σ i s = 1 := by
          unfold cutErr
          rw [if_neg]
          rintro ⟨_, h1, h2⟩
          exact hs1 ⟨h1, h2⟩
        exact ⟨e, by unfold cutSt; rw [e]; rfl⟩
      have HG : Hid (∀ v, Below w.heap.size w v → RGoes own D w v σ (m + 1)) := fun v hv => ⟨own, hd.later hv (by omega), fun _ _ => rfl, kept_below hv⟩
      clear hd
      generalize (now σ i).length = nl at *
      rcases (show s < 0 ∨ (0 ≤ s ∧ (nl : Int) < s) by omega) with hq | ⟨hq0, hq⟩
      · rcases (show i = 0 ∨ i = 1 by omega) with rfl | rfl
        all_goals
          go_enter Try.func18, Try.ntmps18
          go_wp2
          go_ret
          exact ⟨ret_int HE.out.1.symm, by rw [HE.out.2]; exact HG.out _ (Below.refl _ _)⟩
      · rcases (show i = 0 ∨ i = 1 by omega) with rfl | rfl
        all_goals
          go_enter Try.func18, Try.ntmps18
          go_wp2_with (go_at_call 23; refine cS.mono ?_; rintro e v ⟨rfl, hv⟩)
          go_ret
          exact ⟨ret_int HE.out.1.symm, by rw [HE.out.2]; exact HG.out _ hv⟩
  · have HE : Hid (cutErr σ f s = 1 ∧ cutSt σ f s = σ) := by
      have e : cutErr σ f s = 1 := by simp [cutErr, isFile_no hff]
      exact ⟨e, by unfold cutSt; rw [e]; rfl⟩
    have HG : Hid (RGoes own D w w σ (m + 1)) := ⟨own, hd.later (Below.refl _ _) (by omega), fun _ _ => rfl, kept_below (Below.refl _ _)⟩
    have e0 : (f != 0) = true := by simp; omega
    have e1 : (f != 1) = true := by simp; omega
    clear hd cS
    go_enter Try.func18, Try.ntmps18
    go_wp2
    go_ret
    exact ⟨ret_int HE.out.1.symm, by rw [HE.out.2]; exact HG.out⟩

end Go.Proofs.Ytnifpfkemjolkaa.Disk
