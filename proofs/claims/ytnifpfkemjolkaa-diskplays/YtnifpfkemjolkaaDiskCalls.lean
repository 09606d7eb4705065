/-
  What each call of package disk comes to, over the files' certain bytes and pending units.
-/
import Derived.Test.YtnifpfkemjolkaaDiskGrow
namespace Go.Proofs.Ytnifpfkemjolkaa.Disk
set_option linter.unusedVariables false
set_option linter.unusedSimpArgs false
open Go Go.RowKit

abbrev St := Nat → List Int × List U
def now (σ : St) (i : Nat) : List Int := run (σ i).1 (σ i).2
def isFile (f : Int) : Bool := decide (f = 0 ∨ f = 1)
def setSt (σ : St) (i : Nat) (p : List Int × List U) : St := fun j => if j = i then p else σ j
def appErr (σ : St) (f : Int) (l : Nat) : Int := if isFile f then (if 16777216 < (now σ f.toNat).length + l then 2 else 0) else 1
def appSt (σ : St) (f : Int) (bs : List Int) : St := if appErr σ f bs.length = 0 then setSt σ f.toNat ((σ f.toNat).1, (σ f.toNat).2 ++ bs.map Sum.inl) else σ
def cutErr (σ : St) (f s : Int) : Int := if isFile f = true ∧ 0 ≤ s ∧ s ≤ (now σ f.toNat).length then 0 else 1
def cutSt (σ : St) (f s : Int) : St := if cutErr σ f s = 0 then setSt σ f.toNat ((σ f.toNat).1, (σ f.toNat).2 ++ [.inr s.toNat]) else σ
def syncErr (f : Int) : Int := if isFile f then 0 else 1
def syncSt (σ : St) (f : Int) : St := if isFile f then setSt σ f.toNat (now σ f.toNat, []) else σ
def readOf (σ : St) (f : Int) : List Int := if isFile f then now σ f.toNat else []
def pendOf (σ : St) (f : Int) : Nat := if isFile f then (σ f.toNat).2.length else 0
def crashSt (σ : St) (a b : Int) : St := fun i => (run (σ i).1 ((σ i).2.take (if i = 0 then a else b).toNat), [])

/- A disk with these files, in memory; m: more calls than were made since. -/
def DiskIs (w : World) (own : Own) (D : Nat) (σ : St) (m : Nat) : Prop := ∃ F, DiskIn w own D F m ∧ ∀ i, i < 2 → (F i).zs = (σ i).1 ∧ units (F i).cs = (σ i).2
/- What a call may do to it. -/
def Goes (own : Own) (D : Nat) (w W : World) (σ : St) (m : Nat) : Prop := ∃ own', DiskIs W own' D σ m ∧ (∀ k, k < w.heap.size → own' k = own k) ∧ Kept own w W

theorem Kept.refl (own : Own) (w : World) : Kept own w w := ⟨rfl, rfl, rfl, Nat.le_refl _, fun _ _ _ => rfl⟩
theorem DiskIn.more {w : World} {own : Own} {D : Nat} {F : Nat → FileS} {m m' : Nat} (h : DiskIn w own D F m) (hm : m ≤ m') : DiskIn w own D F m' := ⟨h.block, h.mine, h.old, fun i hi => (h.file i hi).kept (fun _ _ _ _ _ => rfl) (fun _ _ => rfl) hm⟩
theorem DiskIs.goes {w : World} {own : Own} {D : Nat} {σ : St} {m m' : Nat} (h : DiskIs w own D σ m) (hm : m ≤ m') : Goes own D w w σ m' := by
  obtain ⟨F, hF, hs⟩ := h
  exact ⟨own, ⟨F, hF.more hm, hs⟩, fun _ _ => rfl, Kept.refl _ _⟩
theorem Turned.goes {own : Own} {D : Nat} {F : Nat → FileS} {m i : Nat} {w W : World} {zs : List Int} {us : List U} {σ : St} (h : Turned own D F m i w W zs us) (hs : ∀ i, i < 2 → (F i).zs = (σ i).1 ∧ units (F i).cs = (σ i).2) : Goes own D w W (setSt σ i (zs, us)) m := by
  obtain ⟨own', f', hd, hu, hk, h1, h2⟩ := h
  refine ⟨own', ⟨_, hd, fun j hj => ?_⟩, hu, hk⟩
  unfold upd setSt
  by_cases hji : j = i
  · rw [if_pos hji, if_pos hji]; exact ⟨h1, h2⟩
  · rw [if_neg hji, if_neg hji]; exact hs j hj

theorem has_yes (i : Int) (w : World) (h : i = 0 ∨ i = 1) : Calls Try.prog 25 #[.int .i64 i] w fun e w' => e = .returned (.bool true) ∧ w' = w := by
  rcases h with rfl | rfl
  all_goals
    go_enter Try.func25, Try.ntmps25
    go_wp2
    go_ret
    exact ⟨rfl, rfl⟩
theorem has_no (i : Int) (w : World) (h : ¬ (i = 0 ∨ i = 1)) : Calls Try.prog 25 #[.int .i64 i] w fun e w' => e = .returned (.bool false) ∧ w' = w := by
  rcases (show i < 0 ∨ 2 ≤ i by omega) with h1 | h1
  · have h2 : ¬ (0 : Int) ≤ i := by omega
    go_enter Try.func25, Try.ntmps25
    go_wp2
    go_ret
    exact ⟨rfl, rfl⟩
  · have h2 : ¬ i < 2 := by omega
    have h3 : (0 : Int) ≤ i := by omega
    go_enter Try.func25, Try.ntmps25
    go_wp2
    go_ret
    exact ⟨rfl, rfl⟩

theorem isFile_no {f : Int} (h : ¬ (f = 0 ∨ f = 1)) : isFile f = false := by simp [isFile, h]
theorem isFile_yes {f : Int} (h : f = 0 ∨ f = 1) : isFile f = true := by simp [isFile, h]

set_option maxHeartbeats 1000000 in
theorem append_any (D : Nat) (w : World) (own : Own) (σ : St) (m : Nat) (hd : DiskIs w own D σ m) (hm : m < 4194304) (f : Int) (a : Option Addr) (l cap : Nat) (bs : List Int) (hr : Row w a l bs) (h0 : a = none → cap = 0) (hl : l ≤ 140737488355328) :
    Calls Try.prog 9 #[.pointer (some ⟨D, 0, none⟩), .int .i64 f, .slice a l cap] w fun e W => e = .returned (.int .i64 (appErr σ f l)) ∧ Goes own D w W (appSt σ f bs) (m + 1) := by
  have hbl := hr.len
  by_cases hff : f = 0 ∨ f = 1
  · obtain ⟨F, hF, hs⟩ := hd
    obtain ⟨i, hi, rfl⟩ : ∃ i : Nat, i < 2 ∧ f = (i : Int) := ⟨f.toNat, by omega, by omega⟩
    have c0 := fun w => has_yes i w (by omega)
    have hnow : (run (F i).zs (units (F i).cs)).length = (now σ i).length := by rw [(hs i hi).1, (hs i hi).2]; rfl
    obtain ⟨_, _, hc2, _⟩ := hF.cell i hi
    have hnl := (hF.file i hi).full (units (F i).cs).length
    rw [List.take_length, hnow] at hnl
    rw [hnow] at hc2
    by_cases hfull : 16777216 < (now σ i).length + l
    · have HE : Hid (appErr σ i l = 2 ∧ appSt σ i bs = σ) := by
        have e : appErr σ i l = 2 := by simp only [appErr, isFile_yes (show (i : Int) = 0 ∨ (i : Int) = 1 by omega), Int.toNat_natCast, if_true, if_pos hfull]
        exact ⟨e, by unfold appSt; rw [hbl, e]; rfl⟩
      have HG : Hid (Goes own D w w σ (m + 1)) := DiskIs.goes ⟨F, hF, hs⟩ (by omega)
      clear hF hs hr hbl
      generalize (now σ i).length = nl at *
      have hcmp : (l : Int) > 16777216 - nl := by omega
      have hn2 : (nl : Int) ≤ 16777216 := by omega
      rcases (show i = 0 ∨ i = 1 by omega) with rfl | rfl
      all_goals
        go_enter Try.func9, Try.ntmps9
        go_wp2_with (go_at_call 25; refine (c0 _).mono ?_; rintro e w' ⟨rfl, rfl⟩)
        go_ret
        exact ⟨ret_int HE.out.1.symm, by rw [HE.out.2]; exact HG.out⟩
    · have HE : Hid (appErr σ i l = 0 ∧ appSt σ i bs = setSt σ i ((σ i).1, (σ i).2 ++ bs.map Sum.inl)) := by
        have e : appErr σ i l = 0 := by simp only [appErr, isFile_yes (show (i : Int) = 0 ∨ (i : Int) = 1 by omega), Int.toNat_natCast, if_true, if_neg hfull]
        exact ⟨e, by unfold appSt; rw [hbl, e]; rfl⟩
      have cw := write_any D w own F m i hF hi hm a l cap bs hr h0 (by rw [hnow]; omega)
      have HG : Hid (∀ W, Turned own D F (m + 1) i w W (F i).zs (units (F i).cs ++ bs.map Sum.inl) → Goes own D w W (setSt σ i ((σ i).1, (σ i).2 ++ bs.map Sum.inl)) (m + 1)) := fun W h => by
        have := h.goes hs
        rwa [(hs i hi).1, (hs i hi).2] at this
      clear hF hs hr hbl
      generalize (now σ i).length = nl at *
      have hcmp : ¬ (l : Int) > 16777216 - nl := by omega
      have hn2 : (nl : Int) ≤ 16777216 := by omega
      rcases (show i = 0 ∨ i = 1 by omega) with rfl | rfl
      all_goals
        simp only [Nat.mul_zero, Nat.mul_one] at cw
        go_enter Try.func9, Try.ntmps9
        go_wp2_with (first | (go_at_call 25; refine (c0 _).mono ?_; rintro e w' ⟨rfl, rfl⟩) | (go_at_call 26; refine cw.mono ?_; rintro e W ⟨rfl, ht⟩))
        go_ret
        exact ⟨ret_int HE.out.1.symm, by rw [HE.out.2]; exact HG.out _ ht⟩
  · have HE : Hid (appErr σ f l = 1 ∧ appSt σ f bs = σ) := by
      have e : ∀ n, appErr σ f n = 1 := fun n => by simp [appErr, isFile_no hff]
      exact ⟨e _, by unfold appSt; rw [e]; rfl⟩
    have c0 := fun w => has_no f w hff
    have HG : Hid (Goes own D w w σ (m + 1)) := hd.goes (by omega)
    clear hd
    go_enter Try.func9, Try.ntmps9
    go_wp2_with (go_at_call 25; refine (c0 _).mono ?_; rintro e w' ⟨rfl, rfl⟩)
    go_ret
    exact ⟨ret_int HE.out.1.symm, by rw [HE.out.2]; exact HG.out⟩

set_option maxHeartbeats 1000000 in
theorem cut_any (D : Nat) (w : World) (own : Own) (σ : St) (m : Nat) (hd : DiskIs w own D σ m) (hm : m < 4194304) (f s : Int) :
    Calls Try.prog 11 #[.pointer (some ⟨D, 0, none⟩), .int .i64 f, .int .i64 s] w fun e W => e = .returned (.int .i64 (cutErr σ f s)) ∧ Goes own D w W (cutSt σ f s) (m + 1) := by
  by_cases hff : f = 0 ∨ f = 1
  · obtain ⟨F, hF, hs⟩ := hd
    obtain ⟨i, hi, rfl⟩ : ∃ i : Nat, i < 2 ∧ f = (i : Int) := ⟨f.toNat, by omega, by omega⟩
    have c0 := fun w => has_yes i w (by omega)
    have hnow : (run (F i).zs (units (F i).cs)).length = (now σ i).length := by rw [(hs i hi).1, (hs i hi).2]; rfl
    obtain ⟨_, _, hc2, _⟩ := hF.cell i hi
    rw [hnow] at hc2
    by_cases hs1 : 0 ≤ s ∧ s ≤ (now σ i).length
    · have HE : Hid (cutErr σ i s = 0 ∧ cutSt σ i s = setSt σ i ((σ i).1, (σ i).2 ++ [.inr s.toNat])) := by
        have e : cutErr σ i s = 0 := by simp only [cutErr, isFile_yes (show (i : Int) = 0 ∨ (i : Int) = 1 by omega), Int.toNat_natCast, hs1, and_self, if_true]
        exact ⟨e, by unfold cutSt; rw [e]; rfl⟩
      obtain ⟨q, rfl⟩ : ∃ q : Nat, s = q := ⟨s.toNat, by omega⟩
      have cw := shorten_any D w own F m i q hF hi hm (by rw [hnow]; omega)
      have HG : Hid (∀ W, Turned own D F (m + 1) i w W (F i).zs (units (F i).cs ++ [.inr q]) → Goes own D w W (setSt σ i ((σ i).1, (σ i).2 ++ [.inr q])) (m + 1)) := fun W h => by
        have := h.goes hs
        rwa [(hs i hi).1, (hs i hi).2] at this
      clear hF hs
      generalize (now σ i).length = nl at *
      have hcmp : (q : Int) ≤ nl := hs1.2
      have hcm0 : (0 : Int) ≤ q := hs1.1
      rcases (show i = 0 ∨ i = 1 by omega) with rfl | rfl
      all_goals
        simp only [Nat.mul_zero, Nat.mul_one] at cw
        go_enter Try.func11, Try.ntmps11
        go_wp2_with (first | (go_at_call 25; refine (c0 _).mono ?_; rintro e w' ⟨rfl, rfl⟩) | (go_at_call 28; refine cw.mono ?_; rintro e W ⟨rfl, ht⟩))
        go_ret
        exact ⟨ret_int HE.out.1.symm, by rw [HE.out.2]; exact HG.out _ ht⟩
    · have HE : Hid (cutErr σ i s = 1 ∧ cutSt σ i s = σ) := by
        have e : cutErr σ i s = 1 := by
          unfold cutErr
          rw [if_neg]
          rintro ⟨_, h1, h2⟩
          exact hs1 ⟨h1, h2⟩
        exact ⟨e, by unfold cutSt; rw [e]; rfl⟩
      have HG : Hid (Goes own D w w σ (m + 1)) := DiskIs.goes ⟨F, hF, hs⟩ (by omega)
      clear hF hs
      generalize (now σ i).length = nl at *
      rcases (show s < 0 ∨ (0 ≤ s ∧ (nl : Int) < s) by omega) with hq | ⟨hq0, hq⟩
      all_goals
        rcases (show i = 0 ∨ i = 1 by omega) with rfl | rfl
        all_goals
          go_enter Try.func11, Try.ntmps11
          go_wp2_with (go_at_call 25; refine (c0 _).mono ?_; rintro e w' ⟨rfl, rfl⟩)
          go_ret
          exact ⟨ret_int HE.out.1.symm, by rw [HE.out.2]; exact HG.out⟩
  · have HE : Hid (cutErr σ f s = 1 ∧ cutSt σ f s = σ) := by
      have e : cutErr σ f s = 1 := by simp [cutErr, isFile_no hff]
      exact ⟨e, by unfold cutSt; rw [e]; rfl⟩
    have c0 := fun w => has_no f w hff
    have HG : Hid (Goes own D w w σ (m + 1)) := hd.goes (by omega)
    clear hd
    go_enter Try.func11, Try.ntmps11
    go_wp2_with (go_at_call 25; refine (c0 _).mono ?_; rintro e w' ⟨rfl, rfl⟩)
    go_ret
    exact ⟨ret_int HE.out.1.symm, by rw [HE.out.2]; exact HG.out⟩

set_option maxHeartbeats 1000000 in
theorem size_any (D : Nat) (w : World) (own : Own) (σ : St) (m : Nat) (hd : DiskIs w own D σ m) (f : Int) :
    Calls Try.prog 22 #[.pointer (some ⟨D, 0, none⟩), .int .i64 f] w fun e W => e = .returned (.int .i64 (readOf σ f).length) ∧ W = w := by
  by_cases hff : f = 0 ∨ f = 1
  · obtain ⟨F, hF, hs⟩ := hd
    obtain ⟨i, hi, rfl⟩ : ∃ i : Nat, i < 2 ∧ f = (i : Int) := ⟨f.toNat, by omega, by omega⟩
    have c0 := fun w => has_yes i w (by omega)
    obtain ⟨_, _, hc2, _⟩ := hF.cell i hi
    have HE : Hid ((run (F i).zs (units (F i).cs)).length = (readOf σ i).length) := by
      rw [(hs i hi).1, (hs i hi).2]
      simp only [readOf, isFile_yes (show (i : Int) = 0 ∨ (i : Int) = 1 by omega), Int.toNat_natCast, if_true]
      rfl
    clear hF hs
    generalize (run (F i).zs (units (F i).cs)).length = nl at *
    rcases (show i = 0 ∨ i = 1 by omega) with rfl | rfl
    all_goals
      go_enter Try.func22, Try.ntmps22
      go_wp2_with (go_at_call 25; refine (c0 _).mono ?_; rintro e w' ⟨rfl, rfl⟩)
      go_ret
      exact ⟨ret_int (by rw [HE.out]), rfl⟩
  · have HE : Hid ((readOf σ f).length = 0) := by simp [readOf, isFile_no hff, Hid]
    have c0 := fun w => has_no f w hff
    clear hd
    go_enter Try.func22, Try.ntmps22
    go_wp2_with (go_at_call 25; refine (c0 _).mono ?_; rintro e w' ⟨rfl, rfl⟩)
    go_ret
    exact ⟨ret_int (by rw [HE.out]; rfl), rfl⟩

set_option maxHeartbeats 1000000 in
theorem pending_any (D : Nat) (w : World) (own : Own) (σ : St) (m : Nat) (hd : DiskIs w own D σ m) (f : Int) :
    Calls Try.prog 13 #[.pointer (some ⟨D, 0, none⟩), .int .i64 f] w fun e W => e = .returned (.int .i64 (pendOf σ f)) ∧ W = w := by
  by_cases hff : f = 0 ∨ f = 1
  · obtain ⟨F, hF, hs⟩ := hd
    obtain ⟨i, hi, rfl⟩ : ∃ i : Nat, i < 2 ∧ f = (i : Int) := ⟨f.toNat, by omega, by omega⟩
    have c0 := fun w => has_yes i w (by omega)
    obtain ⟨_, _, _, hc3⟩ := hF.cell i hi
    have HE : Hid ((units (F i).cs).length = pendOf σ i) := by
      rw [(hs i hi).2]
      simp only [pendOf, isFile_yes (show (i : Int) = 0 ∨ (i : Int) = 1 by omega), Int.toNat_natCast, if_true]
      trivial
    clear hF hs
    generalize (units (F i).cs).length = nl at *
    rcases (show i = 0 ∨ i = 1 by omega) with rfl | rfl
    all_goals
      go_enter Try.func13, Try.ntmps13
      go_wp2_with (go_at_call 25; refine (c0 _).mono ?_; rintro e w' ⟨rfl, rfl⟩)
      go_ret
      exact ⟨ret_int (by rw [HE.out]), rfl⟩
  · have HE : Hid (pendOf σ f = 0) := by simp [pendOf, isFile_no hff, Hid]
    have c0 := fun w => has_no f w hff
    clear hd
    go_enter Try.func13, Try.ntmps13
    go_wp2_with (go_at_call 25; refine (c0 _).mono ?_; rintro e w' ⟨rfl, rfl⟩)
    go_ret
    exact ⟨ret_int (by rw [HE.out]; rfl), rfl⟩

set_option maxHeartbeats 1000000 in
theorem read_any (D : Nat) (w : World) (own : Own) (σ : St) (m : Nat) (hd : DiskIs w own D σ m) (hm : m < 4194304) (f : Int) :
    Calls Try.prog 14 #[.pointer (some ⟨D, 0, none⟩), .int .i64 f] w fun e W => ∃ a' cap', e = .returned (.slice a' (readOf σ f).length cap') ∧
      W.ownsRow w.heap.size 5 1 (.slice a' (readOf σ f).length cap') (readOf σ f).length ((readOf σ f).map (Value.int .u8)) ∧ Below w.heap.size w W := by
  by_cases hff : f = 0 ∨ f = 1
  · obtain ⟨F, hF, hs⟩ := hd
    obtain ⟨i, hi, rfl⟩ : ∃ i : Nat, i < 2 ∧ f = (i : Int) := ⟨f.toNat, by omega, by omega⟩
    have c0 := fun w => has_yes i w (by omega)
    obtain ⟨hc0, hc1, _, hc3⟩ := hF.cell i hi
    have hul := (hF.file i hi).less
    have cl := left_any D (4 * i) w own i (F i) m (hF.file i hi) hm hF.lt hc0 hc1 (units (F i).cs).length (by omega)
    have hE : run (F i).zs ((units (F i).cs).take ((units (F i).cs).length : Int).toNat) = readOf σ i := by
      rw [Int.toNat_natCast, List.take_length, (hs i hi).1, (hs i hi).2]
      simp only [readOf, isFile_yes (show (i : Int) = 0 ∨ (i : Int) = 1 by omega), Int.toNat_natCast, if_true]
      rfl
    rw [hE] at cl
    clear hF hs hE hc0 hc1
    generalize (units (F i).cs).length = nl at *
    rcases (show i = 0 ∨ i = 1 by omega) with rfl | rfl
    all_goals
      simp only [Nat.mul_zero, Nat.mul_one] at cl
      go_enter Try.func14, Try.ntmps14
      go_wp2_with (first | (go_at_call 25; refine (c0 _).mono ?_; rintro e w' ⟨rfl, rfl⟩) | (go_at_call 29; refine cl.mono ?_; rintro e W ⟨a', cap', rfl, ho, hb⟩))
      go_ret
      exact ⟨a', cap', rfl, ho, hb⟩
  · have HE : Hid (readOf σ f = []) := by simp [readOf, isFile_no hff, Hid]
    have c0 := fun w => has_no f w hff
    clear hd
    go_enter Try.func14, Try.ntmps14
    go_wp2_with (go_at_call 25; refine (c0 _).mono ?_; rintro e w' ⟨rfl, rfl⟩)
    go_ret
    rw [HE.out]
    exact ⟨none, 0, rfl, World.ownsRow_nil _ _ _ _, Below.refl _ _⟩

end Go.Proofs.Ytnifpfkemjolkaa.Disk
