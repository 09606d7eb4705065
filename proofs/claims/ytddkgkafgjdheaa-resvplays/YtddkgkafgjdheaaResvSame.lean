/-
  Both tables tell alike.
-/
import Derived.Test.YtddkgkafgjdheaaResvRefGaps
namespace Go.Proofs.Ytddkgkafgjdheaa.Rs
set_option linter.unusedVariables false
set_option linter.unusedSimpArgs false
open Go Go.RowKit Go.Shelf Go.Proofs Hp
attribute [local go_sem] Oper.semAt_some

theorem gapsOf_len {thr : Bool} {R : Int} {l : List Sl} (h : Ok l) : (gapsOf thr R l).length ≤ l.length + 1 := by
  unfold gapsOf
  split
  · exact (gaps_all R l 0 h fun s hs => (h.fit s hs).1).2.2
  · simp
set_option maxRecDepth 100000 in
set_option maxHeartbeats 4000000 in
theorem same_any (F G : Nat → Prop) (b c : Nat) (ls : List (List Sl)) (R : Int) (m : Nat) (w : World) (TF : TAt F w b ls) (TG : TAt G w c ls) (ok : OkT ls) (sm : Small m ls) (hm : m ≤ 9000) (h0 : 0 < ls.length) (h1 : ls.length ≤ 1000) :
    Calls Try.prog 17 #[.pointer (some ⟨b, 0, none⟩), .pointer (some ⟨c, 0, none⟩), .int .i64 R] w fun e w' => e = .returned (.bool true) ∧ Below w.heap.size w w' := by
  have HTF : Hid (TAt F w b ls) := TF
  have HTG : Hid (TAt G w c ls) := TG
  have HOK : Hid (OkT ls) := ok
  have HSM : Hid (Small m ls) := sm
  clear TF TG ok sm
  go_enter Try.func17, Try.ntmps17
  go_wp2_with fail
  go_loopw [7] (fun s7 wr => ∃ k : Nat, s7 = .int .i64 ((k : Int) - 1) ∧ k ≤ ls.length + 2 ∧ Hid (TAt F wr b ls) ∧ Hid (TAt G wr c ls) ∧ Hid (Below w.heap.size w wr)) (fun s7 _ => ls.length + 2 - (intOf s7 + 1).toNat)
  case atStart => exact ⟨0, rfl, Nat.zero_le _, HTF, HTG, Below.refl _ _⟩
  case round =>
    clear HTF HTG
    obtain ⟨k, rfl, hk, HF, HG, bw⟩ := hrel
    obtain ⟨W, rfl⟩ : ∃ W, W = wr := ⟨_, rfl⟩
    obtain ⟨v, vals, TI⟩ := HG.out
    obtain ⟨g, cap, ev, _⟩ := TI.form h0
    have hd := TI.head
    rw [ev] at hd
    have HTI : Hid (TIn G W c v vals ls) := TI
    clear TI ev
    rcases Nat.lt_or_ge k (ls.length + 2) with hkl | hkg
    · obtain ⟨cv, hcv⟩ : ∃ cv : Int, (k : Int) - 1 = cv := ⟨_, rfl⟩
      have hc1 : cv ≤ (ls.length : Int) := by omega
      have hwr : wrap64 (cv + 1) = cv + 1 := by unfold wrap64; omega
      have HCV : Hid (cv + 1 = ((k + 1 : Nat) : Int) - 1 ∧ cv = (k : Int) - 1) := ⟨by omega, by omega⟩
      rw [hcv]
      clear hcv
      have hrl := HSM.out.row cv
      have hgl := gapsOf_len (thr := isThere ls.length cv) (R := R) (HOK.out.row cv)
      have cF := first_any F b ls cv W HF.out
      have cF2 := rfirst_any G c ls cv W HG.out
      have cS := slots_any F b ls cv W HF.out (by omega)
      have cS2 := fun u (h : TIn G u c v vals ls) => rslots_any G c v vals ls cv u h
      have cG := fun u (h : TAt F u b ls) => gaps_any F b ls cv R u h
      have cG2 := fun u (h : TAt G u c ls) => rgaps_any G c ls cv R u h (by omega)
      obtain ⟨thr, hthr⟩ : ∃ thr, isThere ls.length cv = thr := ⟨_, rfl⟩
      obtain ⟨L, hL⟩ : ∃ L, rowOf ls cv = L := ⟨_, rfl⟩
      rw [hthr, hL] at hgl
      rw [hL] at hrl cF cF2 cS
      simp only [hL, hthr] at cS2 cG cG2
      obtain ⟨gs, hgs⟩ : ∃ gs, gapsOf thr R L = gs := ⟨_, rfl⟩
      rw [hgs] at hgl
      simp only [hgs] at cG2
      have HGS : Hid ((gapsOf thr R L).take 10000 = gs) := by unfold Hid; rw [hgs]; exact List.take_of_length_le (by omega)
      obtain ⟨f1, hf1⟩ : ∃ f1, (firstP L).1 = f1 := ⟨_, rfl⟩
      obtain ⟨f2, hf2⟩ : ∃ f2, (firstP L).2 = f2 := ⟨_, rfl⟩
      rw [hf1, hf2] at cF cF2
      clear hthr hL hgs hf1 hf2
      go_wp2_with (first
        | (go_at_call 29; refine cF.mono ?_; rintro _ wz ⟨rfl, hwz⟩; have hwz' := hwz.symm; subst hwz')
        | (go_at_call 36; refine cF2.mono ?_; rintro _ wz ⟨rfl, hwz⟩; have hwz' := hwz.symm; subst hwz')
        | (go_at_call 18; refine cS.mono ?_; rintro _ w3 ⟨v3, rfl, o3, b3⟩; have R3 : Hid (RowAt slL (fun _ => True) w3 v3 L) := (row_of_own slL_len o3).mono fun _ _ => trivial; clear o3)
        | (go_at_call 37; refine (cS2 w3 (HTI.out.go b3)).mono ?_; rintro _ wz ⟨v4, rfl, hwz, R4⟩; have hwz' := hwz.symm; subst hwz'; have HR4 : Hid _ := R4; clear R4)
        | (go_at_call 20; refine (sameSlots_any _ _ v3 v4 L L _ R3.out HR4.out (by omega)).mono ?_; rintro _ w5 ⟨rfl, b5⟩; rw [decide_eq_true (show L = L from rfl)])
        | (go_at_call 23; refine (cG w5 (HF.out.go (bcat b3 b5))).mono ?_; rintro _ w6 ⟨p8, p7, p5, lv, rfl, G6, b6⟩; unfold GapsV at *)
        | (go_at_call 22; refine (stretches_any p8 p7 p5 10000 _ lv L R _ G6 (by omega) (by omega) (by omega)).mono ?_; rintro _ w7 ⟨sv, rfl, O7, b7⟩; rw [HGS.out] at O7; have R7 : Hid _ := pr_of_own O7; obtain ⟨xa, xc, ex, _⟩ := (pr_of_own O7).form; rw [ex] at R7 ⊢; clear O7)
        | (go_at_call 39; refine (cG2 w7 (HG.out.go (bcat b3 (bcat b5 (bcat b6 b7))))).mono ?_; rintro _ w8 ⟨ga, gn, gc, rfl, R8, b8⟩; have hgn : gn = gs.length := (by obtain ⟨y1, y2, y3, _⟩ := R8.form; injection y3); subst hgn; have HR8 : Hid _ := R8; clear R8)
        | (go_at_call 38; refine (pairs_any _ ga gs.length gc gs w8 HR8.out (by omega)).mono ?_; rintro _ w9 ⟨va, vc, rfl, O9, b9⟩)
        | (go_at_call 24; refine (alike_any _ _ _ _ gs gs _ (pr_go (pr_go R7.out b8) b9) (pr_of_own O9) (by omega)).mono ?_; rintro _ w10 ⟨rfl, b10⟩; rw [decide_eq_true (show gs = gs from rfl)]))
      have B : Below W.heap.size W w10 := bcat b3 (bcat b5 (bcat b6 (bcat b7 (bcat b8 (bcat b9 b10)))))
      go_roundw
      case measure => simp only [intOf]; have := HCV.out; omega
      case rel => exact ⟨k + 1, by rw [← HCV.out.1, hwr], hkl, HF.out.go B, HG.out.go B, bcat bw.out B⟩
    · obtain ⟨cv, hcv⟩ : ∃ cv : Int, (k : Int) - 1 = cv := ⟨_, rfl⟩
      have hc1 : ¬ cv ≤ (ls.length : Int) := by omega
      rw [hcv]
      clear hcv
      go_wp2_with fail
      go_quiet (first | (go_at_call 14; exact Calls.quiet_of_same (cells_any F b ls _ (HF.out.go (below_drewN (Below.refl _ _) _)))))
      go_wp2_with fail
      go_ret
      exact ⟨rfl, below_drewN bw.out _⟩
end Go.Proofs.Ytddkgkafgjdheaa.Rs
