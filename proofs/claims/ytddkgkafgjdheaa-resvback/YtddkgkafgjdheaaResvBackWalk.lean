/-
  A robot that had nothing, claims, and is cleared, leaves all as it was.
-/
import Derived.Test.YtddkgkafgjdheaaResvWas
namespace Go.Proofs.Ytddkgkafgjdheaa.Rs
set_option linter.unusedVariables false
set_option linter.unusedSimpArgs false
open Go Go.RowKit Go.Shelf Go.Proofs Hp
attribute [local go_sem] Oper.semAt_some

set_option maxRecDepth 100000 in
set_option maxHeartbeats 4000000 in
theorem back_all (a2 : Option Addr) (n2 cap2 : Nat) (ws : List Wn) (a : Option Addr) (n cap : Nat) (os : List Cl) (w : World) (hin : InS w a n cap os) (hin2 : InW w a2 n2 cap2 ws) : Calls Try.prog 8 #[.slice a n cap, .slice a2 n2 cap2] w fun e w' => e = .returned (.bool true) ∧ Below w.heap.size w w' := by
  have cN := new_any 6 w (by omega) (by omega)
  have HIN : Hid (InS w a n cap os) := hin
  have hol := hin.len
  subst hol
  clear hin
  have HIL : Hid (InW w a2 n2 cap2 ws) := hin2
  clear hin2
  by_cases hbig : n2 > 60
  · have hb' : (n2 : Int) > 60 := by omega
    clear HIL hbig HIN
    go_enter Try.func8, Try.ntmps8
    go_wp2_with (first
      | (go_at_call 12; refine cN.mono ?_; rintro _ w1 ⟨b, rfl, F, T1, b1, f1⟩)
      | (go_at_call 13; refine (awake_any _).mono ?_; rintro _ w2 ⟨rfl, b2⟩))
    go_ret
    exact ⟨rfl, bcat b1 b2⟩
  have hb' : ¬ (n2 : Int) > 60 := by omega
  have hn60 : n2 ≤ 60 := by omega
  clear hbig
  go_enter Try.func8, Try.ntmps8
  go_wp2_with (first
    | (go_at_call 12; refine cN.mono ?_; rintro _ w1 ⟨b, rfl, F, T1, b1, f1⟩)
    | (go_at_call 15; refine (refNew_any 6 w1 (by omega) (by omega)).mono ?_; rintro _ w2 ⟨c, rfl, G, T2, b2, f2⟩))
  have P0 : Hid (Pl w b c 0 w2) := Pl.start T1 b1 f1 T2 b2 f2
  clear cN T1 b1 f1 T2 b2 f2
  go_loopw [8] (fun s6 wr => ∃ i : Nat, s6 = .int .i64 i ∧ i ≤ os.length ∧ i ≤ 30 ∧ Hid (Pl w b c i wr)) (fun s6 _ => os.length - (intOf s6).toNat)
  case atStart => exact ⟨0, rfl, Nat.zero_le _, Nat.zero_le _, P0⟩
  case round =>
    clear P0
    obtain ⟨i, rfl, hi, hi60, PL⟩ := hrel
    by_cases hgo : i < os.length ∧ i < 30
    · obtain ⟨hlt, hl60⟩ := hgo
      have hlt' : (i : Int) < (os.length : Int) := by omega
      have hl60' : (i : Int) < 30 := by omega
      have his : (i : Int) + 1 ≤ 1000 := by omega
      obtain ⟨p, ea, c0, c1, c2, c3, c4, c5, IW⟩ := (HIN.out.go PL.out.bw).at i hlt
      have IW0 : Hid (InW w (os[i]).a (os[i]).n (os[i]).cap (os[i]).ws) := by obtain ⟨_, _, _, q⟩ := HIN.out.lay i hlt; exact q
      subst ea
      obtain ⟨x, hx⟩ : ∃ x, os[i] = x := ⟨_, rfl⟩
      rw [hx] at c0 c1 c2 c3 c4 c5 IW0
      clear hx IW
      by_cases hbig : x.n > 60
      · have hb' : (x.n : Int) > 60 := by omega
        go_wp2_with (go_at_call 13; refine (awake_any _).mono ?_; rintro _ w3 ⟨rfl, b3⟩)
        go_ret
        exact ⟨rfl, bcat PL.out.bw b3⟩
      · have hb' : ¬ (x.n : Int) > 60 := by omega
        have cD := do_turn PL.out (by omega) x IW0.out (by omega)
        go_wp2_with (go_at_call 16; refine cD.mono ?_; rintro _ w3 ⟨rfl, P3⟩)
        go_roundw
        case measure => simp only [intOf]; omega
        case rel => exact ⟨i + 1, rfl, hlt, hl60, P3⟩
    · obtain ⟨W3, rfl⟩ : ∃ W3, W3 = wr := ⟨_, rfl⟩
      obtain ⟨F, G, ls, T3, _, _, b3, f3, _, ok3, sm3, ln3⟩ := PL.out
      have HT3 : Hid (TAt F W3 b ls) := T3
      have HB3 : Hid (Below w.heap.size w W3) := b3
      have HF3 : Hid (∀ k, F k → w.heap.size ≤ k) := f3
      have HOK : Hid (OkT ls) := ok3
      have hsm : Small 1800 ls := fun l hl => by have := sm3 l hl; omega
      have HSM : Hid (Small 1800 ls) := hsm
      have HLN : Hid (ls.length = 6) := ln3
      have hgo' : ((i : Int) < (os.length : Int)) → ¬ ((i : Int) < 30) := fun h => by omega
      clear T3 b3 ok3 sm3 hsm PL f3 ln3
      by_cases hlt : i < os.length
      · have hlt' : (i : Int) < (os.length : Int) := by omega
        have hl60' : ¬ (i : Int) < 30 := by omega
        clear hgo hgo' hlt
        have cK := clear_any F b ls 2199023255552 1800 W3 HT3.out HSM.out (by omega) (by have := HLN.out; omega) (by have := HLN.out; omega)
        obtain ⟨M1, hM⟩ : ∃ M, (ls.map (cutL (isR 2199023255552) FV)) = M := ⟨_, rfl⟩
        have HM : Hid (M1 = (ls.map (cutL (isR 2199023255552) FV))) := hM.symm
        rw [hM] at cK
        have HOK1 : Hid (OkT M1) := by unfold Hid; rw [← hM]; exact cut_okT HOK.out
        have HSM1 : Hid (Small 1800 M1) := by unfold Hid; rw [← hM]; exact cut_small HSM.out
        have HLN1 : Hid (M1.length = 6) := by unfold Hid; rw [← hM, List.length_map]; exact HLN.out
        clear hM
        go_upto_region 12 with (go_at_call 27; refine cK.mono ?_; rintro _ W4 ⟨rfl, F1, T4, t4⟩)
        obtain ⟨D4, f4⟩ := t4.past HB3.out HF3.out
        have HT4 : Hid (TAt F1 W4 b M1) := T4
        have HB4 : Hid (Below w.heap.size w W4) := D4
        have HF1 : Hid (∀ k, F1 k → w.heap.size ≤ k) := f4
        clear cK T4 t4 D4 f4 HT3 HB3 HF3
        have HW0 : Hid (Was F1 (W4.alloc (.cells #[.slice none 0 0, .slice none 0 0, .slice none 0 0, .slice none 0 0, .slice none 0 0, .slice none 0 0] 42)) W4.heap.size 0 M1) := was_new HT4.out.low _
        have HA0 : Hid (Below W4.heap.size W4 (W4.alloc (.cells #[.slice none 0 0, .slice none 0 0, .slice none 0 0, .slice none 0 0, .slice none 0 0, .slice none 0 0] 42))) := (Below.refl _ _).alloc (Nat.le_refl _) _
        go_wp2_with fail
        go_loopw [10] (fun s7 wr => ∃ k : Nat, s7 = .int .i64 k ∧ k ≤ 6 ∧ Hid (TAt F1 wr b M1) ∧ Hid (Was F1 wr W4.heap.size k M1) ∧ Hid (Below w.heap.size w wr)) (fun s7 _ => 6 - (intOf s7).toNat)
        case atStart => exact ⟨0, rfl, Nat.zero_le _, HT4.out.go HA0.out, HW0, bcat HB4.out HA0.out⟩
        case round =>
          clear HW0 HA0
          obtain ⟨k, rfl, hk, HT, HW, bw⟩ := hrel
          obtain ⟨W6, rfl⟩ : ∃ W6, W6 = wr := ⟨_, rfl⟩
          rcases Nat.lt_or_ge k 6 with hkl | hkg
          · have hk' : (k : Int) < 6 := by omega
            have hks : (k : Int) + 1 ≤ 1000 := by omega
            have hrl := HSM1.out.row (k : Nat)
            have cS := slots_any F1 b M1 (k : Nat) W6 HT.out (by omega)
            have hq0 : Hid (w.heap.size ≤ W4.heap.size) := HB4.out.size
            go_wp2_with (go_at_call 18; refine cS.mono ?_; rintro _ w7 ⟨av, rfl, o7, b7⟩; have PU := HW.out.put HT.out.low hkl b7 o7; obtain ⟨v7, c7, _, _⟩ := (HW.out.go b7).each k hkl; have fz7 := (HW.out.go b7).fz k; obtain ⟨aa, ac, eav, _⟩ := own_form o7; rw [eav] at PU ⊢; have HPU : Hid _ := PU; have HB7 : Hid _ := b7; clear PU b7 o7 eav)
            go_roundw
            case measure => simp only [intOf]; omega
            case rel => exact ⟨k + 1, rfl, hkl, (HT.out.go HB7.out).box HW.out.nq _, HPU, below_box (bcat bw.out HB7.out) _ _ hq0.out _⟩
          · obtain rfl : k = 6 := by omega
            have IN6 := HIL.out.go bw.out
            have hwl := HIL.out.len
            go_wp2_with (first
              | (at_builtin; refine wpList_app kindWn rfl (.const (.slice none 0 0)) (.tmp 74) rfl W6.heap.size (.slice none 0 0) [] rfl (World.ownsRow_nil _ _ _ _) _ ws rfl (by exact IN6.lay) (by rw [hwl]; simp; omega) (by rw [hwl]; unfold maxLen; simp; omega) (Nat.le_refl _) ?_; intro mv w8 o8 g8 a8; rw [List.nil_append] at o8; have b8 : Below W6.heap.size W6 w8 := (Below.refl _ _).grown g8 (Nat.le_refl _) (fun z hz => (by cases hz)); have cC := claim_any F1 (fun _ => True) b M1 2199023255552 mv ws 1800 w8 (HT.out.go b8) HOK1.out HSM1.out (by have := HLN1.out; omega) (by have := HLN1.out; omega) ((row_of_own wnL_len o8).mono fun _ _ => trivial) (by omega); have HH8 : Hid (Was F1 w8 W4.heap.size 6 M1) := HW.out.go b8; have D8 : Hid (Below w.heap.size w w8) := bcat bw.out b8; clear o8 g8 a8 b8)
              | (go_at_call 19; refine cC.mono ?_; rintro _ w9 ⟨ec, ls2, F2, rfl, T9, t9, C9⟩; have SM9 := C9.small HSM1.out; have LN9 := C9.len; have HE9 : Hid (ls2.map (cutL (isR 2199023255552) FV) = M1) := (by unfold Hid; rw [HM.out] at C9 ⊢; exact back_claim HOK.out C9); have hcl := clear_any F2 b ls2 2199023255552 (1800 + ws.length) w9 T9 SM9 (by omega) (by have := HLN1.out; omega) (by have := HLN1.out; omega); clear C9)
              | (go_at_call 27; refine hcl.mono ?_; rintro _ w10 ⟨rfl, F3, T10, t10⟩))
            rw [HE9.out] at T10
            obtain ⟨D9, f9⟩ := t9.past D8.out HF1.out
            have HT8 : Hid (TAt F3 w10 b M1) := T10
            have HW8 : Hid (Was F3 w10 W4.heap.size 6 M1) := (HH8.out.turn t9).turn t10
            have HB8 : Hid (Below w.heap.size w w10) := (t10.past D9 f9).1
            clear cC T9 t9 T10 t10 HT HW bw HH8 D9 f9 D8 hcl SM9 LN9 IN6
            go_loopw [11] (fun s15 wr => ∃ k : Nat, s15 = .int .i64 k ∧ k ≤ 6 ∧ Hid (TAt F3 wr b M1) ∧ Hid (Was F3 wr W4.heap.size 6 M1) ∧ Hid (Below w.heap.size w wr)) (fun s15 _ => 6 - (intOf s15).toNat)
            case atStart => exact ⟨0, rfl, Nat.zero_le _, HT8, HW8, HB8⟩
            case round =>
              clear HT8 HW8 HB8
              obtain ⟨k, rfl, hk, HT, HW, bw⟩ := hrel
              obtain ⟨W6, rfl⟩ : ∃ W6, W6 = wr := ⟨_, rfl⟩
              rcases Nat.lt_or_ge k 6 with hkl | hkg
              · have hk' : (k : Int) < 6 := by omega
                have hks : (k : Int) + 1 ≤ 1000 := by omega
                have hrl := HSM1.out.row (k : Nat)
                obtain ⟨v6, cw6, ⟨ra, rn, rc, er⟩, RW6⟩ := HW.out.each k hkl
                have RO := RW6 hkl
                obtain ⟨L, hL⟩ : ∃ L, rowOf M1 (k : Nat) = L := ⟨_, rfl⟩
                rw [hL] at hrl RO
                rw [er] at RO cw6
                have hlen : rn = L.length := by obtain ⟨y1, y2, y3, _⟩ := RO.form; injection y3
                have HRO : Hid (RowAt slL (fun k => ¬ F3 k ∧ k ≠ W4.heap.size ∧ k < W6.heap.size) W6 (.slice ra rn rc) L) := RO
                have HRL : Hid (rowOf M1 (k : Nat) = L) := hL
                have lq := HW.out.lq
                subst hlen
                clear RW6 RO hL er
                have HTd : Hid (TAt F3 W6.drew b M1) := HT.out.go (Below.refl _ _).drew
                obtain ⟨SH, hSH⟩ : ∃ S : World → Prop, S = Below W6.heap.size W6 := ⟨_, rfl⟩
                have hS : SH W6.drew := by rw [hSH]; exact (Below.refl _ _).drew
                have z1 : ∀ u, SH u → u.cell? ⟨W4.heap.size, k, none⟩ = some (.slice ra L.length rc) := fun u hu => by rw [hSH] at hu; exact (cell_same (hu.block _ lq)).trans cw6
                clear cw6
                go_wp2_with fail
                refine start_held (S := SH) 8 rfl (by kernel_rfl) (hS) ?_
                simp only [Array.replicate_succ, Array.replicate_zero, List.push_toArray, List.nil_append, List.cons_append]
                refine take_held 0 (by assumption) rfl (by kernel_rfl) (by kernel_rfl) (by kernel_rfl) (fun _ _ _ h => h) (by kernel_rfl) (v := ?v0) ?y0 ?r0
                case y0 => (intro u hu; go_simp; try rfl)
                simp only [Act.put, List.setIfInBounds_toArray, List.set_cons_zero, List.set_cons_succ]
                refine take_held 1 (by assumption) rfl (by kernel_rfl) (by kernel_rfl) (by kernel_rfl) (fun _ _ _ h => h) (by kernel_rfl) (v := ?v1) ?y1 ?r1
                case y1 => (intro u hu; go_simp; try rfl)
                simp only [Act.put, List.setIfInBounds_toArray, List.set_cons_zero, List.set_cons_succ]
                refine take_held 3 (by assumption) rfl (by kernel_rfl) (by kernel_rfl) (by kernel_rfl) (fun _ _ _ h => h) (by kernel_rfl) (v := ?v2) ?y2 ?r2
                case y2 => (intro u hu; go_simp; try rfl)
                simp only [Act.put, List.setIfInBounds_toArray, List.set_cons_zero, List.set_cons_succ]
                refine take_held 4 (by assumption) rfl (by kernel_rfl) (by kernel_rfl) (by kernel_rfl) (fun _ _ _ h => h) (by kernel_rfl) (v := ?v3) ?y3 ?r3
                case y3 => (intro u hu; go_simp; try rfl)
                simp only [Act.put, List.setIfInBounds_toArray, List.set_cons_zero, List.set_cons_succ]
                refine take_held 5 (by assumption) rfl (by kernel_rfl) (by kernel_rfl) (by kernel_rfl) (fun _ _ _ h => h) (by kernel_rfl) (v := ?v4) ?y4 ?r4
                case y4 => (intro u hu; have zz0 := z1 u hu; go_simp; try rfl)
                simp only [Act.put, List.setIfInBounds_toArray, List.set_cons_zero, List.set_cons_succ]
                refine wpAnyH_ready (rs := [2]) (by kernel_rfl) (by simp) (AllReadyH.cons ((nth_eq _ 2).trans rfl) ?_ AllReadyH.nil)
                intro K' hK
                refine call_in hK (by kernel_rfl) 18 #[.pointer (some ⟨b, 0, none⟩), .int .i64 (k : Nat)] (by go_simp) _ (slotsC HTd.out HRL.out (by omega)) ?_
                rintro v w13 ⟨sa, sn, sc, rfl, R13, b13⟩
                have S13 : SH w13 := by rw [hSH] at hS ⊢; exact bcat hS b13
                have RB := HRO.out.go slL_len (bcat (Below.refl _ _).drew b13)
                refine ⟨S13, ?_⟩
                simp only [Act.put, List.setIfInBounds_toArray, List.set_cons_zero, List.set_cons_succ]
                refine wpAnyH_ready (rs := [6]) (by kernel_rfl) (by simp) (AllReadyH.cons ((nth_eq _ 6).trans rfl) ?_ AllReadyH.nil)
                intro K' hK
                refine call_in hK (by kernel_rfl) 20 #[.slice sa sn sc, .slice ra L.length rc] (by go_simp) _ (sameC R13 RB (by omega)) ?_
                rintro v w14 ⟨rfl, b14⟩
                have S14 : SH w14 := by rw [hSH] at S13 ⊢; exact bcat S13 b14
                refine ⟨S14, ?_⟩
                simp only [Act.put, List.setIfInBounds_toArray, List.set_cons_zero, List.set_cons_succ]
                refine take_held 7 (by assumption) rfl (by kernel_rfl) (by kernel_rfl) (by kernel_rfl) (fun _ _ _ h => h) (by kernel_rfl) (v := ?v5) ?y5 ?r5
                case y5 => (intro u hu; go_simp; try rfl)
                simp only [Act.put, List.setIfInBounds_toArray, List.set_cons_zero, List.set_cons_succ]
                refine done_held (by kernel_rfl) ?_ _
                have B14 : Hid (Below W6.heap.size W6 w14) := by unfold Hid; rw [hSH] at S14; exact S14
                clear S13 S14 RB R13 b13 b14 z1 hS hSH
                go_wp2_with fail
                go_roundw
                case measure => simp only [intOf]; omega
                case rel => exact ⟨k + 1, rfl, hkl, HT.out.go B14.out, HW.out.go B14.out, bcat bw.out B14.out⟩
              · obtain rfl : k = 6 := by omega
                go_wp2_with (go_at_call 13; refine (awake_any _).mono ?_; rintro _ w9 ⟨rfl, b9⟩)
                go_ret
                exact ⟨rfl, bcat bw.out b9⟩
      · have hlt' : ¬ (i : Int) < (os.length : Int) := by omega
        clear hgo hgo' hlt
        have cK := clear_any F b ls 2199023255552 1800 W3 HT3.out HSM.out (by omega) (by have := HLN.out; omega) (by have := HLN.out; omega)
        obtain ⟨M1, hM⟩ : ∃ M, (ls.map (cutL (isR 2199023255552) FV)) = M := ⟨_, rfl⟩
        have HM : Hid (M1 = (ls.map (cutL (isR 2199023255552) FV))) := hM.symm
        rw [hM] at cK
        have HOK1 : Hid (OkT M1) := by unfold Hid; rw [← hM]; exact cut_okT HOK.out
        have HSM1 : Hid (Small 1800 M1) := by unfold Hid; rw [← hM]; exact cut_small HSM.out
        have HLN1 : Hid (M1.length = 6) := by unfold Hid; rw [← hM, List.length_map]; exact HLN.out
        clear hM
        go_upto_region 12 with (go_at_call 27; refine cK.mono ?_; rintro _ W4 ⟨rfl, F1, T4, t4⟩)
        obtain ⟨D4, f4⟩ := t4.past HB3.out HF3.out
        have HT4 : Hid (TAt F1 W4 b M1) := T4
        have HB4 : Hid (Below w.heap.size w W4) := D4
        have HF1 : Hid (∀ k, F1 k → w.heap.size ≤ k) := f4
        clear cK T4 t4 D4 f4 HT3 HB3 HF3
        have HW0 : Hid (Was F1 (W4.alloc (.cells #[.slice none 0 0, .slice none 0 0, .slice none 0 0, .slice none 0 0, .slice none 0 0, .slice none 0 0] 42)) W4.heap.size 0 M1) := was_new HT4.out.low _
        have HA0 : Hid (Below W4.heap.size W4 (W4.alloc (.cells #[.slice none 0 0, .slice none 0 0, .slice none 0 0, .slice none 0 0, .slice none 0 0, .slice none 0 0] 42))) := (Below.refl _ _).alloc (Nat.le_refl _) _
        go_wp2_with fail
        go_loopw [10] (fun s7 wr => ∃ k : Nat, s7 = .int .i64 k ∧ k ≤ 6 ∧ Hid (TAt F1 wr b M1) ∧ Hid (Was F1 wr W4.heap.size k M1) ∧ Hid (Below w.heap.size w wr)) (fun s7 _ => 6 - (intOf s7).toNat)
        case atStart => exact ⟨0, rfl, Nat.zero_le _, HT4.out.go HA0.out, HW0, bcat HB4.out HA0.out⟩
        case round =>
          clear HW0 HA0
          obtain ⟨k, rfl, hk, HT, HW, bw⟩ := hrel
          obtain ⟨W6, rfl⟩ : ∃ W6, W6 = wr := ⟨_, rfl⟩
          rcases Nat.lt_or_ge k 6 with hkl | hkg
          · have hk' : (k : Int) < 6 := by omega
            have hks : (k : Int) + 1 ≤ 1000 := by omega
            have hrl := HSM1.out.row (k : Nat)
            have cS := slots_any F1 b M1 (k : Nat) W6 HT.out (by omega)
            have hq0 : Hid (w.heap.size ≤ W4.heap.size) := HB4.out.size
            go_wp2_with (go_at_call 18; refine cS.mono ?_; rintro _ w7 ⟨av, rfl, o7, b7⟩; have PU := HW.out.put HT.out.low hkl b7 o7; obtain ⟨v7, c7, _, _⟩ := (HW.out.go b7).each k hkl; have fz7 := (HW.out.go b7).fz k; obtain ⟨aa, ac, eav, _⟩ := own_form o7; rw [eav] at PU ⊢; have HPU : Hid _ := PU; have HB7 : Hid _ := b7; clear PU b7 o7 eav)
            go_roundw
            case measure => simp only [intOf]; omega
            case rel => exact ⟨k + 1, rfl, hkl, (HT.out.go HB7.out).box HW.out.nq _, HPU, below_box (bcat bw.out HB7.out) _ _ hq0.out _⟩
          · obtain rfl : k = 6 := by omega
            have IN6 := HIL.out.go bw.out
            have hwl := HIL.out.len
            go_wp2_with (first
              | (at_builtin; refine wpList_app kindWn rfl (.const (.slice none 0 0)) (.tmp 74) rfl W6.heap.size (.slice none 0 0) [] rfl (World.ownsRow_nil _ _ _ _) _ ws rfl (by exact IN6.lay) (by rw [hwl]; simp; omega) (by rw [hwl]; unfold maxLen; simp; omega) (Nat.le_refl _) ?_; intro mv w8 o8 g8 a8; rw [List.nil_append] at o8; have b8 : Below W6.heap.size W6 w8 := (Below.refl _ _).grown g8 (Nat.le_refl _) (fun z hz => (by cases hz)); have cC := claim_any F1 (fun _ => True) b M1 2199023255552 mv ws 1800 w8 (HT.out.go b8) HOK1.out HSM1.out (by have := HLN1.out; omega) (by have := HLN1.out; omega) ((row_of_own wnL_len o8).mono fun _ _ => trivial) (by omega); have HH8 : Hid (Was F1 w8 W4.heap.size 6 M1) := HW.out.go b8; have D8 : Hid (Below w.heap.size w w8) := bcat bw.out b8; clear o8 g8 a8 b8)
              | (go_at_call 19; refine cC.mono ?_; rintro _ w9 ⟨ec, ls2, F2, rfl, T9, t9, C9⟩; have SM9 := C9.small HSM1.out; have LN9 := C9.len; have HE9 : Hid (ls2.map (cutL (isR 2199023255552) FV) = M1) := (by unfold Hid; rw [HM.out] at C9 ⊢; exact back_claim HOK.out C9); have hcl := clear_any F2 b ls2 2199023255552 (1800 + ws.length) w9 T9 SM9 (by omega) (by have := HLN1.out; omega) (by have := HLN1.out; omega); clear C9)
              | (go_at_call 27; refine hcl.mono ?_; rintro _ w10 ⟨rfl, F3, T10, t10⟩))
            rw [HE9.out] at T10
            obtain ⟨D9, f9⟩ := t9.past D8.out HF1.out
            have HT8 : Hid (TAt F3 w10 b M1) := T10
            have HW8 : Hid (Was F3 w10 W4.heap.size 6 M1) := (HH8.out.turn t9).turn t10
            have HB8 : Hid (Below w.heap.size w w10) := (t10.past D9 f9).1
            clear cC T9 t9 T10 t10 HT HW bw HH8 D9 f9 D8 hcl SM9 LN9 IN6
            go_loopw [11] (fun s15 wr => ∃ k : Nat, s15 = .int .i64 k ∧ k ≤ 6 ∧ Hid (TAt F3 wr b M1) ∧ Hid (Was F3 wr W4.heap.size 6 M1) ∧ Hid (Below w.heap.size w wr)) (fun s15 _ => 6 - (intOf s15).toNat)
            case atStart => exact ⟨0, rfl, Nat.zero_le _, HT8, HW8, HB8⟩
            case round =>
              clear HT8 HW8 HB8
              obtain ⟨k, rfl, hk, HT, HW, bw⟩ := hrel
              obtain ⟨W6, rfl⟩ : ∃ W6, W6 = wr := ⟨_, rfl⟩
              rcases Nat.lt_or_ge k 6 with hkl | hkg
              · have hk' : (k : Int) < 6 := by omega
                have hks : (k : Int) + 1 ≤ 1000 := by omega
                have hrl := HSM1.out.row (k : Nat)
                obtain ⟨v6, cw6, ⟨ra, rn, rc, er⟩, RW6⟩ := HW.out.each k hkl
                have RO := RW6 hkl
                obtain ⟨L, hL⟩ : ∃ L, rowOf M1 (k : Nat) = L := ⟨_, rfl⟩
                rw [hL] at hrl RO
                rw [er] at RO cw6
                have hlen : rn = L.length := by obtain ⟨y1, y2, y3, _⟩ := RO.form; injection y3
                have HRO : Hid (RowAt slL (fun k => ¬ F3 k ∧ k ≠ W4.heap.size ∧ k < W6.heap.size) W6 (.slice ra rn rc) L) := RO
                have HRL : Hid (rowOf M1 (k : Nat) = L) := hL
                have lq := HW.out.lq
                subst hlen
                clear RW6 RO hL er
                have HTd : Hid (TAt F3 W6.drew b M1) := HT.out.go (Below.refl _ _).drew
                obtain ⟨SH, hSH⟩ : ∃ S : World → Prop, S = Below W6.heap.size W6 := ⟨_, rfl⟩
                have hS : SH W6.drew := by rw [hSH]; exact (Below.refl _ _).drew
                have z1 : ∀ u, SH u → u.cell? ⟨W4.heap.size, k, none⟩ = some (.slice ra L.length rc) := fun u hu => by rw [hSH] at hu; exact (cell_same (hu.block _ lq)).trans cw6
                clear cw6
                go_wp2_with fail
                refine start_held (S := SH) 8 rfl (by kernel_rfl) (hS) ?_
                simp only [Array.replicate_succ, Array.replicate_zero, List.push_toArray, List.nil_append, List.cons_append]
                refine take_held 0 (by assumption) rfl (by kernel_rfl) (by kernel_rfl) (by kernel_rfl) (fun _ _ _ h => h) (by kernel_rfl) (v := ?v6) ?y6 ?r6
                case y6 => (intro u hu; go_simp; try rfl)
                simp only [Act.put, List.setIfInBounds_toArray, List.set_cons_zero, List.set_cons_succ]
                refine take_held 1 (by assumption) rfl (by kernel_rfl) (by kernel_rfl) (by kernel_rfl) (fun _ _ _ h => h) (by kernel_rfl) (v := ?v7) ?y7 ?r7
                case y7 => (intro u hu; go_simp; try rfl)
                simp only [Act.put, List.setIfInBounds_toArray, List.set_cons_zero, List.set_cons_succ]
                refine take_held 3 (by assumption) rfl (by kernel_rfl) (by kernel_rfl) (by kernel_rfl) (fun _ _ _ h => h) (by kernel_rfl) (v := ?v8) ?y8 ?r8
                case y8 => (intro u hu; go_simp; try rfl)
                simp only [Act.put, List.setIfInBounds_toArray, List.set_cons_zero, List.set_cons_succ]
                refine take_held 4 (by assumption) rfl (by kernel_rfl) (by kernel_rfl) (by kernel_rfl) (fun _ _ _ h => h) (by kernel_rfl) (v := ?v9) ?y9 ?r9
                case y9 => (intro u hu; go_simp; try rfl)
                simp only [Act.put, List.setIfInBounds_toArray, List.set_cons_zero, List.set_cons_succ]
                refine take_held 5 (by assumption) rfl (by kernel_rfl) (by kernel_rfl) (by kernel_rfl) (fun _ _ _ h => h) (by kernel_rfl) (v := ?v10) ?y10 ?r10
                case y10 => (intro u hu; have zz0 := z1 u hu; go_simp; try rfl)
                simp only [Act.put, List.setIfInBounds_toArray, List.set_cons_zero, List.set_cons_succ]
                refine wpAnyH_ready (rs := [2]) (by kernel_rfl) (by simp) (AllReadyH.cons ((nth_eq _ 2).trans rfl) ?_ AllReadyH.nil)
                intro K' hK
                refine call_in hK (by kernel_rfl) 18 #[.pointer (some ⟨b, 0, none⟩), .int .i64 (k : Nat)] (by go_simp) _ (slotsC HTd.out HRL.out (by omega)) ?_
                rintro v w13 ⟨sa, sn, sc, rfl, R13, b13⟩
                have S13 : SH w13 := by rw [hSH] at hS ⊢; exact bcat hS b13
                have RB := HRO.out.go slL_len (bcat (Below.refl _ _).drew b13)
                refine ⟨S13, ?_⟩
                simp only [Act.put, List.setIfInBounds_toArray, List.set_cons_zero, List.set_cons_succ]
                refine wpAnyH_ready (rs := [6]) (by kernel_rfl) (by simp) (AllReadyH.cons ((nth_eq _ 6).trans rfl) ?_ AllReadyH.nil)
                intro K' hK
                refine call_in hK (by kernel_rfl) 20 #[.slice sa sn sc, .slice ra L.length rc] (by go_simp) _ (sameC R13 RB (by omega)) ?_
                rintro v w14 ⟨rfl, b14⟩
                have S14 : SH w14 := by rw [hSH] at S13 ⊢; exact bcat S13 b14
                refine ⟨S14, ?_⟩
                simp only [Act.put, List.setIfInBounds_toArray, List.set_cons_zero, List.set_cons_succ]
                refine take_held 7 (by assumption) rfl (by kernel_rfl) (by kernel_rfl) (by kernel_rfl) (fun _ _ _ h => h) (by kernel_rfl) (v := ?v11) ?y11 ?r11
                case y11 => (intro u hu; go_simp; try rfl)
                simp only [Act.put, List.setIfInBounds_toArray, List.set_cons_zero, List.set_cons_succ]
                refine done_held (by kernel_rfl) ?_ _
                have B14 : Hid (Below W6.heap.size W6 w14) := by unfold Hid; rw [hSH] at S14; exact S14
                clear S13 S14 RB R13 b13 b14 z1 hS hSH
                go_wp2_with fail
                go_roundw
                case measure => simp only [intOf]; omega
                case rel => exact ⟨k + 1, rfl, hkl, HT.out.go B14.out, HW.out.go B14.out, bcat bw.out B14.out⟩
              · obtain rfl : k = 6 := by omega
                go_wp2_with (go_at_call 13; refine (awake_any _).mono ?_; rintro _ w9 ⟨rfl, b9⟩)
                go_ret
                exact ⟨rfl, bcat bw.out b9⟩
end Go.Proofs.Ytddkgkafgjdheaa.Rs
