/-
  A claim is done wholly, or not at all.
-/
import Derived.Test.YtddkgkafgjdheaaResvWholeFacts
namespace Go.Proofs.Ytddkgkafgjdheaa.Rs
set_option linter.unusedVariables false
set_option linter.unusedSimpArgs false
open Go Go.RowKit Go.Shelf Go.Proofs Hp
attribute [local go_sem] Oper.semAt_some

set_option maxRecDepth 100000 in
set_option maxHeartbeats 30000000 in
theorem whole_long (R : Int) (a2 : Option Addr) (n2 cap2 : Nat) (ws : List Wn) (a : Option Addr) (n cap : Nat) (os : List Cl) (w : World) (hin : InS w a n cap os) (hin2 : InW w a2 n2 cap2 ws) (hcs : 30 < os.length) : Calls Try.prog 5 #[.slice a n cap, .int .i64 R, .slice a2 n2 cap2] w fun e w' => e = .returned (.bool true) ∧ Below w.heap.size w w' := by
  have cN := new_any 6 w (by omega) (by omega)
  have HIN : Hid (InS w a n cap os) := hin
  have hol := hin.len
  subst hol
  clear hin
  have HIL : Hid (InW w a2 n2 cap2 ws) := hin2
  clear hin2
  by_cases hbig : n2 > 60
  · have hb' : (n2 : Int) > 60 := by omega
    clear HIL hbig HIN
    go_enter Try.func5, Try.ntmps5
    go_wp2_with (first
      | (go_at_call 12; refine cN.mono ?_; rintro _ w1 ⟨b, rfl, F, T1, b1, f1⟩)
      | (go_at_call 13; refine (awake_any _).mono ?_; rintro _ w2 ⟨rfl, b2⟩))
    go_ret
    exact ⟨rfl, bcat b1 b2⟩
  have hb' : ¬ (n2 : Int) > 60 := by omega
  have hn60 : n2 ≤ 60 := by omega
  clear hbig
  go_enter Try.func5, Try.ntmps5
  go_wp2_with (first
    | (go_at_call 12; refine cN.mono ?_; rintro _ w1 ⟨b, rfl, F, T1, b1, f1⟩)
    | (go_at_call 15; refine (refNew_any 6 w1 (by omega) (by omega)).mono ?_; rintro _ w2 ⟨c, rfl, G, T2, b2, f2⟩))
  have P0 : Hid (Pl w b c 0 w2) := Pl.start T1 b1 f1 T2 b2 f2
  clear cN T1 b1 f1 T2 b2 f2
  go_loopw [10] (fun s6 wr => ∃ i : Nat, s6 = .int .i64 i ∧ i ≤ os.length ∧ i ≤ 30 ∧ Hid (Pl w b c i wr)) (fun s6 _ => os.length - (intOf s6).toNat)
  case atStart => exact ⟨0, rfl, Nat.zero_le _, Nat.zero_le _, P0⟩
  case round =>
    clear P0
    obtain ⟨i, rfl, hi, hi60, PL⟩ := hrel
    by_cases hgo : i < os.length ∧ i < 30
    · obtain ⟨hlt, hl60⟩ := hgo
      have hlt' : (i : Int) < (os.length : Int) := by omega
      have hl60' : (i : Int) < 30 := by omega
      have his : (i : Int) + 1 ≤ 1000 := by omega
      obtain ⟨p, ea, c0, c1, c2, c3, c4, c5, IW⟩ := (HIN.out.go PL.out.bw).at i hlt
      have IW0 : Hid (InW w (os[i]).a (os[i]).n (os[i]).cap (os[i]).ws) := by obtain ⟨_, _, _, q⟩ := HIN.out.lay i hlt; exact q
      subst ea
      obtain ⟨x, hx⟩ : ∃ x, os[i] = x := ⟨_, rfl⟩
      rw [hx] at c0 c1 c2 c3 c4 c5 IW0
      clear hx IW
      by_cases hbig : x.n > 60
      · have hb' : (x.n : Int) > 60 := by omega
        go_wp2_with (go_at_call 13; refine (awake_any _).mono ?_; rintro _ w3 ⟨rfl, b3⟩)
        go_ret
        exact ⟨rfl, bcat PL.out.bw b3⟩
      · have hb' : ¬ (x.n : Int) > 60 := by omega
        have cD := do_turn PL.out (by omega) x IW0.out (by omega)
        go_wp2_with (go_at_call 16; refine cD.mono ?_; rintro _ w3 ⟨rfl, P3⟩)
        go_roundw
        case measure => simp only [intOf]; omega
        case rel => exact ⟨i + 1, rfl, hlt, hl60, P3⟩
    · obtain ⟨W3, rfl⟩ : ∃ W3, W3 = wr := ⟨_, rfl⟩
      obtain ⟨F, G, ls, T3, _, _, b3, f3, _, ok3, sm3, ln3⟩ := PL.out
      have HT3 : Hid (TAt F W3 b ls) := T3
      have HB3 : Hid (Below w.heap.size w W3) := b3
      have HF3 : Hid (∀ k, F k → w.heap.size ≤ k) := f3
      have HOK : Hid (OkT ls) := ok3
      have hsm : Small 1800 ls := fun l hl => by have := sm3 l hl; omega
      have HSM : Hid (Small 1800 ls) := hsm
      have HLN : Hid (ls.length = 6) := ln3
      have hgo' : ((i : Int) < (os.length : Int)) → ¬ ((i : Int) < 30) := fun h => by omega
      clear T3 b3 ok3 sm3 hsm PL f3 ln3
      have hlt' : (i : Int) < (os.length : Int) := by omega
      have hl60' : ¬ (i : Int) < 30 := by omega
      clear hgo hgo'
      have HW0 : Hid (Was F (W3.alloc (.cells #[.slice none 0 0, .slice none 0 0, .slice none 0 0, .slice none 0 0, .slice none 0 0, .slice none 0 0] 42)) W3.heap.size 0 ls) := was_new HT3.out.low _
      have HA0 : Hid (Below W3.heap.size W3 (W3.alloc (.cells #[.slice none 0 0, .slice none 0 0, .slice none 0 0, .slice none 0 0, .slice none 0 0, .slice none 0 0] 42))) := (Below.refl _ _).alloc (Nat.le_refl _) _
      go_wp2_with fail
      go_loopw [12] (fun s7 wr => ∃ k : Nat, s7 = .int .i64 k ∧ k ≤ 6 ∧ Hid (TAt F wr b ls) ∧ Hid (Was F wr W3.heap.size k ls) ∧ Hid (Below w.heap.size w wr)) (fun s7 _ => 6 - (intOf s7).toNat)
      case atStart => exact ⟨0, rfl, Nat.zero_le _, HT3.out.go HA0.out, HW0, bcat HB3.out HA0.out⟩
      case round =>
        clear HW0 HA0
        obtain ⟨k, rfl, hk, HT, HW, bw⟩ := hrel
        obtain ⟨W6, rfl⟩ : ∃ W6, W6 = wr := ⟨_, rfl⟩
        rcases Nat.lt_or_ge k 6 with hkl | hkg
        · have hk' : (k : Int) < 6 := by omega
          have hks : (k : Int) + 1 ≤ 1000 := by omega
          have hrl := HSM.out.row (k : Nat)
          have cS := slots_any F b ls (k : Nat) W6 HT.out (by omega)
          have hq0 : Hid (w.heap.size ≤ W3.heap.size) := HB3.out.size
          go_wp2_with (go_at_call 18; refine cS.mono ?_; rintro _ w7 ⟨av, rfl, o7, b7⟩; have PU := HW.out.put HT.out.low hkl b7 o7; obtain ⟨v7, c7, _, _⟩ := (HW.out.go b7).each k hkl; have fz7 := (HW.out.go b7).fz k; obtain ⟨aa, ac, eav, _⟩ := own_form o7; rw [eav] at PU ⊢; have HPU : Hid _ := PU; have HB7 : Hid _ := b7; clear PU b7 o7 eav)
          go_roundw
          case measure => simp only [intOf]; omega
          case rel => exact ⟨k + 1, rfl, hkl, (HT.out.go HB7.out).box HW.out.nq _, HPU, below_box (bcat bw.out HB7.out) _ _ hq0.out _⟩
        · have hk6 : k = 6 := by omega
          have hkn : ¬ (k : Int) < 6 := by omega
          rw [hk6] at HW
          clear hk6 hk hkg
          have IN6 := HIL.out.go bw.out
          have hwl := HIL.out.len
          go_wp2_with (first
            | (at_builtin; refine wpList_app kindWn rfl (.const (.slice none 0 0)) (.tmp 82) rfl W6.heap.size (.slice none 0 0) [] rfl (World.ownsRow_nil _ _ _ _) _ ws rfl (by exact IN6.lay) (by rw [hwl]; simp; omega) (by rw [hwl]; unfold maxLen; simp; omega) (Nat.le_refl _) ?_; intro mv w8 o8 g8 a8; rw [List.nil_append] at o8; have b8 : Below W6.heap.size W6 w8 := (Below.refl _ _).grown g8 (Nat.le_refl _) (fun z hz => (by cases hz)); have cC := claim_any F (fun _ => True) b ls R mv ws 1800 w8 (HT.out.go b8) HOK.out HSM.out (by have := HLN.out; omega) (by have := HLN.out; omega) ((row_of_own wnL_len o8).mono fun _ _ => trivial) (by omega); have HH8 : Hid (Was F w8 W3.heap.size 6 ls) := HW.out.go b8; have D8 : Hid (Below w.heap.size w w8) := bcat bw.out b8; clear o8 g8 a8 b8)
            | (go_at_call 19; refine cC.mono ?_; rintro _ w9 ⟨ec, ls2, F2, rfl, T9, t9, C9⟩))
          have HC : Hid (ClaimR R ws ls ec ls2) := C9
          have HSM2 : Hid (Small 1860 ls2) := fun l hl => by have := C9.small HSM.out l hl; omega
          have HSA : Hid (ec ≠ 0 → ls2 = ls) := fun h0 => by
            by_cases q : badArg R ws ls.length = true
            · exact (C9.arg q).2
            · by_cases q2 : MetT R ws ls
              · exact (C9.taken (Bool.eq_false_iff.2 q) q2).2
              · exact absurd (C9.done (Bool.eq_false_iff.2 q) q2).1 h0
          have HT8 : Hid (TAt F2 w9 b ls2) := T9
          have HW8 : Hid (Was F2 w9 W3.heap.size 6 ls) := HH8.out.turn t9
          have HB8 : Hid (Below w.heap.size w w9) := (t9.past D8.out HF3.out).1
          clear cC T9 t9 C9 HT HW bw HH8 D8 IN6 hwl
          go_loopw [14] (fun s15 wr => ∃ k : Nat, s15 = .int .i64 k ∧ k ≤ 6 ∧ Hid (TAt F2 wr b ls2) ∧ Hid (Was F2 wr W3.heap.size 6 ls) ∧ Hid (Below w.heap.size w wr)) (fun s15 _ => 6 - (intOf s15).toNat)
          case atStart => exact ⟨0, rfl, Nat.zero_le _, HT8, HW8, HB8⟩
          case round =>
            clear HT8 HW8 HB8
            obtain ⟨k, rfl, hk, HT, HW, bw⟩ := hrel
            obtain ⟨W6, rfl⟩ : ∃ W6, W6 = wr := ⟨_, rfl⟩
            rcases Nat.lt_or_ge k 6 with hkl | hkg
            · have hk' : (k : Int) < 6 := by omega
              have hks : (k : Int) + 1 ≤ 1000 := by omega
              have hrl := HSM.out.row (k : Nat)
              obtain ⟨v6, cw6, ⟨ra, rn, rc, er⟩, RW6⟩ := HW.out.each k hkl
              have RO := RW6 hkl
              obtain ⟨L, hL⟩ : ∃ L, rowOf ls (k : Nat) = L := ⟨_, rfl⟩
              rw [hL] at hrl RO
              rw [er] at RO cw6
              have hlen : rn = L.length := by obtain ⟨y1, y2, y3, _⟩ := RO.form; injection y3
              have HRO : Hid (RowAt slL (fun k => ¬ F2 k ∧ k ≠ W3.heap.size ∧ k < W6.heap.size) W6 (.slice ra rn rc) L) := RO
              have HRl : Hid (rowOf ls (k : Nat) = L) := hL
              have lq := HW.out.lq
              subst hlen
              clear RW6 RO hL er
              have HTd : Hid (TAt F2 W6.drew b ls2) := HT.out.go (Below.refl _ _).drew
              obtain ⟨SH, hSH⟩ : ∃ S : World → Prop, S = Below W6.heap.size W6 := ⟨_, rfl⟩
              have hS : SH W6.drew := by rw [hSH]; exact (Below.refl _ _).drew
              have z1 : ∀ u, SH u → u.cell? ⟨W3.heap.size, k, none⟩ = some (.slice ra L.length rc) := fun u hu => by rw [hSH] at hu; exact (cell_same (hu.block _ lq)).trans cw6
              clear cw6
              by_cases he : ec = 0
              · go_wp2_with fail
                refine start_held (S := SH) 12 rfl (by kernel_rfl) (hS) ?_
                simp only [Array.replicate_succ, Array.replicate_zero, List.push_toArray, List.nil_append, List.cons_append]
                refine take_held 0 (by assumption) rfl (by kernel_rfl) (by kernel_rfl) (by kernel_rfl) (fun _ _ _ h => h) (by kernel_rfl) (v := ?v14) ?y14 ?r14
                case y14 => (intro u hu; go_simp; try rfl)
                simp only [Act.put, List.setIfInBounds_toArray, List.set_cons_zero, List.set_cons_succ]
                refine take_held 1 (by assumption) rfl (by kernel_rfl) (by kernel_rfl) (by kernel_rfl) (fun _ _ _ h => h) (by kernel_rfl) (v := .bool false) ?y15 ?r15
                case y15 => (intro u hu; go_simp; try simp [he])
                simp only [Act.put, List.setIfInBounds_toArray, List.set_cons_zero, List.set_cons_succ]
                refine take_held 2 (by assumption) rfl (by kernel_rfl) (by kernel_rfl) (by kernel_rfl) (fun _ _ _ h => h) (by kernel_rfl) (v := ?v16) ?y16 ?r16
                case y16 => (intro u hu; go_simp; try rfl)
                simp only [Act.put, List.setIfInBounds_toArray, List.set_cons_zero, List.set_cons_succ]
                refine skip_held 3 (by assumption) rfl (by kernel_rfl) (by kernel_rfl) (by kernel_rfl) (fun _ _ _ h => h) (by kernel_rfl) ?_
                simp only [Act.put, List.setIfInBounds_toArray, List.set_cons_zero, List.set_cons_succ]
                refine skip_held 4 (by assumption) rfl (by kernel_rfl) (by kernel_rfl) (by kernel_rfl) (fun _ _ _ h => h) (by kernel_rfl) ?_
                simp only [Act.put, List.setIfInBounds_toArray, List.set_cons_zero, List.set_cons_succ]
                refine skip_held 5 (by assumption) rfl (by kernel_rfl) (by kernel_rfl) (by kernel_rfl) (fun _ _ _ h => h) (by kernel_rfl) ?_
                simp only [Act.put, List.setIfInBounds_toArray, List.set_cons_zero, List.set_cons_succ]
                refine skip_held 6 (by assumption) rfl (by kernel_rfl) (by kernel_rfl) (by kernel_rfl) (fun _ _ _ h => h) (by kernel_rfl) ?_
                simp only [Act.put, List.setIfInBounds_toArray, List.set_cons_zero, List.set_cons_succ]
                refine skip_held 7 (by assumption) rfl (by kernel_rfl) (by kernel_rfl) (by kernel_rfl) (fun _ _ _ h => h) (by kernel_rfl) ?_
                simp only [Act.put, List.setIfInBounds_toArray, List.set_cons_zero, List.set_cons_succ]
                refine skip_held 8 (by assumption) rfl (by kernel_rfl) (by kernel_rfl) (by kernel_rfl) (fun _ _ _ h => h) (by kernel_rfl) ?_
                simp only [Act.put, List.setIfInBounds_toArray, List.set_cons_zero, List.set_cons_succ]
                refine skip_held 9 (by assumption) rfl (by kernel_rfl) (by kernel_rfl) (by kernel_rfl) (fun _ _ _ h => h) (by kernel_rfl) ?_
                simp only [Act.put, List.setIfInBounds_toArray, List.set_cons_zero, List.set_cons_succ]
                refine skip_held 10 (by assumption) rfl (by kernel_rfl) (by kernel_rfl) (by kernel_rfl) (fun _ _ _ h => h) (by kernel_rfl) ?_
                simp only [Act.put, List.setIfInBounds_toArray, List.set_cons_zero, List.set_cons_succ]
                refine take_held 11 (by assumption) rfl (by kernel_rfl) (by kernel_rfl) (by kernel_rfl) (fun _ _ _ h => h) (by kernel_rfl) (v := ?v17) ?y17 ?r17
                case y17 => (intro u hu; go_simp; try rfl)
                simp only [Act.put, List.setIfInBounds_toArray, List.set_cons_zero, List.set_cons_succ]
                refine done_held (by kernel_rfl) ?_ _
                have B14 : Hid (Below W6.heap.size W6 W6.drew) := (Below.refl _ _).drew
                clear z1 hS hSH
                go_wp2_with fail
                go_roundw
                case measure => simp only [intOf]; omega
                case rel => exact ⟨k + 1, rfl, hkl, HT.out.go B14.out, HW.out.go B14.out, bcat bw.out B14.out⟩
              · have HRL : Hid (rowOf ls2 (k : Nat) = L) := by unfold Hid; rw [HSA.out he]; exact HRl.out
                go_wp2_with fail
                refine start_held (S := SH) 12 rfl (by kernel_rfl) (hS) ?_
                simp only [Array.replicate_succ, Array.replicate_zero, List.push_toArray, List.nil_append, List.cons_append]
                refine take_held 0 (by assumption) rfl (by kernel_rfl) (by kernel_rfl) (by kernel_rfl) (fun _ _ _ h => h) (by kernel_rfl) (v := ?v18) ?y18 ?r18
                case y18 => (intro u hu; go_simp; try rfl)
                simp only [Act.put, List.setIfInBounds_toArray, List.set_cons_zero, List.set_cons_succ]
                refine take_held 1 (by assumption) rfl (by kernel_rfl) (by kernel_rfl) (by kernel_rfl) (fun _ _ _ h => h) (by kernel_rfl) (v := .bool true) ?y19 ?r19
                case y19 => (intro u hu; go_simp; try simp [he])
                simp only [Act.put, List.setIfInBounds_toArray, List.set_cons_zero, List.set_cons_succ]
                refine take_held 2 (by assumption) rfl (by kernel_rfl) (by kernel_rfl) (by kernel_rfl) (fun _ _ _ h => h) (by kernel_rfl) (v := ?v20) ?y20 ?r20
                case y20 => (intro u hu; go_simp; try rfl)
                simp only [Act.put, List.setIfInBounds_toArray, List.set_cons_zero, List.set_cons_succ]
                refine take_held 3 (by assumption) rfl (by kernel_rfl) (by kernel_rfl) (by kernel_rfl) (fun _ _ _ h => h) (by kernel_rfl) (v := ?v21) ?y21 ?r21
                case y21 => (intro u hu; go_simp; try rfl)
                simp only [Act.put, List.setIfInBounds_toArray, List.set_cons_zero, List.set_cons_succ]
                refine take_held 4 (by assumption) rfl (by kernel_rfl) (by kernel_rfl) (by kernel_rfl) (fun _ _ _ h => h) (by kernel_rfl) (v := ?v22) ?y22 ?r22
                case y22 => (intro u hu; go_simp; try rfl)
                simp only [Act.put, List.setIfInBounds_toArray, List.set_cons_zero, List.set_cons_succ]
                refine take_held 6 (by assumption) rfl (by kernel_rfl) (by kernel_rfl) (by kernel_rfl) (fun _ _ _ h => h) (by kernel_rfl) (v := ?v23) ?y23 ?r23
                case y23 => (intro u hu; go_simp; try rfl)
                simp only [Act.put, List.setIfInBounds_toArray, List.set_cons_zero, List.set_cons_succ]
                refine take_held 7 (by assumption) rfl (by kernel_rfl) (by kernel_rfl) (by kernel_rfl) (fun _ _ _ h => h) (by kernel_rfl) (v := ?v24) ?y24 ?r24
                case y24 => (intro u hu; go_simp; try rfl)
                simp only [Act.put, List.setIfInBounds_toArray, List.set_cons_zero, List.set_cons_succ]
                refine take_held 8 (by assumption) rfl (by kernel_rfl) (by kernel_rfl) (by kernel_rfl) (fun _ _ _ h => h) (by kernel_rfl) (v := ?v25) ?y25 ?r25
                case y25 => (intro u hu; have zz0 := z1 u hu; go_simp; try rfl)
                simp only [Act.put, List.setIfInBounds_toArray, List.set_cons_zero, List.set_cons_succ]
                refine wpAnyH_ready (rs := [5]) (by kernel_rfl) (by simp) (AllReadyH.cons ((nth_eq _ 5).trans rfl) ?_ AllReadyH.nil)
                intro K' hK
                refine call_in hK (by kernel_rfl) 18 #[.pointer (some ⟨b, 0, none⟩), .int .i64 (k : Nat)] (by go_simp) _ (slotsC HTd.out HRL.out (by omega)) ?_
                rintro v w13 ⟨sa, sn, sc, rfl, R13, b13⟩
                have S13 : SH w13 := by rw [hSH] at hS ⊢; exact bcat hS b13
                have RB := HRO.out.go slL_len (bcat (Below.refl _ _).drew b13)
                refine ⟨S13, ?_⟩
                simp only [Act.put, List.setIfInBounds_toArray, List.set_cons_zero, List.set_cons_succ]
                refine wpAnyH_ready (rs := [9]) (by kernel_rfl) (by simp) (AllReadyH.cons ((nth_eq _ 9).trans rfl) ?_ AllReadyH.nil)
                intro K' hK
                refine call_in hK (by kernel_rfl) 20 #[.slice sa sn sc, .slice ra L.length rc] (by go_simp) _ (sameC R13 RB (by omega)) ?_
                rintro v w14 ⟨rfl, b14⟩
                have S14 : SH w14 := by rw [hSH] at S13 ⊢; exact bcat S13 b14
                refine ⟨S14, ?_⟩
                simp only [Act.put, List.setIfInBounds_toArray, List.set_cons_zero, List.set_cons_succ]
                refine take_held 10 (by assumption) rfl (by kernel_rfl) (by kernel_rfl) (by kernel_rfl) (fun _ _ _ h => h) (by kernel_rfl) (v := ?v26) ?y26 ?r26
                case y26 => (intro u hu; go_simp; try rfl)
                simp only [Act.put, List.setIfInBounds_toArray, List.set_cons_zero, List.set_cons_succ]
                refine take_held 11 (by assumption) rfl (by kernel_rfl) (by kernel_rfl) (by kernel_rfl) (fun _ _ _ h => h) (by kernel_rfl) (v := ?v27) ?y27 ?r27
                case y27 => (intro u hu; go_simp; try rfl)
                simp only [Act.put, List.setIfInBounds_toArray, List.set_cons_zero, List.set_cons_succ]
                refine done_held (by kernel_rfl) ?_ _
                have B14 : Hid (Below W6.heap.size W6 w14) := by unfold Hid; rw [hSH] at S14; exact S14
                clear S13 S14 RB R13 b13 b14 z1 hS hSH
                go_wp2_with fail
                go_roundw
                case measure => simp only [intOf]; omega
                case rel => exact ⟨k + 1, rfl, hkl, HT.out.go B14.out, HW.out.go B14.out, bcat bw.out B14.out⟩
            · have hkn : ¬ (k : Int) < 6 := by omega
              clear hkg hk
              go_wp2_with fail
              go_loopw [15, 16] (fun s15 s16 wr => ∃ (i : Nat) (m0 : Bool), s16 = .int .i64 i ∧ s15 = .bool m0 ∧ i ≤ ws.length ∧ Hid (m0 = (ws.take i).any (metW R ls2)) ∧ Hid ((ws.take i).any (badW 6) = false ∧ (0 < i → 0 ≤ R)) ∧ Hid (TAt F2 wr b ls2) ∧ Hid (Below w.heap.size w wr)) (fun _ s16 _ => ws.length - (intOf s16).toNat)
              case atStart => exact ⟨0, false, rfl, rfl, Nat.zero_le _, by unfold Hid; simp, by unfold Hid; exact ⟨by simp, fun h => absurd h (Nat.lt_irrefl _)⟩, HT, bw⟩
              case round =>
                clear HT bw
                obtain ⟨i, m0, rfl, rfl, hi, HM0, HBD, HT, bw⟩ := hrel
                have hwl := HIL.out.len
                rcases Nat.lt_or_ge i ws.length with hlt | hge
                · obtain ⟨p, ea, y0, y1, y2⟩ := (HIL.out.go bw.out).at i hlt
                  subst ea
                  have hlt' : (i : Int) < (n2 : Int) := by omega
                  have his : (i : Int) + 1 ≤ 1000 := by omega
                  have HMS : Hid ((ws.take (i + 1)).any (metW R ls2) = ((ws.take i).any (metW R ls2) || metB (rowOf ls2 (ws[i]).c) R (ws[i]).f (ws[i]).t)) := metW_succ hlt
                  have HXM : Hid (ws[i] ∈ ws) := List.getElem_mem hlt
                  have HBS : Hid (badW 6 ws[i] = false → (ws.take (i + 1)).any (badW 6) = false) := fun q => badW_succ hlt HBD.out.1 q
                  obtain ⟨x, hx⟩ : ∃ x, ws[i] = x := ⟨_, rfl⟩
                  rw [hx] at y0 y1 y2 HMS HXM HBS
                  clear hx
                  obtain ⟨wx, hwx⟩ : ∃ wx, wr.alloc (.cells #[.int .i64 x.c, .int .i64 x.f, .int .i64 x.t] 46) = wx := ⟨_, rfl⟩
                  have bx : Below wr.heap.size wr wx := by rw [← hwx]; exact (Below.refl _ _).alloc (Nat.le_refl _) _
                  have X0 : Hid (wx.cell? ⟨wr.heap.size, 0, none⟩ = some (.int .i64 x.c)) := by unfold Hid; rw [← hwx]; simp
                  have X1 : Hid (wx.cell? ⟨wr.heap.size, 1, none⟩ = some (.int .i64 x.f)) := by unfold Hid; rw [← hwx]; simp
                  have X2 : Hid (wx.cell? ⟨wr.heap.size, 2, none⟩ = some (.int .i64 x.t)) := by unfold Hid; rw [← hwx]; simp
                  have XB : wr.heap.size < wx.heap.size := World.block_lt_of_cell? _ _ X0.out
                  have BWX : Hid (Below w.heap.size w wx) := bcat bw.out bx
                  have TX : Hid (TAt F2 wx b ls2) := HT.out.go bx
                  have x0 := X0.out
                  have x1 := X1.out
                  have x2 := X2.out
                  by_cases hR : R < 0
                  · have dR : decide (R < 0) = true := decide_eq_true hR
                    have HE1 : Hid (ec = 1 ∧ _) := HC.out.arg (bad_at HXM.out (Or.inl hR))
                    have he1 : ec = 1 := HE1.out.1
                    subst he1
                    clear hR
                    go_wp2_with (go_at_call 13; refine (awake_any _).mono ?_; rintro _ w9 ⟨rfl, b9⟩)
                    go_ret
                    exact ⟨rfl, bcat BWX.out b9⟩
                  have dR : decide (R < 0) = false := decide_eq_false hR
                  by_cases hd0 : x.c < 0
                  · have hd := hd0
                    have dd0 : decide (x.c < 0) = true := decide_eq_true hd
                    have HE1 : Hid (ec = 1 ∧ _) := HC.out.arg (bad_at HXM.out (Or.inr (by unfold badW isThere FV; rw [HLN.out]; simp; omega)))
                    have he1 : ec = 1 := HE1.out.1
                    subst he1
                    clear hd hd0
                    as_aux_lemma =>
                      go_wp2_with (go_at_call 13; refine (awake_any _).mono ?_; rintro _ w9 ⟨rfl, b9⟩)
                      go_ret
                      exact ⟨rfl, bcat BWX.out b9⟩
                  have dd0 : decide (x.c < 0) = false := decide_eq_false hd0
                  by_cases hd1 : x.c ≥ 6
                  · have hd := hd1
                    have dd1 : decide (x.c ≥ 6) = true := decide_eq_true hd
                    have HE1 : Hid (ec = 1 ∧ _) := HC.out.arg (bad_at HXM.out (Or.inr (by unfold badW isThere FV; rw [HLN.out]; simp; omega)))
                    have he1 : ec = 1 := HE1.out.1
                    subst he1
                    clear hd hd1
                    as_aux_lemma =>
                      go_wp2_with (go_at_call 13; refine (awake_any _).mono ?_; rintro _ w9 ⟨rfl, b9⟩)
                      go_ret
                      exact ⟨rfl, bcat BWX.out b9⟩
                  have dd1 : decide (x.c ≥ 6) = false := decide_eq_false hd1
                  by_cases hd2 : x.f < 0
                  · have hd := hd2
                    have dd2 : decide (x.f < 0) = true := decide_eq_true hd
                    have HE1 : Hid (ec = 1 ∧ _) := HC.out.arg (bad_at HXM.out (Or.inr (by unfold badW isThere FV; rw [HLN.out]; simp; omega)))
                    have he1 : ec = 1 := HE1.out.1
                    subst he1
                    clear hd hd2
                    as_aux_lemma =>
                      go_wp2_with (go_at_call 13; refine (awake_any _).mono ?_; rintro _ w9 ⟨rfl, b9⟩)
                      go_ret
                      exact ⟨rfl, bcat BWX.out b9⟩
                  have dd2 : decide (x.f < 0) = false := decide_eq_false hd2
                  by_cases hd3 : x.f ≥ x.t
                  · have hd := hd3
                    have dd3 : decide (x.f ≥ x.t) = true := decide_eq_true hd
                    have HE1 : Hid (ec = 1 ∧ _) := HC.out.arg (bad_at HXM.out (Or.inr (by unfold badW isThere FV; rw [HLN.out]; simp; omega)))
                    have he1 : ec = 1 := HE1.out.1
                    subst he1
                    clear hd hd3
                    as_aux_lemma =>
                      go_wp2_with (go_at_call 13; refine (awake_any _).mono ?_; rintro _ w9 ⟨rfl, b9⟩)
                      go_ret
                      exact ⟨rfl, bcat BWX.out b9⟩
                  have dd3 : decide (x.f ≥ x.t) = false := decide_eq_false hd3
                  by_cases hd4 : x.t > 4611686018427387904
                  · have hd := hd4
                    have dd4 : decide (x.t > 4611686018427387904) = true := decide_eq_true hd
                    have HE1 : Hid (ec = 1 ∧ _) := HC.out.arg (bad_at HXM.out (Or.inr (by unfold badW isThere FV; rw [HLN.out]; simp; omega)))
                    have he1 : ec = 1 := HE1.out.1
                    subst he1
                    clear hd hd4
                    as_aux_lemma =>
                      go_wp2_with (go_at_call 13; refine (awake_any _).mono ?_; rintro _ w9 ⟨rfl, b9⟩)
                      go_ret
                      exact ⟨rfl, bcat BWX.out b9⟩
                  have dd4 : decide (x.t > 4611686018427387904) = false := decide_eq_false hd4
                  have HBD2 : Hid ((ws.take (i + 1)).any (badW 6) = false ∧ (0 < i + 1 → 0 ≤ R)) := ⟨HBS.out (by unfold badW isThere FV; simp; omega), fun _ => by omega⟩
                  obtain ⟨xi, hxi⟩ : ∃ xi : Nat, x.c = (xi : Nat) := ⟨x.c.toNat, by omega⟩
                  have hrl := HSM2.out.row x.c
                  have cS := slots_any F2 b ls2 x.c wx TX.out (by omega)
                  obtain ⟨L, hL⟩ : ∃ L, rowOf ls2 x.c = L := ⟨_, rfl⟩
                  rw [hL] at hrl cS
                  have HLx : Hid (rowOf ls2 x.c = L) := hL
                  have hw0 : Hid (wr.heap.size = wr.heap.size) := rfl
                  clear hL hxi hR hd0 hd1 hd2 hd3 hd4 bx
                  go_wp2_with (go_at_call 18; refine cS.mono ?_; rintro _ w7 ⟨av, rfl, o7, b7⟩)
                  obtain ⟨aa, ac, eav, _⟩ := own_form o7
                  subst eav
                  have R7 : Hid (RowAt slL (fun _ => True) w7 (.slice aa L.length ac) L) := (row_of_own slL_len o7).mono fun _ _ => trivial
                  have T7 : Hid (TAt F2 w7 b ls2) := TX.out.go b7
                  have BW7 : Hid (Below w.heap.size w w7) := bcat BWX.out b7
                  have X0 : Hid (w7.cell? ⟨wr.heap.size, 0, none⟩ = some (.int .i64 x.c)) := (cell_same (b7.block _ XB)).trans X0.out
                  have X1 : Hid (w7.cell? ⟨wr.heap.size, 1, none⟩ = some (.int .i64 x.f)) := (cell_same (b7.block _ XB)).trans X1.out
                  have X2 : Hid (w7.cell? ⟨wr.heap.size, 2, none⟩ = some (.int .i64 x.t)) := (cell_same (b7.block _ XB)).trans X2.out
                  have XB : Hid (wr.heap.size < w7.heap.size) := Nat.lt_of_lt_of_le XB b7.size
                  obtain ⟨qx, hqx⟩ : ∃ qx, wr.heap.size = qx := ⟨_, rfl⟩
                  simp only [hqx] at X0 X1 X2 XB ⊢
                  clear hqx o7 b7 cS hwx x0 x1 x2 y0 y1 y2 dd0 dd1 dd2 dd3 dd4 dR HT bw hw0
                  go_loopw [15, 18, 20] (fun s15 s18 s20 wr => ∃ (k : Nat) (m1 i1 : Bool), s20 = .int .i64 k ∧ s15 = .bool m1 ∧ s18 = .bool i1 ∧ k ≤ L.length ∧ Hid (m1 = (m0 || metB (L.take k) R x.f x.t)) ∧ Hid (i1 = inB R x.f x.t (L.take k)) ∧ Hid (Below w7.heap.size w7 wr)) (fun _ _ s20 _ => L.length - (intOf s20).toNat)
                  case atStart => exact ⟨0, m0, false, rfl, rfl, rfl, Nat.zero_le _, by unfold Hid; simp [metB], by unfold Hid; simp [inB], Below.refl _ _⟩
                  case round =>
                    obtain ⟨k, m1, i1, rfl, rfl, rfl, hk, HM1, HI1, bk⟩ := hrel
                    rcases Nat.lt_or_ge k L.length with hkl | hkg
                    · have hkl' : (k : Int) < (L.length : Int) := by omega
                      have hks : (k : Int) + 1 ≤ 1000000000 := by omega
                      obtain ⟨g, o, cp, ec, k0, k1, k2⟩ := box_item (R7.out.go slL_len bk.out) k hkl
                      cases ec
                      have x0 := (cell_same (o := 0) (bk.out.block _ XB.out)).trans X0.out
                      have x1 := (cell_same (o := 1) (bk.out.block _ XB.out)).trans X1.out
                      have x2 := (cell_same (o := 2) (bk.out.block _ XB.out)).trans X2.out
                      have hmS : Hid (metB (L.take (k + 1)) R x.f x.t = (metB (L.take k) R x.f x.t || (decide ((L[k]).r ≠ R) && decide ((L[k]).f < x.t) && decide (x.f < (L[k]).t)))) := metB_succ hkl
                      have hiS : Hid (inB R x.f x.t (L.take (k + 1)) = (inB R x.f x.t (L.take k) || (decide ((L[k]).r = R) && decide ((L[k]).f ≤ x.f) && decide ((L[k]).t ≥ x.t)))) := inB_succ hkl
                      obtain ⟨s, hs⟩ : ∃ s, L[k] = s := ⟨_, rfl⟩
                      rw [hs] at k0 k1 k2 hmS hiS
                      clear hs
                      by_cases er : s.r = R
                      · have er1 : (s.r == R) = true := by simp [er]
                        have er2 : (s.r != R) = false := by simp [er]
                        cases i1 with
                        | true =>
                          cases m1 with
                          | true =>
                            as_aux_lemma =>
                              go_wp2_with fail
                              go_quiet (fail)
                              go_wp2_with fail
                              go_quiet (fail)
                              go_wp2_with fail
                              go_roundw
                              case measure => simp only [intOf]; omega
                              case rel => exact ⟨k + 1, _, _, rfl, rfl, rfl, hkl, by unfold Hid; rw [hmS.out]; (rw [← Bool.or_assoc, ← HM1.out]; first | (simp [er]; done) | (simp [er]; intros; omega)), by unfold Hid; rw [hiS.out]; (rw [← HI1.out]; first | (simp [er]; done) | (simp [er]; intros; omega)), below_drewN bk.out _⟩
                          | false =>
                            as_aux_lemma =>
                              go_wp2_with fail
                              go_quiet (fail)
                              go_wp2_with fail
                              go_quiet (fail)
                              go_wp2_with fail
                              go_roundw
                              case measure => simp only [intOf]; omega
                              case rel => exact ⟨k + 1, _, _, rfl, rfl, rfl, hkl, by unfold Hid; rw [hmS.out]; (rw [← Bool.or_assoc, ← HM1.out]; first | (simp [er]; done) | (simp [er]; intros; omega)), by unfold Hid; rw [hiS.out]; (rw [← HI1.out]; first | (simp [er]; done) | (simp [er]; intros; omega)), below_drewN bk.out _⟩
                        | false =>
                          by_cases hB : s.f ≤ x.f
                          · by_cases hC : s.t ≥ x.t
                            · cases m1 with
                              | true =>
                                as_aux_lemma =>
                                  have eb : decide (s.f ≤ x.f) = true := decide_eq_true hB
                                  have ec2 : decide (s.t ≥ x.t) = true := decide_eq_true hC
                                  go_wp2_with fail
                                  go_quiet (fail)
                                  go_wp2_with fail
                                  go_quiet (fail)
                                  go_wp2_with fail
                                  go_roundw
                                  case measure => simp only [intOf]; omega
                                  case rel => exact ⟨k + 1, _, _, rfl, rfl, rfl, hkl, by unfold Hid; rw [hmS.out]; (rw [← Bool.or_assoc, ← HM1.out]; first | (simp [er]; done) | (simp [er]; intros; omega)), by unfold Hid; rw [hiS.out]; (rw [← HI1.out]; first | (simp [er, hB, hC]; done) | (simp [er, hB, hC]; intros; omega)), below_drewN bk.out _⟩
                              | false =>
                                as_aux_lemma =>
                                  have eb : decide (s.f ≤ x.f) = true := decide_eq_true hB
                                  have ec2 : decide (s.t ≥ x.t) = true := decide_eq_true hC
                                  go_wp2_with fail
                                  go_quiet (fail)
                                  go_wp2_with fail
                                  go_quiet (fail)
                                  go_wp2_with fail
                                  go_roundw
                                  case measure => simp only [intOf]; omega
                                  case rel => exact ⟨k + 1, _, _, rfl, rfl, rfl, hkl, by unfold Hid; rw [hmS.out]; (rw [← Bool.or_assoc, ← HM1.out]; first | (simp [er]; done) | (simp [er]; intros; omega)), by unfold Hid; rw [hiS.out]; (rw [← HI1.out]; first | (simp [er, hB, hC]; done) | (simp [er, hB, hC]; intros; omega)), below_drewN bk.out _⟩
                            · cases m1 with
                              | true =>
                                as_aux_lemma =>
                                  have eb : decide (s.f ≤ x.f) = true := decide_eq_true hB
                                  have ec2 : decide (s.t ≥ x.t) = false := decide_eq_false hC
                                  go_wp2_with fail
                                  go_quiet (fail)
                                  go_wp2_with fail
                                  go_quiet (fail)
                                  go_wp2_with fail
                                  go_roundw
                                  case measure => simp only [intOf]; omega
                                  case rel => exact ⟨k + 1, _, _, rfl, rfl, rfl, hkl, by unfold Hid; rw [hmS.out]; (rw [← Bool.or_assoc, ← HM1.out]; first | (simp [er]; done) | (simp [er]; intros; omega)), by unfold Hid; rw [hiS.out]; (rw [← HI1.out]; first | (simp [er, hB, hC]; done) | (simp [er, hB, hC]; intros; omega)), below_drewN bk.out _⟩
                              | false =>
                                as_aux_lemma =>
                                  have eb : decide (s.f ≤ x.f) = true := decide_eq_true hB
                                  have ec2 : decide (s.t ≥ x.t) = false := decide_eq_false hC
                                  go_wp2_with fail
                                  go_quiet (fail)
                                  go_wp2_with fail
                                  go_quiet (fail)
                                  go_wp2_with fail
                                  go_roundw
                                  case measure => simp only [intOf]; omega
                                  case rel => exact ⟨k + 1, _, _, rfl, rfl, rfl, hkl, by unfold Hid; rw [hmS.out]; (rw [← Bool.or_assoc, ← HM1.out]; first | (simp [er]; done) | (simp [er]; intros; omega)), by unfold Hid; rw [hiS.out]; (rw [← HI1.out]; first | (simp [er, hB, hC]; done) | (simp [er, hB, hC]; intros; omega)), below_drewN bk.out _⟩
                          · cases m1 with
                            | true =>
                              as_aux_lemma =>
                                have eb : decide (s.f ≤ x.f) = false := decide_eq_false hB
                                go_wp2_with fail
                                go_quiet (fail)
                                go_wp2_with fail
                                go_quiet (fail)
                                go_wp2_with fail
                                go_roundw
                                case measure => simp only [intOf]; omega
                                case rel => exact ⟨k + 1, _, _, rfl, rfl, rfl, hkl, by unfold Hid; rw [hmS.out]; (rw [← Bool.or_assoc, ← HM1.out]; first | (simp [er]; done) | (simp [er]; intros; omega)), by unfold Hid; rw [hiS.out]; (rw [← HI1.out]; first | (simp [er, hB]; done) | (simp [er, hB]; intros; omega)), below_drewN bk.out _⟩
                            | false =>
                              as_aux_lemma =>
                                have eb : decide (s.f ≤ x.f) = false := decide_eq_false hB
                                go_wp2_with fail
                                go_quiet (fail)
                                go_wp2_with fail
                                go_quiet (fail)
                                go_wp2_with fail
                                go_roundw
                                case measure => simp only [intOf]; omega
                                case rel => exact ⟨k + 1, _, _, rfl, rfl, rfl, hkl, by unfold Hid; rw [hmS.out]; (rw [← Bool.or_assoc, ← HM1.out]; first | (simp [er]; done) | (simp [er]; intros; omega)), by unfold Hid; rw [hiS.out]; (rw [← HI1.out]; first | (simp [er, hB]; done) | (simp [er, hB]; intros; omega)), below_drewN bk.out _⟩
                      · have er1 : (s.r == R) = false := by simp [er]
                        have er2 : (s.r != R) = true := by simp [er]
                        cases m1 with
                        | true =>
                          cases i1 with
                          | true =>
                            as_aux_lemma =>
                              go_wp2_with fail
                              go_quiet (fail)
                              go_wp2_with fail
                              go_quiet (fail)
                              go_wp2_with fail
                              go_roundw
                              case measure => simp only [intOf]; omega
                              case rel => exact ⟨k + 1, _, _, rfl, rfl, rfl, hkl, by unfold Hid; rw [hmS.out]; (rw [← Bool.or_assoc, ← HM1.out]; first | (simp [er]; done) | (simp [er]; intros; omega)), by unfold Hid; rw [hiS.out]; (rw [← HI1.out]; first | (simp [er]; done) | (simp [er]; intros; omega)), below_drewN bk.out _⟩
                          | false =>
                            as_aux_lemma =>
                              go_wp2_with fail
                              go_quiet (fail)
                              go_wp2_with fail
                              go_quiet (fail)
                              go_wp2_with fail
                              go_roundw
                              case measure => simp only [intOf]; omega
                              case rel => exact ⟨k + 1, _, _, rfl, rfl, rfl, hkl, by unfold Hid; rw [hmS.out]; (rw [← Bool.or_assoc, ← HM1.out]; first | (simp [er]; done) | (simp [er]; intros; omega)), by unfold Hid; rw [hiS.out]; (rw [← HI1.out]; first | (simp [er]; done) | (simp [er]; intros; omega)), below_drewN bk.out _⟩
                        | false =>
                          by_cases hB : s.f < x.t
                          · by_cases hC : x.f < s.t
                            · cases i1 with
                              | true =>
                                as_aux_lemma =>
                                  have eb : decide (s.f < x.t) = true := decide_eq_true hB
                                  have ec2 : decide (x.f < s.t) = true := decide_eq_true hC
                                  go_wp2_with fail
                                  go_quiet (fail)
                                  go_wp2_with fail
                                  go_quiet (fail)
                                  go_wp2_with fail
                                  go_roundw
                                  case measure => simp only [intOf]; omega
                                  case rel => exact ⟨k + 1, _, _, rfl, rfl, rfl, hkl, by unfold Hid; rw [hmS.out]; (rw [← Bool.or_assoc, ← HM1.out]; first | (simp [er, hB, hC]; done) | (simp [er, hB, hC]; intros; omega)), by unfold Hid; rw [hiS.out]; (rw [← HI1.out]; first | (simp [er]; done) | (simp [er]; intros; omega)), below_drewN bk.out _⟩
                              | false =>
                                as_aux_lemma =>
                                  have eb : decide (s.f < x.t) = true := decide_eq_true hB
                                  have ec2 : decide (x.f < s.t) = true := decide_eq_true hC
                                  go_wp2_with fail
                                  go_quiet (fail)
                                  go_wp2_with fail
                                  go_quiet (fail)
                                  go_wp2_with fail
                                  go_roundw
                                  case measure => simp only [intOf]; omega
                                  case rel => exact ⟨k + 1, _, _, rfl, rfl, rfl, hkl, by unfold Hid; rw [hmS.out]; (rw [← Bool.or_assoc, ← HM1.out]; first | (simp [er, hB, hC]; done) | (simp [er, hB, hC]; intros; omega)), by unfold Hid; rw [hiS.out]; (rw [← HI1.out]; first | (simp [er]; done) | (simp [er]; intros; omega)), below_drewN bk.out _⟩
                            · cases i1 with
                              | true =>
                                as_aux_lemma =>
                                  have eb : decide (s.f < x.t) = true := decide_eq_true hB
                                  have ec2 : decide (x.f < s.t) = false := decide_eq_false hC
                                  go_wp2_with fail
                                  go_quiet (fail)
                                  go_wp2_with fail
                                  go_quiet (fail)
                                  go_wp2_with fail
                                  go_roundw
                                  case measure => simp only [intOf]; omega
                                  case rel => exact ⟨k + 1, _, _, rfl, rfl, rfl, hkl, by unfold Hid; rw [hmS.out]; (rw [← Bool.or_assoc, ← HM1.out]; first | (simp [er, hB, hC]; done) | (simp [er, hB, hC]; intros; omega)), by unfold Hid; rw [hiS.out]; (rw [← HI1.out]; first | (simp [er]; done) | (simp [er]; intros; omega)), below_drewN bk.out _⟩
                              | false =>
                                as_aux_lemma =>
                                  have eb : decide (s.f < x.t) = true := decide_eq_true hB
                                  have ec2 : decide (x.f < s.t) = false := decide_eq_false hC
                                  go_wp2_with fail
                                  go_quiet (fail)
                                  go_wp2_with fail
                                  go_quiet (fail)
                                  go_wp2_with fail
                                  go_roundw
                                  case measure => simp only [intOf]; omega
                                  case rel => exact ⟨k + 1, _, _, rfl, rfl, rfl, hkl, by unfold Hid; rw [hmS.out]; (rw [← Bool.or_assoc, ← HM1.out]; first | (simp [er, hB, hC]; done) | (simp [er, hB, hC]; intros; omega)), by unfold Hid; rw [hiS.out]; (rw [← HI1.out]; first | (simp [er]; done) | (simp [er]; intros; omega)), below_drewN bk.out _⟩
                          · cases i1 with
                            | true =>
                              as_aux_lemma =>
                                have eb : decide (s.f < x.t) = false := decide_eq_false hB
                                go_wp2_with fail
                                go_quiet (fail)
                                go_wp2_with fail
                                go_quiet (fail)
                                go_wp2_with fail
                                go_roundw
                                case measure => simp only [intOf]; omega
                                case rel => exact ⟨k + 1, _, _, rfl, rfl, rfl, hkl, by unfold Hid; rw [hmS.out]; (rw [← Bool.or_assoc, ← HM1.out]; first | (simp [er, hB]; done) | (simp [er, hB]; intros; omega)), by unfold Hid; rw [hiS.out]; (rw [← HI1.out]; first | (simp [er]; done) | (simp [er]; intros; omega)), below_drewN bk.out _⟩
                            | false =>
                              as_aux_lemma =>
                                have eb : decide (s.f < x.t) = false := decide_eq_false hB
                                go_wp2_with fail
                                go_quiet (fail)
                                go_wp2_with fail
                                go_quiet (fail)
                                go_wp2_with fail
                                go_roundw
                                case measure => simp only [intOf]; omega
                                case rel => exact ⟨k + 1, _, _, rfl, rfl, rfl, hkl, by unfold Hid; rw [hmS.out]; (rw [← Bool.or_assoc, ← HM1.out]; first | (simp [er, hB]; done) | (simp [er, hB]; intros; omega)), by unfold Hid; rw [hiS.out]; (rw [← HI1.out]; first | (simp [er]; done) | (simp [er]; intros; omega)), below_drewN bk.out _⟩
                    · obtain rfl : k = L.length := by omega
                      have HM2 : Hid (m1 = (m0 || metB L R x.f x.t)) := by have := HM1.out; rw [List.take_length] at this; exact this
                      have HI2 : Hid (i1 = inB R x.f x.t L) := by have := HI1.out; rw [List.take_length] at this; exact this
                      have BB : Hid (Below w.heap.size w wr) := bcat BW7.out bk.out
                      have TT : Hid (TAt F2 wr b ls2) := T7.out.go bk.out
                      by_cases he : ec = 0
                      · have hin1 : i1 = true := by rw [HI2.out, ← HLx.out]; exact whole_in HOK.out HC.out he HXM.out
                        subst hin1
                        have he' : (ec == 0) = true := by simp [he]
                        clear he
                        go_wp2_with fail
                        go_roundw
                        case measure => simp only [intOf]; omega
                        case rel => exact ⟨i + 1, _, rfl, rfl, hlt, by unfold Hid; rw [HM2.out, HMS.out, HM0.out, HLx.out], HBD2.out, TT, BB⟩
                      · have he' : (ec == 0) = false := by simp [he]
                        clear he
                        go_wp2_with fail
                        go_roundw
                        case measure => simp only [intOf]; omega
                        case rel => exact ⟨i + 1, _, rfl, rfl, hlt, by unfold Hid; rw [HM2.out, HMS.out, HM0.out, HLx.out], HBD2.out, TT, BB⟩
                · obtain rfl : i = ws.length := by omega
                  have hlt' : ¬ ((ws.length : Nat) : Int) < (n2 : Int) := by omega
                  by_cases hR : R < 0
                  · have dR : decide (R < 0) = true := decide_eq_true hR
                    have HE1 : Hid (ec = 1 ∧ _) := HC.out.arg (by unfold badArg; rw [decide_eq_true hR]; rfl)
                    have he1 : ec = 1 := HE1.out.1
                    subst he1
                    clear hR
                    go_wp2_with (go_at_call 13; refine (awake_any _).mono ?_; rintro _ w9 ⟨rfl, b9⟩)
                    go_ret
                    exact ⟨rfl, bcat bw.out b9⟩
                  · have dR : decide (R < 0) = false := decide_eq_false hR
                    obtain ⟨wm1, wm2⟩ := whole_met HOK.out HC.out (by rw [HLN.out]; exact good_all (by omega) HBD.out.1)
                    have hm0 := HM0.out
                    rw [List.take_length, wm1] at hm0
                    clear hR wm1
                    rcases wm2 with he | he
                    · subst he
                      have hm0' : m0 = false := by rw [hm0]; rfl
                      subst hm0'
                      clear hm0
                      go_wp2_with (go_at_call 13; refine (awake_any _).mono ?_; rintro _ w9 ⟨rfl, b9⟩)
                      go_ret
                      exact ⟨rfl, bcat bw.out b9⟩
                    · subst he
                      have hm0' : m0 = true := by rw [hm0]; rfl
                      subst hm0'
                      clear hm0
                      go_wp2_with (go_at_call 13; refine (awake_any _).mono ?_; rintro _ w9 ⟨rfl, b9⟩)
                      go_ret
                      exact ⟨rfl, bcat bw.out b9⟩
end Go.Proofs.Ytddkgkafgjdheaa.Rs
