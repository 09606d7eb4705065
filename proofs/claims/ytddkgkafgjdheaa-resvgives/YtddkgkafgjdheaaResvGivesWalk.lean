/-
  What is given back, or expired, is nobody's; the others stay.
-/
import Derived.Test.YtddkgkafgjdheaaResvWas
namespace Go.Proofs.Ytddkgkafgjdheaa.Rs
set_option linter.unusedVariables false
set_option linter.unusedSimpArgs false
open Go Go.RowKit Go.Shelf Go.Proofs Hp
attribute [local go_sem] Oper.semAt_some

set_option maxRecDepth 100000 in
set_option maxHeartbeats 4000000 in
theorem gives_all (R upto : Int) (a : Option Addr) (n cap : Nat) (os : List Cl) (w : World) (hin : InS w a n cap os) : Calls Try.prog 7 #[.slice a n cap, .int .i64 R, .int .i64 upto, .bool true] w fun e w' => e = .returned (.bool true) ∧ Below w.heap.size w w' := by
  have cN := new_any 6 w (by omega) (by omega)
  have HIN : Hid (InS w a n cap os) := hin
  have hol := hin.len
  subst hol
  clear hin
  go_enter Try.func7, Try.ntmps7
  go_wp2_with (first
    | (go_at_call 12; refine cN.mono ?_; rintro _ w1 ⟨b, rfl, F, T1, b1, f1⟩)
    | (go_at_call 15; refine (refNew_any 6 w1 (by omega) (by omega)).mono ?_; rintro _ w2 ⟨c, rfl, G, T2, b2, f2⟩))
  have P0 : Hid (Pl w b c 0 w2) := Pl.start T1 b1 f1 T2 b2 f2
  clear cN T1 b1 f1 T2 b2 f2
  go_loopw [12] (fun s6 wr => ∃ i : Nat, s6 = .int .i64 i ∧ i ≤ os.length ∧ i ≤ 30 ∧ Hid (Pl w b c i wr)) (fun s6 _ => os.length - (intOf s6).toNat)
  case atStart => exact ⟨0, rfl, Nat.zero_le _, Nat.zero_le _, P0⟩
  case round =>
    clear P0
    obtain ⟨i, rfl, hi, hi60, PL⟩ := hrel
    by_cases hgo : i < os.length ∧ i < 30
    · obtain ⟨hlt, hl60⟩ := hgo
      have hlt' : (i : Int) < (os.length : Int) := by omega
      have hl60' : (i : Int) < 30 := by omega
      have his : (i : Int) + 1 ≤ 1000 := by omega
      obtain ⟨p, ea, c0, c1, c2, c3, c4, c5, IW⟩ := (HIN.out.go PL.out.bw).at i hlt
      have IW0 : Hid (InW w (os[i]).a (os[i]).n (os[i]).cap (os[i]).ws) := by obtain ⟨_, _, _, q⟩ := HIN.out.lay i hlt; exact q
      subst ea
      obtain ⟨x, hx⟩ : ∃ x, os[i] = x := ⟨_, rfl⟩
      rw [hx] at c0 c1 c2 c3 c4 c5 IW0
      clear hx IW
      by_cases hbig : x.n > 60
      · have hb' : (x.n : Int) > 60 := by omega
        go_wp2_with (go_at_call 13; refine (awake_any _).mono ?_; rintro _ w3 ⟨rfl, b3⟩)
        go_ret
        exact ⟨rfl, bcat PL.out.bw b3⟩
      · have hb' : ¬ (x.n : Int) > 60 := by omega
        have cD := do_turn PL.out (by omega) x IW0.out (by omega)
        go_wp2_with (go_at_call 16; refine cD.mono ?_; rintro _ w3 ⟨rfl, P3⟩)
        go_roundw
        case measure => simp only [intOf]; omega
        case rel => exact ⟨i + 1, rfl, hlt, hl60, P3⟩
    · obtain ⟨W3, rfl⟩ : ∃ W3, W3 = wr := ⟨_, rfl⟩
      obtain ⟨F, G, ls, T3, _, _, b3, f3, _, ok3, sm3, ln3⟩ := PL.out
      have HT3 : Hid (TAt F W3 b ls) := T3
      have HB3 : Hid (Below w.heap.size w W3) := b3
      have HF3 : Hid (∀ k, F k → w.heap.size ≤ k) := f3
      have HOK : Hid (OkT ls) := ok3
      have hsm : Small 1800 ls := fun l hl => by have := sm3 l hl; omega
      have HSM : Hid (Small 1800 ls) := hsm
      have HLN : Hid (ls.length = 6) := ln3
      have hgo' : ((i : Int) < (os.length : Int)) → ¬ ((i : Int) < 30) := fun h => by omega
      clear T3 b3 ok3 sm3 hsm PL f3 ln3
      by_cases hlt : i < os.length
      · have hlt' : (i : Int) < (os.length : Int) := by omega
        have hl60' : ¬ (i : Int) < 30 := by omega
        clear hgo hgo' hlt
        have HW0 : Hid (Was F (W3.alloc (.cells #[.slice none 0 0, .slice none 0 0, .slice none 0 0, .slice none 0 0, .slice none 0 0, .slice none 0 0] 42)) W3.heap.size 0 ls) := was_new HT3.out.low _
        have HA0 : Hid (Below W3.heap.size W3 (W3.alloc (.cells #[.slice none 0 0, .slice none 0 0, .slice none 0 0, .slice none 0 0, .slice none 0 0, .slice none 0 0] 42))) := (Below.refl _ _).alloc (Nat.le_refl _) _
        go_wp2_with fail
        go_loopw [14] (fun s7 wr => ∃ k : Nat, s7 = .int .i64 k ∧ k ≤ 6 ∧ Hid (TAt F wr b ls) ∧ Hid (Was F wr W3.heap.size k ls) ∧ Hid (Below w.heap.size w wr)) (fun s7 _ => 6 - (intOf s7).toNat)
        case atStart => exact ⟨0, rfl, Nat.zero_le _, HT3.out.go HA0.out, HW0, bcat HB3.out HA0.out⟩
        case round =>
          clear HW0 HA0
          obtain ⟨k, rfl, hk, HT, HW, bw⟩ := hrel
          obtain ⟨W6, rfl⟩ : ∃ W6, W6 = wr := ⟨_, rfl⟩
          rcases Nat.lt_or_ge k 6 with hkl | hkg
          · have hk' : (k : Int) < 6 := by omega
            have hks : (k : Int) + 1 ≤ 1000 := by omega
            have hrl := HSM.out.row (k : Nat)
            have cS := slots_any F b ls (k : Nat) W6 HT.out (by omega)
            have hq0 : Hid (w.heap.size ≤ W3.heap.size) := HB3.out.size
            go_wp2_with (go_at_call 18; refine cS.mono ?_; rintro _ w7 ⟨av, rfl, o7, b7⟩; have PU := HW.out.put HT.out.low hkl b7 o7; obtain ⟨v7, c7, _, _⟩ := (HW.out.go b7).each k hkl; have fz7 := (HW.out.go b7).fz k; obtain ⟨aa, ac, eav, _⟩ := own_form o7; rw [eav] at PU ⊢; have HPU : Hid _ := PU; have HB7 : Hid _ := b7; clear PU b7 o7 eav)
            go_roundw
            case measure => simp only [intOf]; omega
            case rel => exact ⟨k + 1, rfl, hkl, (HT.out.go HB7.out).box HW.out.nq _, HPU, below_box (bcat bw.out HB7.out) _ _ hq0.out _⟩
          · obtain rfl : k = 6 := by omega
            have cE := expire_any F b ls upto 1800 W6 HT.out HSM.out (by omega) (by have := HLN.out; omega) (by have := HLN.out; omega)
            obtain ⟨q, hq⟩ : ∃ q, W3.heap.size = q := ⟨_, rfl⟩
            rw [hq] at HW ⊢
            go_wp2_with (go_at_call 25; refine cE.mono ?_; rintro _ w8 ⟨rfl, F2, T8, t8⟩)
            have HT8 : Hid (TAt F2 w8 b (ls.map (cutL (fun _ => true) upto))) := T8
            have HW8 : Hid (Was F2 w8 q 6 ls) := HW.out.turn t8
            have HB8 : Hid (Below w.heap.size w w8) := (t8.past bw.out HF3.out).1
            clear cE T8 t8 HT HW bw hq
            go_loopw [15] (fun s15 wr => ∃ k : Nat, s15 = .int .i64 k ∧ k ≤ 6 ∧ Hid (TAt F2 wr b (ls.map (cutL (fun _ => true) upto))) ∧ Hid (Was F2 wr q 6 ls) ∧ Hid (Below w.heap.size w wr)) (fun s15 _ => 6 - (intOf s15).toNat)
            case atStart => exact ⟨0, rfl, Nat.zero_le _, HT8, HW8, HB8⟩
            case round =>
              clear HT8 HW8 HB8
              obtain ⟨k, rfl, hk, HT, HW, bw⟩ := hrel
              obtain ⟨W6, rfl⟩ : ∃ W6, W6 = wr := ⟨_, rfl⟩
              rcases Nat.lt_or_ge k 6 with hkl | hkg
              · have hk' : (k : Int) < 6 := by omega
                have hks : (k : Int) + 1 ≤ 1000 := by omega
                have hrl := HSM.out.row (k : Nat)
                have hr2 : rowOf (ls.map (cutL (fun _ => true) upto)) (k : Nat) = cutL (fun _ => true) upto (rowOf ls (k : Nat)) := by
                  rw [rowOf_nat _ k (by rw [List.length_map]; have := HLN.out; omega), rowOf_nat ls k (by have := HLN.out; omega), List.getElem_map]
                obtain ⟨v6, cw6, ⟨ra, rn, rc, er⟩, RW6⟩ := HW.out.each k hkl
                have RO := RW6 hkl
                obtain ⟨L, hL⟩ : ∃ L, rowOf ls (k : Nat) = L := ⟨_, rfl⟩
                rw [hL] at hrl hr2 RO
                rw [er] at RO cw6
                have hlen : rn = L.length := by obtain ⟨y1, y2, y3, _⟩ := RO.form; injection y3
                have HRO : Hid (RowAt slL (fun k => ¬ F2 k ∧ k ≠ q ∧ k < W6.heap.size) W6 (.slice ra rn rc) L) := RO
                have HR2 : Hid _ := hr2
                have lq := HW.out.lq
                subst hlen
                clear RW6 RO hr2 hL er
                go_wp2_with fail
                go_loopw [16, 17] (fun s16 s17 wr => ∃ j : Nat, s17 = .int .i64 j ∧ j ≤ L.length ∧ Hid (wr.ownsRow W6.heap.size 40 3 s16 (cutL (fun _ => true) upto (L.take j)).length (rowL slL (cutL (fun _ => true) upto (L.take j)))) ∧ Hid (Below W6.heap.size W6 wr)) (fun _ s17 _ => L.length - (intOf s17).toNat)
                case atStart => exact ⟨0, rfl, Nat.zero_le _, World.ownsRow_nil _ _ _ _, Below.refl _ _⟩
                case round =>
                  obtain ⟨j, rfl, hj, O, bw6⟩ := hrel
                  obtain ⟨oa, oc, eo, _⟩ := own_form O.out
                  have cw7 : wr.cell? ⟨q, k, none⟩ = some (.slice ra L.length rc) := (cell_same (bw6.out.block _ lq)).trans cw6
                  rcases Nat.lt_or_ge j L.length with hjl | hjg
                  · obtain ⟨g2, o2, cap2, e2, c0, c1, c2⟩ := box_item (HRO.out.go slL_len bw6.out) j hjl
                    cases e2
                    have hjl' : (j : Int) < (L.length : Int) := by omega
                    have hjs : (j : Int) + 1 ≤ 1000000000 := by omega
                    have hT : Hid (cutL (fun _ => true) upto (L.take (j + 1)) = cutL (fun _ => true) upto (L.take j) ++ (if (cut1 (fun _ => true) upto L[j]).f < (L[j]).t then [cut1 (fun _ => true) upto L[j]] else [])) := by unfold Hid; rw [List.take_succ_eq_append_getElem hjl, cutL_snoc]
                    have hcl : Hid ((cutL (fun _ => true) upto (L.take j)).length ≤ 1000000000) := by unfold Hid; have := cutL_len (fun _ => true) upto (L.take j); rw [List.length_take] at this; omega
                    obtain ⟨s, hs'⟩ : ∃ s, L[j] = s := ⟨_, rfl⟩
                    rw [hs'] at c0 c1 c2 hT
                    clear hs'
                    obtain ⟨w5, hw5⟩ : ∃ w5, wr.alloc (.cells #[.int .i64 s.f, .int .i64 s.t, .int .i64 s.r] 40) = w5 := ⟨_, rfl⟩
                    have b5 : Below wr.heap.size wr w5 := by rw [← hw5]; exact (Below.refl _ _).alloc (Nat.le_refl _) _
                    have z0 : w5.cell? ⟨wr.heap.size, 0, none⟩ = some (.int .i64 s.f) := by rw [← hw5]; simp
                    have z1 : w5.cell? ⟨wr.heap.size, 1, none⟩ = some (.int .i64 s.t) := by rw [← hw5]; simp
                    have z2 : w5.cell? ⟨wr.heap.size, 2, none⟩ = some (.int .i64 s.r) := by rw [← hw5]; simp
                    have z3 : w5.frozen? ⟨wr.heap.size, 0, none⟩ = false := by rw [← hw5]; simp
                    have lz : wr.heap.size < w5.heap.size := World.block_lt_of_cell? _ _ z0
                    have hp : (fun _ => true) s.r = true := rfl
                    have ec : cut1 (fun _ => true) upto s = ⟨max s.f upto, s.t, s.r⟩ := by unfold cut1; rw [if_pos hp]
                    have bX : Below wr.heap.size wr (w5.setCell ⟨wr.heap.size, 0, none⟩ (.int .i64 (max s.f upto))) := b5.setCell (p := ⟨wr.heap.size, 0, none⟩) (Nat.le_refl _) _
                    have BX : Below W6.heap.size W6 (w5.setCell ⟨wr.heap.size, 0, none⟩ (.int .i64 (max s.f upto))) := bcat bw6.out bX
                    have hxz : (w5.setCell ⟨wr.heap.size, 0, none⟩ (.int .i64 (max s.f upto))).heap.size = w5.heap.size := by simp [World.setCell]
                    by_cases kc : max s.f upto < s.t
                    · skip
                      obtain ⟨w7, hw7⟩ : ∃ w7, (w5.setCell ⟨wr.heap.size, 0, none⟩ (.int .i64 (max s.f upto))).alloc (.cells #[.int .i64 (max s.f upto), .int .i64 s.t, .int .i64 s.r] 40) = w7 := ⟨_, rfl⟩
                      have b7 : Below W6.heap.size W6 w7 := by rw [← hw7]; exact BX.alloc (by have := BX.size; omega) _
                      have bx7 : Below wr.heap.size wr w7 := by rw [← hw7]; exact bX.alloc bX.size _
                      have nn := cell_new ((w5.setCell ⟨wr.heap.size, 0, none⟩ (.int .i64 (max s.f upto)))) (.int .i64 (max s.f upto)) (.int .i64 s.t) (.int .i64 s.r) 40
                      rw [hw7] at nn
                      rw [hxz] at nn
                      obtain ⟨n0, n1, n2⟩ := nn
                      have hrow := owns_go O.out bx7
                      rw [eo] at hrow
                      have HW7 : Hid ((w5.setCell ⟨wr.heap.size, 0, none⟩ (.int .i64 (max s.f upto))).alloc (.cells #[.int .i64 (max s.f upto), .int .i64 s.t, .int .i64 s.r] 40) = w7) := hw7
                      have e1 : Hid (cutL (fun _ => true) upto (L.take (j + 1)) = cutL (fun _ => true) upto (L.take j) ++ [⟨max s.f upto, s.t, s.r⟩]) := by unfold Hid; rw [hT.out, ec, if_pos kc]
                      clear hw7
                      subst eo
                      go_wp2_with (first | (at_builtin; (try rw [HW7.out]); refine wpList_app kindSl rfl (.tmp 107) (.tmp 109) rfl W6.heap.size (.slice oa (cutL (fun _ => true) upto (L.take j)).length oc) (cutL (fun _ => true) upto (L.take j)) rfl hrow _ [⟨max s.f upto, s.t, s.r⟩] rfl (lone_at n0 n1 n2) (by have := hcl.out; simp; omega) (by have := hcl.out; unfold maxLen; simp; omega) b7.size ?_; intro v2 w2 o2 g2 a2))
                      go_roundw
                      case measure => simp only [intOf]; omega
                      case rel => exact ⟨j + 1, rfl, hjl, by rw [e1.out]; exact o2, b7.grown g2 b7.size (fun k hk => (own_since O.out k hk).1)⟩
                    · skip
                      have e1 : Hid (cutL (fun _ => true) upto (L.take (j + 1)) = cutL (fun _ => true) upto (L.take j)) := by unfold Hid; rw [hT.out, ec, if_neg kc, List.append_nil]
                      have O2 : Hid (((w5.setCell ⟨wr.heap.size, 0, none⟩ (.int .i64 (max s.f upto)))).ownsRow W6.heap.size 40 3 _ (cutL (fun _ => true) upto (L.take j)).length (rowL slL (cutL (fun _ => true) upto (L.take j)))) := owns_go O.out bX
                      have kd : decide (max s.f upto < s.t) = false := decide_eq_false kc
                      clear kc
                      subst eo
                      go_wp2_with fail
                      go_roundw
                      case measure => simp only [intOf]; omega
                      case rel => exact ⟨j + 1, rfl, hjl, by rw [e1.out]; exact O2, BX⟩
                  · obtain rfl : j = L.length := by omega
                    have O' := O.out
                    rw [List.take_length] at O' eo
                    have HO9 : Hid (RowAt slL (fun _ => True) wr _ (cutL (fun _ => true) upto L)) := (row_of_own slL_len O').mono fun _ _ => trivial
                    have T9 := HT.out.go bw6.out
                    have W9 : Hid (Was F2 wr q 6 ls) := HW.out.go bw6.out
                    have hcl2 := cutL_len (fun _ => true) upto L
                    have cS2 := slots_any F2 b (ls.map (cutL (fun _ => true) upto)) (k : Nat) wr T9 (by rw [HR2.out]; omega)
                    rw [HR2.out] at cS2
                    have HT9 : Hid (TAt F2 wr b (ls.map (cutL (fun _ => true) upto))) := T9
                    obtain ⟨C, hC⟩ : ∃ C, cutL (fun _ => true) upto L = C := ⟨_, rfl⟩
                    rw [hC] at HO9 cS2 hcl2 eo
                    subst eo
                    clear O' T9 hC
                    go_wp2_with (first
                      | (go_at_call 18; refine cS2.mono ?_; rintro _ w13 ⟨v13, rfl, o13, b13⟩)
                      | (go_at_call 20; refine (sameSlots_any _ _ v13 _ C C _ (row_of_own slL_len o13) (HO9.out.go slL_len b13) (by omega)).mono ?_; rintro _ w14 ⟨rfl, b14⟩; rw [decide_eq_true (show C = C from rfl)]))
                    go_roundw
                    case measure => simp only [intOf]; omega
                    case rel => exact ⟨k + 1, rfl, hkl, HT9.out.go (bcat b13 b14), W9.out.go (bcat b13 b14), bcat bw.out (bcat bw6.out (bcat b13 b14))⟩
              · obtain rfl : k = 6 := by omega
                go_wp2_with (go_at_call 13; refine (awake_any _).mono ?_; rintro _ w9 ⟨rfl, b9⟩)
                go_ret
                exact ⟨rfl, bcat bw.out b9⟩
      · have hlt' : ¬ (i : Int) < (os.length : Int) := by omega
        clear hgo hgo' hlt
        have HW0 : Hid (Was F (W3.alloc (.cells #[.slice none 0 0, .slice none 0 0, .slice none 0 0, .slice none 0 0, .slice none 0 0, .slice none 0 0] 42)) W3.heap.size 0 ls) := was_new HT3.out.low _
        have HA0 : Hid (Below W3.heap.size W3 (W3.alloc (.cells #[.slice none 0 0, .slice none 0 0, .slice none 0 0, .slice none 0 0, .slice none 0 0, .slice none 0 0] 42))) := (Below.refl _ _).alloc (Nat.le_refl _) _
        go_wp2_with fail
        go_loopw [14] (fun s7 wr => ∃ k : Nat, s7 = .int .i64 k ∧ k ≤ 6 ∧ Hid (TAt F wr b ls) ∧ Hid (Was F wr W3.heap.size k ls) ∧ Hid (Below w.heap.size w wr)) (fun s7 _ => 6 - (intOf s7).toNat)
        case atStart => exact ⟨0, rfl, Nat.zero_le _, HT3.out.go HA0.out, HW0, bcat HB3.out HA0.out⟩
        case round =>
          clear HW0 HA0
          obtain ⟨k, rfl, hk, HT, HW, bw⟩ := hrel
          obtain ⟨W6, rfl⟩ : ∃ W6, W6 = wr := ⟨_, rfl⟩
          rcases Nat.lt_or_ge k 6 with hkl | hkg
          · have hk' : (k : Int) < 6 := by omega
            have hks : (k : Int) + 1 ≤ 1000 := by omega
            have hrl := HSM.out.row (k : Nat)
            have cS := slots_any F b ls (k : Nat) W6 HT.out (by omega)
            have hq0 : Hid (w.heap.size ≤ W3.heap.size) := HB3.out.size
            go_wp2_with (go_at_call 18; refine cS.mono ?_; rintro _ w7 ⟨av, rfl, o7, b7⟩; have PU := HW.out.put HT.out.low hkl b7 o7; obtain ⟨v7, c7, _, _⟩ := (HW.out.go b7).each k hkl; have fz7 := (HW.out.go b7).fz k; obtain ⟨aa, ac, eav, _⟩ := own_form o7; rw [eav] at PU ⊢; have HPU : Hid _ := PU; have HB7 : Hid _ := b7; clear PU b7 o7 eav)
            go_roundw
            case measure => simp only [intOf]; omega
            case rel => exact ⟨k + 1, rfl, hkl, (HT.out.go HB7.out).box HW.out.nq _, HPU, below_box (bcat bw.out HB7.out) _ _ hq0.out _⟩
          · obtain rfl : k = 6 := by omega
            have cE := expire_any F b ls upto 1800 W6 HT.out HSM.out (by omega) (by have := HLN.out; omega) (by have := HLN.out; omega)
            obtain ⟨q, hq⟩ : ∃ q, W3.heap.size = q := ⟨_, rfl⟩
            rw [hq] at HW ⊢
            go_wp2_with (go_at_call 25; refine cE.mono ?_; rintro _ w8 ⟨rfl, F2, T8, t8⟩)
            have HT8 : Hid (TAt F2 w8 b (ls.map (cutL (fun _ => true) upto))) := T8
            have HW8 : Hid (Was F2 w8 q 6 ls) := HW.out.turn t8
            have HB8 : Hid (Below w.heap.size w w8) := (t8.past bw.out HF3.out).1
            clear cE T8 t8 HT HW bw hq
            go_loopw [15] (fun s15 wr => ∃ k : Nat, s15 = .int .i64 k ∧ k ≤ 6 ∧ Hid (TAt F2 wr b (ls.map (cutL (fun _ => true) upto))) ∧ Hid (Was F2 wr q 6 ls) ∧ Hid (Below w.heap.size w wr)) (fun s15 _ => 6 - (intOf s15).toNat)
            case atStart => exact ⟨0, rfl, Nat.zero_le _, HT8, HW8, HB8⟩
            case round =>
              clear HT8 HW8 HB8
              obtain ⟨k, rfl, hk, HT, HW, bw⟩ := hrel
              obtain ⟨W6, rfl⟩ : ∃ W6, W6 = wr := ⟨_, rfl⟩
              rcases Nat.lt_or_ge k 6 with hkl | hkg
              · have hk' : (k : Int) < 6 := by omega
                have hks : (k : Int) + 1 ≤ 1000 := by omega
                have hrl := HSM.out.row (k : Nat)
                have hr2 : rowOf (ls.map (cutL (fun _ => true) upto)) (k : Nat) = cutL (fun _ => true) upto (rowOf ls (k : Nat)) := by
                  rw [rowOf_nat _ k (by rw [List.length_map]; have := HLN.out; omega), rowOf_nat ls k (by have := HLN.out; omega), List.getElem_map]
                obtain ⟨v6, cw6, ⟨ra, rn, rc, er⟩, RW6⟩ := HW.out.each k hkl
                have RO := RW6 hkl
                obtain ⟨L, hL⟩ : ∃ L, rowOf ls (k : Nat) = L := ⟨_, rfl⟩
                rw [hL] at hrl hr2 RO
                rw [er] at RO cw6
                have hlen : rn = L.length := by obtain ⟨y1, y2, y3, _⟩ := RO.form; injection y3
                have HRO : Hid (RowAt slL (fun k => ¬ F2 k ∧ k ≠ q ∧ k < W6.heap.size) W6 (.slice ra rn rc) L) := RO
                have HR2 : Hid _ := hr2
                have lq := HW.out.lq
                subst hlen
                clear RW6 RO hr2 hL er
                go_wp2_with fail
                go_loopw [16, 17] (fun s16 s17 wr => ∃ j : Nat, s17 = .int .i64 j ∧ j ≤ L.length ∧ Hid (wr.ownsRow W6.heap.size 40 3 s16 (cutL (fun _ => true) upto (L.take j)).length (rowL slL (cutL (fun _ => true) upto (L.take j)))) ∧ Hid (Below W6.heap.size W6 wr)) (fun _ s17 _ => L.length - (intOf s17).toNat)
                case atStart => exact ⟨0, rfl, Nat.zero_le _, World.ownsRow_nil _ _ _ _, Below.refl _ _⟩
                case round =>
                  obtain ⟨j, rfl, hj, O, bw6⟩ := hrel
                  obtain ⟨oa, oc, eo, _⟩ := own_form O.out
                  have cw7 : wr.cell? ⟨q, k, none⟩ = some (.slice ra L.length rc) := (cell_same (bw6.out.block _ lq)).trans cw6
                  rcases Nat.lt_or_ge j L.length with hjl | hjg
                  · obtain ⟨g2, o2, cap2, e2, c0, c1, c2⟩ := box_item (HRO.out.go slL_len bw6.out) j hjl
                    cases e2
                    have hjl' : (j : Int) < (L.length : Int) := by omega
                    have hjs : (j : Int) + 1 ≤ 1000000000 := by omega
                    have hT : Hid (cutL (fun _ => true) upto (L.take (j + 1)) = cutL (fun _ => true) upto (L.take j) ++ (if (cut1 (fun _ => true) upto L[j]).f < (L[j]).t then [cut1 (fun _ => true) upto L[j]] else [])) := by unfold Hid; rw [List.take_succ_eq_append_getElem hjl, cutL_snoc]
                    have hcl : Hid ((cutL (fun _ => true) upto (L.take j)).length ≤ 1000000000) := by unfold Hid; have := cutL_len (fun _ => true) upto (L.take j); rw [List.length_take] at this; omega
                    obtain ⟨s, hs'⟩ : ∃ s, L[j] = s := ⟨_, rfl⟩
                    rw [hs'] at c0 c1 c2 hT
                    clear hs'
                    obtain ⟨w5, hw5⟩ : ∃ w5, wr.alloc (.cells #[.int .i64 s.f, .int .i64 s.t, .int .i64 s.r] 40) = w5 := ⟨_, rfl⟩
                    have b5 : Below wr.heap.size wr w5 := by rw [← hw5]; exact (Below.refl _ _).alloc (Nat.le_refl _) _
                    have z0 : w5.cell? ⟨wr.heap.size, 0, none⟩ = some (.int .i64 s.f) := by rw [← hw5]; simp
                    have z1 : w5.cell? ⟨wr.heap.size, 1, none⟩ = some (.int .i64 s.t) := by rw [← hw5]; simp
                    have z2 : w5.cell? ⟨wr.heap.size, 2, none⟩ = some (.int .i64 s.r) := by rw [← hw5]; simp
                    have z3 : w5.frozen? ⟨wr.heap.size, 0, none⟩ = false := by rw [← hw5]; simp
                    have lz : wr.heap.size < w5.heap.size := World.block_lt_of_cell? _ _ z0
                    have hp : (fun _ => true) s.r = true := rfl
                    have ec : cut1 (fun _ => true) upto s = ⟨max s.f upto, s.t, s.r⟩ := by unfold cut1; rw [if_pos hp]
                    have bX : Below wr.heap.size wr (w5.setCell ⟨wr.heap.size, 0, none⟩ (.int .i64 (max s.f upto))) := b5.setCell (p := ⟨wr.heap.size, 0, none⟩) (Nat.le_refl _) _
                    have BX : Below W6.heap.size W6 (w5.setCell ⟨wr.heap.size, 0, none⟩ (.int .i64 (max s.f upto))) := bcat bw6.out bX
                    have hxz : (w5.setCell ⟨wr.heap.size, 0, none⟩ (.int .i64 (max s.f upto))).heap.size = w5.heap.size := by simp [World.setCell]
                    by_cases kc : max s.f upto < s.t
                    · skip
                      obtain ⟨w7, hw7⟩ : ∃ w7, (w5.setCell ⟨wr.heap.size, 0, none⟩ (.int .i64 (max s.f upto))).alloc (.cells #[.int .i64 (max s.f upto), .int .i64 s.t, .int .i64 s.r] 40) = w7 := ⟨_, rfl⟩
                      have b7 : Below W6.heap.size W6 w7 := by rw [← hw7]; exact BX.alloc (by have := BX.size; omega) _
                      have bx7 : Below wr.heap.size wr w7 := by rw [← hw7]; exact bX.alloc bX.size _
                      have nn := cell_new ((w5.setCell ⟨wr.heap.size, 0, none⟩ (.int .i64 (max s.f upto)))) (.int .i64 (max s.f upto)) (.int .i64 s.t) (.int .i64 s.r) 40
                      rw [hw7] at nn
                      rw [hxz] at nn
                      obtain ⟨n0, n1, n2⟩ := nn
                      have hrow := owns_go O.out bx7
                      rw [eo] at hrow
                      have HW7 : Hid ((w5.setCell ⟨wr.heap.size, 0, none⟩ (.int .i64 (max s.f upto))).alloc (.cells #[.int .i64 (max s.f upto), .int .i64 s.t, .int .i64 s.r] 40) = w7) := hw7
                      have e1 : Hid (cutL (fun _ => true) upto (L.take (j + 1)) = cutL (fun _ => true) upto (L.take j) ++ [⟨max s.f upto, s.t, s.r⟩]) := by unfold Hid; rw [hT.out, ec, if_pos kc]
                      clear hw7
                      subst eo
                      go_wp2_with (first | (at_builtin; (try rw [HW7.out]); refine wpList_app kindSl rfl (.tmp 107) (.tmp 109) rfl W6.heap.size (.slice oa (cutL (fun _ => true) upto (L.take j)).length oc) (cutL (fun _ => true) upto (L.take j)) rfl hrow _ [⟨max s.f upto, s.t, s.r⟩] rfl (lone_at n0 n1 n2) (by have := hcl.out; simp; omega) (by have := hcl.out; unfold maxLen; simp; omega) b7.size ?_; intro v2 w2 o2 g2 a2))
                      go_roundw
                      case measure => simp only [intOf]; omega
                      case rel => exact ⟨j + 1, rfl, hjl, by rw [e1.out]; exact o2, b7.grown g2 b7.size (fun k hk => (own_since O.out k hk).1)⟩
                    · skip
                      have e1 : Hid (cutL (fun _ => true) upto (L.take (j + 1)) = cutL (fun _ => true) upto (L.take j)) := by unfold Hid; rw [hT.out, ec, if_neg kc, List.append_nil]
                      have O2 : Hid (((w5.setCell ⟨wr.heap.size, 0, none⟩ (.int .i64 (max s.f upto)))).ownsRow W6.heap.size 40 3 _ (cutL (fun _ => true) upto (L.take j)).length (rowL slL (cutL (fun _ => true) upto (L.take j)))) := owns_go O.out bX
                      have kd : decide (max s.f upto < s.t) = false := decide_eq_false kc
                      clear kc
                      subst eo
                      go_wp2_with fail
                      go_roundw
                      case measure => simp only [intOf]; omega
                      case rel => exact ⟨j + 1, rfl, hjl, by rw [e1.out]; exact O2, BX⟩
                  · obtain rfl : j = L.length := by omega
                    have O' := O.out
                    rw [List.take_length] at O' eo
                    have HO9 : Hid (RowAt slL (fun _ => True) wr _ (cutL (fun _ => true) upto L)) := (row_of_own slL_len O').mono fun _ _ => trivial
                    have T9 := HT.out.go bw6.out
                    have W9 : Hid (Was F2 wr q 6 ls) := HW.out.go bw6.out
                    have hcl2 := cutL_len (fun _ => true) upto L
                    have cS2 := slots_any F2 b (ls.map (cutL (fun _ => true) upto)) (k : Nat) wr T9 (by rw [HR2.out]; omega)
                    rw [HR2.out] at cS2
                    have HT9 : Hid (TAt F2 wr b (ls.map (cutL (fun _ => true) upto))) := T9
                    obtain ⟨C, hC⟩ : ∃ C, cutL (fun _ => true) upto L = C := ⟨_, rfl⟩
                    rw [hC] at HO9 cS2 hcl2 eo
                    subst eo
                    clear O' T9 hC
                    go_wp2_with (first
                      | (go_at_call 18; refine cS2.mono ?_; rintro _ w13 ⟨v13, rfl, o13, b13⟩)
                      | (go_at_call 20; refine (sameSlots_any _ _ v13 _ C C _ (row_of_own slL_len o13) (HO9.out.go slL_len b13) (by omega)).mono ?_; rintro _ w14 ⟨rfl, b14⟩; rw [decide_eq_true (show C = C from rfl)]))
                    go_roundw
                    case measure => simp only [intOf]; omega
                    case rel => exact ⟨k + 1, rfl, hkl, HT9.out.go (bcat b13 b14), W9.out.go (bcat b13 b14), bcat bw.out (bcat bw6.out (bcat b13 b14))⟩
              · obtain rfl : k = 6 := by omega
                go_wp2_with (go_at_call 13; refine (awake_any _).mono ?_; rintro _ w9 ⟨rfl, b9⟩)
                go_ret
                exact ⟨rfl, bcat bw.out b9⟩
set_option maxRecDepth 100000 in
set_option maxHeartbeats 4000000 in
theorem gives_one (R upto : Int) (a : Option Addr) (n cap : Nat) (os : List Cl) (w : World) (hin : InS w a n cap os) : Calls Try.prog 7 #[.slice a n cap, .int .i64 R, .int .i64 upto, .bool false] w fun e w' => e = .returned (.bool true) ∧ Below w.heap.size w w' := by
  have cN := new_any 6 w (by omega) (by omega)
  have HIN : Hid (InS w a n cap os) := hin
  have hol := hin.len
  subst hol
  clear hin
  go_enter Try.func7, Try.ntmps7
  go_wp2_with (first
    | (go_at_call 12; refine cN.mono ?_; rintro _ w1 ⟨b, rfl, F, T1, b1, f1⟩)
    | (go_at_call 15; refine (refNew_any 6 w1 (by omega) (by omega)).mono ?_; rintro _ w2 ⟨c, rfl, G, T2, b2, f2⟩))
  have P0 : Hid (Pl w b c 0 w2) := Pl.start T1 b1 f1 T2 b2 f2
  clear cN T1 b1 f1 T2 b2 f2
  go_loopw [12] (fun s6 wr => ∃ i : Nat, s6 = .int .i64 i ∧ i ≤ os.length ∧ i ≤ 30 ∧ Hid (Pl w b c i wr)) (fun s6 _ => os.length - (intOf s6).toNat)
  case atStart => exact ⟨0, rfl, Nat.zero_le _, Nat.zero_le _, P0⟩
  case round =>
    clear P0
    obtain ⟨i, rfl, hi, hi60, PL⟩ := hrel
    by_cases hgo : i < os.length ∧ i < 30
    · obtain ⟨hlt, hl60⟩ := hgo
      have hlt' : (i : Int) < (os.length : Int) := by omega
      have hl60' : (i : Int) < 30 := by omega
      have his : (i : Int) + 1 ≤ 1000 := by omega
      obtain ⟨p, ea, c0, c1, c2, c3, c4, c5, IW⟩ := (HIN.out.go PL.out.bw).at i hlt
      have IW0 : Hid (InW w (os[i]).a (os[i]).n (os[i]).cap (os[i]).ws) := by obtain ⟨_, _, _, q⟩ := HIN.out.lay i hlt; exact q
      subst ea
      obtain ⟨x, hx⟩ : ∃ x, os[i] = x := ⟨_, rfl⟩
      rw [hx] at c0 c1 c2 c3 c4 c5 IW0
      clear hx IW
      by_cases hbig : x.n > 60
      · have hb' : (x.n : Int) > 60 := by omega
        go_wp2_with (go_at_call 13; refine (awake_any _).mono ?_; rintro _ w3 ⟨rfl, b3⟩)
        go_ret
        exact ⟨rfl, bcat PL.out.bw b3⟩
      · have hb' : ¬ (x.n : Int) > 60 := by omega
        have cD := do_turn PL.out (by omega) x IW0.out (by omega)
        go_wp2_with (go_at_call 16; refine cD.mono ?_; rintro _ w3 ⟨rfl, P3⟩)
        go_roundw
        case measure => simp only [intOf]; omega
        case rel => exact ⟨i + 1, rfl, hlt, hl60, P3⟩
    · obtain ⟨W3, rfl⟩ : ∃ W3, W3 = wr := ⟨_, rfl⟩
      obtain ⟨F, G, ls, T3, _, _, b3, f3, _, ok3, sm3, ln3⟩ := PL.out
      have HT3 : Hid (TAt F W3 b ls) := T3
      have HB3 : Hid (Below w.heap.size w W3) := b3
      have HF3 : Hid (∀ k, F k → w.heap.size ≤ k) := f3
      have HOK : Hid (OkT ls) := ok3
      have hsm : Small 1800 ls := fun l hl => by have := sm3 l hl; omega
      have HSM : Hid (Small 1800 ls) := hsm
      have HLN : Hid (ls.length = 6) := ln3
      have hgo' : ((i : Int) < (os.length : Int)) → ¬ ((i : Int) < 30) := fun h => by omega
      clear T3 b3 ok3 sm3 hsm PL f3 ln3
      by_cases hlt : i < os.length
      · have hlt' : (i : Int) < (os.length : Int) := by omega
        have hl60' : ¬ (i : Int) < 30 := by omega
        clear hgo hgo' hlt
        have HW0 : Hid (Was F (W3.alloc (.cells #[.slice none 0 0, .slice none 0 0, .slice none 0 0, .slice none 0 0, .slice none 0 0, .slice none 0 0] 42)) W3.heap.size 0 ls) := was_new HT3.out.low _
        have HA0 : Hid (Below W3.heap.size W3 (W3.alloc (.cells #[.slice none 0 0, .slice none 0 0, .slice none 0 0, .slice none 0 0, .slice none 0 0, .slice none 0 0] 42))) := (Below.refl _ _).alloc (Nat.le_refl _) _
        go_wp2_with fail
        go_loopw [14] (fun s7 wr => ∃ k : Nat, s7 = .int .i64 k ∧ k ≤ 6 ∧ Hid (TAt F wr b ls) ∧ Hid (Was F wr W3.heap.size k ls) ∧ Hid (Below w.heap.size w wr)) (fun s7 _ => 6 - (intOf s7).toNat)
        case atStart => exact ⟨0, rfl, Nat.zero_le _, HT3.out.go HA0.out, HW0, bcat HB3.out HA0.out⟩
        case round =>
          clear HW0 HA0
          obtain ⟨k, rfl, hk, HT, HW, bw⟩ := hrel
          obtain ⟨W6, rfl⟩ : ∃ W6, W6 = wr := ⟨_, rfl⟩
          rcases Nat.lt_or_ge k 6 with hkl | hkg
          · have hk' : (k : Int) < 6 := by omega
            have hks : (k : Int) + 1 ≤ 1000 := by omega
            have hrl := HSM.out.row (k : Nat)
            have cS := slots_any F b ls (k : Nat) W6 HT.out (by omega)
            have hq0 : Hid (w.heap.size ≤ W3.heap.size) := HB3.out.size
            go_wp2_with (go_at_call 18; refine cS.mono ?_; rintro _ w7 ⟨av, rfl, o7, b7⟩; have PU := HW.out.put HT.out.low hkl b7 o7; obtain ⟨v7, c7, _, _⟩ := (HW.out.go b7).each k hkl; have fz7 := (HW.out.go b7).fz k; obtain ⟨aa, ac, eav, _⟩ := own_form o7; rw [eav] at PU ⊢; have HPU : Hid _ := PU; have HB7 : Hid _ := b7; clear PU b7 o7 eav)
            go_roundw
            case measure => simp only [intOf]; omega
            case rel => exact ⟨k + 1, rfl, hkl, (HT.out.go HB7.out).box HW.out.nq _, HPU, below_box (bcat bw.out HB7.out) _ _ hq0.out _⟩
          · obtain rfl : k = 6 := by omega
            have cE := release_any F b ls R upto 1800 W6 HT.out HSM.out (by omega) (by have := HLN.out; omega) (by have := HLN.out; omega)
            obtain ⟨q, hq⟩ : ∃ q, W3.heap.size = q := ⟨_, rfl⟩
            rw [hq] at HW ⊢
            go_wp2_with (go_at_call 26; refine cE.mono ?_; rintro _ w8 ⟨rfl, F2, T8, t8⟩)
            have HT8 : Hid (TAt F2 w8 b (ls.map (cutL (isR R) upto))) := T8
            have HW8 : Hid (Was F2 w8 q 6 ls) := HW.out.turn t8
            have HB8 : Hid (Below w.heap.size w w8) := (t8.past bw.out HF3.out).1
            clear cE T8 t8 HT HW bw hq
            go_loopw [15] (fun s15 wr => ∃ k : Nat, s15 = .int .i64 k ∧ k ≤ 6 ∧ Hid (TAt F2 wr b (ls.map (cutL (isR R) upto))) ∧ Hid (Was F2 wr q 6 ls) ∧ Hid (Below w.heap.size w wr)) (fun s15 _ => 6 - (intOf s15).toNat)
            case atStart => exact ⟨0, rfl, Nat.zero_le _, HT8, HW8, HB8⟩
            case round =>
              clear HT8 HW8 HB8
              obtain ⟨k, rfl, hk, HT, HW, bw⟩ := hrel
              obtain ⟨W6, rfl⟩ : ∃ W6, W6 = wr := ⟨_, rfl⟩
              rcases Nat.lt_or_ge k 6 with hkl | hkg
              · have hk' : (k : Int) < 6 := by omega
                have hks : (k : Int) + 1 ≤ 1000 := by omega
                have hrl := HSM.out.row (k : Nat)
                have hr2 : rowOf (ls.map (cutL (isR R) upto)) (k : Nat) = cutL (isR R) upto (rowOf ls (k : Nat)) := by
                  rw [rowOf_nat _ k (by rw [List.length_map]; have := HLN.out; omega), rowOf_nat ls k (by have := HLN.out; omega), List.getElem_map]
                obtain ⟨v6, cw6, ⟨ra, rn, rc, er⟩, RW6⟩ := HW.out.each k hkl
                have RO := RW6 hkl
                obtain ⟨L, hL⟩ : ∃ L, rowOf ls (k : Nat) = L := ⟨_, rfl⟩
                rw [hL] at hrl hr2 RO
                rw [er] at RO cw6
                have hlen : rn = L.length := by obtain ⟨y1, y2, y3, _⟩ := RO.form; injection y3
                have HRO : Hid (RowAt slL (fun k => ¬ F2 k ∧ k ≠ q ∧ k < W6.heap.size) W6 (.slice ra rn rc) L) := RO
                have HR2 : Hid _ := hr2
                have lq := HW.out.lq
                subst hlen
                clear RW6 RO hr2 hL er
                go_wp2_with fail
                go_loopw [16, 17] (fun s16 s17 wr => ∃ j : Nat, s17 = .int .i64 j ∧ j ≤ L.length ∧ Hid (wr.ownsRow W6.heap.size 40 3 s16 (cutL (isR R) upto (L.take j)).length (rowL slL (cutL (isR R) upto (L.take j)))) ∧ Hid (Below W6.heap.size W6 wr)) (fun _ s17 _ => L.length - (intOf s17).toNat)
                case atStart => exact ⟨0, rfl, Nat.zero_le _, World.ownsRow_nil _ _ _ _, Below.refl _ _⟩
                case round =>
                  obtain ⟨j, rfl, hj, O, bw6⟩ := hrel
                  obtain ⟨oa, oc, eo, _⟩ := own_form O.out
                  have cw7 : wr.cell? ⟨q, k, none⟩ = some (.slice ra L.length rc) := (cell_same (bw6.out.block _ lq)).trans cw6
                  rcases Nat.lt_or_ge j L.length with hjl | hjg
                  · obtain ⟨g2, o2, cap2, e2, c0, c1, c2⟩ := box_item (HRO.out.go slL_len bw6.out) j hjl
                    cases e2
                    have hjl' : (j : Int) < (L.length : Int) := by omega
                    have hjs : (j : Int) + 1 ≤ 1000000000 := by omega
                    have hT : Hid (cutL (isR R) upto (L.take (j + 1)) = cutL (isR R) upto (L.take j) ++ (if (cut1 (isR R) upto L[j]).f < (L[j]).t then [cut1 (isR R) upto L[j]] else [])) := by unfold Hid; rw [List.take_succ_eq_append_getElem hjl, cutL_snoc]
                    have hcl : Hid ((cutL (isR R) upto (L.take j)).length ≤ 1000000000) := by unfold Hid; have := cutL_len (isR R) upto (L.take j); rw [List.length_take] at this; omega
                    obtain ⟨s, hs'⟩ : ∃ s, L[j] = s := ⟨_, rfl⟩
                    rw [hs'] at c0 c1 c2 hT
                    clear hs'
                    obtain ⟨w5, hw5⟩ : ∃ w5, wr.alloc (.cells #[.int .i64 s.f, .int .i64 s.t, .int .i64 s.r] 40) = w5 := ⟨_, rfl⟩
                    have b5 : Below wr.heap.size wr w5 := by rw [← hw5]; exact (Below.refl _ _).alloc (Nat.le_refl _) _
                    have z0 : w5.cell? ⟨wr.heap.size, 0, none⟩ = some (.int .i64 s.f) := by rw [← hw5]; simp
                    have z1 : w5.cell? ⟨wr.heap.size, 1, none⟩ = some (.int .i64 s.t) := by rw [← hw5]; simp
                    have z2 : w5.cell? ⟨wr.heap.size, 2, none⟩ = some (.int .i64 s.r) := by rw [← hw5]; simp
                    have z3 : w5.frozen? ⟨wr.heap.size, 0, none⟩ = false := by rw [← hw5]; simp
                    have lz : wr.heap.size < w5.heap.size := World.block_lt_of_cell? _ _ z0
                    cases hp : (isR R) s.r with
                    | true =>
                      have hq : (s.r == R) = true := hp
                      have ec : cut1 (isR R) upto s = ⟨max s.f upto, s.t, s.r⟩ := by unfold cut1; rw [if_pos hp]
                      have bX : Below wr.heap.size wr (w5.setCell ⟨wr.heap.size, 0, none⟩ (.int .i64 (max s.f upto))) := b5.setCell (p := ⟨wr.heap.size, 0, none⟩) (Nat.le_refl _) _
                      have BX : Below W6.heap.size W6 (w5.setCell ⟨wr.heap.size, 0, none⟩ (.int .i64 (max s.f upto))) := bcat bw6.out bX
                      have hxz : (w5.setCell ⟨wr.heap.size, 0, none⟩ (.int .i64 (max s.f upto))).heap.size = w5.heap.size := by simp [World.setCell]
                      by_cases kc : max s.f upto < s.t
                      · skip
                        obtain ⟨w7, hw7⟩ : ∃ w7, (w5.setCell ⟨wr.heap.size, 0, none⟩ (.int .i64 (max s.f upto))).alloc (.cells #[.int .i64 (max s.f upto), .int .i64 s.t, .int .i64 s.r] 40) = w7 := ⟨_, rfl⟩
                        have b7 : Below W6.heap.size W6 w7 := by rw [← hw7]; exact BX.alloc (by have := BX.size; omega) _
                        have bx7 : Below wr.heap.size wr w7 := by rw [← hw7]; exact bX.alloc bX.size _
                        have nn := cell_new ((w5.setCell ⟨wr.heap.size, 0, none⟩ (.int .i64 (max s.f upto)))) (.int .i64 (max s.f upto)) (.int .i64 s.t) (.int .i64 s.r) 40
                        rw [hw7] at nn
                        rw [hxz] at nn
                        obtain ⟨n0, n1, n2⟩ := nn
                        have hrow := owns_go O.out bx7
                        rw [eo] at hrow
                        have HW7 : Hid ((w5.setCell ⟨wr.heap.size, 0, none⟩ (.int .i64 (max s.f upto))).alloc (.cells #[.int .i64 (max s.f upto), .int .i64 s.t, .int .i64 s.r] 40) = w7) := hw7
                        have e1 : Hid (cutL (isR R) upto (L.take (j + 1)) = cutL (isR R) upto (L.take j) ++ [⟨max s.f upto, s.t, s.r⟩]) := by unfold Hid; rw [hT.out, ec, if_pos kc]
                        clear hw7
                        subst eo
                        go_wp2_with (first | (at_builtin; (try rw [HW7.out]); refine wpList_app kindSl rfl (.tmp 107) (.tmp 109) rfl W6.heap.size (.slice oa (cutL (isR R) upto (L.take j)).length oc) (cutL (isR R) upto (L.take j)) rfl hrow _ [⟨max s.f upto, s.t, s.r⟩] rfl (lone_at n0 n1 n2) (by have := hcl.out; simp; omega) (by have := hcl.out; unfold maxLen; simp; omega) b7.size ?_; intro v2 w2 o2 g2 a2))
                        go_roundw
                        case measure => simp only [intOf]; omega
                        case rel => exact ⟨j + 1, rfl, hjl, by rw [e1.out]; exact o2, b7.grown g2 b7.size (fun k hk => (own_since O.out k hk).1)⟩
                      · skip
                        have e1 : Hid (cutL (isR R) upto (L.take (j + 1)) = cutL (isR R) upto (L.take j)) := by unfold Hid; rw [hT.out, ec, if_neg kc, List.append_nil]
                        have O2 : Hid (((w5.setCell ⟨wr.heap.size, 0, none⟩ (.int .i64 (max s.f upto)))).ownsRow W6.heap.size 40 3 _ (cutL (isR R) upto (L.take j)).length (rowL slL (cutL (isR R) upto (L.take j)))) := owns_go O.out bX
                        have kd : decide (max s.f upto < s.t) = false := decide_eq_false kc
                        clear kc
                        subst eo
                        go_wp2_with fail
                        go_roundw
                        case measure => simp only [intOf]; omega
                        case rel => exact ⟨j + 1, rfl, hjl, by rw [e1.out]; exact O2, BX⟩
                    | false =>
                      have hq : (s.r == R) = false := hp
                      have ec : cut1 (isR R) upto s = s := by unfold cut1; rw [if_neg (by rw [hp]; simp)]
                      have bX : Below wr.heap.size wr w5 := b5
                      have BX : Below W6.heap.size W6 w5 := bcat bw6.out bX
                      by_cases kc : s.f < s.t
                      · skip
                        obtain ⟨w7, hw7⟩ : ∃ w7, w5.alloc (.cells #[.int .i64 (s.f), .int .i64 s.t, .int .i64 s.r] 40) = w7 := ⟨_, rfl⟩
                        have b7 : Below W6.heap.size W6 w7 := by rw [← hw7]; exact BX.alloc (by have := BX.size; omega) _
                        have bx7 : Below wr.heap.size wr w7 := by rw [← hw7]; exact bX.alloc bX.size _
                        have nn := cell_new (w5) (.int .i64 (s.f)) (.int .i64 s.t) (.int .i64 s.r) 40
                        rw [hw7] at nn
                        obtain ⟨n0, n1, n2⟩ := nn
                        have hrow := owns_go O.out bx7
                        rw [eo] at hrow
                        have HW7 : Hid (w5.alloc (.cells #[.int .i64 (s.f), .int .i64 s.t, .int .i64 s.r] 40) = w7) := hw7
                        have e1 : Hid (cutL (isR R) upto (L.take (j + 1)) = cutL (isR R) upto (L.take j) ++ [⟨s.f, s.t, s.r⟩]) := by unfold Hid; rw [hT.out, ec, if_pos kc]
                        clear hw7
                        subst eo
                        go_wp2_with (first | (at_builtin; (try rw [HW7.out]); refine wpList_app kindSl rfl (.tmp 107) (.tmp 109) rfl W6.heap.size (.slice oa (cutL (isR R) upto (L.take j)).length oc) (cutL (isR R) upto (L.take j)) rfl hrow _ [⟨s.f, s.t, s.r⟩] rfl (lone_at n0 n1 n2) (by have := hcl.out; simp; omega) (by have := hcl.out; unfold maxLen; simp; omega) b7.size ?_; intro v2 w2 o2 g2 a2))
                        go_roundw
                        case measure => simp only [intOf]; omega
                        case rel => exact ⟨j + 1, rfl, hjl, by rw [e1.out]; exact o2, b7.grown g2 b7.size (fun k hk => (own_since O.out k hk).1)⟩
                      · skip
                        have e1 : Hid (cutL (isR R) upto (L.take (j + 1)) = cutL (isR R) upto (L.take j)) := by unfold Hid; rw [hT.out, ec, if_neg kc, List.append_nil]
                        have O2 : Hid ((w5).ownsRow W6.heap.size 40 3 _ (cutL (isR R) upto (L.take j)).length (rowL slL (cutL (isR R) upto (L.take j)))) := owns_go O.out bX
                        have kd : decide (s.f < s.t) = false := decide_eq_false kc
                        clear kc
                        subst eo
                        go_wp2_with fail
                        go_roundw
                        case measure => simp only [intOf]; omega
                        case rel => exact ⟨j + 1, rfl, hjl, by rw [e1.out]; exact O2, BX⟩
                  · obtain rfl : j = L.length := by omega
                    have O' := O.out
                    rw [List.take_length] at O' eo
                    have HO9 : Hid (RowAt slL (fun _ => True) wr _ (cutL (isR R) upto L)) := (row_of_own slL_len O').mono fun _ _ => trivial
                    have T9 := HT.out.go bw6.out
                    have W9 : Hid (Was F2 wr q 6 ls) := HW.out.go bw6.out
                    have hcl2 := cutL_len (isR R) upto L
                    have cS2 := slots_any F2 b (ls.map (cutL (isR R) upto)) (k : Nat) wr T9 (by rw [HR2.out]; omega)
                    rw [HR2.out] at cS2
                    have HT9 : Hid (TAt F2 wr b (ls.map (cutL (isR R) upto))) := T9
                    obtain ⟨C, hC⟩ : ∃ C, cutL (isR R) upto L = C := ⟨_, rfl⟩
                    rw [hC] at HO9 cS2 hcl2 eo
                    subst eo
                    clear O' T9 hC
                    go_wp2_with (first
                      | (go_at_call 18; refine cS2.mono ?_; rintro _ w13 ⟨v13, rfl, o13, b13⟩)
                      | (go_at_call 20; refine (sameSlots_any _ _ v13 _ C C _ (row_of_own slL_len o13) (HO9.out.go slL_len b13) (by omega)).mono ?_; rintro _ w14 ⟨rfl, b14⟩; rw [decide_eq_true (show C = C from rfl)]))
                    go_roundw
                    case measure => simp only [intOf]; omega
                    case rel => exact ⟨k + 1, rfl, hkl, HT9.out.go (bcat b13 b14), W9.out.go (bcat b13 b14), bcat bw.out (bcat bw6.out (bcat b13 b14))⟩
              · obtain rfl : k = 6 := by omega
                go_wp2_with (go_at_call 13; refine (awake_any _).mono ?_; rintro _ w9 ⟨rfl, b9⟩)
                go_ret
                exact ⟨rfl, bcat bw.out b9⟩
      · have hlt' : ¬ (i : Int) < (os.length : Int) := by omega
        clear hgo hgo' hlt
        have HW0 : Hid (Was F (W3.alloc (.cells #[.slice none 0 0, .slice none 0 0, .slice none 0 0, .slice none 0 0, .slice none 0 0, .slice none 0 0] 42)) W3.heap.size 0 ls) := was_new HT3.out.low _
        have HA0 : Hid (Below W3.heap.size W3 (W3.alloc (.cells #[.slice none 0 0, .slice none 0 0, .slice none 0 0, .slice none 0 0, .slice none 0 0, .slice none 0 0] 42))) := (Below.refl _ _).alloc (Nat.le_refl _) _
        go_wp2_with fail
        go_loopw [14] (fun s7 wr => ∃ k : Nat, s7 = .int .i64 k ∧ k ≤ 6 ∧ Hid (TAt F wr b ls) ∧ Hid (Was F wr W3.heap.size k ls) ∧ Hid (Below w.heap.size w wr)) (fun s7 _ => 6 - (intOf s7).toNat)
        case atStart => exact ⟨0, rfl, Nat.zero_le _, HT3.out.go HA0.out, HW0, bcat HB3.out HA0.out⟩
        case round =>
          clear HW0 HA0
          obtain ⟨k, rfl, hk, HT, HW, bw⟩ := hrel
          obtain ⟨W6, rfl⟩ : ∃ W6, W6 = wr := ⟨_, rfl⟩
          rcases Nat.lt_or_ge k 6 with hkl | hkg
          · have hk' : (k : Int) < 6 := by omega
            have hks : (k : Int) + 1 ≤ 1000 := by omega
            have hrl := HSM.out.row (k : Nat)
            have cS := slots_any F b ls (k : Nat) W6 HT.out (by omega)
            have hq0 : Hid (w.heap.size ≤ W3.heap.size) := HB3.out.size
            go_wp2_with (go_at_call 18; refine cS.mono ?_; rintro _ w7 ⟨av, rfl, o7, b7⟩; have PU := HW.out.put HT.out.low hkl b7 o7; obtain ⟨v7, c7, _, _⟩ := (HW.out.go b7).each k hkl; have fz7 := (HW.out.go b7).fz k; obtain ⟨aa, ac, eav, _⟩ := own_form o7; rw [eav] at PU ⊢; have HPU : Hid _ := PU; have HB7 : Hid _ := b7; clear PU b7 o7 eav)
            go_roundw
            case measure => simp only [intOf]; omega
            case rel => exact ⟨k + 1, rfl, hkl, (HT.out.go HB7.out).box HW.out.nq _, HPU, below_box (bcat bw.out HB7.out) _ _ hq0.out _⟩
          · obtain rfl : k = 6 := by omega
            have cE := release_any F b ls R upto 1800 W6 HT.out HSM.out (by omega) (by have := HLN.out; omega) (by have := HLN.out; omega)
            obtain ⟨q, hq⟩ : ∃ q, W3.heap.size = q := ⟨_, rfl⟩
            rw [hq] at HW ⊢
            go_wp2_with (go_at_call 26; refine cE.mono ?_; rintro _ w8 ⟨rfl, F2, T8, t8⟩)
            have HT8 : Hid (TAt F2 w8 b (ls.map (cutL (isR R) upto))) := T8
            have HW8 : Hid (Was F2 w8 q 6 ls) := HW.out.turn t8
            have HB8 : Hid (Below w.heap.size w w8) := (t8.past bw.out HF3.out).1
            clear cE T8 t8 HT HW bw hq
            go_loopw [15] (fun s15 wr => ∃ k : Nat, s15 = .int .i64 k ∧ k ≤ 6 ∧ Hid (TAt F2 wr b (ls.map (cutL (isR R) upto))) ∧ Hid (Was F2 wr q 6 ls) ∧ Hid (Below w.heap.size w wr)) (fun s15 _ => 6 - (intOf s15).toNat)
            case atStart => exact ⟨0, rfl, Nat.zero_le _, HT8, HW8, HB8⟩
            case round =>
              clear HT8 HW8 HB8
              obtain ⟨k, rfl, hk, HT, HW, bw⟩ := hrel
              obtain ⟨W6, rfl⟩ : ∃ W6, W6 = wr := ⟨_, rfl⟩
              rcases Nat.lt_or_ge k 6 with hkl | hkg
              · have hk' : (k : Int) < 6 := by omega
                have hks : (k : Int) + 1 ≤ 1000 := by omega
                have hrl := HSM.out.row (k : Nat)
                have hr2 : rowOf (ls.map (cutL (isR R) upto)) (k : Nat) = cutL (isR R) upto (rowOf ls (k : Nat)) := by
                  rw [rowOf_nat _ k (by rw [List.length_map]; have := HLN.out; omega), rowOf_nat ls k (by have := HLN.out; omega), List.getElem_map]
                obtain ⟨v6, cw6, ⟨ra, rn, rc, er⟩, RW6⟩ := HW.out.each k hkl
                have RO := RW6 hkl
                obtain ⟨L, hL⟩ : ∃ L, rowOf ls (k : Nat) = L := ⟨_, rfl⟩
                rw [hL] at hrl hr2 RO
                rw [er] at RO cw6
                have hlen : rn = L.length := by obtain ⟨y1, y2, y3, _⟩ := RO.form; injection y3
                have HRO : Hid (RowAt slL (fun k => ¬ F2 k ∧ k ≠ q ∧ k < W6.heap.size) W6 (.slice ra rn rc) L) := RO
                have HR2 : Hid _ := hr2
                have lq := HW.out.lq
                subst hlen
                clear RW6 RO hr2 hL er
                go_wp2_with fail
                go_loopw [16, 17] (fun s16 s17 wr => ∃ j : Nat, s17 = .int .i64 j ∧ j ≤ L.length ∧ Hid (wr.ownsRow W6.heap.size 40 3 s16 (cutL (isR R) upto (L.take j)).length (rowL slL (cutL (isR R) upto (L.take j)))) ∧ Hid (Below W6.heap.size W6 wr)) (fun _ s17 _ => L.length - (intOf s17).toNat)
                case atStart => exact ⟨0, rfl, Nat.zero_le _, World.ownsRow_nil _ _ _ _, Below.refl _ _⟩
                case round =>
                  obtain ⟨j, rfl, hj, O, bw6⟩ := hrel
                  obtain ⟨oa, oc, eo, _⟩ := own_form O.out
                  have cw7 : wr.cell? ⟨q, k, none⟩ = some (.slice ra L.length rc) := (cell_same (bw6.out.block _ lq)).trans cw6
                  rcases Nat.lt_or_ge j L.length with hjl | hjg
                  · obtain ⟨g2, o2, cap2, e2, c0, c1, c2⟩ := box_item (HRO.out.go slL_len bw6.out) j hjl
                    cases e2
                    have hjl' : (j : Int) < (L.length : Int) := by omega
                    have hjs : (j : Int) + 1 ≤ 1000000000 := by omega
                    have hT : Hid (cutL (isR R) upto (L.take (j + 1)) = cutL (isR R) upto (L.take j) ++ (if (cut1 (isR R) upto L[j]).f < (L[j]).t then [cut1 (isR R) upto L[j]] else [])) := by unfold Hid; rw [List.take_succ_eq_append_getElem hjl, cutL_snoc]
                    have hcl : Hid ((cutL (isR R) upto (L.take j)).length ≤ 1000000000) := by unfold Hid; have := cutL_len (isR R) upto (L.take j); rw [List.length_take] at this; omega
                    obtain ⟨s, hs'⟩ : ∃ s, L[j] = s := ⟨_, rfl⟩
                    rw [hs'] at c0 c1 c2 hT
                    clear hs'
                    obtain ⟨w5, hw5⟩ : ∃ w5, wr.alloc (.cells #[.int .i64 s.f, .int .i64 s.t, .int .i64 s.r] 40) = w5 := ⟨_, rfl⟩
                    have b5 : Below wr.heap.size wr w5 := by rw [← hw5]; exact (Below.refl _ _).alloc (Nat.le_refl _) _
                    have z0 : w5.cell? ⟨wr.heap.size, 0, none⟩ = some (.int .i64 s.f) := by rw [← hw5]; simp
                    have z1 : w5.cell? ⟨wr.heap.size, 1, none⟩ = some (.int .i64 s.t) := by rw [← hw5]; simp
                    have z2 : w5.cell? ⟨wr.heap.size, 2, none⟩ = some (.int .i64 s.r) := by rw [← hw5]; simp
                    have z3 : w5.frozen? ⟨wr.heap.size, 0, none⟩ = false := by rw [← hw5]; simp
                    have lz : wr.heap.size < w5.heap.size := World.block_lt_of_cell? _ _ z0
                    cases hp : (isR R) s.r with
                    | true =>
                      have hq : (s.r == R) = true := hp
                      have ec : cut1 (isR R) upto s = ⟨max s.f upto, s.t, s.r⟩ := by unfold cut1; rw [if_pos hp]
                      have bX : Below wr.heap.size wr (w5.setCell ⟨wr.heap.size, 0, none⟩ (.int .i64 (max s.f upto))) := b5.setCell (p := ⟨wr.heap.size, 0, none⟩) (Nat.le_refl _) _
                      have BX : Below W6.heap.size W6 (w5.setCell ⟨wr.heap.size, 0, none⟩ (.int .i64 (max s.f upto))) := bcat bw6.out bX
                      have hxz : (w5.setCell ⟨wr.heap.size, 0, none⟩ (.int .i64 (max s.f upto))).heap.size = w5.heap.size := by simp [World.setCell]
                      by_cases kc : max s.f upto < s.t
                      · skip
                        obtain ⟨w7, hw7⟩ : ∃ w7, (w5.setCell ⟨wr.heap.size, 0, none⟩ (.int .i64 (max s.f upto))).alloc (.cells #[.int .i64 (max s.f upto), .int .i64 s.t, .int .i64 s.r] 40) = w7 := ⟨_, rfl⟩
                        have b7 : Below W6.heap.size W6 w7 := by rw [← hw7]; exact BX.alloc (by have := BX.size; omega) _
                        have bx7 : Below wr.heap.size wr w7 := by rw [← hw7]; exact bX.alloc bX.size _
                        have nn := cell_new ((w5.setCell ⟨wr.heap.size, 0, none⟩ (.int .i64 (max s.f upto)))) (.int .i64 (max s.f upto)) (.int .i64 s.t) (.int .i64 s.r) 40
                        rw [hw7] at nn
                        rw [hxz] at nn
                        obtain ⟨n0, n1, n2⟩ := nn
                        have hrow := owns_go O.out bx7
                        rw [eo] at hrow
                        have HW7 : Hid ((w5.setCell ⟨wr.heap.size, 0, none⟩ (.int .i64 (max s.f upto))).alloc (.cells #[.int .i64 (max s.f upto), .int .i64 s.t, .int .i64 s.r] 40) = w7) := hw7
                        have e1 : Hid (cutL (isR R) upto (L.take (j + 1)) = cutL (isR R) upto (L.take j) ++ [⟨max s.f upto, s.t, s.r⟩]) := by unfold Hid; rw [hT.out, ec, if_pos kc]
                        clear hw7
                        subst eo
                        go_wp2_with (first | (at_builtin; (try rw [HW7.out]); refine wpList_app kindSl rfl (.tmp 107) (.tmp 109) rfl W6.heap.size (.slice oa (cutL (isR R) upto (L.take j)).length oc) (cutL (isR R) upto (L.take j)) rfl hrow _ [⟨max s.f upto, s.t, s.r⟩] rfl (lone_at n0 n1 n2) (by have := hcl.out; simp; omega) (by have := hcl.out; unfold maxLen; simp; omega) b7.size ?_; intro v2 w2 o2 g2 a2))
                        go_roundw
                        case measure => simp only [intOf]; omega
                        case rel => exact ⟨j + 1, rfl, hjl, by rw [e1.out]; exact o2, b7.grown g2 b7.size (fun k hk => (own_since O.out k hk).1)⟩
                      · skip
                        have e1 : Hid (cutL (isR R) upto (L.take (j + 1)) = cutL (isR R) upto (L.take j)) := by unfold Hid; rw [hT.out, ec, if_neg kc, List.append_nil]
                        have O2 : Hid (((w5.setCell ⟨wr.heap.size, 0, none⟩ (.int .i64 (max s.f upto)))).ownsRow W6.heap.size 40 3 _ (cutL (isR R) upto (L.take j)).length (rowL slL (cutL (isR R) upto (L.take j)))) := owns_go O.out bX
                        have kd : decide (max s.f upto < s.t) = false := decide_eq_false kc
                        clear kc
                        subst eo
                        go_wp2_with fail
                        go_roundw
                        case measure => simp only [intOf]; omega
                        case rel => exact ⟨j + 1, rfl, hjl, by rw [e1.out]; exact O2, BX⟩
                    | false =>
                      have hq : (s.r == R) = false := hp
                      have ec : cut1 (isR R) upto s = s := by unfold cut1; rw [if_neg (by rw [hp]; simp)]
                      have bX : Below wr.heap.size wr w5 := b5
                      have BX : Below W6.heap.size W6 w5 := bcat bw6.out bX
                      by_cases kc : s.f < s.t
                      · skip
                        obtain ⟨w7, hw7⟩ : ∃ w7, w5.alloc (.cells #[.int .i64 (s.f), .int .i64 s.t, .int .i64 s.r] 40) = w7 := ⟨_, rfl⟩
                        have b7 : Below W6.heap.size W6 w7 := by rw [← hw7]; exact BX.alloc (by have := BX.size; omega) _
                        have bx7 : Below wr.heap.size wr w7 := by rw [← hw7]; exact bX.alloc bX.size _
                        have nn := cell_new (w5) (.int .i64 (s.f)) (.int .i64 s.t) (.int .i64 s.r) 40
                        rw [hw7] at nn
                        obtain ⟨n0, n1, n2⟩ := nn
                        have hrow := owns_go O.out bx7
                        rw [eo] at hrow
                        have HW7 : Hid (w5.alloc (.cells #[.int .i64 (s.f), .int .i64 s.t, .int .i64 s.r] 40) = w7) := hw7
                        have e1 : Hid (cutL (isR R) upto (L.take (j + 1)) = cutL (isR R) upto (L.take j) ++ [⟨s.f, s.t, s.r⟩]) := by unfold Hid; rw [hT.out, ec, if_pos kc]
                        clear hw7
                        subst eo
                        go_wp2_with (first | (at_builtin; (try rw [HW7.out]); refine wpList_app kindSl rfl (.tmp 107) (.tmp 109) rfl W6.heap.size (.slice oa (cutL (isR R) upto (L.take j)).length oc) (cutL (isR R) upto (L.take j)) rfl hrow _ [⟨s.f, s.t, s.r⟩] rfl (lone_at n0 n1 n2) (by have := hcl.out; simp; omega) (by have := hcl.out; unfold maxLen; simp; omega) b7.size ?_; intro v2 w2 o2 g2 a2))
                        go_roundw
                        case measure => simp only [intOf]; omega
                        case rel => exact ⟨j + 1, rfl, hjl, by rw [e1.out]; exact o2, b7.grown g2 b7.size (fun k hk => (own_since O.out k hk).1)⟩
                      · skip
                        have e1 : Hid (cutL (isR R) upto (L.take (j + 1)) = cutL (isR R) upto (L.take j)) := by unfold Hid; rw [hT.out, ec, if_neg kc, List.append_nil]
                        have O2 : Hid ((w5).ownsRow W6.heap.size 40 3 _ (cutL (isR R) upto (L.take j)).length (rowL slL (cutL (isR R) upto (L.take j)))) := owns_go O.out bX
                        have kd : decide (s.f < s.t) = false := decide_eq_false kc
                        clear kc
                        subst eo
                        go_wp2_with fail
                        go_roundw
                        case measure => simp only [intOf]; omega
                        case rel => exact ⟨j + 1, rfl, hjl, by rw [e1.out]; exact O2, BX⟩
                  · obtain rfl : j = L.length := by omega
                    have O' := O.out
                    rw [List.take_length] at O' eo
                    have HO9 : Hid (RowAt slL (fun _ => True) wr _ (cutL (isR R) upto L)) := (row_of_own slL_len O').mono fun _ _ => trivial
                    have T9 := HT.out.go bw6.out
                    have W9 : Hid (Was F2 wr q 6 ls) := HW.out.go bw6.out
                    have hcl2 := cutL_len (isR R) upto L
                    have cS2 := slots_any F2 b (ls.map (cutL (isR R) upto)) (k : Nat) wr T9 (by rw [HR2.out]; omega)
                    rw [HR2.out] at cS2
                    have HT9 : Hid (TAt F2 wr b (ls.map (cutL (isR R) upto))) := T9
                    obtain ⟨C, hC⟩ : ∃ C, cutL (isR R) upto L = C := ⟨_, rfl⟩
                    rw [hC] at HO9 cS2 hcl2 eo
                    subst eo
                    clear O' T9 hC
                    go_wp2_with (first
                      | (go_at_call 18; refine cS2.mono ?_; rintro _ w13 ⟨v13, rfl, o13, b13⟩)
                      | (go_at_call 20; refine (sameSlots_any _ _ v13 _ C C _ (row_of_own slL_len o13) (HO9.out.go slL_len b13) (by omega)).mono ?_; rintro _ w14 ⟨rfl, b14⟩; rw [decide_eq_true (show C = C from rfl)]))
                    go_roundw
                    case measure => simp only [intOf]; omega
                    case rel => exact ⟨k + 1, rfl, hkl, HT9.out.go (bcat b13 b14), W9.out.go (bcat b13 b14), bcat bw.out (bcat bw6.out (bcat b13 b14))⟩
              · obtain rfl : k = 6 := by omega
                go_wp2_with (go_at_call 13; refine (awake_any _).mono ?_; rintro _ w9 ⟨rfl, b9⟩)
                go_ret
                exact ⟨rfl, bcat bw.out b9⟩
theorem gives_any (R upto : Int) (al : Bool) (a : Option Addr) (n cap : Nat) (os : List Cl) (w : World) (hin : InS w a n cap os) : Calls Try.prog 7 #[.slice a n cap, .int .i64 R, .int .i64 upto, .bool al] w fun e w' => e = .returned (.bool true) ∧ Below w.heap.size w w' := by
  cases al
  · exact gives_one R upto a n cap os w hin
  · exact gives_all R upto a n cap os w hin
end Go.Proofs.Ytddkgkafgjdheaa.Rs
