/-
  Whatever is claimed, extended, given back: slots rise, never meet, and one robot's do not touch.
-/
import Derived.Test.YtenedmajbjhacaaResvPl
namespace Go.Proofs.Ytenedmajbjhacaa.Rs
set_option linter.unusedVariables false
set_option linter.unusedSimpArgs false
open Go Go.RowKit Go.Shelf Go.Proofs Hp
attribute [local go_sem] Oper.semAt_some

set_option maxRecDepth 100000 in
set_option maxHeartbeats 4000000 in
theorem apart_all (a : Option Addr) (n cap : Nat) (os : List Cl) (w : World) (hin : InS w a n cap os) : Calls Try.prog 4 #[.slice a n cap] w fun e w' => e = .returned (.bool true) ∧ Below w.heap.size w w' := by
  have cN := new_any 6 w (by omega) (by omega)
  have HIN : Hid (InS w a n cap os) := hin
  have hol := hin.len
  subst hol
  clear hin
  go_enter Try.func4, Try.ntmps4
  go_wp2_with (first
    | (go_at_call 12; refine cN.mono ?_; rintro _ w1 ⟨b, rfl, F, T1, b1, f1⟩)
    | (go_at_call 15; refine (refNew_any 6 w1 (by omega) (by omega)).mono ?_; rintro _ w2 ⟨c, rfl, G, T2, b2, f2⟩))
  have P0 : Hid (Pl w b c 0 w2) := Pl.start T1 b1 f1 T2 b2 f2
  clear cN T1 b1 f1 T2 b2 f2
  go_loopw [6] (fun s6 wr => ∃ i : Nat, s6 = .int .i64 i ∧ i ≤ os.length ∧ i ≤ 60 ∧ Hid (Pl w b c i wr)) (fun s6 _ => os.length - (intOf s6).toNat)
  case atStart => exact ⟨0, rfl, Nat.zero_le _, Nat.zero_le _, P0⟩
  case round =>
    clear P0
    obtain ⟨i, rfl, hi, hi60, PL⟩ := hrel
    by_cases hgo : i < os.length ∧ i < 60
    · obtain ⟨hlt, hl60⟩ := hgo
      have hlt' : (i : Int) < (os.length : Int) := by omega
      have hl60' : (i : Int) < 60 := by omega
      have his : (i : Int) + 1 ≤ 1000 := by omega
      obtain ⟨p, ea, c0, c1, c2, c3, c4, c5, IW⟩ := (HIN.out.go PL.out.bw).at i hlt
      have IW0 : Hid (InW w (os[i]).a (os[i]).n (os[i]).cap (os[i]).ws) := by obtain ⟨_, _, _, q⟩ := HIN.out.lay i hlt; exact q
      subst ea
      obtain ⟨x, hx⟩ : ∃ x, os[i] = x := ⟨_, rfl⟩
      rw [hx] at c0 c1 c2 c3 c4 c5 IW0
      clear hx IW
      by_cases hbig : x.n > 60
      · have hb' : (x.n : Int) > 60 := by omega
        go_wp2_with (go_at_call 13; refine (awake_any _).mono ?_; rintro _ w3 ⟨rfl, b3⟩)
        go_ret
        exact ⟨rfl, bcat PL.out.bw b3⟩
      · have hb' : ¬ (x.n : Int) > 60 := by omega
        have cD := do_turn PL.out hl60 x IW0.out (by omega)
        go_wp2_with (go_at_call 16; refine cD.mono ?_; rintro _ w3 ⟨rfl, P3⟩)
        go_roundw
        case measure => simp only [intOf]; omega
        case rel => exact ⟨i + 1, rfl, hlt, hl60, P3⟩
    · obtain ⟨W3, rfl⟩ : ∃ W3, W3 = wr := ⟨_, rfl⟩
      obtain ⟨F, G, ls, T3, _, _, b3, _, _, ok3, sm3, ln3⟩ := PL.out
      have HT3 : Hid (TAt F W3 b ls) := T3
      have HB3 : Hid (Below w.heap.size w W3) := b3
      have HOK : Hid (OkT ls) := ok3
      have hsm : Small 3600 ls := fun l hl => by have := sm3 l hl; omega
      have HSM : Hid (Small 3600 ls) := hsm
      have hgo' : ((i : Int) < (os.length : Int)) → ¬ ((i : Int) < 60) := fun h => by omega
      clear T3 b3 ok3 sm3 hsm PL
      by_cases hlt : i < os.length
      · have hlt' : (i : Int) < (os.length : Int) := by omega
        have hl60' : ¬ (i : Int) < 60 := by omega
        clear hgo hgo' hlt
        go_wp2_with fail
        go_loopw [7] (fun s7 wr => ∃ k : Nat, s7 = .int .i64 k ∧ k ≤ 6 ∧ Hid (TAt F wr b ls) ∧ Hid (Below w.heap.size w wr)) (fun s7 _ => 6 - (intOf s7).toNat)
        case atStart => exact ⟨0, rfl, Nat.zero_le _, HT3, HB3⟩
        case round =>
          clear HT3 HB3
          obtain ⟨k, rfl, hk, HT, bw⟩ := hrel
          obtain ⟨W6, rfl⟩ : ∃ W6, W6 = wr := ⟨_, rfl⟩
          rcases Nat.lt_or_ge k 6 with hkl | hkg
          · have hk' : (k : Int) < 6 := by omega
            have hks : (k : Int) + 1 ≤ 1000 := by omega
            have hrl := HSM.out.row (k : Nat)
            have cS := slots_any F b ls (k : Nat) W6 HT.out (by omega)
            have hokr := HOK.out.row (k : Nat)
            obtain ⟨L, hL⟩ : ∃ L, rowOf ls (k : Nat) = L := ⟨_, rfl⟩
            rw [hL] at hrl cS hokr
            have HOL : Hid (Ok L) := hokr
            clear hL hokr
            go_wp2_with (go_at_call 18; refine cS.mono ?_; rintro _ w7 ⟨av, rfl, o7, b7⟩)
            obtain ⟨aa, ac, eav, _⟩ := own_form o7
            subst eav
            have R7 : Hid (RowAt slL (fun _ => True) w7 (.slice aa L.length ac) L) := (row_of_own slL_len o7).mono fun _ _ => trivial
            have B7 : Hid (Below W6.heap.size W6 w7) := b7
            clear o7 b7 cS
            go_loopw [9] (fun s9 wr => ∃ j : Nat, s9 = .int .i64 j ∧ j ≤ L.length ∧ Hid (Below w7.heap.size w7 wr)) (fun s9 _ => L.length - (intOf s9).toNat)
            case atStart => exact ⟨0, rfl, Nat.zero_le _, Below.refl _ _⟩
            case round =>
              obtain ⟨j, rfl, hj, bj⟩ := hrel
              obtain ⟨W8, rfl⟩ : ∃ W8, W8 = wr := ⟨_, rfl⟩
              rcases Nat.lt_or_ge j L.length with hjl | hjg
              · have hjl' : (j : Int) < (L.length : Int) := by omega
                have hjs : (j : Int) + 1 ≤ 100000 := by omega
                have R8 := R7.out.go slL_len bj.out
                obtain ⟨g, o, cp, ec, k0, k1, k2⟩ := box_item R8 j hjl
                cases ec
                have fit := HOL.out.fit L[j] (List.getElem_mem _)
                have d1 : decide ((L[j]).f < 0) = false := decide_eq_false (by have := fit.1; omega)
                have d2 : decide ((L[j]).f ≥ (L[j]).t) = false := decide_eq_false (by have := fit.2.1; omega)
                have d3 : decide ((L[j]).t > 4611686018427387904) = false := decide_eq_false (by have := fit.2.2.1; unfold FV at this; omega)
                have d4 : decide ((L[j]).r < 0) = false := decide_eq_false (by have := fit.2.2.2; omega)
                rcases Nat.eq_zero_or_pos j with hz | hpos
                · obtain ⟨s, hs⟩ : ∃ s, L[j] = s := ⟨_, rfl⟩
                  rw [hs] at k0 k1 k2 d1 d2 d3 d4
                  have dz : decide ((j : Int) > 0) = false := decide_eq_false (by omega)
                  have dz2 : decide (0 < j) = false := decide_eq_false (by omega)
                  clear hs fit R8 hz
                  go_wp2_with fail
                  go_quiet (fail)
                  go_wp2_with fail
                  go_quiet (fail)
                  go_wp2_with fail
                  go_roundw
                  case measure => simp only [intOf]; omega
                  case rel => exact ⟨j + 1, rfl, hjl, below_drewN bj.out _⟩
                · obtain ⟨i2, hi2⟩ : ∃ i2, j = i2 + 1 := ⟨j - 1, by omega⟩
                  obtain ⟨g', o', cp', ec', m0, m1, m2⟩ := box_item R8 i2 (by omega)
                  cases ec'
                  have hr := List.pairwise_iff_getElem.1 HOL.out.rise i2 j (by omega) hjl (by omega)
                  obtain ⟨s, hs⟩ : ∃ s, L[j] = s := ⟨_, rfl⟩
                  obtain ⟨q, hq⟩ : ∃ q, L[i2]'(by omega) = q := ⟨_, rfl⟩
                  rw [hs] at k0 k1 k2 d1 d2 d3 d4 hr
                  rw [hq] at m0 m1 m2 hr
                  have d5 : decide (s.f < q.t) = false := decide_eq_false (by have := hr.1; omega)
                  have dz : decide ((j : Int) > 0) = true := decide_eq_true (by omega)
                  have dz2 : decide (0 < j) = true := decide_eq_true (by omega)
                  have e1 : (j : Int) - 1 = (i2 : Nat) := by omega
                  have hi2l : (i2 : Int) < (L.length : Int) := by omega
                  clear hs hq fit R8 hi2 hpos
                  by_cases q1 : s.f = q.t
                  · have d6 : (s.f == q.t) = true := by simp [q1]
                    have d7 : (s.r == q.r) = false := by rw [beq_eq_false_iff_ne]; exact fun e => hr.2 q1.symm e.symm
                    clear hr q1
                    go_wp2_with fail
                    go_quiet (fail)
                    go_wp2_with fail
                    go_quiet (fail)
                    go_wp2_with fail
                    go_roundw
                    case measure => simp only [intOf]; omega
                    case rel => exact ⟨j + 1, rfl, hjl, below_drewN bj.out _⟩
                  · have d6 : (s.f == q.t) = false := by rw [beq_eq_false_iff_ne]; exact q1
                    clear hr q1
                    go_wp2_with fail
                    go_quiet (fail)
                    go_wp2_with fail
                    go_quiet (fail)
                    go_wp2_with fail
                    go_roundw
                    case measure => simp only [intOf]; omega
                    case rel => exact ⟨j + 1, rfl, hjl, below_drewN bj.out _⟩
              · obtain rfl : j = L.length := by omega
                go_wp2_with fail
                go_roundw
                case measure => simp only [intOf]; omega
                case rel => exact ⟨k + 1, rfl, hkl, HT.out.go (bcat B7.out bj.out), bcat bw.out (bcat B7.out bj.out)⟩
          · obtain rfl : k = 6 := by omega
            go_wp2_with (go_at_call 13; refine (awake_any _).mono ?_; rintro _ w9 ⟨rfl, b9⟩)
            go_ret
            exact ⟨rfl, bcat bw.out b9⟩
      · have hlt' : ¬ (i : Int) < (os.length : Int) := by omega
        clear hgo hgo' hlt
        go_wp2_with fail
        go_loopw [7] (fun s7 wr => ∃ k : Nat, s7 = .int .i64 k ∧ k ≤ 6 ∧ Hid (TAt F wr b ls) ∧ Hid (Below w.heap.size w wr)) (fun s7 _ => 6 - (intOf s7).toNat)
        case atStart => exact ⟨0, rfl, Nat.zero_le _, HT3, HB3⟩
        case round =>
          clear HT3 HB3
          obtain ⟨k, rfl, hk, HT, bw⟩ := hrel
          obtain ⟨W6, rfl⟩ : ∃ W6, W6 = wr := ⟨_, rfl⟩
          rcases Nat.lt_or_ge k 6 with hkl | hkg
          · have hk' : (k : Int) < 6 := by omega
            have hks : (k : Int) + 1 ≤ 1000 := by omega
            have hrl := HSM.out.row (k : Nat)
            have cS := slots_any F b ls (k : Nat) W6 HT.out (by omega)
            have hokr := HOK.out.row (k : Nat)
            obtain ⟨L, hL⟩ : ∃ L, rowOf ls (k : Nat) = L := ⟨_, rfl⟩
            rw [hL] at hrl cS hokr
            have HOL : Hid (Ok L) := hokr
            clear hL hokr
            go_wp2_with (go_at_call 18; refine cS.mono ?_; rintro _ w7 ⟨av, rfl, o7, b7⟩)
            obtain ⟨aa, ac, eav, _⟩ := own_form o7
            subst eav
            have R7 : Hid (RowAt slL (fun _ => True) w7 (.slice aa L.length ac) L) := (row_of_own slL_len o7).mono fun _ _ => trivial
            have B7 : Hid (Below W6.heap.size W6 w7) := b7
            clear o7 b7 cS
            go_loopw [9] (fun s9 wr => ∃ j : Nat, s9 = .int .i64 j ∧ j ≤ L.length ∧ Hid (Below w7.heap.size w7 wr)) (fun s9 _ => L.length - (intOf s9).toNat)
            case atStart => exact ⟨0, rfl, Nat.zero_le _, Below.refl _ _⟩
            case round =>
              obtain ⟨j, rfl, hj, bj⟩ := hrel
              obtain ⟨W8, rfl⟩ : ∃ W8, W8 = wr := ⟨_, rfl⟩
              rcases Nat.lt_or_ge j L.length with hjl | hjg
              · have hjl' : (j : Int) < (L.length : Int) := by omega
                have hjs : (j : Int) + 1 ≤ 100000 := by omega
                have R8 := R7.out.go slL_len bj.out
                obtain ⟨g, o, cp, ec, k0, k1, k2⟩ := box_item R8 j hjl
                cases ec
                have fit := HOL.out.fit L[j] (List.getElem_mem _)
                have d1 : decide ((L[j]).f < 0) = false := decide_eq_false (by have := fit.1; omega)
                have d2 : decide ((L[j]).f ≥ (L[j]).t) = false := decide_eq_false (by have := fit.2.1; omega)
                have d3 : decide ((L[j]).t > 4611686018427387904) = false := decide_eq_false (by have := fit.2.2.1; unfold FV at this; omega)
                have d4 : decide ((L[j]).r < 0) = false := decide_eq_false (by have := fit.2.2.2; omega)
                rcases Nat.eq_zero_or_pos j with hz | hpos
                · obtain ⟨s, hs⟩ : ∃ s, L[j] = s := ⟨_, rfl⟩
                  rw [hs] at k0 k1 k2 d1 d2 d3 d4
                  have dz : decide ((j : Int) > 0) = false := decide_eq_false (by omega)
                  have dz2 : decide (0 < j) = false := decide_eq_false (by omega)
                  clear hs fit R8 hz
                  go_wp2_with fail
                  go_quiet (fail)
                  go_wp2_with fail
                  go_quiet (fail)
                  go_wp2_with fail
                  go_roundw
                  case measure => simp only [intOf]; omega
                  case rel => exact ⟨j + 1, rfl, hjl, below_drewN bj.out _⟩
                · obtain ⟨i2, hi2⟩ : ∃ i2, j = i2 + 1 := ⟨j - 1, by omega⟩
                  obtain ⟨g', o', cp', ec', m0, m1, m2⟩ := box_item R8 i2 (by omega)
                  cases ec'
                  have hr := List.pairwise_iff_getElem.1 HOL.out.rise i2 j (by omega) hjl (by omega)
                  obtain ⟨s, hs⟩ : ∃ s, L[j] = s := ⟨_, rfl⟩
                  obtain ⟨q, hq⟩ : ∃ q, L[i2]'(by omega) = q := ⟨_, rfl⟩
                  rw [hs] at k0 k1 k2 d1 d2 d3 d4 hr
                  rw [hq] at m0 m1 m2 hr
                  have d5 : decide (s.f < q.t) = false := decide_eq_false (by have := hr.1; omega)
                  have dz : decide ((j : Int) > 0) = true := decide_eq_true (by omega)
                  have dz2 : decide (0 < j) = true := decide_eq_true (by omega)
                  have e1 : (j : Int) - 1 = (i2 : Nat) := by omega
                  have hi2l : (i2 : Int) < (L.length : Int) := by omega
                  clear hs hq fit R8 hi2 hpos
                  by_cases q1 : s.f = q.t
                  · have d6 : (s.f == q.t) = true := by simp [q1]
                    have d7 : (s.r == q.r) = false := by rw [beq_eq_false_iff_ne]; exact fun e => hr.2 q1.symm e.symm
                    clear hr q1
                    go_wp2_with fail
                    go_quiet (fail)
                    go_wp2_with fail
                    go_quiet (fail)
                    go_wp2_with fail
                    go_roundw
                    case measure => simp only [intOf]; omega
                    case rel => exact ⟨j + 1, rfl, hjl, below_drewN bj.out _⟩
                  · have d6 : (s.f == q.t) = false := by rw [beq_eq_false_iff_ne]; exact q1
                    clear hr q1
                    go_wp2_with fail
                    go_quiet (fail)
                    go_wp2_with fail
                    go_quiet (fail)
                    go_wp2_with fail
                    go_roundw
                    case measure => simp only [intOf]; omega
                    case rel => exact ⟨j + 1, rfl, hjl, below_drewN bj.out _⟩
              · obtain rfl : j = L.length := by omega
                go_wp2_with fail
                go_roundw
                case measure => simp only [intOf]; omega
                case rel => exact ⟨k + 1, rfl, hkl, HT.out.go (bcat B7.out bj.out), bcat bw.out (bcat B7.out bj.out)⟩
          · obtain rfl : k = 6 := by omega
            go_wp2_with (go_at_call 13; refine (awake_any _).mono ?_; rintro _ w9 ⟨rfl, b9⟩)
            go_ret
            exact ⟨rfl, bcat bw.out b9⟩
end Go.Proofs.Ytenedmajbjhacaa.Rs
