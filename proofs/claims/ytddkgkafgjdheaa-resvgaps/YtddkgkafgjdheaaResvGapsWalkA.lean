/-
  A robot's stretches are just the ticks that no other robot has.
-/
import Derived.Test.YtddkgkafgjdheaaResvGapsFacts
namespace Go.Proofs.Ytddkgkafgjdheaa.Rs
set_option linter.unusedVariables false
set_option linter.unusedSimpArgs false
open Go Go.RowKit Go.Shelf Go.Proofs Hp
attribute [local go_sem] Oper.semAt_some

set_option maxRecDepth 100000 in
set_option maxHeartbeats 30000000 in
theorem gaps_short (R0 C0 : Int) (a : Option Addr) (n cap : Nat) (os : List Cl) (w : World) (hin : InS w a n cap os) (hcs : os.length ≤ 30) : Calls Try.prog 6 #[.slice a n cap, .int .i64 R0, .int .i64 C0] w fun e w' => e = .returned (.bool true) ∧ Below w.heap.size w w' := by
  have cN := new_any 6 w (by omega) (by omega)
  have HIN : Hid (InS w a n cap os) := hin
  have hol := hin.len
  subst hol
  clear hin
  have HR0 : Hid (0 ≤ place R0 4) := (place_bd R0 4 (by omega)).1
  obtain ⟨C, hC⟩ : ∃ C : Nat, place C0 6 = (C : Nat) := ⟨(place C0 6).toNat, by have := place_bd C0 6 (by omega); omega⟩
  have hC6 : Hid (C < 6) := by unfold Hid; have := place_bd C0 6 (by omega); omega
  have HCp : Hid (place C0 6 = (C : Nat)) := hC
  obtain ⟨R, hR⟩ : ∃ R, place R0 4 = R := ⟨_, rfl⟩
  have HRp : Hid (place R0 4 = R) := hR
  rw [hR] at HR0
  clear hC hR
  go_enter Try.func6, Try.ntmps6
  go_wp2_with (first
    | (go_at_call 21; refine (place_any _ _ _ (by omega) (by omega)).mono ?_; rintro _ wz ⟨rfl, hwz⟩; have hwz' := hwz.symm; subst hwz'; first | rw [HRp.out] | rw [HCp.out])
    | (go_at_call 12; refine cN.mono ?_; rintro _ w1 ⟨b, rfl, F, T1, b1, f1⟩)
    | (go_at_call 15; refine (refNew_any 6 w1 (by omega) (by omega)).mono ?_; rintro _ w2 ⟨c, rfl, G, T2, b2, f2⟩))
  have P0 : Hid (Pl w b c 0 w2) := Pl.start T1 b1 f1 T2 b2 f2
  clear cN T1 b1 f1 T2 b2 f2
  go_loopw [10] (fun s6 wr => ∃ i : Nat, s6 = .int .i64 i ∧ i ≤ os.length ∧ i ≤ 30 ∧ Hid (Pl w b c i wr)) (fun s6 _ => os.length - (intOf s6).toNat)
  case atStart => exact ⟨0, rfl, Nat.zero_le _, Nat.zero_le _, P0⟩
  case round =>
    clear P0
    obtain ⟨i, rfl, hi, hi60, PL⟩ := hrel
    by_cases hgo : i < os.length ∧ i < 30
    · obtain ⟨hlt, hl60⟩ := hgo
      have hlt' : (i : Int) < (os.length : Int) := by omega
      have hl60' : (i : Int) < 30 := by omega
      have his : (i : Int) + 1 ≤ 1000 := by omega
      obtain ⟨p, ea, c0, c1, c2, c3, c4, c5, IW⟩ := (HIN.out.go PL.out.bw).at i hlt
      have IW0 : Hid (InW w (os[i]).a (os[i]).n (os[i]).cap (os[i]).ws) := by obtain ⟨_, _, _, q⟩ := HIN.out.lay i hlt; exact q
      subst ea
      obtain ⟨x, hx⟩ : ∃ x, os[i] = x := ⟨_, rfl⟩
      rw [hx] at c0 c1 c2 c3 c4 c5 IW0
      clear hx IW
      by_cases hbig : x.n > 60
      · have hb' : (x.n : Int) > 60 := by omega
        go_wp2_with (go_at_call 13; refine (awake_any _).mono ?_; rintro _ w3 ⟨rfl, b3⟩)
        go_ret
        exact ⟨rfl, bcat PL.out.bw b3⟩
      · have hb' : ¬ (x.n : Int) > 60 := by omega
        have cD := do_turn PL.out (by omega) x IW0.out (by omega)
        go_wp2_with (go_at_call 16; refine cD.mono ?_; rintro _ w3 ⟨rfl, P3⟩)
        go_roundw
        case measure => simp only [intOf]; omega
        case rel => exact ⟨i + 1, rfl, hlt, hl60, P3⟩
    · obtain ⟨W3, rfl⟩ : ∃ W3, W3 = wr := ⟨_, rfl⟩
      obtain ⟨F, G, ls, T3, _, _, b3, f3, _, ok3, sm3, ln3⟩ := PL.out
      have HT3 : Hid (TAt F W3 b ls) := T3
      have HB3 : Hid (Below w.heap.size w W3) := b3
      have HF3 : Hid (∀ k, F k → w.heap.size ≤ k) := f3
      have HOK : Hid (OkT ls) := ok3
      have hsm : Small 1800 ls := fun l hl => by have := sm3 l hl; omega
      have HSM : Hid (Small 1800 ls) := hsm
      have HLN : Hid (ls.length = 6) := ln3
      have hgo' : ((i : Int) < (os.length : Int)) → ¬ ((i : Int) < 30) := fun h => by omega
      clear T3 b3 ok3 sm3 hsm PL f3 ln3
      have hlt' : ¬ (i : Int) < (os.length : Int) := by omega
      clear hgo hgo'
      have cG := gaps_any F b ls (C : Nat) R W3 HT3.out
      have hrl := HSM.out.row (C : Nat)
      have hokr := HOK.out.row (C : Nat)
      obtain ⟨L, hL⟩ : ∃ L, rowOf ls (C : Nat) = L := ⟨_, rfl⟩
      rw [hL] at cG hrl hokr
      have HLL : Hid (rowOf ls (C : Nat) = L) := hL
      have HOL : Hid (Ok L) := hokr
      have HGA : Hid ((∀ p ∈ gaps R 0 L, GapOk R 0 L p) ∧ (gaps R 0 L).Pairwise (fun p q => p.2 < q.1) ∧ (gaps R 0 L).length ≤ L.length + 1) := gaps_all R L 0 hokr fun s hs => (hokr.fit s hs).1
      have hgl := HGA.out.2.2
      have HGE0 : Hid ((gapsOf (isThere ls.length (C : Nat)) R L).take 10000 = gaps R 0 L) := by
        unfold Hid gapsOf
        rw [show isThere ls.length ((C : Nat) : Int) = true by unfold isThere; have := HLN.out; have := hC6.out; simp; omega]
        rw [if_pos rfl, List.take_of_length_le (by omega)]
      obtain ⟨gs, hgs⟩ : ∃ gs, gaps R 0 L = gs := ⟨_, rfl⟩
      have HGS : Hid (gaps R 0 L = gs) := hgs
      rw [hgs] at HGA hgl HGE0
      clear hL hokr hgs
      go_wp2_with (first
        | (go_at_call 23; refine cG.mono ?_; rintro _ w10 ⟨p8, p7, p5, lv, rfl, G10, b10⟩; unfold GapsV at *)
        | (go_at_call 22; refine (stretches_any p8 p7 p5 10000 _ lv L R _ G10 (by omega) (by omega) (by omega)).mono ?_; rintro _ w11 ⟨sv, rfl, O11, b11⟩; rw [HGE0.out] at O11; obtain ⟨sa, sc, es0, _⟩ := (pr_of_own O11).form; rw [es0]))
      have HSE : Hid (sv = .slice sa gs.length sc) := es0
      have HT4 : Hid (TAt F w11 b ls) := HT3.out.go (bcat b10 b11)
      have HP4 : Hid (Pg F w11 sv gs) := RowAt.mono ((row_of_own2 O11)) fun k hk => ⟨fun f => by have := HT3.out.low k f; have := b10.size; have := hk.1; omega, hk.2⟩
      have HB4 : Hid (Below w.heap.size w w11) := bcat HB3.out (bcat b10 b11)
      clear cG G10 b10 b11 O11 es0 HT3 HB3
      go_loopw [12] (fun s12 wr => ∃ (i : Nat) (Fp : Nat → Prop), s12 = .int .i64 i ∧ i ≤ gs.length ∧ Hid (TAt Fp wr b ls) ∧ Hid (Pg Fp wr sv gs) ∧ Hid (Below w.heap.size w wr) ∧ Hid (∀ k, Fp k → w.heap.size ≤ k)) (fun s12 _ => gs.length - (intOf s12).toNat)
      case atStart => exact ⟨0, F, rfl, Nat.zero_le _, HT4, HP4, HB4, HF3⟩
      case round =>
        clear HT4 HP4 HB4
        obtain ⟨i, Fp, rfl, hi, HTi, HPi, HBi, HFi⟩ := hrel
        rcases Nat.lt_or_ge i gs.length with hil | hig
        · have hil' : (i : Int) < (gs.length : Int) := by omega
          have his : (i : Int) + 1 ≤ 100000 := by omega
          obtain ⟨g, o, cp, es, lg, ng, c0, c1⟩ := HPi.out.at i hil
          have HSV : Hid (sv = .slice (some ⟨g, o, none⟩) gs.length cp) := es
          have HG : Hid (GapOk R 0 L gs[i]) := HGA.out.1 _ (List.getElem_mem hil)
          have gl := HG.out.lt
          have gw := HG.out.low
          have gt := HG.out.top
          obtain ⟨p1, p2, hp⟩ : ∃ p1 p2, gs[i] = (p1, p2) := ⟨_, _, rfl⟩
          rw [hp] at c0 c1 HG gl gw gt
          simp only at c0 c1 gl gw gt
          have d1 : decide (p1 ≥ p2) = false := decide_eq_false (by omega)
          have esc : (.slice sa gs.length sc : Value) = .slice (some ⟨g, o, none⟩) gs.length cp := HSE.out.symm.trans es
          have esa : sa = some ⟨g, o, none⟩ := by injection esc
          have escp : sc = cp := by injection esc
          subst esa escp
          have HPQ : Hid (gs[i] = (p1, p2)) := hp
          have HES : Hid (sv = .slice (some ⟨g, o, none⟩) gs.length sc) := es
          have HPB : Hid (0 ≤ p1 ∧ p1 < p2 ∧ p2 ≤ 4611686018427387904) := ⟨gw, gl, gt⟩
          clear es esc hp gl gw gt
          rcases Nat.eq_zero_or_pos i with hz | hpos
          · have dz : decide ((i : Int) > 0) = false := decide_eq_false (by omega)
            have dz2 : decide (0 < i) = false := decide_eq_false (by omega)
            clear hz
            go_wp2_with fail
            go_quiet (fail)
            obtain ⟨W8, hW8⟩ : ∃ W8, W8 = wr.drewN nq := ⟨_, rfl⟩
            have HTa : Hid (TAt Fp W8 b ls) := by unfold Hid; rw [hW8]; exact HTi.out.go (below_drewN (Below.refl _ _) _)
            have HPa : Hid (Pg Fp W8 sv gs) := by unfold Hid; rw [hW8]; exact HPi.out.go (below_drewN (Below.refl _ _) _)
            have HBa : Hid (Below w.heap.size w W8) := by unfold Hid; rw [hW8]; exact below_dn HBi.out _
            have HFa : Hid (∀ k, Fp k → w.heap.size ≤ k) := HFi.out
            rw [← hW8]
            replace c0 : W8.cell? ⟨g, o + i * 2, none⟩ = some (.int .i64 p1) := by rw [hW8]; exact c0
            replace c1 : W8.cell? ⟨g, o + i * 2 + 1, none⟩ = some (.int .i64 p2) := by rw [hW8]; exact c1
            replace lg : g < W8.heap.size := by rw [hW8]; exact lg
            clear hW8 HTi HPi HBi HFi dz dz2 d1
            have HLGa : Hid (g < W8.heap.size) := lg
            have HNGa : Hid (¬ Fp g) := ng
            obtain ⟨SHa, hSHa⟩ : ∃ S : World → Prop, S = fun u => u.heap[g]? = W8.heap[g]? := ⟨_, rfl⟩
            have hSa : SHa W8.drew := by rw [hSHa]; rfl
            have z0a : ∀ u, SHa u → u.cell? ⟨g, o + i * 2, none⟩ = some (.int .i64 p1) := fun u hu => by rw [hSHa] at hu; exact (cell_same hu).trans c0
            have z1a : ∀ u, SHa u → u.cell? ⟨g, o + i * 2 + 1, none⟩ = some (.int .i64 p2) := fun u hu => by rw [hSHa] at hu; exact (cell_same hu).trans c1
            clear c0 c1 lg ng
            by_cases hp1 : 0 < p1
            · obtain ⟨wAa, hwAa⟩ : ∃ wA, W8.drew.alloc (.cells #[.int .i64 (C : Nat), .int .i64 (p1 - 1), .int .i64 (p1 + 1)] 46) = wA := ⟨_, rfl⟩
              have SAa : SHa wAa := by rw [hSHa, ← hwAa]; exact ((Below.refl _ _).alloc (Nat.le_refl _) _ : Below W8.drew.heap.size W8.drew _).block g HLGa.out
              have cCa := claimT (u := W8.drew) (R := R) (x := ⟨(C : Nat), p1 - 1, p1 + 1⟩) (HTa.out.go (Below.refl _ _).drew) HOK.out HSM.out (by have := HLN.out; omega) (by have := HLN.out; omega) (by omega) (claim_one_taken (i := C) (by have := HLN.out; have := hC6.out; omega) HR0.out (by have := HPB.out; unfold FV; omega) (by rw [← rowOf_nat ls C (by have := HLN.out; have := hC6.out; omega), HLL.out]; exact met_at (HG.out.left (by simp only; omega)) (by simp only; omega) (by simp only; omega)))
              rw [hwAa] at cCa
              go_wp2_with fail
              refine start_held (S := SHa) 27 rfl (by kernel_rfl) (hSa) ?_
              simp only [Array.replicate_succ, Array.replicate_zero, List.push_toArray, List.nil_append, List.cons_append]
              refine take_held 0 (by assumption) rfl (by kernel_rfl) (by kernel_rfl) (by kernel_rfl) (fun _ _ _ h => h) (by kernel_rfl) (v := ?v0) ?y0 ?r0
              case y0 => (intro u hu; go_simp; try rfl)
              simp only [Act.put, List.setIfInBounds_toArray, List.set_cons_zero, List.set_cons_succ]
              refine take_held 1 (by assumption) rfl (by kernel_rfl) (by kernel_rfl) (by kernel_rfl) (fun _ _ _ h => h) (by kernel_rfl) (v := ?v1) ?y1 ?r1
              case y1 => (intro u hu; go_simp; try rfl)
              simp only [Act.put, List.setIfInBounds_toArray, List.set_cons_zero, List.set_cons_succ]
              refine take_held 2 (by assumption) rfl (by kernel_rfl) (by kernel_rfl) (by kernel_rfl) (fun _ _ _ h => h) (by kernel_rfl) (v := ?v2) ?y2 ?r2
              case y2 => (intro u hu; go_simp; try rfl)
              simp only [Act.put, List.setIfInBounds_toArray, List.set_cons_zero, List.set_cons_succ]
              refine take_held 3 (by assumption) rfl (by kernel_rfl) (by kernel_rfl) (by kernel_rfl) (fun _ _ _ h => h) (by kernel_rfl) (v := ?v3) ?y3 ?r3
              case y3 => (intro u hu; go_simp; try rfl)
              simp only [Act.put, List.setIfInBounds_toArray, List.set_cons_zero, List.set_cons_succ]
              refine take_held 4 (by assumption) rfl (by kernel_rfl) (by kernel_rfl) (by kernel_rfl) (fun _ _ _ h => h) (by kernel_rfl) (v := ?v4) ?y4 ?r4
              case y4 => (intro u hu; have zz0 := z0a u hu; go_simp; try rfl)
              simp only [Act.put, List.setIfInBounds_toArray, List.set_cons_zero, List.set_cons_succ]
              refine take_held 5 (by assumption) rfl (by kernel_rfl) (by kernel_rfl) (by kernel_rfl) (fun _ _ _ h => h) (by kernel_rfl) (v := .bool true) ?y5 ?r5
              case y5 => (intro u hu; go_simp; try simp; try omega)
              simp only [Act.put, List.setIfInBounds_toArray, List.set_cons_zero, List.set_cons_succ]
              refine take_held 6 (by assumption) rfl (by kernel_rfl) (by kernel_rfl) (by kernel_rfl) (fun _ _ _ h => h) (by kernel_rfl) (v := ?v6) ?y6 ?r6
              case y6 => (intro u hu; go_simp; try rfl)
              simp only [Act.put, List.setIfInBounds_toArray, List.set_cons_zero, List.set_cons_succ]
              refine take_held 7 (by assumption) rfl (by kernel_rfl) (by kernel_rfl) (by kernel_rfl) (fun _ _ _ h => h) (by kernel_rfl) (v := ?v7) ?y7 ?r7
              case y7 => (intro u hu; go_simp; try rfl)
              simp only [Act.put, List.setIfInBounds_toArray, List.set_cons_zero, List.set_cons_succ]
              refine take_held 8 (by assumption) rfl (by kernel_rfl) (by kernel_rfl) (by kernel_rfl) (fun _ _ _ h => h) (by kernel_rfl) (v := ?v8) ?y8 ?r8
              case y8 => (intro u hu; go_simp; try rfl)
              simp only [Act.put, List.setIfInBounds_toArray, List.set_cons_zero, List.set_cons_succ]
              refine take_held 9 (by assumption) rfl (by kernel_rfl) (by kernel_rfl) (by kernel_rfl) (fun _ _ _ h => h) (by kernel_rfl) (v := ?v9) ?y9 ?r9
              case y9 => (intro u hu; go_simp; try rfl)
              simp only [Act.put, List.setIfInBounds_toArray, List.set_cons_zero, List.set_cons_succ]
              refine take_held 10 (by assumption) rfl (by kernel_rfl) (by kernel_rfl) (by kernel_rfl) (fun _ _ _ h => h) (by kernel_rfl) (v := ?v10) ?y10 ?r10
              case y10 => (intro u hu; go_simp; try rfl)
              simp only [Act.put, List.setIfInBounds_toArray, List.set_cons_zero, List.set_cons_succ]
              refine take_held 11 (by assumption) rfl (by kernel_rfl) (by kernel_rfl) (by kernel_rfl) (fun _ _ _ h => h) (by kernel_rfl) (v := ?v11) ?y11 ?r11
              case y11 => (intro u hu; go_simp; try rfl)
              simp only [Act.put, List.setIfInBounds_toArray, List.set_cons_zero, List.set_cons_succ]
              refine take_held 12 (by assumption) rfl (by kernel_rfl) (by kernel_rfl) (by kernel_rfl) (fun _ _ _ h => h) (by kernel_rfl) (v := ?v12) ?y12 ?r12
              case y12 => (intro u hu; go_simp; try rfl)
              simp only [Act.put, List.setIfInBounds_toArray, List.set_cons_zero, List.set_cons_succ]
              refine take_held 13 (by assumption) rfl (by kernel_rfl) (by kernel_rfl) (by kernel_rfl) (fun _ _ _ h => h) (by kernel_rfl) (v := ?v13) ?y13 ?r13
              case y13 => (intro u hu; go_simp; try rfl)
              simp only [Act.put, List.setIfInBounds_toArray, List.set_cons_zero, List.set_cons_succ]
              refine take_held 14 (by assumption) rfl (by kernel_rfl) (by kernel_rfl) (by kernel_rfl) (fun _ _ _ h => h) (by kernel_rfl) (v := ?v14) ?y14 ?r14
              case y14 => (intro u hu; have zz0 := z0a u hu; go_simp; try rfl)
              simp only [Act.put, List.setIfInBounds_toArray, List.set_cons_zero, List.set_cons_succ]
              refine take_held 15 (by assumption) rfl (by kernel_rfl) (by kernel_rfl) (by kernel_rfl) (fun _ _ _ h => h) (by kernel_rfl) (v := .int .i64 (p1 - 1)) ?y15 ?r15
              case y15 => (intro u hu; have hw : IntKind.i64.wrap (p1 - 1) = p1 - 1 := (by rw [IntKind.wrap_i64]; have := HPB.out; omega); go_simp; try rw [hw]; try rfl)
              simp only [Act.put, List.setIfInBounds_toArray, List.set_cons_zero, List.set_cons_succ]
              refine take_held 16 (by assumption) rfl (by kernel_rfl) (by kernel_rfl) (by kernel_rfl) (fun _ _ _ h => h) (by kernel_rfl) (v := ?v16) ?y16 ?r16
              case y16 => (intro u hu; go_simp; try rfl)
              simp only [Act.put, List.setIfInBounds_toArray, List.set_cons_zero, List.set_cons_succ]
              refine take_held 17 (by assumption) rfl (by kernel_rfl) (by kernel_rfl) (by kernel_rfl) (fun _ _ _ h => h) (by kernel_rfl) (v := ?v17) ?y17 ?r17
              case y17 => (intro u hu; go_simp; try rfl)
              simp only [Act.put, List.setIfInBounds_toArray, List.set_cons_zero, List.set_cons_succ]
              refine take_held 18 (by assumption) rfl (by kernel_rfl) (by kernel_rfl) (by kernel_rfl) (fun _ _ _ h => h) (by kernel_rfl) (v := ?v18) ?y18 ?r18
              case y18 => (intro u hu; go_simp; try rfl)
              simp only [Act.put, List.setIfInBounds_toArray, List.set_cons_zero, List.set_cons_succ]
              refine take_held 19 (by assumption) rfl (by kernel_rfl) (by kernel_rfl) (by kernel_rfl) (fun _ _ _ h => h) (by kernel_rfl) (v := ?v19) ?y19 ?r19
              case y19 => (intro u hu; go_simp; try rfl)
              simp only [Act.put, List.setIfInBounds_toArray, List.set_cons_zero, List.set_cons_succ]
              refine take_held 20 (by assumption) rfl (by kernel_rfl) (by kernel_rfl) (by kernel_rfl) (fun _ _ _ h => h) (by kernel_rfl) (v := ?v20) ?y20 ?r20
              case y20 => (intro u hu; have zz0 := z0a u hu; go_simp; try rfl)
              simp only [Act.put, List.setIfInBounds_toArray, List.set_cons_zero, List.set_cons_succ]
              refine take_held 21 (by assumption) rfl (by kernel_rfl) (by kernel_rfl) (by kernel_rfl) (fun _ _ _ h => h) (by kernel_rfl) (v := .int .i64 (p1 + 1)) ?y21 ?r21
              case y21 => (intro u hu; have hw : IntKind.i64.wrap (p1 + 1) = p1 + 1 := (by rw [IntKind.wrap_i64]; have := HPB.out; omega); go_simp; try rw [hw]; try rfl)
              simp only [Act.put, List.setIfInBounds_toArray, List.set_cons_zero, List.set_cons_succ]
              refine take_held 22 (by assumption) rfl (by kernel_rfl) (by kernel_rfl) (by kernel_rfl) (fun _ _ _ h => h) (by kernel_rfl) (v := ?v22) ?y22 ?r22
              case y22 => (intro u hu; go_simp; try rfl)
              simp only [Act.put, List.setIfInBounds_toArray, List.set_cons_zero, List.set_cons_succ]
              refine wpAnyH_ready (rs := [23]) (by kernel_rfl) (by simp) (AllReadyH.cons ((nth_eq _ 23).trans rfl) ?_ AllReadyH.nil)
              intro K' hK
              refine value_in hK (by kernel_rfl) (.slice (some ⟨W8.heap.size, 0, none⟩) 1 1) (wAa) (by rw [← hwAa]; go_simp; try rfl) (SAa) ?_
              simp only [Act.put, List.setIfInBounds_toArray, List.set_cons_zero, List.set_cons_succ]
              refine wpAnyH_ready (rs := [24]) (by kernel_rfl) (by simp) (AllReadyH.cons ((nth_eq _ 24).trans rfl) ?_ AllReadyH.nil)
              intro K' hK
              refine call_in hK (by kernel_rfl) 19 #[.pointer (some ⟨b, 0, none⟩), .int .i64 R, .slice (some ⟨W8.heap.size, 0, none⟩) 1 1] (by go_simp) _ (cCa) ?_
              rintro v wCa ⟨rfl, Fa, Ta, tCa⟩
              have SCa : SHa wCa := by rw [hSHa]; exact (tCa.block g HLGa.out HNGa.out)
              refine ⟨SCa, ?_⟩
              simp only [Act.put, List.setIfInBounds_toArray, List.set_cons_zero, List.set_cons_succ]
              refine take_held 25 (by assumption) rfl (by kernel_rfl) (by kernel_rfl) (by kernel_rfl) (fun _ _ _ h => h) (by kernel_rfl) (v := ?v23) ?y23 ?r23
              case y23 => (intro u hu; go_simp; try rfl)
              simp only [Act.put, List.setIfInBounds_toArray, List.set_cons_zero, List.set_cons_succ]
              refine take_held 26 (by assumption) rfl (by kernel_rfl) (by kernel_rfl) (by kernel_rfl) (fun _ _ _ h => h) (by kernel_rfl) (v := ?v24) ?y24 ?r24
              case y24 => (intro u hu; go_simp; try rfl)
              simp only [Act.put, List.setIfInBounds_toArray, List.set_cons_zero, List.set_cons_succ]
              refine done_held (by kernel_rfl) ?_ _
              have HPz : Hid (Pg Fa wCa sv gs) := HPa.out.turn ((Tn.below (Below.refl _ _).drew).trans tCa)
              obtain ⟨DB, DF⟩ := tCa.past (Below.drew HBa.out) HFa.out
              have HTz : Hid (TAt Fa wCa b ls) := Ta
              have HBz : Hid (Below w.heap.size w wCa) := DB
              have HFz : Hid (∀ k, Fa k → w.heap.size ≤ k) := DF
              clear cCa SAa SCa tCa Ta DB DF hSa hSHa z0a z1a hwAa
              obtain ⟨W9, hW9⟩ : ∃ W9, W9 = wCa := ⟨_, rfl⟩
              rw [← hW9] at HTz HPz HBz ⊢
              clear hW9
              have HTb : Hid (TAt Fa W9 b ls) := HTz.out
              have HPb : Hid (Pg Fa W9 sv gs) := HPz.out
              have HBb : Hid (Below w.heap.size w W9) := HBz.out
              have HFb : Hid (∀ k, Fa k → w.heap.size ≤ k) := HFz.out
              clear HTz HPz HBz HFz HTa HPa HBa HFa
              obtain ⟨g', o', cp', es', lg, ng, c0, c1⟩ := HPb.out.at i hil
              have es2 := HSV.out.symm.trans es'
              injection es2 with e1 e2 e3
              injection e1 with e4
              injection e4 with e5 e6
              subst e5 e6
              rw [HPQ.out] at c0 c1
              simp only at c0 c1
              clear es' e3 e2
              have HLGb : Hid (g < W9.heap.size) := lg
              have HNGb : Hid (¬ Fa g) := ng
              obtain ⟨SHb, hSHb⟩ : ∃ S : World → Prop, S = fun u => u.heap[g]? = W9.heap[g]? := ⟨_, rfl⟩
              have hSb : SHb W9.drew := by rw [hSHb]; rfl
              have z0b : ∀ u, SHb u → u.cell? ⟨g, o + i * 2, none⟩ = some (.int .i64 p1) := fun u hu => by rw [hSHb] at hu; exact (cell_same hu).trans c0
              have z1b : ∀ u, SHb u → u.cell? ⟨g, o + i * 2 + 1, none⟩ = some (.int .i64 p2) := fun u hu => by rw [hSHb] at hu; exact (cell_same hu).trans c1
              clear c0 c1 lg ng
              by_cases hp2 : p2 < 4611686018427387904
              · obtain ⟨wAb, hwAb⟩ : ∃ wA, W9.drew.alloc (.cells #[.int .i64 (C : Nat), .int .i64 (p2 - 1), .int .i64 (p2 + 1)] 46) = wA := ⟨_, rfl⟩
                have SAb : SHb wAb := by rw [hSHb, ← hwAb]; exact ((Below.refl _ _).alloc (Nat.le_refl _) _ : Below W9.drew.heap.size W9.drew _).block g HLGb.out
                have cCb := claimT (u := W9.drew) (R := R) (x := ⟨(C : Nat), p2 - 1, p2 + 1⟩) (HTb.out.go (Below.refl _ _).drew) HOK.out HSM.out (by have := HLN.out; omega) (by have := HLN.out; omega) (by omega) (claim_one_taken (i := C) (by have := HLN.out; have := hC6.out; omega) HR0.out (by have := HPB.out; unfold FV; omega) (by rw [← rowOf_nat ls C (by have := HLN.out; have := hC6.out; omega), HLL.out]; exact met_at (HG.out.right (by unfold FV; exact hp2)) (by simp only; omega) (by simp only; omega)))
                rw [hwAb] at cCb
                go_wp2_with fail
                refine start_held (S := SHb) 27 rfl (by kernel_rfl) (hSb) ?_
                simp only [Array.replicate_succ, Array.replicate_zero, List.push_toArray, List.nil_append, List.cons_append]
                refine take_held 0 (by assumption) rfl (by kernel_rfl) (by kernel_rfl) (by kernel_rfl) (fun _ _ _ h => h) (by kernel_rfl) (v := ?v25) ?y25 ?r25
                case y25 => (intro u hu; go_simp; try rfl)
                simp only [Act.put, List.setIfInBounds_toArray, List.set_cons_zero, List.set_cons_succ]
                refine take_held 1 (by assumption) rfl (by kernel_rfl) (by kernel_rfl) (by kernel_rfl) (fun _ _ _ h => h) (by kernel_rfl) (v := ?v26) ?y26 ?r26
                case y26 => (intro u hu; go_simp; try rfl)
                simp only [Act.put, List.setIfInBounds_toArray, List.set_cons_zero, List.set_cons_succ]
                refine take_held 2 (by assumption) rfl (by kernel_rfl) (by kernel_rfl) (by kernel_rfl) (fun _ _ _ h => h) (by kernel_rfl) (v := ?v27) ?y27 ?r27
                case y27 => (intro u hu; go_simp; try rfl)
                simp only [Act.put, List.setIfInBounds_toArray, List.set_cons_zero, List.set_cons_succ]
                refine take_held 3 (by assumption) rfl (by kernel_rfl) (by kernel_rfl) (by kernel_rfl) (fun _ _ _ h => h) (by kernel_rfl) (v := ?v28) ?y28 ?r28
                case y28 => (intro u hu; go_simp; try rfl)
                simp only [Act.put, List.setIfInBounds_toArray, List.set_cons_zero, List.set_cons_succ]
                refine take_held 4 (by assumption) rfl (by kernel_rfl) (by kernel_rfl) (by kernel_rfl) (fun _ _ _ h => h) (by kernel_rfl) (v := ?v29) ?y29 ?r29
                case y29 => (intro u hu; have zz0 := z1b u hu; go_simp; try rfl)
                simp only [Act.put, List.setIfInBounds_toArray, List.set_cons_zero, List.set_cons_succ]
                refine take_held 5 (by assumption) rfl (by kernel_rfl) (by kernel_rfl) (by kernel_rfl) (fun _ _ _ h => h) (by kernel_rfl) (v := .bool true) ?y30 ?r30
                case y30 => (intro u hu; go_simp; try simp; try omega)
                simp only [Act.put, List.setIfInBounds_toArray, List.set_cons_zero, List.set_cons_succ]
                refine take_held 6 (by assumption) rfl (by kernel_rfl) (by kernel_rfl) (by kernel_rfl) (fun _ _ _ h => h) (by kernel_rfl) (v := ?v31) ?y31 ?r31
                case y31 => (intro u hu; go_simp; try rfl)
                simp only [Act.put, List.setIfInBounds_toArray, List.set_cons_zero, List.set_cons_succ]
                refine take_held 7 (by assumption) rfl (by kernel_rfl) (by kernel_rfl) (by kernel_rfl) (fun _ _ _ h => h) (by kernel_rfl) (v := ?v32) ?y32 ?r32
                case y32 => (intro u hu; go_simp; try rfl)
                simp only [Act.put, List.setIfInBounds_toArray, List.set_cons_zero, List.set_cons_succ]
                refine take_held 8 (by assumption) rfl (by kernel_rfl) (by kernel_rfl) (by kernel_rfl) (fun _ _ _ h => h) (by kernel_rfl) (v := ?v33) ?y33 ?r33
                case y33 => (intro u hu; go_simp; try rfl)
                simp only [Act.put, List.setIfInBounds_toArray, List.set_cons_zero, List.set_cons_succ]
                refine take_held 9 (by assumption) rfl (by kernel_rfl) (by kernel_rfl) (by kernel_rfl) (fun _ _ _ h => h) (by kernel_rfl) (v := ?v34) ?y34 ?r34
                case y34 => (intro u hu; go_simp; try rfl)
                simp only [Act.put, List.setIfInBounds_toArray, List.set_cons_zero, List.set_cons_succ]
                refine take_held 10 (by assumption) rfl (by kernel_rfl) (by kernel_rfl) (by kernel_rfl) (fun _ _ _ h => h) (by kernel_rfl) (v := ?v35) ?y35 ?r35
                case y35 => (intro u hu; go_simp; try rfl)
                simp only [Act.put, List.setIfInBounds_toArray, List.set_cons_zero, List.set_cons_succ]
                refine take_held 11 (by assumption) rfl (by kernel_rfl) (by kernel_rfl) (by kernel_rfl) (fun _ _ _ h => h) (by kernel_rfl) (v := ?v36) ?y36 ?r36
                case y36 => (intro u hu; go_simp; try rfl)
                simp only [Act.put, List.setIfInBounds_toArray, List.set_cons_zero, List.set_cons_succ]
                refine take_held 12 (by assumption) rfl (by kernel_rfl) (by kernel_rfl) (by kernel_rfl) (fun _ _ _ h => h) (by kernel_rfl) (v := ?v37) ?y37 ?r37
                case y37 => (intro u hu; go_simp; try rfl)
                simp only [Act.put, List.setIfInBounds_toArray, List.set_cons_zero, List.set_cons_succ]
                refine take_held 13 (by assumption) rfl (by kernel_rfl) (by kernel_rfl) (by kernel_rfl) (fun _ _ _ h => h) (by kernel_rfl) (v := ?v38) ?y38 ?r38
                case y38 => (intro u hu; go_simp; try rfl)
                simp only [Act.put, List.setIfInBounds_toArray, List.set_cons_zero, List.set_cons_succ]
                refine take_held 14 (by assumption) rfl (by kernel_rfl) (by kernel_rfl) (by kernel_rfl) (fun _ _ _ h => h) (by kernel_rfl) (v := ?v39) ?y39 ?r39
                case y39 => (intro u hu; have zz0 := z1b u hu; go_simp; try rfl)
                simp only [Act.put, List.setIfInBounds_toArray, List.set_cons_zero, List.set_cons_succ]
                refine take_held 15 (by assumption) rfl (by kernel_rfl) (by kernel_rfl) (by kernel_rfl) (fun _ _ _ h => h) (by kernel_rfl) (v := .int .i64 (p2 - 1)) ?y40 ?r40
                case y40 => (intro u hu; have hw : IntKind.i64.wrap (p2 - 1) = p2 - 1 := (by rw [IntKind.wrap_i64]; have := HPB.out; omega); go_simp; try rw [hw]; try rfl)
                simp only [Act.put, List.setIfInBounds_toArray, List.set_cons_zero, List.set_cons_succ]
                refine take_held 16 (by assumption) rfl (by kernel_rfl) (by kernel_rfl) (by kernel_rfl) (fun _ _ _ h => h) (by kernel_rfl) (v := ?v41) ?y41 ?r41
                case y41 => (intro u hu; go_simp; try rfl)
                simp only [Act.put, List.setIfInBounds_toArray, List.set_cons_zero, List.set_cons_succ]
                refine take_held 17 (by assumption) rfl (by kernel_rfl) (by kernel_rfl) (by kernel_rfl) (fun _ _ _ h => h) (by kernel_rfl) (v := ?v42) ?y42 ?r42
                case y42 => (intro u hu; go_simp; try rfl)
                simp only [Act.put, List.setIfInBounds_toArray, List.set_cons_zero, List.set_cons_succ]
                refine take_held 18 (by assumption) rfl (by kernel_rfl) (by kernel_rfl) (by kernel_rfl) (fun _ _ _ h => h) (by kernel_rfl) (v := ?v43) ?y43 ?r43
                case y43 => (intro u hu; go_simp; try rfl)
                simp only [Act.put, List.setIfInBounds_toArray, List.set_cons_zero, List.set_cons_succ]
                refine take_held 19 (by assumption) rfl (by kernel_rfl) (by kernel_rfl) (by kernel_rfl) (fun _ _ _ h => h) (by kernel_rfl) (v := ?v44) ?y44 ?r44
                case y44 => (intro u hu; go_simp; try rfl)
                simp only [Act.put, List.setIfInBounds_toArray, List.set_cons_zero, List.set_cons_succ]
                refine take_held 20 (by assumption) rfl (by kernel_rfl) (by kernel_rfl) (by kernel_rfl) (fun _ _ _ h => h) (by kernel_rfl) (v := ?v45) ?y45 ?r45
                case y45 => (intro u hu; have zz0 := z1b u hu; go_simp; try rfl)
                simp only [Act.put, List.setIfInBounds_toArray, List.set_cons_zero, List.set_cons_succ]
                refine take_held 21 (by assumption) rfl (by kernel_rfl) (by kernel_rfl) (by kernel_rfl) (fun _ _ _ h => h) (by kernel_rfl) (v := .int .i64 (p2 + 1)) ?y46 ?r46
                case y46 => (intro u hu; have hw : IntKind.i64.wrap (p2 + 1) = p2 + 1 := (by rw [IntKind.wrap_i64]; have := HPB.out; omega); go_simp; try rw [hw]; try rfl)
                simp only [Act.put, List.setIfInBounds_toArray, List.set_cons_zero, List.set_cons_succ]
                refine take_held 22 (by assumption) rfl (by kernel_rfl) (by kernel_rfl) (by kernel_rfl) (fun _ _ _ h => h) (by kernel_rfl) (v := ?v47) ?y47 ?r47
                case y47 => (intro u hu; go_simp; try rfl)
                simp only [Act.put, List.setIfInBounds_toArray, List.set_cons_zero, List.set_cons_succ]
                refine wpAnyH_ready (rs := [23]) (by kernel_rfl) (by simp) (AllReadyH.cons ((nth_eq _ 23).trans rfl) ?_ AllReadyH.nil)
                intro K' hK
                refine value_in hK (by kernel_rfl) (.slice (some ⟨W9.heap.size, 0, none⟩) 1 1) (wAb) (by rw [← hwAb]; go_simp; try rfl) (SAb) ?_
                simp only [Act.put, List.setIfInBounds_toArray, List.set_cons_zero, List.set_cons_succ]
                refine wpAnyH_ready (rs := [24]) (by kernel_rfl) (by simp) (AllReadyH.cons ((nth_eq _ 24).trans rfl) ?_ AllReadyH.nil)
                intro K' hK
                refine call_in hK (by kernel_rfl) 19 #[.pointer (some ⟨b, 0, none⟩), .int .i64 R, .slice (some ⟨W9.heap.size, 0, none⟩) 1 1] (by go_simp) _ (cCb) ?_
                rintro v wCb ⟨rfl, Fb, Tb, tCb⟩
                have SCb : SHb wCb := by rw [hSHb]; exact (tCb.block g HLGb.out HNGb.out)
                refine ⟨SCb, ?_⟩
                simp only [Act.put, List.setIfInBounds_toArray, List.set_cons_zero, List.set_cons_succ]
                refine take_held 25 (by assumption) rfl (by kernel_rfl) (by kernel_rfl) (by kernel_rfl) (fun _ _ _ h => h) (by kernel_rfl) (v := ?v48) ?y48 ?r48
                case y48 => (intro u hu; go_simp; try rfl)
                simp only [Act.put, List.setIfInBounds_toArray, List.set_cons_zero, List.set_cons_succ]
                refine take_held 26 (by assumption) rfl (by kernel_rfl) (by kernel_rfl) (by kernel_rfl) (fun _ _ _ h => h) (by kernel_rfl) (v := ?v49) ?y49 ?r49
                case y49 => (intro u hu; go_simp; try rfl)
                simp only [Act.put, List.setIfInBounds_toArray, List.set_cons_zero, List.set_cons_succ]
                refine done_held (by kernel_rfl) ?_ _
                have HPz : Hid (Pg Fb wCb sv gs) := HPb.out.turn ((Tn.below (Below.refl _ _).drew).trans tCb)
                obtain ⟨DB, DF⟩ := tCb.past (Below.drew HBb.out) HFb.out
                have HTz : Hid (TAt Fb wCb b ls) := Tb
                have HBz : Hid (Below w.heap.size w wCb) := DB
                have HFz : Hid (∀ k, Fb k → w.heap.size ≤ k) := DF
                clear cCb SAb SCb tCb Tb DB DF hSb hSHb z0b z1b hwAb
                go_wp2_with fail
                go_roundw
                case measure => simp only [intOf]; omega
                case rel => exact ⟨i + 1, _, rfl, hil, HTz, HPz, HBz, HFz⟩
              · go_wp2_with fail
                refine start_held (S := SHb) 27 rfl (by kernel_rfl) (hSb) ?_
                simp only [Array.replicate_succ, Array.replicate_zero, List.push_toArray, List.nil_append, List.cons_append]
                refine take_held 0 (by assumption) rfl (by kernel_rfl) (by kernel_rfl) (by kernel_rfl) (fun _ _ _ h => h) (by kernel_rfl) (v := ?v50) ?y50 ?r50
                case y50 => (intro u hu; go_simp; try rfl)
                simp only [Act.put, List.setIfInBounds_toArray, List.set_cons_zero, List.set_cons_succ]
                refine take_held 1 (by assumption) rfl (by kernel_rfl) (by kernel_rfl) (by kernel_rfl) (fun _ _ _ h => h) (by kernel_rfl) (v := ?v51) ?y51 ?r51
                case y51 => (intro u hu; go_simp; try rfl)
                simp only [Act.put, List.setIfInBounds_toArray, List.set_cons_zero, List.set_cons_succ]
                refine take_held 2 (by assumption) rfl (by kernel_rfl) (by kernel_rfl) (by kernel_rfl) (fun _ _ _ h => h) (by kernel_rfl) (v := ?v52) ?y52 ?r52
                case y52 => (intro u hu; go_simp; try rfl)
                simp only [Act.put, List.setIfInBounds_toArray, List.set_cons_zero, List.set_cons_succ]
                refine take_held 3 (by assumption) rfl (by kernel_rfl) (by kernel_rfl) (by kernel_rfl) (fun _ _ _ h => h) (by kernel_rfl) (v := ?v53) ?y53 ?r53
                case y53 => (intro u hu; go_simp; try rfl)
                simp only [Act.put, List.setIfInBounds_toArray, List.set_cons_zero, List.set_cons_succ]
                refine take_held 4 (by assumption) rfl (by kernel_rfl) (by kernel_rfl) (by kernel_rfl) (fun _ _ _ h => h) (by kernel_rfl) (v := ?v54) ?y54 ?r54
                case y54 => (intro u hu; have zz0 := z1b u hu; go_simp; try rfl)
                simp only [Act.put, List.setIfInBounds_toArray, List.set_cons_zero, List.set_cons_succ]
                refine take_held 5 (by assumption) rfl (by kernel_rfl) (by kernel_rfl) (by kernel_rfl) (fun _ _ _ h => h) (by kernel_rfl) (v := .bool false) ?y55 ?r55
                case y55 => (intro u hu; go_simp; try simp; try omega)
                simp only [Act.put, List.setIfInBounds_toArray, List.set_cons_zero, List.set_cons_succ]
                refine take_held 6 (by assumption) rfl (by kernel_rfl) (by kernel_rfl) (by kernel_rfl) (fun _ _ _ h => h) (by kernel_rfl) (v := ?v56) ?y56 ?r56
                case y56 => (intro u hu; go_simp; try rfl)
                simp only [Act.put, List.setIfInBounds_toArray, List.set_cons_zero, List.set_cons_succ]
                refine skip_held 7 (by assumption) rfl (by kernel_rfl) (by kernel_rfl) (by kernel_rfl) (fun _ _ _ h => h) (by kernel_rfl) ?_
                simp only [Act.put, List.setIfInBounds_toArray, List.set_cons_zero, List.set_cons_succ]
                refine skip_held 8 (by assumption) rfl (by kernel_rfl) (by kernel_rfl) (by kernel_rfl) (fun _ _ _ h => h) (by kernel_rfl) ?_
                simp only [Act.put, List.setIfInBounds_toArray, List.set_cons_zero, List.set_cons_succ]
                refine skip_held 9 (by assumption) rfl (by kernel_rfl) (by kernel_rfl) (by kernel_rfl) (fun _ _ _ h => h) (by kernel_rfl) ?_
                simp only [Act.put, List.setIfInBounds_toArray, List.set_cons_zero, List.set_cons_succ]
                refine skip_held 10 (by assumption) rfl (by kernel_rfl) (by kernel_rfl) (by kernel_rfl) (fun _ _ _ h => h) (by kernel_rfl) ?_
                simp only [Act.put, List.setIfInBounds_toArray, List.set_cons_zero, List.set_cons_succ]
                refine skip_held 11 (by assumption) rfl (by kernel_rfl) (by kernel_rfl) (by kernel_rfl) (fun _ _ _ h => h) (by kernel_rfl) ?_
                simp only [Act.put, List.setIfInBounds_toArray, List.set_cons_zero, List.set_cons_succ]
                refine skip_held 12 (by assumption) rfl (by kernel_rfl) (by kernel_rfl) (by kernel_rfl) (fun _ _ _ h => h) (by kernel_rfl) ?_
                simp only [Act.put, List.setIfInBounds_toArray, List.set_cons_zero, List.set_cons_succ]
                refine skip_held 13 (by assumption) rfl (by kernel_rfl) (by kernel_rfl) (by kernel_rfl) (fun _ _ _ h => h) (by kernel_rfl) ?_
                simp only [Act.put, List.setIfInBounds_toArray, List.set_cons_zero, List.set_cons_succ]
                refine skip_held 14 (by assumption) rfl (by kernel_rfl) (by kernel_rfl) (by kernel_rfl) (fun _ _ _ h => h) (by kernel_rfl) ?_
                simp only [Act.put, List.setIfInBounds_toArray, List.set_cons_zero, List.set_cons_succ]
                refine skip_held 15 (by assumption) rfl (by kernel_rfl) (by kernel_rfl) (by kernel_rfl) (fun _ _ _ h => h) (by kernel_rfl) ?_
                simp only [Act.put, List.setIfInBounds_toArray, List.set_cons_zero, List.set_cons_succ]
                refine skip_held 16 (by assumption) rfl (by kernel_rfl) (by kernel_rfl) (by kernel_rfl) (fun _ _ _ h => h) (by kernel_rfl) ?_
                simp only [Act.put, List.setIfInBounds_toArray, List.set_cons_zero, List.set_cons_succ]
                refine skip_held 17 (by assumption) rfl (by kernel_rfl) (by kernel_rfl) (by kernel_rfl) (fun _ _ _ h => h) (by kernel_rfl) ?_
                simp only [Act.put, List.setIfInBounds_toArray, List.set_cons_zero, List.set_cons_succ]
                refine skip_held 18 (by assumption) rfl (by kernel_rfl) (by kernel_rfl) (by kernel_rfl) (fun _ _ _ h => h) (by kernel_rfl) ?_
                simp only [Act.put, List.setIfInBounds_toArray, List.set_cons_zero, List.set_cons_succ]
                refine skip_held 19 (by assumption) rfl (by kernel_rfl) (by kernel_rfl) (by kernel_rfl) (fun _ _ _ h => h) (by kernel_rfl) ?_
                simp only [Act.put, List.setIfInBounds_toArray, List.set_cons_zero, List.set_cons_succ]
                refine skip_held 20 (by assumption) rfl (by kernel_rfl) (by kernel_rfl) (by kernel_rfl) (fun _ _ _ h => h) (by kernel_rfl) ?_
                simp only [Act.put, List.setIfInBounds_toArray, List.set_cons_zero, List.set_cons_succ]
                refine skip_held 21 (by assumption) rfl (by kernel_rfl) (by kernel_rfl) (by kernel_rfl) (fun _ _ _ h => h) (by kernel_rfl) ?_
                simp only [Act.put, List.setIfInBounds_toArray, List.set_cons_zero, List.set_cons_succ]
                refine skip_held 22 (by assumption) rfl (by kernel_rfl) (by kernel_rfl) (by kernel_rfl) (fun _ _ _ h => h) (by kernel_rfl) ?_
                simp only [Act.put, List.setIfInBounds_toArray, List.set_cons_zero, List.set_cons_succ]
                refine skip_held 23 (by assumption) rfl (by kernel_rfl) (by kernel_rfl) (by kernel_rfl) (fun _ _ _ h => h) (by kernel_rfl) ?_
                simp only [Act.put, List.setIfInBounds_toArray, List.set_cons_zero, List.set_cons_succ]
                refine skip_held 24 (by assumption) rfl (by kernel_rfl) (by kernel_rfl) (by kernel_rfl) (fun _ _ _ h => h) (by kernel_rfl) ?_
                simp only [Act.put, List.setIfInBounds_toArray, List.set_cons_zero, List.set_cons_succ]
                refine skip_held 25 (by assumption) rfl (by kernel_rfl) (by kernel_rfl) (by kernel_rfl) (fun _ _ _ h => h) (by kernel_rfl) ?_
                simp only [Act.put, List.setIfInBounds_toArray, List.set_cons_zero, List.set_cons_succ]
                refine take_held 26 (by assumption) rfl (by kernel_rfl) (by kernel_rfl) (by kernel_rfl) (fun _ _ _ h => h) (by kernel_rfl) (v := ?v57) ?y57 ?r57
                case y57 => (intro u hu; go_simp; try rfl)
                simp only [Act.put, List.setIfInBounds_toArray, List.set_cons_zero, List.set_cons_succ]
                refine done_held (by kernel_rfl) ?_ _
                have HPz : Hid (Pg Fa W9.drew sv gs) := HPb.out.go (Below.refl _ _).drew
                have HTz : Hid (TAt Fa W9.drew b ls) := HTb.out.go (Below.refl _ _).drew
                have HBz : Hid (Below w.heap.size w W9.drew) := HBb.out.drew
                have HFz : Hid (∀ k, Fa k → w.heap.size ≤ k) := HFb.out
                clear hSb hSHb z0b z1b
                go_wp2_with fail
                go_roundw
                case measure => simp only [intOf]; omega
                case rel => exact ⟨i + 1, _, rfl, hil, HTz, HPz, HBz, HFz⟩
            · have hp1z : p1 = 0 := by have := HG.out.low; simp only at this; omega
              go_wp2_with fail
              refine start_held (S := SHa) 27 rfl (by kernel_rfl) (hSa) ?_
              simp only [Array.replicate_succ, Array.replicate_zero, List.push_toArray, List.nil_append, List.cons_append]
              refine take_held 0 (by assumption) rfl (by kernel_rfl) (by kernel_rfl) (by kernel_rfl) (fun _ _ _ h => h) (by kernel_rfl) (v := ?v58) ?y58 ?r58
              case y58 => (intro u hu; go_simp; try rfl)
              simp only [Act.put, List.setIfInBounds_toArray, List.set_cons_zero, List.set_cons_succ]
              refine take_held 1 (by assumption) rfl (by kernel_rfl) (by kernel_rfl) (by kernel_rfl) (fun _ _ _ h => h) (by kernel_rfl) (v := ?v59) ?y59 ?r59
              case y59 => (intro u hu; go_simp; try rfl)
              simp only [Act.put, List.setIfInBounds_toArray, List.set_cons_zero, List.set_cons_succ]
              refine take_held 2 (by assumption) rfl (by kernel_rfl) (by kernel_rfl) (by kernel_rfl) (fun _ _ _ h => h) (by kernel_rfl) (v := ?v60) ?y60 ?r60
              case y60 => (intro u hu; go_simp; try rfl)
              simp only [Act.put, List.setIfInBounds_toArray, List.set_cons_zero, List.set_cons_succ]
              refine take_held 3 (by assumption) rfl (by kernel_rfl) (by kernel_rfl) (by kernel_rfl) (fun _ _ _ h => h) (by kernel_rfl) (v := ?v61) ?y61 ?r61
              case y61 => (intro u hu; go_simp; try rfl)
              simp only [Act.put, List.setIfInBounds_toArray, List.set_cons_zero, List.set_cons_succ]
              refine take_held 4 (by assumption) rfl (by kernel_rfl) (by kernel_rfl) (by kernel_rfl) (fun _ _ _ h => h) (by kernel_rfl) (v := ?v62) ?y62 ?r62
              case y62 => (intro u hu; have zz0 := z0a u hu; go_simp; try rfl)
              simp only [Act.put, List.setIfInBounds_toArray, List.set_cons_zero, List.set_cons_succ]
              refine take_held 5 (by assumption) rfl (by kernel_rfl) (by kernel_rfl) (by kernel_rfl) (fun _ _ _ h => h) (by kernel_rfl) (v := .bool false) ?y63 ?r63
              case y63 => (intro u hu; go_simp; try simp; try omega)
              simp only [Act.put, List.setIfInBounds_toArray, List.set_cons_zero, List.set_cons_succ]
              refine take_held 6 (by assumption) rfl (by kernel_rfl) (by kernel_rfl) (by kernel_rfl) (fun _ _ _ h => h) (by kernel_rfl) (v := ?v64) ?y64 ?r64
              case y64 => (intro u hu; go_simp; try rfl)
              simp only [Act.put, List.setIfInBounds_toArray, List.set_cons_zero, List.set_cons_succ]
              refine skip_held 7 (by assumption) rfl (by kernel_rfl) (by kernel_rfl) (by kernel_rfl) (fun _ _ _ h => h) (by kernel_rfl) ?_
              simp only [Act.put, List.setIfInBounds_toArray, List.set_cons_zero, List.set_cons_succ]
              refine skip_held 8 (by assumption) rfl (by kernel_rfl) (by kernel_rfl) (by kernel_rfl) (fun _ _ _ h => h) (by kernel_rfl) ?_
              simp only [Act.put, List.setIfInBounds_toArray, List.set_cons_zero, List.set_cons_succ]
              refine skip_held 9 (by assumption) rfl (by kernel_rfl) (by kernel_rfl) (by kernel_rfl) (fun _ _ _ h => h) (by kernel_rfl) ?_
              simp only [Act.put, List.setIfInBounds_toArray, List.set_cons_zero, List.set_cons_succ]
              refine skip_held 10 (by assumption) rfl (by kernel_rfl) (by kernel_rfl) (by kernel_rfl) (fun _ _ _ h => h) (by kernel_rfl) ?_
              simp only [Act.put, List.setIfInBounds_toArray, List.set_cons_zero, List.set_cons_succ]
              refine skip_held 11 (by assumption) rfl (by kernel_rfl) (by kernel_rfl) (by kernel_rfl) (fun _ _ _ h => h) (by kernel_rfl) ?_
              simp only [Act.put, List.setIfInBounds_toArray, List.set_cons_zero, List.set_cons_succ]
              refine skip_held 12 (by assumption) rfl (by kernel_rfl) (by kernel_rfl) (by kernel_rfl) (fun _ _ _ h => h) (by kernel_rfl) ?_
              simp only [Act.put, List.setIfInBounds_toArray, List.set_cons_zero, List.set_cons_succ]
              refine skip_held 13 (by assumption) rfl (by kernel_rfl) (by kernel_rfl) (by kernel_rfl) (fun _ _ _ h => h) (by kernel_rfl) ?_
              simp only [Act.put, List.setIfInBounds_toArray, List.set_cons_zero, List.set_cons_succ]
              refine skip_held 14 (by assumption) rfl (by kernel_rfl) (by kernel_rfl) (by kernel_rfl) (fun _ _ _ h => h) (by kernel_rfl) ?_
              simp only [Act.put, List.setIfInBounds_toArray, List.set_cons_zero, List.set_cons_succ]
              refine skip_held 15 (by assumption) rfl (by kernel_rfl) (by kernel_rfl) (by kernel_rfl) (fun _ _ _ h => h) (by kernel_rfl) ?_
              simp only [Act.put, List.setIfInBounds_toArray, List.set_cons_zero, List.set_cons_succ]
              refine skip_held 16 (by assumption) rfl (by kernel_rfl) (by kernel_rfl) (by kernel_rfl) (fun _ _ _ h => h) (by kernel_rfl) ?_
              simp only [Act.put, List.setIfInBounds_toArray, List.set_cons_zero, List.set_cons_succ]
              refine skip_held 17 (by assumption) rfl (by kernel_rfl) (by kernel_rfl) (by kernel_rfl) (fun _ _ _ h => h) (by kernel_rfl) ?_
              simp only [Act.put, List.setIfInBounds_toArray, List.set_cons_zero, List.set_cons_succ]
              refine skip_held 18 (by assumption) rfl (by kernel_rfl) (by kernel_rfl) (by kernel_rfl) (fun _ _ _ h => h) (by kernel_rfl) ?_
              simp only [Act.put, List.setIfInBounds_toArray, List.set_cons_zero, List.set_cons_succ]
              refine skip_held 19 (by assumption) rfl (by kernel_rfl) (by kernel_rfl) (by kernel_rfl) (fun _ _ _ h => h) (by kernel_rfl) ?_
              simp only [Act.put, List.setIfInBounds_toArray, List.set_cons_zero, List.set_cons_succ]
              refine skip_held 20 (by assumption) rfl (by kernel_rfl) (by kernel_rfl) (by kernel_rfl) (fun _ _ _ h => h) (by kernel_rfl) ?_
              simp only [Act.put, List.setIfInBounds_toArray, List.set_cons_zero, List.set_cons_succ]
              refine skip_held 21 (by assumption) rfl (by kernel_rfl) (by kernel_rfl) (by kernel_rfl) (fun _ _ _ h => h) (by kernel_rfl) ?_
              simp only [Act.put, List.setIfInBounds_toArray, List.set_cons_zero, List.set_cons_succ]
              refine skip_held 22 (by assumption) rfl (by kernel_rfl) (by kernel_rfl) (by kernel_rfl) (fun _ _ _ h => h) (by kernel_rfl) ?_
              simp only [Act.put, List.setIfInBounds_toArray, List.set_cons_zero, List.set_cons_succ]
              refine skip_held 23 (by assumption) rfl (by kernel_rfl) (by kernel_rfl) (by kernel_rfl) (fun _ _ _ h => h) (by kernel_rfl) ?_
              simp only [Act.put, List.setIfInBounds_toArray, List.set_cons_zero, List.set_cons_succ]
              refine skip_held 24 (by assumption) rfl (by kernel_rfl) (by kernel_rfl) (by kernel_rfl) (fun _ _ _ h => h) (by kernel_rfl) ?_
              simp only [Act.put, List.setIfInBounds_toArray, List.set_cons_zero, List.set_cons_succ]
              refine skip_held 25 (by assumption) rfl (by kernel_rfl) (by kernel_rfl) (by kernel_rfl) (fun _ _ _ h => h) (by kernel_rfl) ?_
              simp only [Act.put, List.setIfInBounds_toArray, List.set_cons_zero, List.set_cons_succ]
              refine take_held 26 (by assumption) rfl (by kernel_rfl) (by kernel_rfl) (by kernel_rfl) (fun _ _ _ h => h) (by kernel_rfl) (v := ?v65) ?y65 ?r65
              case y65 => (intro u hu; go_simp; try rfl)
              simp only [Act.put, List.setIfInBounds_toArray, List.set_cons_zero, List.set_cons_succ]
              refine done_held (by kernel_rfl) ?_ _
              have HPz : Hid (Pg Fp W8.drew sv gs) := HPa.out.go (Below.refl _ _).drew
              have HTz : Hid (TAt Fp W8.drew b ls) := HTa.out.go (Below.refl _ _).drew
              have HBz : Hid (Below w.heap.size w W8.drew) := HBa.out.drew
              have HFz : Hid (∀ k, Fp k → w.heap.size ≤ k) := HFa.out
              clear hSa hSHa z0a z1a
              obtain ⟨W9, hW9⟩ : ∃ W9, W9 = W8.drew := ⟨_, rfl⟩
              rw [← hW9] at HTz HPz HBz ⊢
              clear hW9
              have HTb : Hid (TAt Fp W9 b ls) := HTz.out
              have HPb : Hid (Pg Fp W9 sv gs) := HPz.out
              have HBb : Hid (Below w.heap.size w W9) := HBz.out
              have HFb : Hid (∀ k, Fp k → w.heap.size ≤ k) := HFz.out
              clear HTz HPz HBz HFz HTa HPa HBa HFa
              obtain ⟨g', o', cp', es', lg, ng, c0, c1⟩ := HPb.out.at i hil
              have es2 := HSV.out.symm.trans es'
              injection es2 with e1 e2 e3
              injection e1 with e4
              injection e4 with e5 e6
              subst e5 e6
              rw [HPQ.out] at c0 c1
              simp only at c0 c1
              clear es' e3 e2
              have HLGb : Hid (g < W9.heap.size) := lg
              have HNGb : Hid (¬ Fp g) := ng
              obtain ⟨SHb, hSHb⟩ : ∃ S : World → Prop, S = fun u => u.heap[g]? = W9.heap[g]? := ⟨_, rfl⟩
              have hSb : SHb W9.drew := by rw [hSHb]; rfl
              have z0b : ∀ u, SHb u → u.cell? ⟨g, o + i * 2, none⟩ = some (.int .i64 p1) := fun u hu => by rw [hSHb] at hu; exact (cell_same hu).trans c0
              have z1b : ∀ u, SHb u → u.cell? ⟨g, o + i * 2 + 1, none⟩ = some (.int .i64 p2) := fun u hu => by rw [hSHb] at hu; exact (cell_same hu).trans c1
              clear c0 c1 lg ng
              by_cases hp2 : p2 < 4611686018427387904
              · obtain ⟨wAb, hwAb⟩ : ∃ wA, W9.drew.alloc (.cells #[.int .i64 (C : Nat), .int .i64 (p2 - 1), .int .i64 (p2 + 1)] 46) = wA := ⟨_, rfl⟩
                have SAb : SHb wAb := by rw [hSHb, ← hwAb]; exact ((Below.refl _ _).alloc (Nat.le_refl _) _ : Below W9.drew.heap.size W9.drew _).block g HLGb.out
                have cCb := claimT (u := W9.drew) (R := R) (x := ⟨(C : Nat), p2 - 1, p2 + 1⟩) (HTb.out.go (Below.refl _ _).drew) HOK.out HSM.out (by have := HLN.out; omega) (by have := HLN.out; omega) (by omega) (claim_one_taken (i := C) (by have := HLN.out; have := hC6.out; omega) HR0.out (by have := HPB.out; unfold FV; omega) (by rw [← rowOf_nat ls C (by have := HLN.out; have := hC6.out; omega), HLL.out]; exact met_at (HG.out.right (by unfold FV; exact hp2)) (by simp only; omega) (by simp only; omega)))
                rw [hwAb] at cCb
                go_wp2_with fail
                refine start_held (S := SHb) 27 rfl (by kernel_rfl) (hSb) ?_
                simp only [Array.replicate_succ, Array.replicate_zero, List.push_toArray, List.nil_append, List.cons_append]
                refine take_held 0 (by assumption) rfl (by kernel_rfl) (by kernel_rfl) (by kernel_rfl) (fun _ _ _ h => h) (by kernel_rfl) (v := ?v66) ?y66 ?r66
                case y66 => (intro u hu; go_simp; try rfl)
                simp only [Act.put, List.setIfInBounds_toArray, List.set_cons_zero, List.set_cons_succ]
                refine take_held 1 (by assumption) rfl (by kernel_rfl) (by kernel_rfl) (by kernel_rfl) (fun _ _ _ h => h) (by kernel_rfl) (v := ?v67) ?y67 ?r67
                case y67 => (intro u hu; go_simp; try rfl)
                simp only [Act.put, List.setIfInBounds_toArray, List.set_cons_zero, List.set_cons_succ]
                refine take_held 2 (by assumption) rfl (by kernel_rfl) (by kernel_rfl) (by kernel_rfl) (fun _ _ _ h => h) (by kernel_rfl) (v := ?v68) ?y68 ?r68
                case y68 => (intro u hu; go_simp; try rfl)
                simp only [Act.put, List.setIfInBounds_toArray, List.set_cons_zero, List.set_cons_succ]
                refine take_held 3 (by assumption) rfl (by kernel_rfl) (by kernel_rfl) (by kernel_rfl) (fun _ _ _ h => h) (by kernel_rfl) (v := ?v69) ?y69 ?r69
                case y69 => (intro u hu; go_simp; try rfl)
                simp only [Act.put, List.setIfInBounds_toArray, List.set_cons_zero, List.set_cons_succ]
                refine take_held 4 (by assumption) rfl (by kernel_rfl) (by kernel_rfl) (by kernel_rfl) (fun _ _ _ h => h) (by kernel_rfl) (v := ?v70) ?y70 ?r70
                case y70 => (intro u hu; have zz0 := z1b u hu; go_simp; try rfl)
                simp only [Act.put, List.setIfInBounds_toArray, List.set_cons_zero, List.set_cons_succ]
                refine take_held 5 (by assumption) rfl (by kernel_rfl) (by kernel_rfl) (by kernel_rfl) (fun _ _ _ h => h) (by kernel_rfl) (v := .bool true) ?y71 ?r71
                case y71 => (intro u hu; go_simp; try simp; try omega)
                simp only [Act.put, List.setIfInBounds_toArray, List.set_cons_zero, List.set_cons_succ]
                refine take_held 6 (by assumption) rfl (by kernel_rfl) (by kernel_rfl) (by kernel_rfl) (fun _ _ _ h => h) (by kernel_rfl) (v := ?v72) ?y72 ?r72
                case y72 => (intro u hu; go_simp; try rfl)
                simp only [Act.put, List.setIfInBounds_toArray, List.set_cons_zero, List.set_cons_succ]
                refine take_held 7 (by assumption) rfl (by kernel_rfl) (by kernel_rfl) (by kernel_rfl) (fun _ _ _ h => h) (by kernel_rfl) (v := ?v73) ?y73 ?r73
                case y73 => (intro u hu; go_simp; try rfl)
                simp only [Act.put, List.setIfInBounds_toArray, List.set_cons_zero, List.set_cons_succ]
                refine take_held 8 (by assumption) rfl (by kernel_rfl) (by kernel_rfl) (by kernel_rfl) (fun _ _ _ h => h) (by kernel_rfl) (v := ?v74) ?y74 ?r74
                case y74 => (intro u hu; go_simp; try rfl)
                simp only [Act.put, List.setIfInBounds_toArray, List.set_cons_zero, List.set_cons_succ]
                refine take_held 9 (by assumption) rfl (by kernel_rfl) (by kernel_rfl) (by kernel_rfl) (fun _ _ _ h => h) (by kernel_rfl) (v := ?v75) ?y75 ?r75
                case y75 => (intro u hu; go_simp; try rfl)
                simp only [Act.put, List.setIfInBounds_toArray, List.set_cons_zero, List.set_cons_succ]
                refine take_held 10 (by assumption) rfl (by kernel_rfl) (by kernel_rfl) (by kernel_rfl) (fun _ _ _ h => h) (by kernel_rfl) (v := ?v76) ?y76 ?r76
                case y76 => (intro u hu; go_simp; try rfl)
                simp only [Act.put, List.setIfInBounds_toArray, List.set_cons_zero, List.set_cons_succ]
                refine take_held 11 (by assumption) rfl (by kernel_rfl) (by kernel_rfl) (by kernel_rfl) (fun _ _ _ h => h) (by kernel_rfl) (v := ?v77) ?y77 ?r77
                case y77 => (intro u hu; go_simp; try rfl)
                simp only [Act.put, List.setIfInBounds_toArray, List.set_cons_zero, List.set_cons_succ]
                refine take_held 12 (by assumption) rfl (by kernel_rfl) (by kernel_rfl) (by kernel_rfl) (fun _ _ _ h => h) (by kernel_rfl) (v := ?v78) ?y78 ?r78
                case y78 => (intro u hu; go_simp; try rfl)
                simp only [Act.put, List.setIfInBounds_toArray, List.set_cons_zero, List.set_cons_succ]
                refine take_held 13 (by assumption) rfl (by kernel_rfl) (by kernel_rfl) (by kernel_rfl) (fun _ _ _ h => h) (by kernel_rfl) (v := ?v79) ?y79 ?r79
                case y79 => (intro u hu; go_simp; try rfl)
                simp only [Act.put, List.setIfInBounds_toArray, List.set_cons_zero, List.set_cons_succ]
                refine take_held 14 (by assumption) rfl (by kernel_rfl) (by kernel_rfl) (by kernel_rfl) (fun _ _ _ h => h) (by kernel_rfl) (v := ?v80) ?y80 ?r80
                case y80 => (intro u hu; have zz0 := z1b u hu; go_simp; try rfl)
                simp only [Act.put, List.setIfInBounds_toArray, List.set_cons_zero, List.set_cons_succ]
                refine take_held 15 (by assumption) rfl (by kernel_rfl) (by kernel_rfl) (by kernel_rfl) (fun _ _ _ h => h) (by kernel_rfl) (v := .int .i64 (p2 - 1)) ?y81 ?r81
                case y81 => (intro u hu; have hw : IntKind.i64.wrap (p2 - 1) = p2 - 1 := (by rw [IntKind.wrap_i64]; have := HPB.out; omega); go_simp; try rw [hw]; try rfl)
                simp only [Act.put, List.setIfInBounds_toArray, List.set_cons_zero, List.set_cons_succ]
                refine take_held 16 (by assumption) rfl (by kernel_rfl) (by kernel_rfl) (by kernel_rfl) (fun _ _ _ h => h) (by kernel_rfl) (v := ?v82) ?y82 ?r82
                case y82 => (intro u hu; go_simp; try rfl)
                simp only [Act.put, List.setIfInBounds_toArray, List.set_cons_zero, List.set_cons_succ]
                refine take_held 17 (by assumption) rfl (by kernel_rfl) (by kernel_rfl) (by kernel_rfl) (fun _ _ _ h => h) (by kernel_rfl) (v := ?v83) ?y83 ?r83
                case y83 => (intro u hu; go_simp; try rfl)
                simp only [Act.put, List.setIfInBounds_toArray, List.set_cons_zero, List.set_cons_succ]
                refine take_held 18 (by assumption) rfl (by kernel_rfl) (by kernel_rfl) (by kernel_rfl) (fun _ _ _ h => h) (by kernel_rfl) (v := ?v84) ?y84 ?r84
                case y84 => (intro u hu; go_simp; try rfl)
                simp only [Act.put, List.setIfInBounds_toArray, List.set_cons_zero, List.set_cons_succ]
                refine take_held 19 (by assumption) rfl (by kernel_rfl) (by kernel_rfl) (by kernel_rfl) (fun _ _ _ h => h) (by kernel_rfl) (v := ?v85) ?y85 ?r85
                case y85 => (intro u hu; go_simp; try rfl)
                simp only [Act.put, List.setIfInBounds_toArray, List.set_cons_zero, List.set_cons_succ]
                refine take_held 20 (by assumption) rfl (by kernel_rfl) (by kernel_rfl) (by kernel_rfl) (fun _ _ _ h => h) (by kernel_rfl) (v := ?v86) ?y86 ?r86
                case y86 => (intro u hu; have zz0 := z1b u hu; go_simp; try rfl)
                simp only [Act.put, List.setIfInBounds_toArray, List.set_cons_zero, List.set_cons_succ]
                refine take_held 21 (by assumption) rfl (by kernel_rfl) (by kernel_rfl) (by kernel_rfl) (fun _ _ _ h => h) (by kernel_rfl) (v := .int .i64 (p2 + 1)) ?y87 ?r87
                case y87 => (intro u hu; have hw : IntKind.i64.wrap (p2 + 1) = p2 + 1 := (by rw [IntKind.wrap_i64]; have := HPB.out; omega); go_simp; try rw [hw]; try rfl)
                simp only [Act.put, List.setIfInBounds_toArray, List.set_cons_zero, List.set_cons_succ]
                refine take_held 22 (by assumption) rfl (by kernel_rfl) (by kernel_rfl) (by kernel_rfl) (fun _ _ _ h => h) (by kernel_rfl) (v := ?v88) ?y88 ?r88
                case y88 => (intro u hu; go_simp; try rfl)
                simp only [Act.put, List.setIfInBounds_toArray, List.set_cons_zero, List.set_cons_succ]
                refine wpAnyH_ready (rs := [23]) (by kernel_rfl) (by simp) (AllReadyH.cons ((nth_eq _ 23).trans rfl) ?_ AllReadyH.nil)
                intro K' hK
                refine value_in hK (by kernel_rfl) (.slice (some ⟨W9.heap.size, 0, none⟩) 1 1) (wAb) (by rw [← hwAb]; go_simp; try rfl) (SAb) ?_
                simp only [Act.put, List.setIfInBounds_toArray, List.set_cons_zero, List.set_cons_succ]
                refine wpAnyH_ready (rs := [24]) (by kernel_rfl) (by simp) (AllReadyH.cons ((nth_eq _ 24).trans rfl) ?_ AllReadyH.nil)
                intro K' hK
                refine call_in hK (by kernel_rfl) 19 #[.pointer (some ⟨b, 0, none⟩), .int .i64 R, .slice (some ⟨W9.heap.size, 0, none⟩) 1 1] (by go_simp) _ (cCb) ?_
                rintro v wCb ⟨rfl, Fb, Tb, tCb⟩
                have SCb : SHb wCb := by rw [hSHb]; exact (tCb.block g HLGb.out HNGb.out)
                refine ⟨SCb, ?_⟩
                simp only [Act.put, List.setIfInBounds_toArray, List.set_cons_zero, List.set_cons_succ]
                refine take_held 25 (by assumption) rfl (by kernel_rfl) (by kernel_rfl) (by kernel_rfl) (fun _ _ _ h => h) (by kernel_rfl) (v := ?v89) ?y89 ?r89
                case y89 => (intro u hu; go_simp; try rfl)
                simp only [Act.put, List.setIfInBounds_toArray, List.set_cons_zero, List.set_cons_succ]
                refine take_held 26 (by assumption) rfl (by kernel_rfl) (by kernel_rfl) (by kernel_rfl) (fun _ _ _ h => h) (by kernel_rfl) (v := ?v90) ?y90 ?r90
                case y90 => (intro u hu; go_simp; try rfl)
                simp only [Act.put, List.setIfInBounds_toArray, List.set_cons_zero, List.set_cons_succ]
                refine done_held (by kernel_rfl) ?_ _
                have HPz : Hid (Pg Fb wCb sv gs) := HPb.out.turn ((Tn.below (Below.refl _ _).drew).trans tCb)
                obtain ⟨DB, DF⟩ := tCb.past (Below.drew HBb.out) HFb.out
                have HTz : Hid (TAt Fb wCb b ls) := Tb
                have HBz : Hid (Below w.heap.size w wCb) := DB
                have HFz : Hid (∀ k, Fb k → w.heap.size ≤ k) := DF
                clear cCb SAb SCb tCb Tb DB DF hSb hSHb z0b z1b hwAb
                go_wp2_with fail
                go_roundw
                case measure => simp only [intOf]; omega
                case rel => exact ⟨i + 1, _, rfl, hil, HTz, HPz, HBz, HFz⟩
              · go_wp2_with fail
                refine start_held (S := SHb) 27 rfl (by kernel_rfl) (hSb) ?_
                simp only [Array.replicate_succ, Array.replicate_zero, List.push_toArray, List.nil_append, List.cons_append]
                refine take_held 0 (by assumption) rfl (by kernel_rfl) (by kernel_rfl) (by kernel_rfl) (fun _ _ _ h => h) (by kernel_rfl) (v := ?v91) ?y91 ?r91
                case y91 => (intro u hu; go_simp; try rfl)
                simp only [Act.put, List.setIfInBounds_toArray, List.set_cons_zero, List.set_cons_succ]
                refine take_held 1 (by assumption) rfl (by kernel_rfl) (by kernel_rfl) (by kernel_rfl) (fun _ _ _ h => h) (by kernel_rfl) (v := ?v92) ?y92 ?r92
                case y92 => (intro u hu; go_simp; try rfl)
                simp only [Act.put, List.setIfInBounds_toArray, List.set_cons_zero, List.set_cons_succ]
                refine take_held 2 (by assumption) rfl (by kernel_rfl) (by kernel_rfl) (by kernel_rfl) (fun _ _ _ h => h) (by kernel_rfl) (v := ?v93) ?y93 ?r93
                case y93 => (intro u hu; go_simp; try rfl)
                simp only [Act.put, List.setIfInBounds_toArray, List.set_cons_zero, List.set_cons_succ]
                refine take_held 3 (by assumption) rfl (by kernel_rfl) (by kernel_rfl) (by kernel_rfl) (fun _ _ _ h => h) (by kernel_rfl) (v := ?v94) ?y94 ?r94
                case y94 => (intro u hu; go_simp; try rfl)
                simp only [Act.put, List.setIfInBounds_toArray, List.set_cons_zero, List.set_cons_succ]
                refine take_held 4 (by assumption) rfl (by kernel_rfl) (by kernel_rfl) (by kernel_rfl) (fun _ _ _ h => h) (by kernel_rfl) (v := ?v95) ?y95 ?r95
                case y95 => (intro u hu; have zz0 := z1b u hu; go_simp; try rfl)
                simp only [Act.put, List.setIfInBounds_toArray, List.set_cons_zero, List.set_cons_succ]
                refine take_held 5 (by assumption) rfl (by kernel_rfl) (by kernel_rfl) (by kernel_rfl) (fun _ _ _ h => h) (by kernel_rfl) (v := .bool false) ?y96 ?r96
                case y96 => (intro u hu; go_simp; try simp; try omega)
                simp only [Act.put, List.setIfInBounds_toArray, List.set_cons_zero, List.set_cons_succ]
                refine take_held 6 (by assumption) rfl (by kernel_rfl) (by kernel_rfl) (by kernel_rfl) (fun _ _ _ h => h) (by kernel_rfl) (v := ?v97) ?y97 ?r97
                case y97 => (intro u hu; go_simp; try rfl)
                simp only [Act.put, List.setIfInBounds_toArray, List.set_cons_zero, List.set_cons_succ]
                refine skip_held 7 (by assumption) rfl (by kernel_rfl) (by kernel_rfl) (by kernel_rfl) (fun _ _ _ h => h) (by kernel_rfl) ?_
                simp only [Act.put, List.setIfInBounds_toArray, List.set_cons_zero, List.set_cons_succ]
                refine skip_held 8 (by assumption) rfl (by kernel_rfl) (by kernel_rfl) (by kernel_rfl) (fun _ _ _ h => h) (by kernel_rfl) ?_
                simp only [Act.put, List.setIfInBounds_toArray, List.set_cons_zero, List.set_cons_succ]
                refine skip_held 9 (by assumption) rfl (by kernel_rfl) (by kernel_rfl) (by kernel_rfl) (fun _ _ _ h => h) (by kernel_rfl) ?_
                simp only [Act.put, List.setIfInBounds_toArray, List.set_cons_zero, List.set_cons_succ]
                refine skip_held 10 (by assumption) rfl (by kernel_rfl) (by kernel_rfl) (by kernel_rfl) (fun _ _ _ h => h) (by kernel_rfl) ?_
                simp only [Act.put, List.setIfInBounds_toArray, List.set_cons_zero, List.set_cons_succ]
                refine skip_held 11 (by assumption) rfl (by kernel_rfl) (by kernel_rfl) (by kernel_rfl) (fun _ _ _ h => h) (by kernel_rfl) ?_
                simp only [Act.put, List.setIfInBounds_toArray, List.set_cons_zero, List.set_cons_succ]
                refine skip_held 12 (by assumption) rfl (by kernel_rfl) (by kernel_rfl) (by kernel_rfl) (fun _ _ _ h => h) (by kernel_rfl) ?_
                simp only [Act.put, List.setIfInBounds_toArray, List.set_cons_zero, List.set_cons_succ]
                refine skip_held 13 (by assumption) rfl (by kernel_rfl) (by kernel_rfl) (by kernel_rfl) (fun _ _ _ h => h) (by kernel_rfl) ?_
                simp only [Act.put, List.setIfInBounds_toArray, List.set_cons_zero, List.set_cons_succ]
                refine skip_held 14 (by assumption) rfl (by kernel_rfl) (by kernel_rfl) (by kernel_rfl) (fun _ _ _ h => h) (by kernel_rfl) ?_
                simp only [Act.put, List.setIfInBounds_toArray, List.set_cons_zero, List.set_cons_succ]
                refine skip_held 15 (by assumption) rfl (by kernel_rfl) (by kernel_rfl) (by kernel_rfl) (fun _ _ _ h => h) (by kernel_rfl) ?_
                simp only [Act.put, List.setIfInBounds_toArray, List.set_cons_zero, List.set_cons_succ]
                refine skip_held 16 (by assumption) rfl (by kernel_rfl) (by kernel_rfl) (by kernel_rfl) (fun _ _ _ h => h) (by kernel_rfl) ?_
                simp only [Act.put, List.setIfInBounds_toArray, List.set_cons_zero, List.set_cons_succ]
                refine skip_held 17 (by assumption) rfl (by kernel_rfl) (by kernel_rfl) (by kernel_rfl) (fun _ _ _ h => h) (by kernel_rfl) ?_
                simp only [Act.put, List.setIfInBounds_toArray, List.set_cons_zero, List.set_cons_succ]
                refine skip_held 18 (by assumption) rfl (by kernel_rfl) (by kernel_rfl) (by kernel_rfl) (fun _ _ _ h => h) (by kernel_rfl) ?_
                simp only [Act.put, List.setIfInBounds_toArray, List.set_cons_zero, List.set_cons_succ]
                refine skip_held 19 (by assumption) rfl (by kernel_rfl) (by kernel_rfl) (by kernel_rfl) (fun _ _ _ h => h) (by kernel_rfl) ?_
                simp only [Act.put, List.setIfInBounds_toArray, List.set_cons_zero, List.set_cons_succ]
                refine skip_held 20 (by assumption) rfl (by kernel_rfl) (by kernel_rfl) (by kernel_rfl) (fun _ _ _ h => h) (by kernel_rfl) ?_
                simp only [Act.put, List.setIfInBounds_toArray, List.set_cons_zero, List.set_cons_succ]
                refine skip_held 21 (by assumption) rfl (by kernel_rfl) (by kernel_rfl) (by kernel_rfl) (fun _ _ _ h => h) (by kernel_rfl) ?_
                simp only [Act.put, List.setIfInBounds_toArray, List.set_cons_zero, List.set_cons_succ]
                refine skip_held 22 (by assumption) rfl (by kernel_rfl) (by kernel_rfl) (by kernel_rfl) (fun _ _ _ h => h) (by kernel_rfl) ?_
                simp only [Act.put, List.setIfInBounds_toArray, List.set_cons_zero, List.set_cons_succ]
                refine skip_held 23 (by assumption) rfl (by kernel_rfl) (by kernel_rfl) (by kernel_rfl) (fun _ _ _ h => h) (by kernel_rfl) ?_
                simp only [Act.put, List.setIfInBounds_toArray, List.set_cons_zero, List.set_cons_succ]
                refine skip_held 24 (by assumption) rfl (by kernel_rfl) (by kernel_rfl) (by kernel_rfl) (fun _ _ _ h => h) (by kernel_rfl) ?_
                simp only [Act.put, List.setIfInBounds_toArray, List.set_cons_zero, List.set_cons_succ]
                refine skip_held 25 (by assumption) rfl (by kernel_rfl) (by kernel_rfl) (by kernel_rfl) (fun _ _ _ h => h) (by kernel_rfl) ?_
                simp only [Act.put, List.setIfInBounds_toArray, List.set_cons_zero, List.set_cons_succ]
                refine take_held 26 (by assumption) rfl (by kernel_rfl) (by kernel_rfl) (by kernel_rfl) (fun _ _ _ h => h) (by kernel_rfl) (v := ?v98) ?y98 ?r98
                case y98 => (intro u hu; go_simp; try rfl)
                simp only [Act.put, List.setIfInBounds_toArray, List.set_cons_zero, List.set_cons_succ]
                refine done_held (by kernel_rfl) ?_ _
                have HPz : Hid (Pg Fp W9.drew sv gs) := HPb.out.go (Below.refl _ _).drew
                have HTz : Hid (TAt Fp W9.drew b ls) := HTb.out.go (Below.refl _ _).drew
                have HBz : Hid (Below w.heap.size w W9.drew) := HBb.out.drew
                have HFz : Hid (∀ k, Fp k → w.heap.size ≤ k) := HFb.out
                clear hSb hSHb z0b z1b
                go_wp2_with fail
                go_roundw
                case measure => simp only [intOf]; omega
                case rel => exact ⟨i + 1, _, rfl, hil, HTz, HPz, HBz, HFz⟩
          · obtain ⟨i2, hi2⟩ : ∃ i2, i = i2 + 1 := ⟨i - 1, by omega⟩
            obtain ⟨g2, o2, cp2, es3, _, _, m0, m1⟩ := HPi.out.at i2 (by omega)
            have es4 := HES.out.symm.trans es3
            injection es4 with e1 e2 e3
            injection e1 with e4
            injection e4 with e5 e6
            subst e5 e6
            have hpw := List.pairwise_iff_getElem.1 HGA.out.2.1 i2 i (by omega) hil (by omega)
            obtain ⟨q1, q2, hq⟩ : ∃ q1 q2, gs[i2]'(by omega) = (q1, q2) := ⟨_, _, rfl⟩
            rw [hq] at m0 m1 hpw
            rw [HPQ.out] at hpw
            simp only at m0 m1 hpw
            have d5 : decide (p1 ≤ q2) = false := decide_eq_false (by omega)
            have dz : decide ((i : Int) > 0) = true := decide_eq_true (by omega)
            have dz2 : decide (0 < i) = true := decide_eq_true (by omega)
            have f1 : (i : Int) - 1 = (i2 : Nat) := by omega
            have hi2l : (i2 : Int) < (gs.length : Int) := by omega
            clear es3 e2 e3 hq hpw hi2 hpos
            go_wp2_with fail
            go_quiet (fail)
            obtain ⟨W8, hW8⟩ : ∃ W8, W8 = wr.drewN nq := ⟨_, rfl⟩
            have HTa : Hid (TAt Fp W8 b ls) := by unfold Hid; rw [hW8]; exact HTi.out.go (below_drewN (Below.refl _ _) _)
            have HPa : Hid (Pg Fp W8 sv gs) := by unfold Hid; rw [hW8]; exact HPi.out.go (below_drewN (Below.refl _ _) _)
            have HBa : Hid (Below w.heap.size w W8) := by unfold Hid; rw [hW8]; exact below_dn HBi.out _
            have HFa : Hid (∀ k, Fp k → w.heap.size ≤ k) := HFi.out
            rw [← hW8]
            replace c0 : W8.cell? ⟨g, o + i * 2, none⟩ = some (.int .i64 p1) := by rw [hW8]; exact c0
            replace c1 : W8.cell? ⟨g, o + i * 2 + 1, none⟩ = some (.int .i64 p2) := by rw [hW8]; exact c1
            replace lg : g < W8.heap.size := by rw [hW8]; exact lg
            clear hW8 HTi HPi HBi HFi dz dz2 d1 d5 f1 hi2l m0 m1
            have HLGa : Hid (g < W8.heap.size) := lg
            have HNGa : Hid (¬ Fp g) := ng
            obtain ⟨SHa, hSHa⟩ : ∃ S : World → Prop, S = fun u => u.heap[g]? = W8.heap[g]? := ⟨_, rfl⟩
            have hSa : SHa W8.drew := by rw [hSHa]; rfl
            have z0a : ∀ u, SHa u → u.cell? ⟨g, o + i * 2, none⟩ = some (.int .i64 p1) := fun u hu => by rw [hSHa] at hu; exact (cell_same hu).trans c0
            have z1a : ∀ u, SHa u → u.cell? ⟨g, o + i * 2 + 1, none⟩ = some (.int .i64 p2) := fun u hu => by rw [hSHa] at hu; exact (cell_same hu).trans c1
            clear c0 c1 lg ng
            by_cases hp1 : 0 < p1
            · obtain ⟨wAa, hwAa⟩ : ∃ wA, W8.drew.alloc (.cells #[.int .i64 (C : Nat), .int .i64 (p1 - 1), .int .i64 (p1 + 1)] 46) = wA := ⟨_, rfl⟩
              have SAa : SHa wAa := by rw [hSHa, ← hwAa]; exact ((Below.refl _ _).alloc (Nat.le_refl _) _ : Below W8.drew.heap.size W8.drew _).block g HLGa.out
              have cCa := claimT (u := W8.drew) (R := R) (x := ⟨(C : Nat), p1 - 1, p1 + 1⟩) (HTa.out.go (Below.refl _ _).drew) HOK.out HSM.out (by have := HLN.out; omega) (by have := HLN.out; omega) (by omega) (claim_one_taken (i := C) (by have := HLN.out; have := hC6.out; omega) HR0.out (by have := HPB.out; unfold FV; omega) (by rw [← rowOf_nat ls C (by have := HLN.out; have := hC6.out; omega), HLL.out]; exact met_at (HG.out.left (by simp only; omega)) (by simp only; omega) (by simp only; omega)))
              rw [hwAa] at cCa
              go_wp2_with fail
              refine start_held (S := SHa) 27 rfl (by kernel_rfl) (hSa) ?_
              simp only [Array.replicate_succ, Array.replicate_zero, List.push_toArray, List.nil_append, List.cons_append]
              refine take_held 0 (by assumption) rfl (by kernel_rfl) (by kernel_rfl) (by kernel_rfl) (fun _ _ _ h => h) (by kernel_rfl) (v := ?v99) ?y99 ?r99
              case y99 => (intro u hu; go_simp; try rfl)
              simp only [Act.put, List.setIfInBounds_toArray, List.set_cons_zero, List.set_cons_succ]
              refine take_held 1 (by assumption) rfl (by kernel_rfl) (by kernel_rfl) (by kernel_rfl) (fun _ _ _ h => h) (by kernel_rfl) (v := ?v100) ?y100 ?r100
              case y100 => (intro u hu; go_simp; try rfl)
              simp only [Act.put, List.setIfInBounds_toArray, List.set_cons_zero, List.set_cons_succ]
              refine take_held 2 (by assumption) rfl (by kernel_rfl) (by kernel_rfl) (by kernel_rfl) (fun _ _ _ h => h) (by kernel_rfl) (v := ?v101) ?y101 ?r101
              case y101 => (intro u hu; go_simp; try rfl)
              simp only [Act.put, List.setIfInBounds_toArray, List.set_cons_zero, List.set_cons_succ]
              refine take_held 3 (by assumption) rfl (by kernel_rfl) (by kernel_rfl) (by kernel_rfl) (fun _ _ _ h => h) (by kernel_rfl) (v := ?v102) ?y102 ?r102
              case y102 => (intro u hu; go_simp; try rfl)
              simp only [Act.put, List.setIfInBounds_toArray, List.set_cons_zero, List.set_cons_succ]
              refine take_held 4 (by assumption) rfl (by kernel_rfl) (by kernel_rfl) (by kernel_rfl) (fun _ _ _ h => h) (by kernel_rfl) (v := ?v103) ?y103 ?r103
              case y103 => (intro u hu; have zz0 := z0a u hu; go_simp; try rfl)
              simp only [Act.put, List.setIfInBounds_toArray, List.set_cons_zero, List.set_cons_succ]
              refine take_held 5 (by assumption) rfl (by kernel_rfl) (by kernel_rfl) (by kernel_rfl) (fun _ _ _ h => h) (by kernel_rfl) (v := .bool true) ?y104 ?r104
              case y104 => (intro u hu; go_simp; try simp; try omega)
              simp only [Act.put, List.setIfInBounds_toArray, List.set_cons_zero, List.set_cons_succ]
              refine take_held 6 (by assumption) rfl (by kernel_rfl) (by kernel_rfl) (by kernel_rfl) (fun _ _ _ h => h) (by kernel_rfl) (v := ?v105) ?y105 ?r105
              case y105 => (intro u hu; go_simp; try rfl)
              simp only [Act.put, List.setIfInBounds_toArray, List.set_cons_zero, List.set_cons_succ]
              refine take_held 7 (by assumption) rfl (by kernel_rfl) (by kernel_rfl) (by kernel_rfl) (fun _ _ _ h => h) (by kernel_rfl) (v := ?v106) ?y106 ?r106
              case y106 => (intro u hu; go_simp; try rfl)
              simp only [Act.put, List.setIfInBounds_toArray, List.set_cons_zero, List.set_cons_succ]
              refine take_held 8 (by assumption) rfl (by kernel_rfl) (by kernel_rfl) (by kernel_rfl) (fun _ _ _ h => h) (by kernel_rfl) (v := ?v107) ?y107 ?r107
              case y107 => (intro u hu; go_simp; try rfl)
              simp only [Act.put, List.setIfInBounds_toArray, List.set_cons_zero, List.set_cons_succ]
              refine take_held 9 (by assumption) rfl (by kernel_rfl) (by kernel_rfl) (by kernel_rfl) (fun _ _ _ h => h) (by kernel_rfl) (v := ?v108) ?y108 ?r108
              case y108 => (intro u hu; go_simp; try rfl)
              simp only [Act.put, List.setIfInBounds_toArray, List.set_cons_zero, List.set_cons_succ]
              refine take_held 10 (by assumption) rfl (by kernel_rfl) (by kernel_rfl) (by kernel_rfl) (fun _ _ _ h => h) (by kernel_rfl) (v := ?v109) ?y109 ?r109
              case y109 => (intro u hu; go_simp; try rfl)
              simp only [Act.put, List.setIfInBounds_toArray, List.set_cons_zero, List.set_cons_succ]
              refine take_held 11 (by assumption) rfl (by kernel_rfl) (by kernel_rfl) (by kernel_rfl) (fun _ _ _ h => h) (by kernel_rfl) (v := ?v110) ?y110 ?r110
              case y110 => (intro u hu; go_simp; try rfl)
              simp only [Act.put, List.setIfInBounds_toArray, List.set_cons_zero, List.set_cons_succ]
              refine take_held 12 (by assumption) rfl (by kernel_rfl) (by kernel_rfl) (by kernel_rfl) (fun _ _ _ h => h) (by kernel_rfl) (v := ?v111) ?y111 ?r111
              case y111 => (intro u hu; go_simp; try rfl)
              simp only [Act.put, List.setIfInBounds_toArray, List.set_cons_zero, List.set_cons_succ]
              refine take_held 13 (by assumption) rfl (by kernel_rfl) (by kernel_rfl) (by kernel_rfl) (fun _ _ _ h => h) (by kernel_rfl) (v := ?v112) ?y112 ?r112
              case y112 => (intro u hu; go_simp; try rfl)
              simp only [Act.put, List.setIfInBounds_toArray, List.set_cons_zero, List.set_cons_succ]
              refine take_held 14 (by assumption) rfl (by kernel_rfl) (by kernel_rfl) (by kernel_rfl) (fun _ _ _ h => h) (by kernel_rfl) (v := ?v113) ?y113 ?r113
              case y113 => (intro u hu; have zz0 := z0a u hu; go_simp; try rfl)
              simp only [Act.put, List.setIfInBounds_toArray, List.set_cons_zero, List.set_cons_succ]
              refine take_held 15 (by assumption) rfl (by kernel_rfl) (by kernel_rfl) (by kernel_rfl) (fun _ _ _ h => h) (by kernel_rfl) (v := .int .i64 (p1 - 1)) ?y114 ?r114
              case y114 => (intro u hu; have hw : IntKind.i64.wrap (p1 - 1) = p1 - 1 := (by rw [IntKind.wrap_i64]; have := HPB.out; omega); go_simp; try rw [hw]; try rfl)
              simp only [Act.put, List.setIfInBounds_toArray, List.set_cons_zero, List.set_cons_succ]
              refine take_held 16 (by assumption) rfl (by kernel_rfl) (by kernel_rfl) (by kernel_rfl) (fun _ _ _ h => h) (by kernel_rfl) (v := ?v115) ?y115 ?r115
              case y115 => (intro u hu; go_simp; try rfl)
              simp only [Act.put, List.setIfInBounds_toArray, List.set_cons_zero, List.set_cons_succ]
              refine take_held 17 (by assumption) rfl (by kernel_rfl) (by kernel_rfl) (by kernel_rfl) (fun _ _ _ h => h) (by kernel_rfl) (v := ?v116) ?y116 ?r116
              case y116 => (intro u hu; go_simp; try rfl)
              simp only [Act.put, List.setIfInBounds_toArray, List.set_cons_zero, List.set_cons_succ]
              refine take_held 18 (by assumption) rfl (by kernel_rfl) (by kernel_rfl) (by kernel_rfl) (fun _ _ _ h => h) (by kernel_rfl) (v := ?v117) ?y117 ?r117
              case y117 => (intro u hu; go_simp; try rfl)
              simp only [Act.put, List.setIfInBounds_toArray, List.set_cons_zero, List.set_cons_succ]
              refine take_held 19 (by assumption) rfl (by kernel_rfl) (by kernel_rfl) (by kernel_rfl) (fun _ _ _ h => h) (by kernel_rfl) (v := ?v118) ?y118 ?r118
              case y118 => (intro u hu; go_simp; try rfl)
              simp only [Act.put, List.setIfInBounds_toArray, List.set_cons_zero, List.set_cons_succ]
              refine take_held 20 (by assumption) rfl (by kernel_rfl) (by kernel_rfl) (by kernel_rfl) (fun _ _ _ h => h) (by kernel_rfl) (v := ?v119) ?y119 ?r119
              case y119 => (intro u hu; have zz0 := z0a u hu; go_simp; try rfl)
              simp only [Act.put, List.setIfInBounds_toArray, List.set_cons_zero, List.set_cons_succ]
              refine take_held 21 (by assumption) rfl (by kernel_rfl) (by kernel_rfl) (by kernel_rfl) (fun _ _ _ h => h) (by kernel_rfl) (v := .int .i64 (p1 + 1)) ?y120 ?r120
              case y120 => (intro u hu; have hw : IntKind.i64.wrap (p1 + 1) = p1 + 1 := (by rw [IntKind.wrap_i64]; have := HPB.out; omega); go_simp; try rw [hw]; try rfl)
              simp only [Act.put, List.setIfInBounds_toArray, List.set_cons_zero, List.set_cons_succ]
              refine take_held 22 (by assumption) rfl (by kernel_rfl) (by kernel_rfl) (by kernel_rfl) (fun _ _ _ h => h) (by kernel_rfl) (v := ?v121) ?y121 ?r121
              case y121 => (intro u hu; go_simp; try rfl)
              simp only [Act.put, List.setIfInBounds_toArray, List.set_cons_zero, List.set_cons_succ]
              refine wpAnyH_ready (rs := [23]) (by kernel_rfl) (by simp) (AllReadyH.cons ((nth_eq _ 23).trans rfl) ?_ AllReadyH.nil)
              intro K' hK
              refine value_in hK (by kernel_rfl) (.slice (some ⟨W8.heap.size, 0, none⟩) 1 1) (wAa) (by rw [← hwAa]; go_simp; try rfl) (SAa) ?_
              simp only [Act.put, List.setIfInBounds_toArray, List.set_cons_zero, List.set_cons_succ]
              refine wpAnyH_ready (rs := [24]) (by kernel_rfl) (by simp) (AllReadyH.cons ((nth_eq _ 24).trans rfl) ?_ AllReadyH.nil)
              intro K' hK
              refine call_in hK (by kernel_rfl) 19 #[.pointer (some ⟨b, 0, none⟩), .int .i64 R, .slice (some ⟨W8.heap.size, 0, none⟩) 1 1] (by go_simp) _ (cCa) ?_
              rintro v wCa ⟨rfl, Fa, Ta, tCa⟩
              have SCa : SHa wCa := by rw [hSHa]; exact (tCa.block g HLGa.out HNGa.out)
              refine ⟨SCa, ?_⟩
              simp only [Act.put, List.setIfInBounds_toArray, List.set_cons_zero, List.set_cons_succ]
              refine take_held 25 (by assumption) rfl (by kernel_rfl) (by kernel_rfl) (by kernel_rfl) (fun _ _ _ h => h) (by kernel_rfl) (v := ?v122) ?y122 ?r122
              case y122 => (intro u hu; go_simp; try rfl)
              simp only [Act.put, List.setIfInBounds_toArray, List.set_cons_zero, List.set_cons_succ]
              refine take_held 26 (by assumption) rfl (by kernel_rfl) (by kernel_rfl) (by kernel_rfl) (fun _ _ _ h => h) (by kernel_rfl) (v := ?v123) ?y123 ?r123
              case y123 => (intro u hu; go_simp; try rfl)
              simp only [Act.put, List.setIfInBounds_toArray, List.set_cons_zero, List.set_cons_succ]
              refine done_held (by kernel_rfl) ?_ _
              have HPz : Hid (Pg Fa wCa sv gs) := HPa.out.turn ((Tn.below (Below.refl _ _).drew).trans tCa)
              obtain ⟨DB, DF⟩ := tCa.past (Below.drew HBa.out) HFa.out
              have HTz : Hid (TAt Fa wCa b ls) := Ta
              have HBz : Hid (Below w.heap.size w wCa) := DB
              have HFz : Hid (∀ k, Fa k → w.heap.size ≤ k) := DF
              clear cCa SAa SCa tCa Ta DB DF hSa hSHa z0a z1a hwAa
              obtain ⟨W9, hW9⟩ : ∃ W9, W9 = wCa := ⟨_, rfl⟩
              rw [← hW9] at HTz HPz HBz ⊢
              clear hW9
              have HTb : Hid (TAt Fa W9 b ls) := HTz.out
              have HPb : Hid (Pg Fa W9 sv gs) := HPz.out
              have HBb : Hid (Below w.heap.size w W9) := HBz.out
              have HFb : Hid (∀ k, Fa k → w.heap.size ≤ k) := HFz.out
              clear HTz HPz HBz HFz HTa HPa HBa HFa
              obtain ⟨g', o', cp', es', lg, ng, c0, c1⟩ := HPb.out.at i hil
              have es2 := HSV.out.symm.trans es'
              injection es2 with e1 e2 e3
              injection e1 with e4
              injection e4 with e5 e6
              subst e5 e6
              rw [HPQ.out] at c0 c1
              simp only at c0 c1
              clear es' e3 e2
              have HLGb : Hid (g < W9.heap.size) := lg
              have HNGb : Hid (¬ Fa g) := ng
              obtain ⟨SHb, hSHb⟩ : ∃ S : World → Prop, S = fun u => u.heap[g]? = W9.heap[g]? := ⟨_, rfl⟩
              have hSb : SHb W9.drew := by rw [hSHb]; rfl
              have z0b : ∀ u, SHb u → u.cell? ⟨g, o + i * 2, none⟩ = some (.int .i64 p1) := fun u hu => by rw [hSHb] at hu; exact (cell_same hu).trans c0
              have z1b : ∀ u, SHb u → u.cell? ⟨g, o + i * 2 + 1, none⟩ = some (.int .i64 p2) := fun u hu => by rw [hSHb] at hu; exact (cell_same hu).trans c1
              clear c0 c1 lg ng
              by_cases hp2 : p2 < 4611686018427387904
              · obtain ⟨wAb, hwAb⟩ : ∃ wA, W9.drew.alloc (.cells #[.int .i64 (C : Nat), .int .i64 (p2 - 1), .int .i64 (p2 + 1)] 46) = wA := ⟨_, rfl⟩
                have SAb : SHb wAb := by rw [hSHb, ← hwAb]; exact ((Below.refl _ _).alloc (Nat.le_refl _) _ : Below W9.drew.heap.size W9.drew _).block g HLGb.out
                have cCb := claimT (u := W9.drew) (R := R) (x := ⟨(C : Nat), p2 - 1, p2 + 1⟩) (HTb.out.go (Below.refl _ _).drew) HOK.out HSM.out (by have := HLN.out; omega) (by have := HLN.out; omega) (by omega) (claim_one_taken (i := C) (by have := HLN.out; have := hC6.out; omega) HR0.out (by have := HPB.out; unfold FV; omega) (by rw [← rowOf_nat ls C (by have := HLN.out; have := hC6.out; omega), HLL.out]; exact met_at (HG.out.right (by unfold FV; exact hp2)) (by simp only; omega) (by simp only; omega)))
                rw [hwAb] at cCb
                go_wp2_with fail
                refine start_held (S := SHb) 27 rfl (by kernel_rfl) (hSb) ?_
                simp only [Array.replicate_succ, Array.replicate_zero, List.push_toArray, List.nil_append, List.cons_append]
                refine take_held 0 (by assumption) rfl (by kernel_rfl) (by kernel_rfl) (by kernel_rfl) (fun _ _ _ h => h) (by kernel_rfl) (v := ?v124) ?y124 ?r124
                case y124 => (intro u hu; go_simp; try rfl)
                simp only [Act.put, List.setIfInBounds_toArray, List.set_cons_zero, List.set_cons_succ]
                refine take_held 1 (by assumption) rfl (by kernel_rfl) (by kernel_rfl) (by kernel_rfl) (fun _ _ _ h => h) (by kernel_rfl) (v := ?v125) ?y125 ?r125
                case y125 => (intro u hu; go_simp; try rfl)
                simp only [Act.put, List.setIfInBounds_toArray, List.set_cons_zero, List.set_cons_succ]
                refine take_held 2 (by assumption) rfl (by kernel_rfl) (by kernel_rfl) (by kernel_rfl) (fun _ _ _ h => h) (by kernel_rfl) (v := ?v126) ?y126 ?r126
                case y126 => (intro u hu; go_simp; try rfl)
                simp only [Act.put, List.setIfInBounds_toArray, List.set_cons_zero, List.set_cons_succ]
                refine take_held 3 (by assumption) rfl (by kernel_rfl) (by kernel_rfl) (by kernel_rfl) (fun _ _ _ h => h) (by kernel_rfl) (v := ?v127) ?y127 ?r127
                case y127 => (intro u hu; go_simp; try rfl)
                simp only [Act.put, List.setIfInBounds_toArray, List.set_cons_zero, List.set_cons_succ]
                refine take_held 4 (by assumption) rfl (by kernel_rfl) (by kernel_rfl) (by kernel_rfl) (fun _ _ _ h => h) (by kernel_rfl) (v := ?v128) ?y128 ?r128
                case y128 => (intro u hu; have zz0 := z1b u hu; go_simp; try rfl)
                simp only [Act.put, List.setIfInBounds_toArray, List.set_cons_zero, List.set_cons_succ]
                refine take_held 5 (by assumption) rfl (by kernel_rfl) (by kernel_rfl) (by kernel_rfl) (fun _ _ _ h => h) (by kernel_rfl) (v := .bool true) ?y129 ?r129
                case y129 => (intro u hu; go_simp; try simp; try omega)
                simp only [Act.put, List.setIfInBounds_toArray, List.set_cons_zero, List.set_cons_succ]
                refine take_held 6 (by assumption) rfl (by kernel_rfl) (by kernel_rfl) (by kernel_rfl) (fun _ _ _ h => h) (by kernel_rfl) (v := ?v130) ?y130 ?r130
                case y130 => (intro u hu; go_simp; try rfl)
                simp only [Act.put, List.setIfInBounds_toArray, List.set_cons_zero, List.set_cons_succ]
                refine take_held 7 (by assumption) rfl (by kernel_rfl) (by kernel_rfl) (by kernel_rfl) (fun _ _ _ h => h) (by kernel_rfl) (v := ?v131) ?y131 ?r131
                case y131 => (intro u hu; go_simp; try rfl)
                simp only [Act.put, List.setIfInBounds_toArray, List.set_cons_zero, List.set_cons_succ]
                refine take_held 8 (by assumption) rfl (by kernel_rfl) (by kernel_rfl) (by kernel_rfl) (fun _ _ _ h => h) (by kernel_rfl) (v := ?v132) ?y132 ?r132
                case y132 => (intro u hu; go_simp; try rfl)
                simp only [Act.put, List.setIfInBounds_toArray, List.set_cons_zero, List.set_cons_succ]
                refine take_held 9 (by assumption) rfl (by kernel_rfl) (by kernel_rfl) (by kernel_rfl) (fun _ _ _ h => h) (by kernel_rfl) (v := ?v133) ?y133 ?r133
                case y133 => (intro u hu; go_simp; try rfl)
                simp only [Act.put, List.setIfInBounds_toArray, List.set_cons_zero, List.set_cons_succ]
                refine take_held 10 (by assumption) rfl (by kernel_rfl) (by kernel_rfl) (by kernel_rfl) (fun _ _ _ h => h) (by kernel_rfl) (v := ?v134) ?y134 ?r134
                case y134 => (intro u hu; go_simp; try rfl)
                simp only [Act.put, List.setIfInBounds_toArray, List.set_cons_zero, List.set_cons_succ]
                refine take_held 11 (by assumption) rfl (by kernel_rfl) (by kernel_rfl) (by kernel_rfl) (fun _ _ _ h => h) (by kernel_rfl) (v := ?v135) ?y135 ?r135
                case y135 => (intro u hu; go_simp; try rfl)
                simp only [Act.put, List.setIfInBounds_toArray, List.set_cons_zero, List.set_cons_succ]
                refine take_held 12 (by assumption) rfl (by kernel_rfl) (by kernel_rfl) (by kernel_rfl) (fun _ _ _ h => h) (by kernel_rfl) (v := ?v136) ?y136 ?r136
                case y136 => (intro u hu; go_simp; try rfl)
                simp only [Act.put, List.setIfInBounds_toArray, List.set_cons_zero, List.set_cons_succ]
                refine take_held 13 (by assumption) rfl (by kernel_rfl) (by kernel_rfl) (by kernel_rfl) (fun _ _ _ h => h) (by kernel_rfl) (v := ?v137) ?y137 ?r137
                case y137 => (intro u hu; go_simp; try rfl)
                simp only [Act.put, List.setIfInBounds_toArray, List.set_cons_zero, List.set_cons_succ]
                refine take_held 14 (by assumption) rfl (by kernel_rfl) (by kernel_rfl) (by kernel_rfl) (fun _ _ _ h => h) (by kernel_rfl) (v := ?v138) ?y138 ?r138
                case y138 => (intro u hu; have zz0 := z1b u hu; go_simp; try rfl)
                simp only [Act.put, List.setIfInBounds_toArray, List.set_cons_zero, List.set_cons_succ]
                refine take_held 15 (by assumption) rfl (by kernel_rfl) (by kernel_rfl) (by kernel_rfl) (fun _ _ _ h => h) (by kernel_rfl) (v := .int .i64 (p2 - 1)) ?y139 ?r139
                case y139 => (intro u hu; have hw : IntKind.i64.wrap (p2 - 1) = p2 - 1 := (by rw [IntKind.wrap_i64]; have := HPB.out; omega); go_simp; try rw [hw]; try rfl)
                simp only [Act.put, List.setIfInBounds_toArray, List.set_cons_zero, List.set_cons_succ]
                refine take_held 16 (by assumption) rfl (by kernel_rfl) (by kernel_rfl) (by kernel_rfl) (fun _ _ _ h => h) (by kernel_rfl) (v := ?v140) ?y140 ?r140
                case y140 => (intro u hu; go_simp; try rfl)
                simp only [Act.put, List.setIfInBounds_toArray, List.set_cons_zero, List.set_cons_succ]
                refine take_held 17 (by assumption) rfl (by kernel_rfl) (by kernel_rfl) (by kernel_rfl) (fun _ _ _ h => h) (by kernel_rfl) (v := ?v141) ?y141 ?r141
                case y141 => (intro u hu; go_simp; try rfl)
                simp only [Act.put, List.setIfInBounds_toArray, List.set_cons_zero, List.set_cons_succ]
                refine take_held 18 (by assumption) rfl (by kernel_rfl) (by kernel_rfl) (by kernel_rfl) (fun _ _ _ h => h) (by kernel_rfl) (v := ?v142) ?y142 ?r142
                case y142 => (intro u hu; go_simp; try rfl)
                simp only [Act.put, List.setIfInBounds_toArray, List.set_cons_zero, List.set_cons_succ]
                refine take_held 19 (by assumption) rfl (by kernel_rfl) (by kernel_rfl) (by kernel_rfl) (fun _ _ _ h => h) (by kernel_rfl) (v := ?v143) ?y143 ?r143
                case y143 => (intro u hu; go_simp; try rfl)
                simp only [Act.put, List.setIfInBounds_toArray, List.set_cons_zero, List.set_cons_succ]
                refine take_held 20 (by assumption) rfl (by kernel_rfl) (by kernel_rfl) (by kernel_rfl) (fun _ _ _ h => h) (by kernel_rfl) (v := ?v144) ?y144 ?r144
                case y144 => (intro u hu; have zz0 := z1b u hu; go_simp; try rfl)
                simp only [Act.put, List.setIfInBounds_toArray, List.set_cons_zero, List.set_cons_succ]
                refine take_held 21 (by assumption) rfl (by kernel_rfl) (by kernel_rfl) (by kernel_rfl) (fun _ _ _ h => h) (by kernel_rfl) (v := .int .i64 (p2 + 1)) ?y145 ?r145
                case y145 => (intro u hu; have hw : IntKind.i64.wrap (p2 + 1) = p2 + 1 := (by rw [IntKind.wrap_i64]; have := HPB.out; omega); go_simp; try rw [hw]; try rfl)
                simp only [Act.put, List.setIfInBounds_toArray, List.set_cons_zero, List.set_cons_succ]
                refine take_held 22 (by assumption) rfl (by kernel_rfl) (by kernel_rfl) (by kernel_rfl) (fun _ _ _ h => h) (by kernel_rfl) (v := ?v146) ?y146 ?r146
                case y146 => (intro u hu; go_simp; try rfl)
                simp only [Act.put, List.setIfInBounds_toArray, List.set_cons_zero, List.set_cons_succ]
                refine wpAnyH_ready (rs := [23]) (by kernel_rfl) (by simp) (AllReadyH.cons ((nth_eq _ 23).trans rfl) ?_ AllReadyH.nil)
                intro K' hK
                refine value_in hK (by kernel_rfl) (.slice (some ⟨W9.heap.size, 0, none⟩) 1 1) (wAb) (by rw [← hwAb]; go_simp; try rfl) (SAb) ?_
                simp only [Act.put, List.setIfInBounds_toArray, List.set_cons_zero, List.set_cons_succ]
                refine wpAnyH_ready (rs := [24]) (by kernel_rfl) (by simp) (AllReadyH.cons ((nth_eq _ 24).trans rfl) ?_ AllReadyH.nil)
                intro K' hK
                refine call_in hK (by kernel_rfl) 19 #[.pointer (some ⟨b, 0, none⟩), .int .i64 R, .slice (some ⟨W9.heap.size, 0, none⟩) 1 1] (by go_simp) _ (cCb) ?_
                rintro v wCb ⟨rfl, Fb, Tb, tCb⟩
                have SCb : SHb wCb := by rw [hSHb]; exact (tCb.block g HLGb.out HNGb.out)
                refine ⟨SCb, ?_⟩
                simp only [Act.put, List.setIfInBounds_toArray, List.set_cons_zero, List.set_cons_succ]
                refine take_held 25 (by assumption) rfl (by kernel_rfl) (by kernel_rfl) (by kernel_rfl) (fun _ _ _ h => h) (by kernel_rfl) (v := ?v147) ?y147 ?r147
                case y147 => (intro u hu; go_simp; try rfl)
                simp only [Act.put, List.setIfInBounds_toArray, List.set_cons_zero, List.set_cons_succ]
                refine take_held 26 (by assumption) rfl (by kernel_rfl) (by kernel_rfl) (by kernel_rfl) (fun _ _ _ h => h) (by kernel_rfl) (v := ?v148) ?y148 ?r148
                case y148 => (intro u hu; go_simp; try rfl)
                simp only [Act.put, List.setIfInBounds_toArray, List.set_cons_zero, List.set_cons_succ]
                refine done_held (by kernel_rfl) ?_ _
                have HPz : Hid (Pg Fb wCb sv gs) := HPb.out.turn ((Tn.below (Below.refl _ _).drew).trans tCb)
                obtain ⟨DB, DF⟩ := tCb.past (Below.drew HBb.out) HFb.out
                have HTz : Hid (TAt Fb wCb b ls) := Tb
                have HBz : Hid (Below w.heap.size w wCb) := DB
                have HFz : Hid (∀ k, Fb k → w.heap.size ≤ k) := DF
                clear cCb SAb SCb tCb Tb DB DF hSb hSHb z0b z1b hwAb
                go_wp2_with fail
                go_roundw
                case measure => simp only [intOf]; omega
                case rel => exact ⟨i + 1, _, rfl, hil, HTz, HPz, HBz, HFz⟩
              · go_wp2_with fail
                refine start_held (S := SHb) 27 rfl (by kernel_rfl) (hSb) ?_
                simp only [Array.replicate_succ, Array.replicate_zero, List.push_toArray, List.nil_append, List.cons_append]
                refine take_held 0 (by assumption) rfl (by kernel_rfl) (by kernel_rfl) (by kernel_rfl) (fun _ _ _ h => h) (by kernel_rfl) (v := ?v149) ?y149 ?r149
                case y149 => (intro u hu; go_simp; try rfl)
                simp only [Act.put, List.setIfInBounds_toArray, List.set_cons_zero, List.set_cons_succ]
                refine take_held 1 (by assumption) rfl (by kernel_rfl) (by kernel_rfl) (by kernel_rfl) (fun _ _ _ h => h) (by kernel_rfl) (v := ?v150) ?y150 ?r150
                case y150 => (intro u hu; go_simp; try rfl)
                simp only [Act.put, List.setIfInBounds_toArray, List.set_cons_zero, List.set_cons_succ]
                refine take_held 2 (by assumption) rfl (by kernel_rfl) (by kernel_rfl) (by kernel_rfl) (fun _ _ _ h => h) (by kernel_rfl) (v := ?v151) ?y151 ?r151
                case y151 => (intro u hu; go_simp; try rfl)
                simp only [Act.put, List.setIfInBounds_toArray, List.set_cons_zero, List.set_cons_succ]
                refine take_held 3 (by assumption) rfl (by kernel_rfl) (by kernel_rfl) (by kernel_rfl) (fun _ _ _ h => h) (by kernel_rfl) (v := ?v152) ?y152 ?r152
                case y152 => (intro u hu; go_simp; try rfl)
                simp only [Act.put, List.setIfInBounds_toArray, List.set_cons_zero, List.set_cons_succ]
                refine take_held 4 (by assumption) rfl (by kernel_rfl) (by kernel_rfl) (by kernel_rfl) (fun _ _ _ h => h) (by kernel_rfl) (v := ?v153) ?y153 ?r153
                case y153 => (intro u hu; have zz0 := z1b u hu; go_simp; try rfl)
                simp only [Act.put, List.setIfInBounds_toArray, List.set_cons_zero, List.set_cons_succ]
                refine take_held 5 (by assumption) rfl (by kernel_rfl) (by kernel_rfl) (by kernel_rfl) (fun _ _ _ h => h) (by kernel_rfl) (v := .bool false) ?y154 ?r154
                case y154 => (intro u hu; go_simp; try simp; try omega)
                simp only [Act.put, List.setIfInBounds_toArray, List.set_cons_zero, List.set_cons_succ]
                refine take_held 6 (by assumption) rfl (by kernel_rfl) (by kernel_rfl) (by kernel_rfl) (fun _ _ _ h => h) (by kernel_rfl) (v := ?v155) ?y155 ?r155
                case y155 => (intro u hu; go_simp; try rfl)
                simp only [Act.put, List.setIfInBounds_toArray, List.set_cons_zero, List.set_cons_succ]
                refine skip_held 7 (by assumption) rfl (by kernel_rfl) (by kernel_rfl) (by kernel_rfl) (fun _ _ _ h => h) (by kernel_rfl) ?_
                simp only [Act.put, List.setIfInBounds_toArray, List.set_cons_zero, List.set_cons_succ]
                refine skip_held 8 (by assumption) rfl (by kernel_rfl) (by kernel_rfl) (by kernel_rfl) (fun _ _ _ h => h) (by kernel_rfl) ?_
                simp only [Act.put, List.setIfInBounds_toArray, List.set_cons_zero, List.set_cons_succ]
                refine skip_held 9 (by assumption) rfl (by kernel_rfl) (by kernel_rfl) (by kernel_rfl) (fun _ _ _ h => h) (by kernel_rfl) ?_
                simp only [Act.put, List.setIfInBounds_toArray, List.set_cons_zero, List.set_cons_succ]
                refine skip_held 10 (by assumption) rfl (by kernel_rfl) (by kernel_rfl) (by kernel_rfl) (fun _ _ _ h => h) (by kernel_rfl) ?_
                simp only [Act.put, List.setIfInBounds_toArray, List.set_cons_zero, List.set_cons_succ]
                refine skip_held 11 (by assumption) rfl (by kernel_rfl) (by kernel_rfl) (by kernel_rfl) (fun _ _ _ h => h) (by kernel_rfl) ?_
                simp only [Act.put, List.setIfInBounds_toArray, List.set_cons_zero, List.set_cons_succ]
                refine skip_held 12 (by assumption) rfl (by kernel_rfl) (by kernel_rfl) (by kernel_rfl) (fun _ _ _ h => h) (by kernel_rfl) ?_
                simp only [Act.put, List.setIfInBounds_toArray, List.set_cons_zero, List.set_cons_succ]
                refine skip_held 13 (by assumption) rfl (by kernel_rfl) (by kernel_rfl) (by kernel_rfl) (fun _ _ _ h => h) (by kernel_rfl) ?_
                simp only [Act.put, List.setIfInBounds_toArray, List.set_cons_zero, List.set_cons_succ]
                refine skip_held 14 (by assumption) rfl (by kernel_rfl) (by kernel_rfl) (by kernel_rfl) (fun _ _ _ h => h) (by kernel_rfl) ?_
                simp only [Act.put, List.setIfInBounds_toArray, List.set_cons_zero, List.set_cons_succ]
                refine skip_held 15 (by assumption) rfl (by kernel_rfl) (by kernel_rfl) (by kernel_rfl) (fun _ _ _ h => h) (by kernel_rfl) ?_
                simp only [Act.put, List.setIfInBounds_toArray, List.set_cons_zero, List.set_cons_succ]
                refine skip_held 16 (by assumption) rfl (by kernel_rfl) (by kernel_rfl) (by kernel_rfl) (fun _ _ _ h => h) (by kernel_rfl) ?_
                simp only [Act.put, List.setIfInBounds_toArray, List.set_cons_zero, List.set_cons_succ]
                refine skip_held 17 (by assumption) rfl (by kernel_rfl) (by kernel_rfl) (by kernel_rfl) (fun _ _ _ h => h) (by kernel_rfl) ?_
                simp only [Act.put, List.setIfInBounds_toArray, List.set_cons_zero, List.set_cons_succ]
                refine skip_held 18 (by assumption) rfl (by kernel_rfl) (by kernel_rfl) (by kernel_rfl) (fun _ _ _ h => h) (by kernel_rfl) ?_
                simp only [Act.put, List.setIfInBounds_toArray, List.set_cons_zero, List.set_cons_succ]
                refine skip_held 19 (by assumption) rfl (by kernel_rfl) (by kernel_rfl) (by kernel_rfl) (fun _ _ _ h => h) (by kernel_rfl) ?_
                simp only [Act.put, List.setIfInBounds_toArray, List.set_cons_zero, List.set_cons_succ]
                refine skip_held 20 (by assumption) rfl (by kernel_rfl) (by kernel_rfl) (by kernel_rfl) (fun _ _ _ h => h) (by kernel_rfl) ?_
                simp only [Act.put, List.setIfInBounds_toArray, List.set_cons_zero, List.set_cons_succ]
                refine skip_held 21 (by assumption) rfl (by kernel_rfl) (by kernel_rfl) (by kernel_rfl) (fun _ _ _ h => h) (by kernel_rfl) ?_
                simp only [Act.put, List.setIfInBounds_toArray, List.set_cons_zero, List.set_cons_succ]
                refine skip_held 22 (by assumption) rfl (by kernel_rfl) (by kernel_rfl) (by kernel_rfl) (fun _ _ _ h => h) (by kernel_rfl) ?_
                simp only [Act.put, List.setIfInBounds_toArray, List.set_cons_zero, List.set_cons_succ]
                refine skip_held 23 (by assumption) rfl (by kernel_rfl) (by kernel_rfl) (by kernel_rfl) (fun _ _ _ h => h) (by kernel_rfl) ?_
                simp only [Act.put, List.setIfInBounds_toArray, List.set_cons_zero, List.set_cons_succ]
                refine skip_held 24 (by assumption) rfl (by kernel_rfl) (by kernel_rfl) (by kernel_rfl) (fun _ _ _ h => h) (by kernel_rfl) ?_
                simp only [Act.put, List.setIfInBounds_toArray, List.set_cons_zero, List.set_cons_succ]
                refine skip_held 25 (by assumption) rfl (by kernel_rfl) (by kernel_rfl) (by kernel_rfl) (fun _ _ _ h => h) (by kernel_rfl) ?_
                simp only [Act.put, List.setIfInBounds_toArray, List.set_cons_zero, List.set_cons_succ]
                refine take_held 26 (by assumption) rfl (by kernel_rfl) (by kernel_rfl) (by kernel_rfl) (fun _ _ _ h => h) (by kernel_rfl) (v := ?v156) ?y156 ?r156
                case y156 => (intro u hu; go_simp; try rfl)
                simp only [Act.put, List.setIfInBounds_toArray, List.set_cons_zero, List.set_cons_succ]
                refine done_held (by kernel_rfl) ?_ _
                have HPz : Hid (Pg Fa W9.drew sv gs) := HPb.out.go (Below.refl _ _).drew
                have HTz : Hid (TAt Fa W9.drew b ls) := HTb.out.go (Below.refl _ _).drew
                have HBz : Hid (Below w.heap.size w W9.drew) := HBb.out.drew
                have HFz : Hid (∀ k, Fa k → w.heap.size ≤ k) := HFb.out
                clear hSb hSHb z0b z1b
                go_wp2_with fail
                go_roundw
                case measure => simp only [intOf]; omega
                case rel => exact ⟨i + 1, _, rfl, hil, HTz, HPz, HBz, HFz⟩
            · have hp1z : p1 = 0 := by have := HG.out.low; simp only at this; omega
              go_wp2_with fail
              refine start_held (S := SHa) 27 rfl (by kernel_rfl) (hSa) ?_
              simp only [Array.replicate_succ, Array.replicate_zero, List.push_toArray, List.nil_append, List.cons_append]
              refine take_held 0 (by assumption) rfl (by kernel_rfl) (by kernel_rfl) (by kernel_rfl) (fun _ _ _ h => h) (by kernel_rfl) (v := ?v157) ?y157 ?r157
              case y157 => (intro u hu; go_simp; try rfl)
              simp only [Act.put, List.setIfInBounds_toArray, List.set_cons_zero, List.set_cons_succ]
              refine take_held 1 (by assumption) rfl (by kernel_rfl) (by kernel_rfl) (by kernel_rfl) (fun _ _ _ h => h) (by kernel_rfl) (v := ?v158) ?y158 ?r158
              case y158 => (intro u hu; go_simp; try rfl)
              simp only [Act.put, List.setIfInBounds_toArray, List.set_cons_zero, List.set_cons_succ]
              refine take_held 2 (by assumption) rfl (by kernel_rfl) (by kernel_rfl) (by kernel_rfl) (fun _ _ _ h => h) (by kernel_rfl) (v := ?v159) ?y159 ?r159
              case y159 => (intro u hu; go_simp; try rfl)
              simp only [Act.put, List.setIfInBounds_toArray, List.set_cons_zero, List.set_cons_succ]
              refine take_held 3 (by assumption) rfl (by kernel_rfl) (by kernel_rfl) (by kernel_rfl) (fun _ _ _ h => h) (by kernel_rfl) (v := ?v160) ?y160 ?r160
              case y160 => (intro u hu; go_simp; try rfl)
              simp only [Act.put, List.setIfInBounds_toArray, List.set_cons_zero, List.set_cons_succ]
              refine take_held 4 (by assumption) rfl (by kernel_rfl) (by kernel_rfl) (by kernel_rfl) (fun _ _ _ h => h) (by kernel_rfl) (v := ?v161) ?y161 ?r161
              case y161 => (intro u hu; have zz0 := z0a u hu; go_simp; try rfl)
              simp only [Act.put, List.setIfInBounds_toArray, List.set_cons_zero, List.set_cons_succ]
              refine take_held 5 (by assumption) rfl (by kernel_rfl) (by kernel_rfl) (by kernel_rfl) (fun _ _ _ h => h) (by kernel_rfl) (v := .bool false) ?y162 ?r162
              case y162 => (intro u hu; go_simp; try simp; try omega)
              simp only [Act.put, List.setIfInBounds_toArray, List.set_cons_zero, List.set_cons_succ]
              refine take_held 6 (by assumption) rfl (by kernel_rfl) (by kernel_rfl) (by kernel_rfl) (fun _ _ _ h => h) (by kernel_rfl) (v := ?v163) ?y163 ?r163
              case y163 => (intro u hu; go_simp; try rfl)
              simp only [Act.put, List.setIfInBounds_toArray, List.set_cons_zero, List.set_cons_succ]
              refine skip_held 7 (by assumption) rfl (by kernel_rfl) (by kernel_rfl) (by kernel_rfl) (fun _ _ _ h => h) (by kernel_rfl) ?_
              simp only [Act.put, List.setIfInBounds_toArray, List.set_cons_zero, List.set_cons_succ]
              refine skip_held 8 (by assumption) rfl (by kernel_rfl) (by kernel_rfl) (by kernel_rfl) (fun _ _ _ h => h) (by kernel_rfl) ?_
              simp only [Act.put, List.setIfInBounds_toArray, List.set_cons_zero, List.set_cons_succ]
              refine skip_held 9 (by assumption) rfl (by kernel_rfl) (by kernel_rfl) (by kernel_rfl) (fun _ _ _ h => h) (by kernel_rfl) ?_
              simp only [Act.put, List.setIfInBounds_toArray, List.set_cons_zero, List.set_cons_succ]
              refine skip_held 10 (by assumption) rfl (by kernel_rfl) (by kernel_rfl) (by kernel_rfl) (fun _ _ _ h => h) (by kernel_rfl) ?_
              simp only [Act.put, List.setIfInBounds_toArray, List.set_cons_zero, List.set_cons_succ]
              refine skip_held 11 (by assumption) rfl (by kernel_rfl) (by kernel_rfl) (by kernel_rfl) (fun _ _ _ h => h) (by kernel_rfl) ?_
              simp only [Act.put, List.setIfInBounds_toArray, List.set_cons_zero, List.set_cons_succ]
              refine skip_held 12 (by assumption) rfl (by kernel_rfl) (by kernel_rfl) (by kernel_rfl) (fun _ _ _ h => h) (by kernel_rfl) ?_
              simp only [Act.put, List.setIfInBounds_toArray, List.set_cons_zero, List.set_cons_succ]
              refine skip_held 13 (by assumption) rfl (by kernel_rfl) (by kernel_rfl) (by kernel_rfl) (fun _ _ _ h => h) (by kernel_rfl) ?_
              simp only [Act.put, List.setIfInBounds_toArray, List.set_cons_zero, List.set_cons_succ]
              refine skip_held 14 (by assumption) rfl (by kernel_rfl) (by kernel_rfl) (by kernel_rfl) (fun _ _ _ h => h) (by kernel_rfl) ?_
              simp only [Act.put, List.setIfInBounds_toArray, List.set_cons_zero, List.set_cons_succ]
              refine skip_held 15 (by assumption) rfl (by kernel_rfl) (by kernel_rfl) (by kernel_rfl) (fun _ _ _ h => h) (by kernel_rfl) ?_
              simp only [Act.put, List.setIfInBounds_toArray, List.set_cons_zero, List.set_cons_succ]
              refine skip_held 16 (by assumption) rfl (by kernel_rfl) (by kernel_rfl) (by kernel_rfl) (fun _ _ _ h => h) (by kernel_rfl) ?_
              simp only [Act.put, List.setIfInBounds_toArray, List.set_cons_zero, List.set_cons_succ]
              refine skip_held 17 (by assumption) rfl (by kernel_rfl) (by kernel_rfl) (by kernel_rfl) (fun _ _ _ h => h) (by kernel_rfl) ?_
              simp only [Act.put, List.setIfInBounds_toArray, List.set_cons_zero, List.set_cons_succ]
              refine skip_held 18 (by assumption) rfl (by kernel_rfl) (by kernel_rfl) (by kernel_rfl) (fun _ _ _ h => h) (by kernel_rfl) ?_
              simp only [Act.put, List.setIfInBounds_toArray, List.set_cons_zero, List.set_cons_succ]
              refine skip_held 19 (by assumption) rfl (by kernel_rfl) (by kernel_rfl) (by kernel_rfl) (fun _ _ _ h => h) (by kernel_rfl) ?_
              simp only [Act.put, List.setIfInBounds_toArray, List.set_cons_zero, List.set_cons_succ]
              refine skip_held 20 (by assumption) rfl (by kernel_rfl) (by kernel_rfl) (by kernel_rfl) (fun _ _ _ h => h) (by kernel_rfl) ?_
              simp only [Act.put, List.setIfInBounds_toArray, List.set_cons_zero, List.set_cons_succ]
              refine skip_held 21 (by assumption) rfl (by kernel_rfl) (by kernel_rfl) (by kernel_rfl) (fun _ _ _ h => h) (by kernel_rfl) ?_
              simp only [Act.put, List.setIfInBounds_toArray, List.set_cons_zero, List.set_cons_succ]
              refine skip_held 22 (by assumption) rfl (by kernel_rfl) (by kernel_rfl) (by kernel_rfl) (fun _ _ _ h => h) (by kernel_rfl) ?_
              simp only [Act.put, List.setIfInBounds_toArray, List.set_cons_zero, List.set_cons_succ]
              refine skip_held 23 (by assumption) rfl (by kernel_rfl) (by kernel_rfl) (by kernel_rfl) (fun _ _ _ h => h) (by kernel_rfl) ?_
              simp only [Act.put, List.setIfInBounds_toArray, List.set_cons_zero, List.set_cons_succ]
              refine skip_held 24 (by assumption) rfl (by kernel_rfl) (by kernel_rfl) (by kernel_rfl) (fun _ _ _ h => h) (by kernel_rfl) ?_
              simp only [Act.put, List.setIfInBounds_toArray, List.set_cons_zero, List.set_cons_succ]
              refine skip_held 25 (by assumption) rfl (by kernel_rfl) (by kernel_rfl) (by kernel_rfl) (fun _ _ _ h => h) (by kernel_rfl) ?_
              simp only [Act.put, List.setIfInBounds_toArray, List.set_cons_zero, List.set_cons_succ]
              refine take_held 26 (by assumption) rfl (by kernel_rfl) (by kernel_rfl) (by kernel_rfl) (fun _ _ _ h => h) (by kernel_rfl) (v := ?v164) ?y164 ?r164
              case y164 => (intro u hu; go_simp; try rfl)
              simp only [Act.put, List.setIfInBounds_toArray, List.set_cons_zero, List.set_cons_succ]
              refine done_held (by kernel_rfl) ?_ _
              have HPz : Hid (Pg Fp W8.drew sv gs) := HPa.out.go (Below.refl _ _).drew
              have HTz : Hid (TAt Fp W8.drew b ls) := HTa.out.go (Below.refl _ _).drew
              have HBz : Hid (Below w.heap.size w W8.drew) := HBa.out.drew
              have HFz : Hid (∀ k, Fp k → w.heap.size ≤ k) := HFa.out
              clear hSa hSHa z0a z1a
              obtain ⟨W9, hW9⟩ : ∃ W9, W9 = W8.drew := ⟨_, rfl⟩
              rw [← hW9] at HTz HPz HBz ⊢
              clear hW9
              have HTb : Hid (TAt Fp W9 b ls) := HTz.out
              have HPb : Hid (Pg Fp W9 sv gs) := HPz.out
              have HBb : Hid (Below w.heap.size w W9) := HBz.out
              have HFb : Hid (∀ k, Fp k → w.heap.size ≤ k) := HFz.out
              clear HTz HPz HBz HFz HTa HPa HBa HFa
              obtain ⟨g', o', cp', es', lg, ng, c0, c1⟩ := HPb.out.at i hil
              have es2 := HSV.out.symm.trans es'
              injection es2 with e1 e2 e3
              injection e1 with e4
              injection e4 with e5 e6
              subst e5 e6
              rw [HPQ.out] at c0 c1
              simp only at c0 c1
              clear es' e3 e2
              have HLGb : Hid (g < W9.heap.size) := lg
              have HNGb : Hid (¬ Fp g) := ng
              obtain ⟨SHb, hSHb⟩ : ∃ S : World → Prop, S = fun u => u.heap[g]? = W9.heap[g]? := ⟨_, rfl⟩
              have hSb : SHb W9.drew := by rw [hSHb]; rfl
              have z0b : ∀ u, SHb u → u.cell? ⟨g, o + i * 2, none⟩ = some (.int .i64 p1) := fun u hu => by rw [hSHb] at hu; exact (cell_same hu).trans c0
              have z1b : ∀ u, SHb u → u.cell? ⟨g, o + i * 2 + 1, none⟩ = some (.int .i64 p2) := fun u hu => by rw [hSHb] at hu; exact (cell_same hu).trans c1
              clear c0 c1 lg ng
              by_cases hp2 : p2 < 4611686018427387904
              · obtain ⟨wAb, hwAb⟩ : ∃ wA, W9.drew.alloc (.cells #[.int .i64 (C : Nat), .int .i64 (p2 - 1), .int .i64 (p2 + 1)] 46) = wA := ⟨_, rfl⟩
                have SAb : SHb wAb := by rw [hSHb, ← hwAb]; exact ((Below.refl _ _).alloc (Nat.le_refl _) _ : Below W9.drew.heap.size W9.drew _).block g HLGb.out
                have cCb := claimT (u := W9.drew) (R := R) (x := ⟨(C : Nat), p2 - 1, p2 + 1⟩) (HTb.out.go (Below.refl _ _).drew) HOK.out HSM.out (by have := HLN.out; omega) (by have := HLN.out; omega) (by omega) (claim_one_taken (i := C) (by have := HLN.out; have := hC6.out; omega) HR0.out (by have := HPB.out; unfold FV; omega) (by rw [← rowOf_nat ls C (by have := HLN.out; have := hC6.out; omega), HLL.out]; exact met_at (HG.out.right (by unfold FV; exact hp2)) (by simp only; omega) (by simp only; omega)))
                rw [hwAb] at cCb
                go_wp2_with fail
                refine start_held (S := SHb) 27 rfl (by kernel_rfl) (hSb) ?_
                simp only [Array.replicate_succ, Array.replicate_zero, List.push_toArray, List.nil_append, List.cons_append]
                refine take_held 0 (by assumption) rfl (by kernel_rfl) (by kernel_rfl) (by kernel_rfl) (fun _ _ _ h => h) (by kernel_rfl) (v := ?v165) ?y165 ?r165
                case y165 => (intro u hu; go_simp; try rfl)
                simp only [Act.put, List.setIfInBounds_toArray, List.set_cons_zero, List.set_cons_succ]
                refine take_held 1 (by assumption) rfl (by kernel_rfl) (by kernel_rfl) (by kernel_rfl) (fun _ _ _ h => h) (by kernel_rfl) (v := ?v166) ?y166 ?r166
                case y166 => (intro u hu; go_simp; try rfl)
                simp only [Act.put, List.setIfInBounds_toArray, List.set_cons_zero, List.set_cons_succ]
                refine take_held 2 (by assumption) rfl (by kernel_rfl) (by kernel_rfl) (by kernel_rfl) (fun _ _ _ h => h) (by kernel_rfl) (v := ?v167) ?y167 ?r167
                case y167 => (intro u hu; go_simp; try rfl)
                simp only [Act.put, List.setIfInBounds_toArray, List.set_cons_zero, List.set_cons_succ]
                refine take_held 3 (by assumption) rfl (by kernel_rfl) (by kernel_rfl) (by kernel_rfl) (fun _ _ _ h => h) (by kernel_rfl) (v := ?v168) ?y168 ?r168
                case y168 => (intro u hu; go_simp; try rfl)
                simp only [Act.put, List.setIfInBounds_toArray, List.set_cons_zero, List.set_cons_succ]
                refine take_held 4 (by assumption) rfl (by kernel_rfl) (by kernel_rfl) (by kernel_rfl) (fun _ _ _ h => h) (by kernel_rfl) (v := ?v169) ?y169 ?r169
                case y169 => (intro u hu; have zz0 := z1b u hu; go_simp; try rfl)
                simp only [Act.put, List.setIfInBounds_toArray, List.set_cons_zero, List.set_cons_succ]
                refine take_held 5 (by assumption) rfl (by kernel_rfl) (by kernel_rfl) (by kernel_rfl) (fun _ _ _ h => h) (by kernel_rfl) (v := .bool true) ?y170 ?r170
                case y170 => (intro u hu; go_simp; try simp; try omega)
                simp only [Act.put, List.setIfInBounds_toArray, List.set_cons_zero, List.set_cons_succ]
                refine take_held 6 (by assumption) rfl (by kernel_rfl) (by kernel_rfl) (by kernel_rfl) (fun _ _ _ h => h) (by kernel_rfl) (v := ?v171) ?y171 ?r171
                case y171 => (intro u hu; go_simp; try rfl)
                simp only [Act.put, List.setIfInBounds_toArray, List.set_cons_zero, List.set_cons_succ]
                refine take_held 7 (by assumption) rfl (by kernel_rfl) (by kernel_rfl) (by kernel_rfl) (fun _ _ _ h => h) (by kernel_rfl) (v := ?v172) ?y172 ?r172
                case y172 => (intro u hu; go_simp; try rfl)
                simp only [Act.put, List.setIfInBounds_toArray, List.set_cons_zero, List.set_cons_succ]
                refine take_held 8 (by assumption) rfl (by kernel_rfl) (by kernel_rfl) (by kernel_rfl) (fun _ _ _ h => h) (by kernel_rfl) (v := ?v173) ?y173 ?r173
                case y173 => (intro u hu; go_simp; try rfl)
                simp only [Act.put, List.setIfInBounds_toArray, List.set_cons_zero, List.set_cons_succ]
                refine take_held 9 (by assumption) rfl (by kernel_rfl) (by kernel_rfl) (by kernel_rfl) (fun _ _ _ h => h) (by kernel_rfl) (v := ?v174) ?y174 ?r174
                case y174 => (intro u hu; go_simp; try rfl)
                simp only [Act.put, List.setIfInBounds_toArray, List.set_cons_zero, List.set_cons_succ]
                refine take_held 10 (by assumption) rfl (by kernel_rfl) (by kernel_rfl) (by kernel_rfl) (fun _ _ _ h => h) (by kernel_rfl) (v := ?v175) ?y175 ?r175
                case y175 => (intro u hu; go_simp; try rfl)
                simp only [Act.put, List.setIfInBounds_toArray, List.set_cons_zero, List.set_cons_succ]
                refine take_held 11 (by assumption) rfl (by kernel_rfl) (by kernel_rfl) (by kernel_rfl) (fun _ _ _ h => h) (by kernel_rfl) (v := ?v176) ?y176 ?r176
                case y176 => (intro u hu; go_simp; try rfl)
                simp only [Act.put, List.setIfInBounds_toArray, List.set_cons_zero, List.set_cons_succ]
                refine take_held 12 (by assumption) rfl (by kernel_rfl) (by kernel_rfl) (by kernel_rfl) (fun _ _ _ h => h) (by kernel_rfl) (v := ?v177) ?y177 ?r177
                case y177 => (intro u hu; go_simp; try rfl)
                simp only [Act.put, List.setIfInBounds_toArray, List.set_cons_zero, List.set_cons_succ]
                refine take_held 13 (by assumption) rfl (by kernel_rfl) (by kernel_rfl) (by kernel_rfl) (fun _ _ _ h => h) (by kernel_rfl) (v := ?v178) ?y178 ?r178
                case y178 => (intro u hu; go_simp; try rfl)
                simp only [Act.put, List.setIfInBounds_toArray, List.set_cons_zero, List.set_cons_succ]
                refine take_held 14 (by assumption) rfl (by kernel_rfl) (by kernel_rfl) (by kernel_rfl) (fun _ _ _ h => h) (by kernel_rfl) (v := ?v179) ?y179 ?r179
                case y179 => (intro u hu; have zz0 := z1b u hu; go_simp; try rfl)
                simp only [Act.put, List.setIfInBounds_toArray, List.set_cons_zero, List.set_cons_succ]
                refine take_held 15 (by assumption) rfl (by kernel_rfl) (by kernel_rfl) (by kernel_rfl) (fun _ _ _ h => h) (by kernel_rfl) (v := .int .i64 (p2 - 1)) ?y180 ?r180
                case y180 => (intro u hu; have hw : IntKind.i64.wrap (p2 - 1) = p2 - 1 := (by rw [IntKind.wrap_i64]; have := HPB.out; omega); go_simp; try rw [hw]; try rfl)
                simp only [Act.put, List.setIfInBounds_toArray, List.set_cons_zero, List.set_cons_succ]
                refine take_held 16 (by assumption) rfl (by kernel_rfl) (by kernel_rfl) (by kernel_rfl) (fun _ _ _ h => h) (by kernel_rfl) (v := ?v181) ?y181 ?r181
                case y181 => (intro u hu; go_simp; try rfl)
                simp only [Act.put, List.setIfInBounds_toArray, List.set_cons_zero, List.set_cons_succ]
                refine take_held 17 (by assumption) rfl (by kernel_rfl) (by kernel_rfl) (by kernel_rfl) (fun _ _ _ h => h) (by kernel_rfl) (v := ?v182) ?y182 ?r182
                case y182 => (intro u hu; go_simp; try rfl)
                simp only [Act.put, List.setIfInBounds_toArray, List.set_cons_zero, List.set_cons_succ]
                refine take_held 18 (by assumption) rfl (by kernel_rfl) (by kernel_rfl) (by kernel_rfl) (fun _ _ _ h => h) (by kernel_rfl) (v := ?v183) ?y183 ?r183
                case y183 => (intro u hu; go_simp; try rfl)
                simp only [Act.put, List.setIfInBounds_toArray, List.set_cons_zero, List.set_cons_succ]
                refine take_held 19 (by assumption) rfl (by kernel_rfl) (by kernel_rfl) (by kernel_rfl) (fun _ _ _ h => h) (by kernel_rfl) (v := ?v184) ?y184 ?r184
                case y184 => (intro u hu; go_simp; try rfl)
                simp only [Act.put, List.setIfInBounds_toArray, List.set_cons_zero, List.set_cons_succ]
                refine take_held 20 (by assumption) rfl (by kernel_rfl) (by kernel_rfl) (by kernel_rfl) (fun _ _ _ h => h) (by kernel_rfl) (v := ?v185) ?y185 ?r185
                case y185 => (intro u hu; have zz0 := z1b u hu; go_simp; try rfl)
                simp only [Act.put, List.setIfInBounds_toArray, List.set_cons_zero, List.set_cons_succ]
                refine take_held 21 (by assumption) rfl (by kernel_rfl) (by kernel_rfl) (by kernel_rfl) (fun _ _ _ h => h) (by kernel_rfl) (v := .int .i64 (p2 + 1)) ?y186 ?r186
                case y186 => (intro u hu; have hw : IntKind.i64.wrap (p2 + 1) = p2 + 1 := (by rw [IntKind.wrap_i64]; have := HPB.out; omega); go_simp; try rw [hw]; try rfl)
                simp only [Act.put, List.setIfInBounds_toArray, List.set_cons_zero, List.set_cons_succ]
                refine take_held 22 (by assumption) rfl (by kernel_rfl) (by kernel_rfl) (by kernel_rfl) (fun _ _ _ h => h) (by kernel_rfl) (v := ?v187) ?y187 ?r187
                case y187 => (intro u hu; go_simp; try rfl)
                simp only [Act.put, List.setIfInBounds_toArray, List.set_cons_zero, List.set_cons_succ]
                refine wpAnyH_ready (rs := [23]) (by kernel_rfl) (by simp) (AllReadyH.cons ((nth_eq _ 23).trans rfl) ?_ AllReadyH.nil)
                intro K' hK
                refine value_in hK (by kernel_rfl) (.slice (some ⟨W9.heap.size, 0, none⟩) 1 1) (wAb) (by rw [← hwAb]; go_simp; try rfl) (SAb) ?_
                simp only [Act.put, List.setIfInBounds_toArray, List.set_cons_zero, List.set_cons_succ]
                refine wpAnyH_ready (rs := [24]) (by kernel_rfl) (by simp) (AllReadyH.cons ((nth_eq _ 24).trans rfl) ?_ AllReadyH.nil)
                intro K' hK
                refine call_in hK (by kernel_rfl) 19 #[.pointer (some ⟨b, 0, none⟩), .int .i64 R, .slice (some ⟨W9.heap.size, 0, none⟩) 1 1] (by go_simp) _ (cCb) ?_
                rintro v wCb ⟨rfl, Fb, Tb, tCb⟩
                have SCb : SHb wCb := by rw [hSHb]; exact (tCb.block g HLGb.out HNGb.out)
                refine ⟨SCb, ?_⟩
                simp only [Act.put, List.setIfInBounds_toArray, List.set_cons_zero, List.set_cons_succ]
                refine take_held 25 (by assumption) rfl (by kernel_rfl) (by kernel_rfl) (by kernel_rfl) (fun _ _ _ h => h) (by kernel_rfl) (v := ?v188) ?y188 ?r188
                case y188 => (intro u hu; go_simp; try rfl)
                simp only [Act.put, List.setIfInBounds_toArray, List.set_cons_zero, List.set_cons_succ]
                refine take_held 26 (by assumption) rfl (by kernel_rfl) (by kernel_rfl) (by kernel_rfl) (fun _ _ _ h => h) (by kernel_rfl) (v := ?v189) ?y189 ?r189
                case y189 => (intro u hu; go_simp; try rfl)
                simp only [Act.put, List.setIfInBounds_toArray, List.set_cons_zero, List.set_cons_succ]
                refine done_held (by kernel_rfl) ?_ _
                have HPz : Hid (Pg Fb wCb sv gs) := HPb.out.turn ((Tn.below (Below.refl _ _).drew).trans tCb)
                obtain ⟨DB, DF⟩ := tCb.past (Below.drew HBb.out) HFb.out
                have HTz : Hid (TAt Fb wCb b ls) := Tb
                have HBz : Hid (Below w.heap.size w wCb) := DB
                have HFz : Hid (∀ k, Fb k → w.heap.size ≤ k) := DF
                clear cCb SAb SCb tCb Tb DB DF hSb hSHb z0b z1b hwAb
                go_wp2_with fail
                go_roundw
                case measure => simp only [intOf]; omega
                case rel => exact ⟨i + 1, _, rfl, hil, HTz, HPz, HBz, HFz⟩
              · go_wp2_with fail
                refine start_held (S := SHb) 27 rfl (by kernel_rfl) (hSb) ?_
                simp only [Array.replicate_succ, Array.replicate_zero, List.push_toArray, List.nil_append, List.cons_append]
                refine take_held 0 (by assumption) rfl (by kernel_rfl) (by kernel_rfl) (by kernel_rfl) (fun _ _ _ h => h) (by kernel_rfl) (v := ?v190) ?y190 ?r190
                case y190 => (intro u hu; go_simp; try rfl)
                simp only [Act.put, List.setIfInBounds_toArray, List.set_cons_zero, List.set_cons_succ]
                refine take_held 1 (by assumption) rfl (by kernel_rfl) (by kernel_rfl) (by kernel_rfl) (fun _ _ _ h => h) (by kernel_rfl) (v := ?v191) ?y191 ?r191
                case y191 => (intro u hu; go_simp; try rfl)
                simp only [Act.put, List.setIfInBounds_toArray, List.set_cons_zero, List.set_cons_succ]
                refine take_held 2 (by assumption) rfl (by kernel_rfl) (by kernel_rfl) (by kernel_rfl) (fun _ _ _ h => h) (by kernel_rfl) (v := ?v192) ?y192 ?r192
                case y192 => (intro u hu; go_simp; try rfl)
                simp only [Act.put, List.setIfInBounds_toArray, List.set_cons_zero, List.set_cons_succ]
                refine take_held 3 (by assumption) rfl (by kernel_rfl) (by kernel_rfl) (by kernel_rfl) (fun _ _ _ h => h) (by kernel_rfl) (v := ?v193) ?y193 ?r193
                case y193 => (intro u hu; go_simp; try rfl)
                simp only [Act.put, List.setIfInBounds_toArray, List.set_cons_zero, List.set_cons_succ]
                refine take_held 4 (by assumption) rfl (by kernel_rfl) (by kernel_rfl) (by kernel_rfl) (fun _ _ _ h => h) (by kernel_rfl) (v := ?v194) ?y194 ?r194
                case y194 => (intro u hu; have zz0 := z1b u hu; go_simp; try rfl)
                simp only [Act.put, List.setIfInBounds_toArray, List.set_cons_zero, List.set_cons_succ]
                refine take_held 5 (by assumption) rfl (by kernel_rfl) (by kernel_rfl) (by kernel_rfl) (fun _ _ _ h => h) (by kernel_rfl) (v := .bool false) ?y195 ?r195
                case y195 => (intro u hu; go_simp; try simp; try omega)
                simp only [Act.put, List.setIfInBounds_toArray, List.set_cons_zero, List.set_cons_succ]
                refine take_held 6 (by assumption) rfl (by kernel_rfl) (by kernel_rfl) (by kernel_rfl) (fun _ _ _ h => h) (by kernel_rfl) (v := ?v196) ?y196 ?r196
                case y196 => (intro u hu; go_simp; try rfl)
                simp only [Act.put, List.setIfInBounds_toArray, List.set_cons_zero, List.set_cons_succ]
                refine skip_held 7 (by assumption) rfl (by kernel_rfl) (by kernel_rfl) (by kernel_rfl) (fun _ _ _ h => h) (by kernel_rfl) ?_
                simp only [Act.put, List.setIfInBounds_toArray, List.set_cons_zero, List.set_cons_succ]
                refine skip_held 8 (by assumption) rfl (by kernel_rfl) (by kernel_rfl) (by kernel_rfl) (fun _ _ _ h => h) (by kernel_rfl) ?_
                simp only [Act.put, List.setIfInBounds_toArray, List.set_cons_zero, List.set_cons_succ]
                refine skip_held 9 (by assumption) rfl (by kernel_rfl) (by kernel_rfl) (by kernel_rfl) (fun _ _ _ h => h) (by kernel_rfl) ?_
                simp only [Act.put, List.setIfInBounds_toArray, List.set_cons_zero, List.set_cons_succ]
                refine skip_held 10 (by assumption) rfl (by kernel_rfl) (by kernel_rfl) (by kernel_rfl) (fun _ _ _ h => h) (by kernel_rfl) ?_
                simp only [Act.put, List.setIfInBounds_toArray, List.set_cons_zero, List.set_cons_succ]
                refine skip_held 11 (by assumption) rfl (by kernel_rfl) (by kernel_rfl) (by kernel_rfl) (fun _ _ _ h => h) (by kernel_rfl) ?_
                simp only [Act.put, List.setIfInBounds_toArray, List.set_cons_zero, List.set_cons_succ]
                refine skip_held 12 (by assumption) rfl (by kernel_rfl) (by kernel_rfl) (by kernel_rfl) (fun _ _ _ h => h) (by kernel_rfl) ?_
                simp only [Act.put, List.setIfInBounds_toArray, List.set_cons_zero, List.set_cons_succ]
                refine skip_held 13 (by assumption) rfl (by kernel_rfl) (by kernel_rfl) (by kernel_rfl) (fun _ _ _ h => h) (by kernel_rfl) ?_
                simp only [Act.put, List.setIfInBounds_toArray, List.set_cons_zero, List.set_cons_succ]
                refine skip_held 14 (by assumption) rfl (by kernel_rfl) (by kernel_rfl) (by kernel_rfl) (fun _ _ _ h => h) (by kernel_rfl) ?_
                simp only [Act.put, List.setIfInBounds_toArray, List.set_cons_zero, List.set_cons_succ]
                refine skip_held 15 (by assumption) rfl (by kernel_rfl) (by kernel_rfl) (by kernel_rfl) (fun _ _ _ h => h) (by kernel_rfl) ?_
                simp only [Act.put, List.setIfInBounds_toArray, List.set_cons_zero, List.set_cons_succ]
                refine skip_held 16 (by assumption) rfl (by kernel_rfl) (by kernel_rfl) (by kernel_rfl) (fun _ _ _ h => h) (by kernel_rfl) ?_
                simp only [Act.put, List.setIfInBounds_toArray, List.set_cons_zero, List.set_cons_succ]
                refine skip_held 17 (by assumption) rfl (by kernel_rfl) (by kernel_rfl) (by kernel_rfl) (fun _ _ _ h => h) (by kernel_rfl) ?_
                simp only [Act.put, List.setIfInBounds_toArray, List.set_cons_zero, List.set_cons_succ]
                refine skip_held 18 (by assumption) rfl (by kernel_rfl) (by kernel_rfl) (by kernel_rfl) (fun _ _ _ h => h) (by kernel_rfl) ?_
                simp only [Act.put, List.setIfInBounds_toArray, List.set_cons_zero, List.set_cons_succ]
                refine skip_held 19 (by assumption) rfl (by kernel_rfl) (by kernel_rfl) (by kernel_rfl) (fun _ _ _ h => h) (by kernel_rfl) ?_
                simp only [Act.put, List.setIfInBounds_toArray, List.set_cons_zero, List.set_cons_succ]
                refine skip_held 20 (by assumption) rfl (by kernel_rfl) (by kernel_rfl) (by kernel_rfl) (fun _ _ _ h => h) (by kernel_rfl) ?_
                simp only [Act.put, List.setIfInBounds_toArray, List.set_cons_zero, List.set_cons_succ]
                refine skip_held 21 (by assumption) rfl (by kernel_rfl) (by kernel_rfl) (by kernel_rfl) (fun _ _ _ h => h) (by kernel_rfl) ?_
                simp only [Act.put, List.setIfInBounds_toArray, List.set_cons_zero, List.set_cons_succ]
                refine skip_held 22 (by assumption) rfl (by kernel_rfl) (by kernel_rfl) (by kernel_rfl) (fun _ _ _ h => h) (by kernel_rfl) ?_
                simp only [Act.put, List.setIfInBounds_toArray, List.set_cons_zero, List.set_cons_succ]
                refine skip_held 23 (by assumption) rfl (by kernel_rfl) (by kernel_rfl) (by kernel_rfl) (fun _ _ _ h => h) (by kernel_rfl) ?_
                simp only [Act.put, List.setIfInBounds_toArray, List.set_cons_zero, List.set_cons_succ]
                refine skip_held 24 (by assumption) rfl (by kernel_rfl) (by kernel_rfl) (by kernel_rfl) (fun _ _ _ h => h) (by kernel_rfl) ?_
                simp only [Act.put, List.setIfInBounds_toArray, List.set_cons_zero, List.set_cons_succ]
                refine skip_held 25 (by assumption) rfl (by kernel_rfl) (by kernel_rfl) (by kernel_rfl) (fun _ _ _ h => h) (by kernel_rfl) ?_
                simp only [Act.put, List.setIfInBounds_toArray, List.set_cons_zero, List.set_cons_succ]
                refine take_held 26 (by assumption) rfl (by kernel_rfl) (by kernel_rfl) (by kernel_rfl) (fun _ _ _ h => h) (by kernel_rfl) (v := ?v197) ?y197 ?r197
                case y197 => (intro u hu; go_simp; try rfl)
                simp only [Act.put, List.setIfInBounds_toArray, List.set_cons_zero, List.set_cons_succ]
                refine done_held (by kernel_rfl) ?_ _
                have HPz : Hid (Pg Fp W9.drew sv gs) := HPb.out.go (Below.refl _ _).drew
                have HTz : Hid (TAt Fp W9.drew b ls) := HTb.out.go (Below.refl _ _).drew
                have HBz : Hid (Below w.heap.size w W9.drew) := HBb.out.drew
                have HFz : Hid (∀ k, Fp k → w.heap.size ≤ k) := HFb.out
                clear hSb hSHb z0b z1b
                go_wp2_with fail
                go_roundw
                case measure => simp only [intOf]; omega
                case rel => exact ⟨i + 1, _, rfl, hil, HTz, HPz, HBz, HFz⟩
        · have hin : ¬ (i : Int) < (gs.length : Int) := by omega
          clear hig hi
          go_wp2_with fail
          go_loopw [13] (fun s13 wr => ∃ (i : Nat) (Fp : Nat → Prop) (lk : List (List Sl)), s13 = .int .i64 i ∧ i ≤ gs.length ∧ Hid (TAt Fp wr b lk) ∧ Hid (Pg Fp wr sv gs) ∧ Hid (Below w.heap.size w wr) ∧ Hid (∀ k, Fp k → w.heap.size ≤ k) ∧ Hid (Gk R C L (1800 + i) lk)) (fun s13 _ => gs.length - (intOf s13).toNat)
          case atStart => exact ⟨0, Fp, ls, rfl, Nat.zero_le _, HTi, HPi, HBi, HFi, ⟨HOK.out, HSM.out, HLN.out, fun t r _ => by rw [HLL.out]⟩⟩
          case round =>
            clear HTi HPi HBi HFi
            obtain ⟨i, Fp, lk, rfl, hi, HTi, HPi, HBi, HFi, HK⟩ := hrel
            obtain ⟨W8, rfl⟩ : ∃ W8, W8 = wr := ⟨_, rfl⟩
            rcases Nat.lt_or_ge i gs.length with hil | hig
            · have hil' : (i : Int) < (gs.length : Int) := by omega
              have his : (i : Int) + 1 ≤ 100000 := by omega
              obtain ⟨g, o, cp, es, lg, ng, c0, c1⟩ := HPi.out.at i hil
              have HG : Hid (GapOk R 0 L gs[i]) := HGA.out.1 _ (List.getElem_mem hil)
              obtain ⟨p1, p2, hp⟩ : ∃ p1 p2, gs[i] = (p1, p2) := ⟨_, _, rfl⟩
              rw [hp] at c0 c1 HG
              simp only at c0 c1
              have esc : (.slice sa gs.length sc : Value) = .slice (some ⟨g, o, none⟩) gs.length cp := HSE.out.symm.trans es
              have esa : sa = some ⟨g, o, none⟩ := by injection esc
              have escp : sc = cp := by injection esc
              subst esa escp
              have hpr : 0 ≤ p1 ∧ p1 < p2 ∧ p2 ≤ FV := ⟨HG.out.low, HG.out.lt, HG.out.top⟩
              have HPR : Hid (0 ≤ p1 ∧ p1 < p2 ∧ p2 ≤ FV) := hpr
              have HLGa : Hid (g < W8.heap.size) := lg
              have HNGa : Hid (¬ Fp g) := ng
              obtain ⟨SHa, hSHa⟩ : ∃ S : World → Prop, S = fun u => u.heap[g]? = W8.heap[g]? := ⟨_, rfl⟩
              have hSa : SHa W8.drew := by rw [hSHa]; rfl
              have z0a : ∀ u, SHa u → u.cell? ⟨g, o + i * 2, none⟩ = some (.int .i64 p1) := fun u hu => by rw [hSHa] at hu; exact (cell_same hu).trans c0
              have z1a : ∀ u, SHa u → u.cell? ⟨g, o + i * 2 + 1, none⟩ = some (.int .i64 p2) := fun u hu => by rw [hSHa] at hu; exact (cell_same hu).trans c1
              obtain ⟨wAa, hwAa⟩ : ∃ wA, W8.drew.alloc (.cells #[.int .i64 (C : Nat), .int .i64 p1, .int .i64 p2] 46) = wA := ⟨_, rfl⟩
              have SAa : SHa wAa := by rw [hSHa, ← hwAa]; exact ((Below.refl _ _).alloc (Nat.le_refl _) _ : Below W8.drew.heap.size W8.drew _).block g HLGa.out
              have cCa := claimN (u := W8.drew) (R := R) (x := ⟨(C : Nat), p1, p2⟩) (HTi.out.go (Below.refl _ _).drew) HK.out.ok HK.out.small (by have := HK.out.len; omega) (by have := HK.out.len; omega) (by omega) (badArg_one HR0.out (by have := HK.out.len; have := hC6.out; omega) hpr) (HK.out.no_met (p := (p1, p2)) hC6.out hpr.2.1 HG.out.free)
              rw [hwAa] at cCa
              clear c0 c1 lg ng hpr es esc hp
              go_wp2_with fail
              refine start_held (S := SHa) 17 rfl (by kernel_rfl) (hSa) ?_
              simp only [Array.replicate_succ, Array.replicate_zero, List.push_toArray, List.nil_append, List.cons_append]
              refine take_held 0 (by assumption) rfl (by kernel_rfl) (by kernel_rfl) (by kernel_rfl) (fun _ _ _ h => h) (by kernel_rfl) (v := ?v198) ?y198 ?r198
              case y198 => (intro u hu; go_simp; try rfl)
              simp only [Act.put, List.setIfInBounds_toArray, List.set_cons_zero, List.set_cons_succ]
              refine take_held 1 (by assumption) rfl (by kernel_rfl) (by kernel_rfl) (by kernel_rfl) (fun _ _ _ h => h) (by kernel_rfl) (v := ?v199) ?y199 ?r199
              case y199 => (intro u hu; go_simp; try rfl)
              simp only [Act.put, List.setIfInBounds_toArray, List.set_cons_zero, List.set_cons_succ]
              refine take_held 2 (by assumption) rfl (by kernel_rfl) (by kernel_rfl) (by kernel_rfl) (fun _ _ _ h => h) (by kernel_rfl) (v := ?v200) ?y200 ?r200
              case y200 => (intro u hu; go_simp; try rfl)
              simp only [Act.put, List.setIfInBounds_toArray, List.set_cons_zero, List.set_cons_succ]
              refine take_held 3 (by assumption) rfl (by kernel_rfl) (by kernel_rfl) (by kernel_rfl) (fun _ _ _ h => h) (by kernel_rfl) (v := ?v201) ?y201 ?r201
              case y201 => (intro u hu; go_simp; try rfl)
              simp only [Act.put, List.setIfInBounds_toArray, List.set_cons_zero, List.set_cons_succ]
              refine take_held 4 (by assumption) rfl (by kernel_rfl) (by kernel_rfl) (by kernel_rfl) (fun _ _ _ h => h) (by kernel_rfl) (v := ?v202) ?y202 ?r202
              case y202 => (intro u hu; go_simp; try rfl)
              simp only [Act.put, List.setIfInBounds_toArray, List.set_cons_zero, List.set_cons_succ]
              refine take_held 5 (by assumption) rfl (by kernel_rfl) (by kernel_rfl) (by kernel_rfl) (fun _ _ _ h => h) (by kernel_rfl) (v := ?v203) ?y203 ?r203
              case y203 => (intro u hu; go_simp; try rfl)
              simp only [Act.put, List.setIfInBounds_toArray, List.set_cons_zero, List.set_cons_succ]
              refine take_held 6 (by assumption) rfl (by kernel_rfl) (by kernel_rfl) (by kernel_rfl) (fun _ _ _ h => h) (by kernel_rfl) (v := ?v204) ?y204 ?r204
              case y204 => (intro u hu; go_simp; try rfl)
              simp only [Act.put, List.setIfInBounds_toArray, List.set_cons_zero, List.set_cons_succ]
              refine take_held 7 (by assumption) rfl (by kernel_rfl) (by kernel_rfl) (by kernel_rfl) (fun _ _ _ h => h) (by kernel_rfl) (v := ?v205) ?y205 ?r205
              case y205 => (intro u hu; have zz0 := z0a u hu; go_simp; try rfl)
              simp only [Act.put, List.setIfInBounds_toArray, List.set_cons_zero, List.set_cons_succ]
              refine take_held 8 (by assumption) rfl (by kernel_rfl) (by kernel_rfl) (by kernel_rfl) (fun _ _ _ h => h) (by kernel_rfl) (v := ?v206) ?y206 ?r206
              case y206 => (intro u hu; go_simp; try rfl)
              simp only [Act.put, List.setIfInBounds_toArray, List.set_cons_zero, List.set_cons_succ]
              refine take_held 9 (by assumption) rfl (by kernel_rfl) (by kernel_rfl) (by kernel_rfl) (fun _ _ _ h => h) (by kernel_rfl) (v := ?v207) ?y207 ?r207
              case y207 => (intro u hu; go_simp; try rfl)
              simp only [Act.put, List.setIfInBounds_toArray, List.set_cons_zero, List.set_cons_succ]
              refine take_held 10 (by assumption) rfl (by kernel_rfl) (by kernel_rfl) (by kernel_rfl) (fun _ _ _ h => h) (by kernel_rfl) (v := ?v208) ?y208 ?r208
              case y208 => (intro u hu; go_simp; try rfl)
              simp only [Act.put, List.setIfInBounds_toArray, List.set_cons_zero, List.set_cons_succ]
              refine take_held 11 (by assumption) rfl (by kernel_rfl) (by kernel_rfl) (by kernel_rfl) (fun _ _ _ h => h) (by kernel_rfl) (v := ?v209) ?y209 ?r209
              case y209 => (intro u hu; go_simp; try rfl)
              simp only [Act.put, List.setIfInBounds_toArray, List.set_cons_zero, List.set_cons_succ]
              refine take_held 12 (by assumption) rfl (by kernel_rfl) (by kernel_rfl) (by kernel_rfl) (fun _ _ _ h => h) (by kernel_rfl) (v := ?v210) ?y210 ?r210
              case y210 => (intro u hu; have zz0 := z1a u hu; go_simp; try rfl)
              simp only [Act.put, List.setIfInBounds_toArray, List.set_cons_zero, List.set_cons_succ]
              refine take_held 13 (by assumption) rfl (by kernel_rfl) (by kernel_rfl) (by kernel_rfl) (fun _ _ _ h => h) (by kernel_rfl) (v := ?v211) ?y211 ?r211
              case y211 => (intro u hu; go_simp; try rfl)
              simp only [Act.put, List.setIfInBounds_toArray, List.set_cons_zero, List.set_cons_succ]
              refine wpAnyH_ready (rs := [14]) (by kernel_rfl) (by simp) (AllReadyH.cons ((nth_eq _ 14).trans rfl) ?_ AllReadyH.nil)
              intro K' hK
              refine value_in hK (by kernel_rfl) (.slice (some ⟨W8.heap.size, 0, none⟩) 1 1) (wAa) (by rw [← hwAa]; go_simp; try rfl) (SAa) ?_
              simp only [Act.put, List.setIfInBounds_toArray, List.set_cons_zero, List.set_cons_succ]
              refine wpAnyH_ready (rs := [15]) (by kernel_rfl) (by simp) (AllReadyH.cons ((nth_eq _ 15).trans rfl) ?_ AllReadyH.nil)
              intro K' hK
              refine call_in hK (by kernel_rfl) 19 #[.pointer (some ⟨b, 0, none⟩), .int .i64 R, .slice (some ⟨W8.heap.size, 0, none⟩) 1 1] (by go_simp) _ (cCa) ?_
              rintro v wCa ⟨rfl, Fa, lk2, Ta, tCa, Ca⟩
              have SCa : SHa wCa := by rw [hSHa]; exact (tCa.block g HLGa.out HNGa.out)
              refine ⟨SCa, ?_⟩
              simp only [Act.put, List.setIfInBounds_toArray, List.set_cons_zero, List.set_cons_succ]
              refine take_held 16 (by assumption) rfl (by kernel_rfl) (by kernel_rfl) (by kernel_rfl) (fun _ _ _ h => h) (by kernel_rfl) (v := ?v212) ?y212 ?r212
              case y212 => (intro u hu; go_simp; try rfl)
              simp only [Act.put, List.setIfInBounds_toArray, List.set_cons_zero, List.set_cons_succ]
              refine done_held (by kernel_rfl) ?_ _
              have HPz : Hid (Pg Fa wCa sv gs) := HPi.out.turn ((Tn.below (Below.refl _ _).drew).trans tCa)
              obtain ⟨DB, DF⟩ := tCa.past (Below.drew HBi.out) HFi.out
              have HTz : Hid (TAt Fa wCa b lk2) := Ta
              have HBz : Hid (Below w.heap.size w wCa) := DB
              have HFz : Hid (∀ k, Fa k → w.heap.size ≤ k) := DF
              have HKz : Hid (Gk R C L (1800 + (i + 1)) lk2) := HK.out.next (p := (p1, p2)) hC6.out HR0.out HPR.out HG.out.free Ca
              clear cCa SAa SCa tCa Ta DB DF hSa hSHa z0a z1a hwAa Ca
              go_wp2_with fail
              go_roundw
              case measure => simp only [intOf]; omega
              case rel => exact ⟨i + 1, _, _, rfl, hil, HTz, HPz, HBz, HFz, HKz⟩
            · have hin2 : ¬ (i : Int) < (gs.length : Int) := by omega
              have hei : i = gs.length := by omega
              have cG2 := gaps_any Fp b lk (C : Nat) R W8 HTi.out
              have hrl2 := HK.out.small.row (C : Nat)
              have HGE : Hid ((gapsOf (isThere lk.length (C : Nat)) R (rowOf lk (C : Nat))).take 10000 = gs) := by
                unfold Hid gapsOf
                rw [show isThere lk.length ((C : Nat) : Int) = true by unfold isThere; have := HK.out.len; have := hC6.out; simp; omega]
                rw [if_pos rfl, HK.out.gaps HOL.out, HGS.out, List.take_of_length_le (by omega)]
              obtain ⟨L2, hL2⟩ : ∃ L2, rowOf lk (C : Nat) = L2 := ⟨_, rfl⟩
              rw [hL2] at cG2 hrl2 HGE
              have HSR : Hid (RowAt prL (fun _ => True) W8 (.slice sa gs.length sc) gs) := by unfold Hid; rw [← HSE.out]; exact RowAt.mono HPi.out fun _ _ => trivial
              clear hL2 hig hi
              go_wp2_with (first
                | (go_at_call 23; refine cG2.mono ?_; rintro _ w10 ⟨p8, p7, p5, lv, rfl, G10, b10⟩; unfold GapsV at *)
                | (go_at_call 22; refine (stretches_any p8 p7 p5 10000 _ lv L2 R _ G10 (by omega) (by omega) (by omega)).mono ?_; rintro _ w11 ⟨sv2, rfl, O11, b11⟩; rw [HGE.out] at O11; obtain ⟨x2a, x2c, ex2, _⟩ := (pr_of_own O11).form; rw [ex2] at O11 ⊢)
                | (go_at_call 24; refine (alike_any _ (fun _ => True) _ _ gs gs _ (pr_of_own O11) (pr_go (pr_go HSR.out b10) b11) (by omega)).mono ?_; rintro _ w12 ⟨rfl, b12⟩; rw [decide_eq_true (show gs = gs from rfl)])
                | (go_at_call 13; refine (awake_any _).mono ?_; rintro _ w13 ⟨rfl, b13⟩))
              go_ret
              exact ⟨rfl, bcat HBi.out (bcat b10 (bcat b11 (bcat b12 b13)))⟩
end Go.Proofs.Ytddkgkafgjdheaa.Rs
