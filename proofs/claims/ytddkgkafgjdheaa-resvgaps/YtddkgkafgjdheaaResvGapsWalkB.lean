/-
  A robot's stretches are just the ticks that no other robot has.
-/
import Derived.Test.YtddkgkafgjdheaaResvGapsFacts
namespace Go.Proofs.Ytddkgkafgjdheaa.Rs
set_option linter.unusedVariables false
set_option linter.unusedSimpArgs false
open Go Go.RowKit Go.Shelf Go.Proofs Hp
attribute [local go_sem] Oper.semAt_some

set_option maxRecDepth 100000 in
set_option maxHeartbeats 30000000 in
theorem gaps_long (R0 C0 : Int) (a : Option Addr) (n cap : Nat) (os : List Cl) (w : World) (hin : InS w a n cap os) (hcs : 30 < os.length) : Calls Try.prog 6 #[.slice a n cap, .int .i64 R0, .int .i64 C0] w fun e w' => e = .returned (.bool true) ∧ Below w.heap.size w w' := by
  have cN := new_any 6 w (by omega) (by omega)
  have HIN : Hid (InS w a n cap os) := hin
  have hol := hin.len
  subst hol
  clear hin
  have HR0 : Hid (0 ≤ place R0 4) := (place_bd R0 4 (by omega)).1
  obtain ⟨C, hC⟩ : ∃ C : Nat, place C0 6 = (C : Nat) := ⟨(place C0 6).toNat, by have := place_bd C0 6 (by omega); omega⟩
  have hC6 : Hid (C < 6) := by unfold Hid; have := place_bd C0 6 (by omega); omega
  have HCp : Hid (place C0 6 = (C : Nat)) := hC
  obtain ⟨R, hR⟩ : ∃ R, place R0 4 = R := ⟨_, rfl⟩
  have HRp : Hid (place R0 4 = R) := hR
  rw [hR] at HR0
  clear hC hR
  go_enter Try.func6, Try.ntmps6
  go_wp2_with (first
    | (go_at_call 21; refine (place_any _ _ _ (by omega) (by omega)).mono ?_; rintro _ wz ⟨rfl, hwz⟩; have hwz' := hwz.symm; subst hwz'; first | rw [HRp.out] | rw [HCp.out])
    | (go_at_call 12; refine cN.mono ?_; rintro _ w1 ⟨b, rfl, F, T1, b1, f1⟩)
    | (go_at_call 15; refine (refNew_any 6 w1 (by omega) (by omega)).mono ?_; rintro _ w2 ⟨c, rfl, G, T2, b2, f2⟩))
  have P0 : Hid (Pl w b c 0 w2) := Pl.start T1 b1 f1 T2 b2 f2
  clear cN T1 b1 f1 T2 b2 f2
  go_loopw [10] (fun s6 wr => ∃ i : Nat, s6 = .int .i64 i ∧ i ≤ os.length ∧ i ≤ 30 ∧ Hid (Pl w b c i wr)) (fun s6 _ => os.length - (intOf s6).toNat)
  case atStart => exact ⟨0, rfl, Nat.zero_le _, Nat.zero_le _, P0⟩
  case round =>
    clear P0
    obtain ⟨i, rfl, hi, hi60, PL⟩ := hrel
    by_cases hgo : i < os.length ∧ i < 30
    · obtain ⟨hlt, hl60⟩ := hgo
      have hlt' : (i : Int) < (os.length : Int) := by omega
      have hl60' : (i : Int) < 30 := by omega
      have his : (i : Int) + 1 ≤ 1000 := by omega
      obtain ⟨p, ea, c0, c1, c2, c3, c4, c5, IW⟩ := (HIN.out.go PL.out.bw).at i hlt
      have IW0 : Hid (InW w (os[i]).a (os[i]).n (os[i]).cap (os[i]).ws) := by obtain ⟨_, _, _, q⟩ := HIN.out.lay i hlt; exact q
      subst ea
      obtain ⟨x, hx⟩ : ∃ x, os[i] = x := ⟨_, rfl⟩
      rw [hx] at c0 c1 c2 c3 c4 c5 IW0
      clear hx IW
      by_cases hbig : x.n > 60
      · have hb' : (x.n : Int) > 60 := by omega
        go_wp2_with (go_at_call 13; refine (awake_any _).mono ?_; rintro _ w3 ⟨rfl, b3⟩)
        go_ret
        exact ⟨rfl, bcat PL.out.bw b3⟩
      · have hb' : ¬ (x.n : Int) > 60 := by omega
        have cD := do_turn PL.out (by omega) x IW0.out (by omega)
        go_wp2_with (go_at_call 16; refine cD.mono ?_; rintro _ w3 ⟨rfl, P3⟩)
        go_roundw
        case measure => simp only [intOf]; omega
        case rel => exact ⟨i + 1, rfl, hlt, hl60, P3⟩
    · obtain ⟨W3, rfl⟩ : ∃ W3, W3 = wr := ⟨_, rfl⟩
      obtain ⟨F, G, ls, T3, _, _, b3, f3, _, ok3, sm3, ln3⟩ := PL.out
      have HT3 : Hid (TAt F W3 b ls) := T3
      have HB3 : Hid (Below w.heap.size w W3) := b3
      have HF3 : Hid (∀ k, F k → w.heap.size ≤ k) := f3
      have HOK : Hid (OkT ls) := ok3
      have hsm : Small 1800 ls := fun l hl => by have := sm3 l hl; omega
      have HSM : Hid (Small 1800 ls) := hsm
      have HLN : Hid (ls.length = 6) := ln3
      have hgo' : ((i : Int) < (os.length : Int)) → ¬ ((i : Int) < 30) := fun h => by omega
      clear T3 b3 ok3 sm3 hsm PL f3 ln3
      have hlt' : (i : Int) < (os.length : Int) := by omega
      have hl60' : ¬ (i : Int) < 30 := by omega
      clear hgo hgo'
      have cG := gaps_any F b ls (C : Nat) R W3 HT3.out
      have hrl := HSM.out.row (C : Nat)
      have hokr := HOK.out.row (C : Nat)
      obtain ⟨L, hL⟩ : ∃ L, rowOf ls (C : Nat) = L := ⟨_, rfl⟩
      rw [hL] at cG hrl hokr
      have HLL : Hid (rowOf ls (C : Nat) = L) := hL
      have HOL : Hid (Ok L) := hokr
      have HGA : Hid ((∀ p ∈ gaps R 0 L, GapOk R 0 L p) ∧ (gaps R 0 L).Pairwise (fun p q => p.2 < q.1) ∧ (gaps R 0 L).length ≤ L.length + 1) := gaps_all R L 0 hokr fun s hs => (hokr.fit s hs).1
      have hgl := HGA.out.2.2
      have HGE0 : Hid ((gapsOf (isThere ls.length (C : Nat)) R L).take 10000 = gaps R 0 L) := by
        unfold Hid gapsOf
        rw [show isThere ls.length ((C : Nat) : Int) = true by unfold isThere; have := HLN.out; have := hC6.out; simp; omega]
        rw [if_pos rfl, List.take_of_length_le (by omega)]
      obtain ⟨gs, hgs⟩ : ∃ gs, gaps R 0 L = gs := ⟨_, rfl⟩
      have HGS : Hid (gaps R 0 L = gs) := hgs
      rw [hgs] at HGA hgl HGE0
      clear hL hokr hgs
      go_wp2_with (first
        | (go_at_call 23; refine cG.mono ?_; rintro _ w10 ⟨p8, p7, p5, lv, rfl, G10, b10⟩; unfold GapsV at *)
        | (go_at_call 22; refine (stretches_any p8 p7 p5 10000 _ lv L R _ G10 (by omega) (by omega) (by omega)).mono ?_; rintro _ w11 ⟨sv, rfl, O11, b11⟩; rw [HGE0.out] at O11; obtain ⟨sa, sc, es0, _⟩ := (pr_of_own O11).form; rw [es0]))
      have HSE : Hid (sv = .slice sa gs.length sc) := es0
      have HT4 : Hid (TAt F w11 b ls) := HT3.out.go (bcat b10 b11)
      have HP4 : Hid (Pg F w11 sv gs) := RowAt.mono ((row_of_own2 O11)) fun k hk => ⟨fun f => by have := HT3.out.low k f; have := b10.size; have := hk.1; omega, hk.2⟩
      have HB4 : Hid (Below w.heap.size w w11) := bcat HB3.out (bcat b10 b11)
      clear cG G10 b10 b11 O11 es0 HT3 HB3
      go_loopw [12] (fun s12 wr => ∃ (i : Nat) (Fp : Nat → Prop), s12 = .int .i64 i ∧ i ≤ gs.length ∧ Hid (TAt Fp wr b ls) ∧ Hid (Pg Fp wr sv gs) ∧ Hid (Below w.heap.size w wr) ∧ Hid (∀ k, Fp k → w.heap.size ≤ k)) (fun s12 _ => gs.length - (intOf s12).toNat)
      case atStart => exact ⟨0, F, rfl, Nat.zero_le _, HT4, HP4, HB4, HF3⟩
      case round =>
        clear HT4 HP4 HB4
        obtain ⟨i, Fp, rfl, hi, HTi, HPi, HBi, HFi⟩ := hrel
        rcases Nat.lt_or_ge i gs.length with hil | hig
        · have hil' : (i : Int) < (gs.length : Int) := by omega
          have his : (i : Int) + 1 ≤ 100000 := by omega
          obtain ⟨g, o, cp, es, lg, ng, c0, c1⟩ := HPi.out.at i hil
          have HSV : Hid (sv = .slice (some ⟨g, o, none⟩) gs.length cp) := es
          have HG : Hid (GapOk R 0 L gs[i]) := HGA.out.1 _ (List.getElem_mem hil)
          have gl := HG.out.lt
          have gw := HG.out.low
          have gt := HG.out.top
          obtain ⟨p1, p2, hp⟩ : ∃ p1 p2, gs[i] = (p1, p2) := ⟨_, _, rfl⟩
          rw [hp] at c0 c1 HG gl gw gt
          simp only at c0 c1 gl gw gt
          have d1 : decide (p1 ≥ p2) = false := decide_eq_false (by omega)
          have esc : (.slice sa gs.length sc : Value) = .slice (some ⟨g, o, none⟩) gs.length cp := HSE.out.symm.trans es
          have esa : sa = some ⟨g, o, none⟩ := by injection esc
          have escp : sc = cp := by injection esc
          subst esa escp
          have HPQ : Hid (gs[i] = (p1, p2)) := hp
          have HES : Hid (sv = .slice (some ⟨g, o, none⟩) gs.length sc) := es
          have HPB : Hid (0 ≤ p1 ∧ p1 < p2 ∧ p2 ≤ 4611686018427387904) := ⟨gw, gl, gt⟩
          clear es esc hp gl gw gt
          rcases Nat.eq_zero_or_pos i with hz | hpos
          · have dz : decide ((i : Int) > 0) = false := decide_eq_false (by omega)
            have dz2 : decide (0 < i) = false := decide_eq_false (by omega)
            clear hz
            go_wp2_with fail
            go_quiet (fail)
            obtain ⟨W8, hW8⟩ : ∃ W8, W8 = wr.drewN nq := ⟨_, rfl⟩
            have HTa : Hid (TAt Fp W8 b ls) := by unfold Hid; rw [hW8]; exact HTi.out.go (below_drewN (Below.refl _ _) _)
            have HPa : Hid (Pg Fp W8 sv gs) := by unfold Hid; rw [hW8]; exact HPi.out.go (below_drewN (Below.refl _ _) _)
            have HBa : Hid (Below w.heap.size w W8) := by unfold Hid; rw [hW8]; exact below_dn HBi.out _
            have HFa : Hid (∀ k, Fp k → w.heap.size ≤ k) := HFi.out
            rw [← hW8]
            replace c0 : W8.cell? ⟨g, o + i * 2, none⟩ = some (.int .i64 p1) := by rw [hW8]; exact c0
            replace c1 : W8.cell? ⟨g, o + i * 2 + 1, none⟩ = some (.int .i64 p2) := by rw [hW8]; exact c1
            replace lg : g < W8.heap.size := by rw [hW8]; exact lg
            clear hW8 HTi HPi HBi HFi dz dz2 d1
            have HLGa : Hid (g < W8.heap.size) := lg
            have HNGa : Hid (¬ Fp g) := ng
            obtain ⟨SHa, hSHa⟩ : ∃ S : World → Prop, S = fun u => u.heap[g]? = W8.heap[g]? := ⟨_, rfl⟩
            have hSa : SHa W8.drew := by rw [hSHa]; rfl
            have z0a : ∀ u, SHa u → u.cell? ⟨g, o + i * 2, none⟩ = some (.int .i64 p1) := fun u hu => by rw [hSHa] at hu; exact (cell_same hu).trans c0
            have z1a : ∀ u, SHa u → u.cell? ⟨g, o + i * 2 + 1, none⟩ = some (.int .i64 p2) := fun u hu => by rw [hSHa] at hu; exact (cell_same hu).trans c1
            clear c0 c1 lg ng
            by_cases hp1 : 0 < p1
            · obtain ⟨wAa, hwAa⟩ : ∃ wA, W8.drew.alloc (.cells #[.int .i64 (C : Nat), .int .i64 (p1 - 1), .int .i64 (p1 + 1)] 46) = wA := ⟨_, rfl⟩
              have SAa : SHa wAa := by rw [hSHa, ← hwAa]; exact ((Below.refl _ _).alloc (Nat.le_refl _) _ : Below W8.drew.heap.size W8.drew _).block g HLGa.out
              have cCa := claimT (u := W8.drew) (R := R) (x := ⟨(C : Nat), p1 - 1, p1 + 1⟩) (HTa.out.go (Below.refl _ _).drew) HOK.out HSM.out (by have := HLN.out; omega) (by have := HLN.out; omega) (by omega) (claim_one_taken (i := C) (by have := HLN.out; have := hC6.out; omega) HR0.out (by have := HPB.out; unfold FV; omega) (by rw [← rowOf_nat ls C (by have := HLN.out; have := hC6.out; omega), HLL.out]; exact met_at (HG.out.left (by simp only; omega)) (by simp only; omega) (by simp only; omega)))
              rw [hwAa] at cCa
              go_wp2_with fail
              refine start_held (S := SHa) 27 rfl (by kernel_rfl) (hSa) ?_
              simp only [Array.replicate_succ, Array.replicate_zero, List.push_toArray, List.nil_append, List.cons_append]
              refine take_held 0 (by assumption) rfl (by kernel_rfl) (by kernel_rfl) (by kernel_rfl) (fun _ _ _ h => h) (by kernel_rfl) (v := ?v213) ?y213 ?r213
              case y213 => (intro u hu; go_simp; try rfl)
              simp only [Act.put, List.setIfInBounds_toArray, List.set_cons_zero, List.set_cons_succ]
              refine take_held 1 (by assumption) rfl (by kernel_rfl) (by kernel_rfl) (by kernel_rfl) (fun _ _ _ h => h) (by kernel_rfl) (v := ?v214) ?y214 ?r214
              case y214 => (intro u hu; go_simp; try rfl)
              simp only [Act.put, List.setIfInBounds_toArray, List.set_cons_zero, List.set_cons_succ]
              refine take_held 2 (by assumption) rfl (by kernel_rfl) (by kernel_rfl) (by kernel_rfl) (fun _ _ _ h => h) (by kernel_rfl) (v := ?v215) ?y215 ?r215
              case y215 => (intro u hu; go_simp; try rfl)
              simp only [Act.put, List.setIfInBounds_toArray, List.set_cons_zero, List.set_cons_succ]
              refine take_held 3 (by assumption) rfl (by kernel_rfl) (by kernel_rfl) (by kernel_rfl) (fun _ _ _ h => h) (by kernel_rfl) (v := ?v216) ?y216 ?r216
              case y216 => (intro u hu; go_simp; try rfl)
              simp only [Act.put, List.setIfInBounds_toArray, List.set_cons_zero, List.set_cons_succ]
              refine take_held 4 (by assumption) rfl (by kernel_rfl) (by kernel_rfl) (by kernel_rfl) (fun _ _ _ h => h) (by kernel_rfl) (v := ?v217) ?y217 ?r217
              case y217 => (intro u hu; have zz0 := z0a u hu; go_simp; try rfl)
              simp only [Act.put, List.setIfInBounds_toArray, List.set_cons_zero, List.set_cons_succ]
              refine take_held 5 (by assumption) rfl (by kernel_rfl) (by kernel_rfl) (by kernel_rfl) (fun _ _ _ h => h) (by kernel_rfl) (v := .bool true) ?y218 ?r218
              case y218 => (intro u hu; go_simp; try simp; try omega)
              simp only [Act.put, List.setIfInBounds_toArray, List.set_cons_zero, List.set_cons_succ]
              refine take_held 6 (by assumption) rfl (by kernel_rfl) (by kernel_rfl) (by kernel_rfl) (fun _ _ _ h => h) (by kernel_rfl) (v := ?v219) ?y219 ?r219
              case y219 => (intro u hu; go_simp; try rfl)
              simp only [Act.put, List.setIfInBounds_toArray, List.set_cons_zero, List.set_cons_succ]
              refine take_held 7 (by assumption) rfl (by kernel_rfl) (by kernel_rfl) (by kernel_rfl) (fun _ _ _ h => h) (by kernel_rfl) (v := ?v220) ?y220 ?r220
              case y220 => (intro u hu; go_simp; try rfl)
              simp only [Act.put, List.setIfInBounds_toArray, List.set_cons_zero, List.set_cons_succ]
              refine take_held 8 (by assumption) rfl (by kernel_rfl) (by kernel_rfl) (by kernel_rfl) (fun _ _ _ h => h) (by kernel_rfl) (v := ?v221) ?y221 ?r221
              case y221 => (intro u hu; go_simp; try rfl)
              simp only [Act.put, List.setIfInBounds_toArray, List.set_cons_zero, List.set_cons_succ]
              refine take_held 9 (by assumption) rfl (by kernel_rfl) (by kernel_rfl) (by kernel_rfl) (fun _ _ _ h => h) (by kernel_rfl) (v := ?v222) ?y222 ?r222
              case y222 => (intro u hu; go_simp; try rfl)
              simp only [Act.put, List.setIfInBounds_toArray, List.set_cons_zero, List.set_cons_succ]
              refine take_held 10 (by assumption) rfl (by kernel_rfl) (by kernel_rfl) (by kernel_rfl) (fun _ _ _ h => h) (by kernel_rfl) (v := ?v223) ?y223 ?r223
              case y223 => (intro u hu; go_simp; try rfl)
              simp only [Act.put, List.setIfInBounds_toArray, List.set_cons_zero, List.set_cons_succ]
              refine take_held 11 (by assumption) rfl (by kernel_rfl) (by kernel_rfl) (by kernel_rfl) (fun _ _ _ h => h) (by kernel_rfl) (v := ?v224) ?y224 ?r224
              case y224 => (intro u hu; go_simp; try rfl)
              simp only [Act.put, List.setIfInBounds_toArray, List.set_cons_zero, List.set_cons_succ]
              refine take_held 12 (by assumption) rfl (by kernel_rfl) (by kernel_rfl) (by kernel_rfl) (fun _ _ _ h => h) (by kernel_rfl) (v := ?v225) ?y225 ?r225
              case y225 => (intro u hu; go_simp; try rfl)
              simp only [Act.put, List.setIfInBounds_toArray, List.set_cons_zero, List.set_cons_succ]
              refine take_held 13 (by assumption) rfl (by kernel_rfl) (by kernel_rfl) (by kernel_rfl) (fun _ _ _ h => h) (by kernel_rfl) (v := ?v226) ?y226 ?r226
              case y226 => (intro u hu; go_simp; try rfl)
              simp only [Act.put, List.setIfInBounds_toArray, List.set_cons_zero, List.set_cons_succ]
              refine take_held 14 (by assumption) rfl (by kernel_rfl) (by kernel_rfl) (by kernel_rfl) (fun _ _ _ h => h) (by kernel_rfl) (v := ?v227) ?y227 ?r227
              case y227 => (intro u hu; have zz0 := z0a u hu; go_simp; try rfl)
              simp only [Act.put, List.setIfInBounds_toArray, List.set_cons_zero, List.set_cons_succ]
              refine take_held 15 (by assumption) rfl (by kernel_rfl) (by kernel_rfl) (by kernel_rfl) (fun _ _ _ h => h) (by kernel_rfl) (v := .int .i64 (p1 - 1)) ?y228 ?r228
              case y228 => (intro u hu; have hw : IntKind.i64.wrap (p1 - 1) = p1 - 1 := (by rw [IntKind.wrap_i64]; have := HPB.out; omega); go_simp; try rw [hw]; try rfl)
              simp only [Act.put, List.setIfInBounds_toArray, List.set_cons_zero, List.set_cons_succ]
              refine take_held 16 (by assumption) rfl (by kernel_rfl) (by kernel_rfl) (by kernel_rfl) (fun _ _ _ h => h) (by kernel_rfl) (v := ?v229) ?y229 ?r229
              case y229 => (intro u hu; go_simp; try rfl)
              simp only [Act.put, List.setIfInBounds_toArray, List.set_cons_zero, List.set_cons_succ]
              refine take_held 17 (by assumption) rfl (by kernel_rfl) (by kernel_rfl) (by kernel_rfl) (fun _ _ _ h => h) (by kernel_rfl) (v := ?v230) ?y230 ?r230
              case y230 => (intro u hu; go_simp; try rfl)
              simp only [Act.put, List.setIfInBounds_toArray, List.set_cons_zero, List.set_cons_succ]
              refine take_held 18 (by assumption) rfl (by kernel_rfl) (by kernel_rfl) (by kernel_rfl) (fun _ _ _ h => h) (by kernel_rfl) (v := ?v231) ?y231 ?r231
              case y231 => (intro u hu; go_simp; try rfl)
              simp only [Act.put, List.setIfInBounds_toArray, List.set_cons_zero, List.set_cons_succ]
              refine take_held 19 (by assumption) rfl (by kernel_rfl) (by kernel_rfl) (by kernel_rfl) (fun _ _ _ h => h) (by kernel_rfl) (v := ?v232) ?y232 ?r232
              case y232 => (intro u hu; go_simp; try rfl)
              simp only [Act.put, List.setIfInBounds_toArray, List.set_cons_zero, List.set_cons_succ]
              refine take_held 20 (by assumption) rfl (by kernel_rfl) (by kernel_rfl) (by kernel_rfl) (fun _ _ _ h => h) (by kernel_rfl) (v := ?v233) ?y233 ?r233
              case y233 => (intro u hu; have zz0 := z0a u hu; go_simp; try rfl)
              simp only [Act.put, List.setIfInBounds_toArray, List.set_cons_zero, List.set_cons_succ]
              refine take_held 21 (by assumption) rfl (by kernel_rfl) (by kernel_rfl) (by kernel_rfl) (fun _ _ _ h => h) (by kernel_rfl) (v := .int .i64 (p1 + 1)) ?y234 ?r234
              case y234 => (intro u hu; have hw : IntKind.i64.wrap (p1 + 1) = p1 + 1 := (by rw [IntKind.wrap_i64]; have := HPB.out; omega); go_simp; try rw [hw]; try rfl)
              simp only [Act.put, List.setIfInBounds_toArray, List.set_cons_zero, List.set_cons_succ]
              refine take_held 22 (by assumption) rfl (by kernel_rfl) (by kernel_rfl) (by kernel_rfl) (fun _ _ _ h => h) (by kernel_rfl) (v := ?v235) ?y235 ?r235
              case y235 => (intro u hu; go_simp; try rfl)
              simp only [Act.put, List.setIfInBounds_toArray, List.set_cons_zero, List.set_cons_succ]
              refine wpAnyH_ready (rs := [23]) (by kernel_rfl) (by simp) (AllReadyH.cons ((nth_eq _ 23).trans rfl) ?_ AllReadyH.nil)
              intro K' hK
              refine value_in hK (by kernel_rfl) (.slice (some ⟨W8.heap.size, 0, none⟩) 1 1) (wAa) (by rw [← hwAa]; go_simp; try rfl) (SAa) ?_
              simp only [Act.put, List.setIfInBounds_toArray, List.set_cons_zero, List.set_cons_succ]
              refine wpAnyH_ready (rs := [24]) (by kernel_rfl) (by simp) (AllReadyH.cons ((nth_eq _ 24).trans rfl) ?_ AllReadyH.nil)
              intro K' hK
              refine call_in hK (by kernel_rfl) 19 #[.pointer (some ⟨b, 0, none⟩), .int .i64 R, .slice (some ⟨W8.heap.size, 0, none⟩) 1 1] (by go_simp) _ (cCa) ?_
              rintro v wCa ⟨rfl, Fa, Ta, tCa⟩
              have SCa : SHa wCa := by rw [hSHa]; exact (tCa.block g HLGa.out HNGa.out)
              refine ⟨SCa, ?_⟩
              simp only [Act.put, List.setIfInBounds_toArray, List.set_cons_zero, List.set_cons_succ]
              refine take_held 25 (by assumption) rfl (by kernel_rfl) (by kernel_rfl) (by kernel_rfl) (fun _ _ _ h => h) (by kernel_rfl) (v := ?v236) ?y236 ?r236
              case y236 => (intro u hu; go_simp; try rfl)
              simp only [Act.put, List.setIfInBounds_toArray, List.set_cons_zero, List.set_cons_succ]
              refine take_held 26 (by assumption) rfl (by kernel_rfl) (by kernel_rfl) (by kernel_rfl) (fun _ _ _ h => h) (by kernel_rfl) (v := ?v237) ?y237 ?r237
              case y237 => (intro u hu; go_simp; try rfl)
              simp only [Act.put, List.setIfInBounds_toArray, List.set_cons_zero, List.set_cons_succ]
              refine done_held (by kernel_rfl) ?_ _
              have HPz : Hid (Pg Fa wCa sv gs) := HPa.out.turn ((Tn.below (Below.refl _ _).drew).trans tCa)
              obtain ⟨DB, DF⟩ := tCa.past (Below.drew HBa.out) HFa.out
              have HTz : Hid (TAt Fa wCa b ls) := Ta
              have HBz : Hid (Below w.heap.size w wCa) := DB
              have HFz : Hid (∀ k, Fa k → w.heap.size ≤ k) := DF
              clear cCa SAa SCa tCa Ta DB DF hSa hSHa z0a z1a hwAa
              obtain ⟨W9, hW9⟩ : ∃ W9, W9 = wCa := ⟨_, rfl⟩
              rw [← hW9] at HTz HPz HBz ⊢
              clear hW9
              have HTb : Hid (TAt Fa W9 b ls) := HTz.out
              have HPb : Hid (Pg Fa W9 sv gs) := HPz.out
              have HBb : Hid (Below w.heap.size w W9) := HBz.out
              have HFb : Hid (∀ k, Fa k → w.heap.size ≤ k) := HFz.out
              clear HTz HPz HBz HFz HTa HPa HBa HFa
              obtain ⟨g', o', cp', es', lg, ng, c0, c1⟩ := HPb.out.at i hil
              have es2 := HSV.out.symm.trans es'
              injection es2 with e1 e2 e3
              injection e1 with e4
              injection e4 with e5 e6
              subst e5 e6
              rw [HPQ.out] at c0 c1
              simp only at c0 c1
              clear es' e3 e2
              have HLGb : Hid (g < W9.heap.size) := lg
              have HNGb : Hid (¬ Fa g) := ng
              obtain ⟨SHb, hSHb⟩ : ∃ S : World → Prop, S = fun u => u.heap[g]? = W9.heap[g]? := ⟨_, rfl⟩
              have hSb : SHb W9.drew := by rw [hSHb]; rfl
              have z0b : ∀ u, SHb u → u.cell? ⟨g, o + i * 2, none⟩ = some (.int .i64 p1) := fun u hu => by rw [hSHb] at hu; exact (cell_same hu).trans c0
              have z1b : ∀ u, SHb u → u.cell? ⟨g, o + i * 2 + 1, none⟩ = some (.int .i64 p2) := fun u hu => by rw [hSHb] at hu; exact (cell_same hu).trans c1
              clear c0 c1 lg ng
              by_cases hp2 : p2 < 4611686018427387904
              · obtain ⟨wAb, hwAb⟩ : ∃ wA, W9.drew.alloc (.cells #[.int .i64 (C : Nat), .int .i64 (p2 - 1), .int .i64 (p2 + 1)] 46) = wA := ⟨_, rfl⟩
                have SAb : SHb wAb := by rw [hSHb, ← hwAb]; exact ((Below.refl _ _).alloc (Nat.le_refl _) _ : Below W9.drew.heap.size W9.drew _).block g HLGb.out
                have cCb := claimT (u := W9.drew) (R := R) (x := ⟨(C : Nat), p2 - 1, p2 + 1⟩) (HTb.out.go (Below.refl _ _).drew) HOK.out HSM.out (by have := HLN.out; omega) (by have := HLN.out; omega) (by omega) (claim_one_taken (i := C) (by have := HLN.out; have := hC6.out; omega) HR0.out (by have := HPB.out; unfold FV; omega) (by rw [← rowOf_nat ls C (by have := HLN.out; have := hC6.out; omega), HLL.out]; exact met_at (HG.out.right (by unfold FV; exact hp2)) (by simp only; omega) (by simp only; omega)))
                rw [hwAb] at cCb
                go_wp2_with fail
                refine start_held (S := SHb) 27 rfl (by kernel_rfl) (hSb) ?_
                simp only [Array.replicate_succ, Array.replicate_zero, List.push_toArray, List.nil_append, List.cons_append]
                refine take_held 0 (by assumption) rfl (by kernel_rfl) (by kernel_rfl) (by kernel_rfl) (fun _ _ _ h => h) (by kernel_rfl) (v := ?v238) ?y238 ?r238
                case y238 => (intro u hu; go_simp; try rfl)
                simp only [Act.put, List.setIfInBounds_toArray, List.set_cons_zero, List.set_cons_succ]
                refine take_held 1 (by assumption) rfl (by kernel_rfl) (by kernel_rfl) (by kernel_rfl) (fun _ _ _ h => h) (by kernel_rfl) (v := ?v239) ?y239 ?r239
                case y239 => (intro u hu; go_simp; try rfl)
                simp only [Act.put, List.setIfInBounds_toArray, List.set_cons_zero, List.set_cons_succ]
                refine take_held 2 (by assumption) rfl (by kernel_rfl) (by kernel_rfl) (by kernel_rfl) (fun _ _ _ h => h) (by kernel_rfl) (v := ?v240) ?y240 ?r240
                case y240 => (intro u hu; go_simp; try rfl)
                simp only [Act.put, List.setIfInBounds_toArray, List.set_cons_zero, List.set_cons_succ]
                refine take_held 3 (by assumption) rfl (by kernel_rfl) (by kernel_rfl) (by kernel_rfl) (fun _ _ _ h => h) (by kernel_rfl) (v := ?v241) ?y241 ?r241
                case y241 => (intro u hu; go_simp; try rfl)
                simp only [Act.put, List.setIfInBounds_toArray, List.set_cons_zero, List.set_cons_succ]
                refine take_held 4 (by assumption) rfl (by kernel_rfl) (by kernel_rfl) (by kernel_rfl) (fun _ _ _ h => h) (by kernel_rfl) (v := ?v242) ?y242 ?r242
                case y242 => (intro u hu; have zz0 := z1b u hu; go_simp; try rfl)
                simp only [Act.put, List.setIfInBounds_toArray, List.set_cons_zero, List.set_cons_succ]
                refine take_held 5 (by assumption) rfl (by kernel_rfl) (by kernel_rfl) (by kernel_rfl) (fun _ _ _ h => h) (by kernel_rfl) (v := .bool true) ?y243 ?r243
                case y243 => (intro u hu; go_simp; try simp; try omega)
                simp only [Act.put, List.setIfInBounds_toArray, List.set_cons_zero, List.set_cons_succ]
                refine take_held 6 (by assumption) rfl (by kernel_rfl) (by kernel_rfl) (by kernel_rfl) (fun _ _ _ h => h) (by kernel_rfl) (v := ?v244) ?y244 ?r244
                case y244 => (intro u hu; go_simp; try rfl)
                simp only [Act.put, List.setIfInBounds_toArray, List.set_cons_zero, List.set_cons_succ]
                refine take_held 7 (by assumption) rfl (by kernel_rfl) (by kernel_rfl) (by kernel_rfl) (fun _ _ _ h => h) (by kernel_rfl) (v := ?v245) ?y245 ?r245
                case y245 => (intro u hu; go_simp; try rfl)
                simp only [Act.put, List.setIfInBounds_toArray, List.set_cons_zero, List.set_cons_succ]
                refine take_held 8 (by assumption) rfl (by kernel_rfl) (by kernel_rfl) (by kernel_rfl) (fun _ _ _ h => h) (by kernel_rfl) (v := ?v246) ?y246 ?r246
                case y246 => (intro u hu; go_simp; try rfl)
                simp only [Act.put, List.setIfInBounds_toArray, List.set_cons_zero, List.set_cons_succ]
                refine take_held 9 (by assumption) rfl (by kernel_rfl) (by kernel_rfl) (by kernel_rfl) (fun _ _ _ h => h) (by kernel_rfl) (v := ?v247) ?y247 ?r247
                case y247 => (intro u hu; go_simp; try rfl)
                simp only [Act.put, List.setIfInBounds_toArray, List.set_cons_zero, List.set_cons_succ]
                refine take_held 10 (by assumption) rfl (by kernel_rfl) (by kernel_rfl) (by kernel_rfl) (fun _ _ _ h => h) (by kernel_rfl) (v := ?v248) ?y248 ?r248
                case y248 => (intro u hu; go_simp; try rfl)
                simp only [Act.put, List.setIfInBounds_toArray, List.set_cons_zero, List.set_cons_succ]
                refine take_held 11 (by assumption) rfl (by kernel_rfl) (by kernel_rfl) (by kernel_rfl) (fun _ _ _ h => h) (by kernel_rfl) (v := ?v249) ?y249 ?r249
                case y249 => (intro u hu; go_simp; try rfl)
                simp only [Act.put, List.setIfInBounds_toArray, List.set_cons_zero, List.set_cons_succ]
                refine take_held 12 (by assumption) rfl (by kernel_rfl) (by kernel_rfl) (by kernel_rfl) (fun _ _ _ h => h) (by kernel_rfl) (v := ?v250) ?y250 ?r250
                case y250 => (intro u hu; go_simp; try rfl)
                simp only [Act.put, List.setIfInBounds_toArray, List.set_cons_zero, List.set_cons_succ]
                refine take_held 13 (by assumption) rfl (by kernel_rfl) (by kernel_rfl) (by kernel_rfl) (fun _ _ _ h => h) (by kernel_rfl) (v := ?v251) ?y251 ?r251
                case y251 => (intro u hu; go_simp; try rfl)
                simp only [Act.put, List.setIfInBounds_toArray, List.set_cons_zero, List.set_cons_succ]
                refine take_held 14 (by assumption) rfl (by kernel_rfl) (by kernel_rfl) (by kernel_rfl) (fun _ _ _ h => h) (by kernel_rfl) (v := ?v252) ?y252 ?r252
                case y252 => (intro u hu; have zz0 := z1b u hu; go_simp; try rfl)
                simp only [Act.put, List.setIfInBounds_toArray, List.set_cons_zero, List.set_cons_succ]
                refine take_held 15 (by assumption) rfl (by kernel_rfl) (by kernel_rfl) (by kernel_rfl) (fun _ _ _ h => h) (by kernel_rfl) (v := .int .i64 (p2 - 1)) ?y253 ?r253
                case y253 => (intro u hu; have hw : IntKind.i64.wrap (p2 - 1) = p2 - 1 := (by rw [IntKind.wrap_i64]; have := HPB.out; omega); go_simp; try rw [hw]; try rfl)
                simp only [Act.put, List.setIfInBounds_toArray, List.set_cons_zero, List.set_cons_succ]
                refine take_held 16 (by assumption) rfl (by kernel_rfl) (by kernel_rfl) (by kernel_rfl) (fun _ _ _ h => h) (by kernel_rfl) (v := ?v254) ?y254 ?r254
                case y254 => (intro u hu; go_simp; try rfl)
                simp only [Act.put, List.setIfInBounds_toArray, List.set_cons_zero, List.set_cons_succ]
                refine take_held 17 (by assumption) rfl (by kernel_rfl) (by kernel_rfl) (by kernel_rfl) (fun _ _ _ h => h) (by kernel_rfl) (v := ?v255) ?y255 ?r255
                case y255 => (intro u hu; go_simp; try rfl)
                simp only [Act.put, List.setIfInBounds_toArray, List.set_cons_zero, List.set_cons_succ]
                refine take_held 18 (by assumption) rfl (by kernel_rfl) (by kernel_rfl) (by kernel_rfl) (fun _ _ _ h => h) (by kernel_rfl) (v := ?v256) ?y256 ?r256
                case y256 => (intro u hu; go_simp; try rfl)
                simp only [Act.put, List.setIfInBounds_toArray, List.set_cons_zero, List.set_cons_succ]
                refine take_held 19 (by assumption) rfl (by kernel_rfl) (by kernel_rfl) (by kernel_rfl) (fun _ _ _ h => h) (by kernel_rfl) (v := ?v257) ?y257 ?r257
                case y257 => (intro u hu; go_simp; try rfl)
                simp only [Act.put, List.setIfInBounds_toArray, List.set_cons_zero, List.set_cons_succ]
                refine take_held 20 (by assumption) rfl (by kernel_rfl) (by kernel_rfl) (by kernel_rfl) (fun _ _ _ h => h) (by kernel_rfl) (v := ?v258) ?y258 ?r258
                case y258 => (intro u hu; have zz0 := z1b u hu; go_simp; try rfl)
                simp only [Act.put, List.setIfInBounds_toArray, List.set_cons_zero, List.set_cons_succ]
                refine take_held 21 (by assumption) rfl (by kernel_rfl) (by kernel_rfl) (by kernel_rfl) (fun _ _ _ h => h) (by kernel_rfl) (v := .int .i64 (p2 + 1)) ?y259 ?r259
                case y259 => (intro u hu; have hw : IntKind.i64.wrap (p2 + 1) = p2 + 1 := (by rw [IntKind.wrap_i64]; have := HPB.out; omega); go_simp; try rw [hw]; try rfl)
                simp only [Act.put, List.setIfInBounds_toArray, List.set_cons_zero, List.set_cons_succ]
                refine take_held 22 (by assumption) rfl (by kernel_rfl) (by kernel_rfl) (by kernel_rfl) (fun _ _ _ h => h) (by kernel_rfl) (v := ?v260) ?y260 ?r260
                case y260 => (intro u hu; go_simp; try rfl)
                simp only [Act.put, List.setIfInBounds_toArray, List.set_cons_zero, List.set_cons_succ]
                refine wpAnyH_ready (rs := [23]) (by kernel_rfl) (by simp) (AllReadyH.cons ((nth_eq _ 23).trans rfl) ?_ AllReadyH.nil)
                intro K' hK
                refine value_in hK (by kernel_rfl) (.slice (some ⟨W9.heap.size, 0, none⟩) 1 1) (wAb) (by rw [← hwAb]; go_simp; try rfl) (SAb) ?_
                simp only [Act.put, List.setIfInBounds_toArray, List.set_cons_zero, List.set_cons_succ]
                refine wpAnyH_ready (rs := [24]) (by kernel_rfl) (by simp) (AllReadyH.cons ((nth_eq _ 24).trans rfl) ?_ AllReadyH.nil)
                intro K' hK
                refine call_in hK (by kernel_rfl) 19 #[.pointer (some ⟨b, 0, none⟩), .int .i64 R, .slice (some ⟨W9.heap.size, 0, none⟩) 1 1] (by go_simp) _ (cCb) ?_
                rintro v wCb ⟨rfl, Fb, Tb, tCb⟩
                have SCb : SHb wCb := by rw [hSHb]; exact (tCb.block g HLGb.out HNGb.out)
                refine ⟨SCb, ?_⟩
                simp only [Act.put, List.setIfInBounds_toArray, List.set_cons_zero, List.set_cons_succ]
                refine take_held 25 (by assumption) rfl (by kernel_rfl) (by kernel_rfl) (by kernel_rfl) (fun _ _ _ h => h) (by kernel_rfl) (v := ?v261) ?y261 ?r261
                case y261 => (intro u hu; go_simp; try rfl)
                simp only [Act.put, List.setIfInBounds_toArray, List.set_cons_zero, List.set_cons_succ]
                refine take_held 26 (by assumption) rfl (by kernel_rfl) (by kernel_rfl) (by kernel_rfl) (fun _ _ _ h => h) (by kernel_rfl) (v := ?v262) ?y262 ?r262
                case y262 => (intro u hu; go_simp; try rfl)
                simp only [Act.put, List.setIfInBounds_toArray, List.set_cons_zero, List.set_cons_succ]
                refine done_held (by kernel_rfl) ?_ _
                have HPz : Hid (Pg Fb wCb sv gs) := HPb.out.turn ((Tn.below (Below.refl _ _).drew).trans tCb)
                obtain ⟨DB, DF⟩ := tCb.past (Below.drew HBb.out) HFb.out
                have HTz : Hid (TAt Fb wCb b ls) := Tb
                have HBz : Hid (Below w.heap.size w wCb) := DB
                have HFz : Hid (∀ k, Fb k → w.heap.size ≤ k) := DF
                clear cCb SAb SCb tCb Tb DB DF hSb hSHb z0b z1b hwAb
                go_wp2_with fail
                go_roundw
                case measure => simp only [intOf]; omega
                case rel => exact ⟨i + 1, _, rfl, hil, HTz, HPz, HBz, HFz⟩
              · go_wp2_with fail
                refine start_held (S := SHb) 27 rfl (by kernel_rfl) (hSb) ?_
                simp only [Array.replicate_succ, Array.replicate_zero, List.push_toArray, List.nil_append, List.cons_append]
                refine take_held 0 (by assumption) rfl (by kernel_rfl) (by kernel_rfl) (by kernel_rfl) (fun _ _ _ h => h) (by kernel_rfl) (v := ?v263) ?y263 ?r263
                case y263 => (intro u hu; go_simp; try rfl)
                simp only [Act.put, List.setIfInBounds_toArray, List.set_cons_zero, List.set_cons_succ]
                refine take_held 1 (by assumption) rfl (by kernel_rfl) (by kernel_rfl) (by kernel_rfl) (fun _ _ _ h => h) (by kernel_rfl) (v := ?v264) ?y264 ?r264
                case y264 => (intro u hu; go_simp; try rfl)
                simp only [Act.put, List.setIfInBounds_toArray, List.set_cons_zero, List.set_cons_succ]
                refine take_held 2 (by assumption) rfl (by kernel_rfl) (by kernel_rfl) (by kernel_rfl) (fun _ _ _ h => h) (by kernel_rfl) (v := ?v265) ?y265 ?r265
                case y265 => (intro u hu; go_simp; try rfl)
                simp only [Act.put, List.setIfInBounds_toArray, List.set_cons_zero, List.set_cons_succ]
                refine take_held 3 (by assumption) rfl (by kernel_rfl) (by kernel_rfl) (by kernel_rfl) (fun _ _ _ h => h) (by kernel_rfl) (v := ?v266) ?y266 ?r266
                case y266 => (intro u hu; go_simp; try rfl)
                simp only [Act.put, List.setIfInBounds_toArray, List.set_cons_zero, List.set_cons_succ]
                refine take_held 4 (by assumption) rfl (by kernel_rfl) (by kernel_rfl) (by kernel_rfl) (fun _ _ _ h => h) (by kernel_rfl) (v := ?v267) ?y267 ?r267
                case y267 => (intro u hu; have zz0 := z1b u hu; go_simp; try rfl)
                simp only [Act.put, List.setIfInBounds_toArray, List.set_cons_zero, List.set_cons_succ]
                refine take_held 5 (by assumption) rfl (by kernel_rfl) (by kernel_rfl) (by kernel_rfl) (fun _ _ _ h => h) (by kernel_rfl) (v := .bool false) ?y268 ?r268
                case y268 => (intro u hu; go_simp; try simp; try omega)
                simp only [Act.put, List.setIfInBounds_toArray, List.set_cons_zero, List.set_cons_succ]
                refine take_held 6 (by assumption) rfl (by kernel_rfl) (by kernel_rfl) (by kernel_rfl) (fun _ _ _ h => h) (by kernel_rfl) (v := ?v269) ?y269 ?r269
                case y269 => (intro u hu; go_simp; try rfl)
                simp only [Act.put, List.setIfInBounds_toArray, List.set_cons_zero, List.set_cons_succ]
                refine skip_held 7 (by assumption) rfl (by kernel_rfl) (by kernel_rfl) (by kernel_rfl) (fun _ _ _ h => h) (by kernel_rfl) ?_
                simp only [Act.put, List.setIfInBounds_toArray, List.set_cons_zero, List.set_cons_succ]
                refine skip_held 8 (by assumption) rfl (by kernel_rfl) (by kernel_rfl) (by kernel_rfl) (fun _ _ _ h => h) (by kernel_rfl) ?_
                simp only [Act.put, List.setIfInBounds_toArray, List.set_cons_zero, List.set_cons_succ]
                refine skip_held 9 (by assumption) rfl (by kernel_rfl) (by kernel_rfl) (by kernel_rfl) (fun _ _ _ h => h) (by kernel_rfl) ?_
                simp only [Act.put, List.setIfInBounds_toArray, List.set_cons_zero, List.set_cons_succ]
                refine skip_held 10 (by assumption) rfl (by kernel_rfl) (by kernel_rfl) (by kernel_rfl) (fun _ _ _ h => h) (by kernel_rfl) ?_
                simp only [Act.put, List.setIfInBounds_toArray, List.set_cons_zero, List.set_cons_succ]
                refine skip_held 11 (by assumption) rfl (by kernel_rfl) (by kernel_rfl) (by kernel_rfl) (fun _ _ _ h => h) (by kernel_rfl) ?_
                simp only [Act.put, List.setIfInBounds_toArray, List.set_cons_zero, List.set_cons_succ]
                refine skip_held 12 (by assumption) rfl (by kernel_rfl) (by kernel_rfl) (by kernel_rfl) (fun _ _ _ h => h) (by kernel_rfl) ?_
                simp only [Act.put, List.setIfInBounds_toArray, List.set_cons_zero, List.set_cons_succ]
                refine skip_held 13 (by assumption) rfl (by kernel_rfl) (by kernel_rfl) (by kernel_rfl) (fun _ _ _ h => h) (by kernel_rfl) ?_
                simp only [Act.put, List.setIfInBounds_toArray, List.set_cons_zero, List.set_cons_succ]
                refine skip_held 14 (by assumption) rfl (by kernel_rfl) (by kernel_rfl) (by kernel_rfl) (fun _ _ _ h => h) (by kernel_rfl) ?_
                simp only [Act.put, List.setIfInBounds_toArray, List.set_cons_zero, List.set_cons_succ]
                refine skip_held 15 (by assumption) rfl (by kernel_rfl) (by kernel_rfl) (by kernel_rfl) (fun _ _ _ h => h) (by kernel_rfl) ?_
                simp only [Act.put, List.setIfInBounds_toArray, List.set_cons_zero, List.set_cons_succ]
                refine skip_held 16 (by assumption) rfl (by kernel_rfl) (by kernel_rfl) (by kernel_rfl) (fun _ _ _ h => h) (by kernel_rfl) ?_
                simp only [Act.put, List.setIfInBounds_toArray, List.set_cons_zero, List.set_cons_succ]
                refine skip_held 17 (by assumption) rfl (by kernel_rfl) (by kernel_rfl) (by kernel_rfl) (fun _ _ _ h => h) (by kernel_rfl) ?_
                simp only [Act.put, List.setIfInBounds_toArray, List.set_cons_zero, List.set_cons_succ]
                refine skip_held 18 (by assumption) rfl (by kernel_rfl) (by kernel_rfl) (by kernel_rfl) (fun _ _ _ h => h) (by kernel_rfl) ?_
                simp only [Act.put, List.setIfInBounds_toArray, List.set_cons_zero, List.set_cons_succ]
                refine skip_held 19 (by assumption) rfl (by kernel_rfl) (by kernel_rfl) (by kernel_rfl) (fun _ _ _ h => h) (by kernel_rfl) ?_
                simp only [Act.put, List.setIfInBounds_toArray, List.set_cons_zero, List.set_cons_succ]
                refine skip_held 20 (by assumption) rfl (by kernel_rfl) (by kernel_rfl) (by kernel_rfl) (fun _ _ _ h => h) (by kernel_rfl) ?_
                simp only [Act.put, List.setIfInBounds_toArray, List.set_cons_zero, List.set_cons_succ]
                refine skip_held 21 (by assumption) rfl (by kernel_rfl) (by kernel_rfl) (by kernel_rfl) (fun _ _ _ h => h) (by kernel_rfl) ?_
                simp only [Act.put, List.setIfInBounds_toArray, List.set_cons_zero, List.set_cons_succ]
                refine skip_held 22 (by assumption) rfl (by kernel_rfl) (by kernel_rfl) (by kernel_rfl) (fun _ _ _ h => h) (by kernel_rfl) ?_
                simp only [Act.put, List.setIfInBounds_toArray, List.set_cons_zero, List.set_cons_succ]
                refine skip_held 23 (by assumption) rfl (by kernel_rfl) (by kernel_rfl) (by kernel_rfl) (fun _ _ _ h => h) (by kernel_rfl) ?_
                simp only [Act.put, List.setIfInBounds_toArray, List.set_cons_zero, List.set_cons_succ]
                refine skip_held 24 (by assumption) rfl (by kernel_rfl) (by kernel_rfl) (by kernel_rfl) (fun _ _ _ h => h) (by kernel_rfl) ?_
                simp only [Act.put, List.setIfInBounds_toArray, List.set_cons_zero, List.set_cons_succ]
                refine skip_held 25 (by assumption) rfl (by kernel_rfl) (by kernel_rfl) (by kernel_rfl) (fun _ _ _ h => h) (by kernel_rfl) ?_
                simp only [Act.put, List.setIfInBounds_toArray, List.set_cons_zero, List.set_cons_succ]
                refine take_held 26 (by assumption) rfl (by kernel_rfl) (by kernel_rfl) (by kernel_rfl) (fun _ _ _ h => h) (by kernel_rfl) (v := ?v270) ?y270 ?r270
                case y270 => (intro u hu; go_simp; try rfl)
                simp only [Act.put, List.setIfInBounds_toArray, List.set_cons_zero, List.set_cons_succ]
                refine done_held (by kernel_rfl) ?_ _
                have HPz : Hid (Pg Fa W9.drew sv gs) := HPb.out.go (Below.refl _ _).drew
                have HTz : Hid (TAt Fa W9.drew b ls) := HTb.out.go (Below.refl _ _).drew
                have HBz : Hid (Below w.heap.size w W9.drew) := HBb.out.drew
                have HFz : Hid (∀ k, Fa k → w.heap.size ≤ k) := HFb.out
                clear hSb hSHb z0b z1b
                go_wp2_with fail
                go_roundw
                case measure => simp only [intOf]; omega
                case rel => exact ⟨i + 1, _, rfl, hil, HTz, HPz, HBz, HFz⟩
            · have hp1z : p1 = 0 := by have := HG.out.low; simp only at this; omega
              go_wp2_with fail
              refine start_held (S := SHa) 27 rfl (by kernel_rfl) (hSa) ?_
              simp only [Array.replicate_succ, Array.replicate_zero, List.push_toArray, List.nil_append, List.cons_append]
              refine take_held 0 (by assumption) rfl (by kernel_rfl) (by kernel_rfl) (by kernel_rfl) (fun _ _ _ h => h) (by kernel_rfl) (v := ?v271) ?y271 ?r271
              case y271 => (intro u hu; go_simp; try rfl)
              simp only [Act.put, List.setIfInBounds_toArray, List.set_cons_zero, List.set_cons_succ]
              refine take_held 1 (by assumption) rfl (by kernel_rfl) (by kernel_rfl) (by kernel_rfl) (fun _ _ _ h => h) (by kernel_rfl) (v := ?v272) ?y272 ?r272
              case y272 => (intro u hu; go_simp; try rfl)
              simp only [Act.put, List.setIfInBounds_toArray, List.set_cons_zero, List.set_cons_succ]
              refine take_held 2 (by assumption) rfl (by kernel_rfl) (by kernel_rfl) (by kernel_rfl) (fun _ _ _ h => h) (by kernel_rfl) (v := ?v273) ?y273 ?r273
              case y273 => (intro u hu; go_simp; try rfl)
              simp only [Act.put, List.setIfInBounds_toArray, List.set_cons_zero, List.set_cons_succ]
              refine take_held 3 (by assumption) rfl (by kernel_rfl) (by kernel_rfl) (by kernel_rfl) (fun _ _ _ h => h) (by kernel_rfl) (v := ?v274) ?y274 ?r274
              case y274 => (intro u hu; go_simp; try rfl)
              simp only [Act.put, List.setIfInBounds_toArray, List.set_cons_zero, List.set_cons_succ]
              refine take_held 4 (by assumption) rfl (by kernel_rfl) (by kernel_rfl) (by kernel_rfl) (fun _ _ _ h => h) (by kernel_rfl) (v := ?v275) ?y275 ?r275
              case y275 => (intro u hu; have zz0 := z0a u hu; go_simp; try rfl)
              simp only [Act.put, List.setIfInBounds_toArray, List.set_cons_zero, List.set_cons_succ]
              refine take_held 5 (by assumption) rfl (by kernel_rfl) (by kernel_rfl) (by kernel_rfl) (fun _ _ _ h => h) (by kernel_rfl) (v := .bool false) ?y276 ?r276
              case y276 => (intro u hu; go_simp; try simp; try omega)
              simp only [Act.put, List.setIfInBounds_toArray, List.set_cons_zero, List.set_cons_succ]
              refine take_held 6 (by assumption) rfl (by kernel_rfl) (by kernel_rfl) (by kernel_rfl) (fun _ _ _ h => h) (by kernel_rfl) (v := ?v277) ?y277 ?r277
              case y277 => (intro u hu; go_simp; try rfl)
              simp only [Act.put, List.setIfInBounds_toArray, List.set_cons_zero, List.set_cons_succ]
              refine skip_held 7 (by assumption) rfl (by kernel_rfl) (by kernel_rfl) (by kernel_rfl) (fun _ _ _ h => h) (by kernel_rfl) ?_
              simp only [Act.put, List.setIfInBounds_toArray, List.set_cons_zero, List.set_cons_succ]
              refine skip_held 8 (by assumption) rfl (by kernel_rfl) (by kernel_rfl) (by kernel_rfl) (fun _ _ _ h => h) (by kernel_rfl) ?_
              simp only [Act.put, List.setIfInBounds_toArray, List.set_cons_zero, List.set_cons_succ]
              refine skip_held 9 (by assumption) rfl (by kernel_rfl) (by kernel_rfl) (by kernel_rfl) (fun _ _ _ h => h) (by kernel_rfl) ?_
              simp only [Act.put, List.setIfInBounds_toArray, List.set_cons_zero, List.set_cons_succ]
              refine skip_held 10 (by assumption) rfl (by kernel_rfl) (by kernel_rfl) (by kernel_rfl) (fun _ _ _ h => h) (by kernel_rfl) ?_
              simp only [Act.put, List.setIfInBounds_toArray, List.set_cons_zero, List.set_cons_succ]
              refine skip_held 11 (by assumption) rfl (by kernel_rfl) (by kernel_rfl) (by kernel_rfl) (fun _ _ _ h => h) (by kernel_rfl) ?_
              simp only [Act.put, List.setIfInBounds_toArray, List.set_cons_zero, List.set_cons_succ]
              refine skip_held 12 (by assumption) rfl (by kernel_rfl) (by kernel_rfl) (by kernel_rfl) (fun _ _ _ h => h) (by kernel_rfl) ?_
              simp only [Act.put, List.setIfInBounds_toArray, List.set_cons_zero, List.set_cons_succ]
              refine skip_held 13 (by assumption) rfl (by kernel_rfl) (by kernel_rfl) (by kernel_rfl) (fun _ _ _ h => h) (by kernel_rfl) ?_
              simp only [Act.put, List.setIfInBounds_toArray, List.set_cons_zero, List.set_cons_succ]
              refine skip_held 14 (by assumption) rfl (by kernel_rfl) (by kernel_rfl) (by kernel_rfl) (fun _ _ _ h => h) (by kernel_rfl) ?_
              simp only [Act.put, List.setIfInBounds_toArray, List.set_cons_zero, List.set_cons_succ]
              refine skip_held 15 (by assumption) rfl (by kernel_rfl) (by kernel_rfl) (by kernel_rfl) (fun _ _ _ h => h) (by kernel_rfl) ?_
              simp only [Act.put, List.setIfInBounds_toArray, List.set_cons_zero, List.set_cons_succ]
              refine skip_held 16 (by assumption) rfl (by kernel_rfl) (by kernel_rfl) (by kernel_rfl) (fun _ _ _ h => h) (by kernel_rfl) ?_
              simp only [Act.put, List.setIfInBounds_toArray, List.set_cons_zero, List.set_cons_succ]
              refine skip_held 17 (by assumption) rfl (by kernel_rfl) (by kernel_rfl) (by kernel_rfl) (fun _ _ _ h => h) (by kernel_rfl) ?_
              simp only [Act.put, List.setIfInBounds_toArray, List.set_cons_zero, List.set_cons_succ]
              refine skip_held 18 (by assumption) rfl (by kernel_rfl) (by kernel_rfl) (by kernel_rfl) (fun _ _ _ h => h) (by kernel_rfl) ?_
              simp only [Act.put, List.setIfInBounds_toArray, List.set_cons_zero, List.set_cons_succ]
              refine skip_held 19 (by assumption) rfl (by kernel_rfl) (by kernel_rfl) (by kernel_rfl) (fun _ _ _ h => h) (by kernel_rfl) ?_
              simp only [Act.put, List.setIfInBounds_toArray, List.set_cons_zero, List.set_cons_succ]
              refine skip_held 20 (by assumption) rfl (by kernel_rfl) (by kernel_rfl) (by kernel_rfl) (fun _ _ _ h => h) (by kernel_rfl) ?_
              simp only [Act.put, List.setIfInBounds_toArray, List.set_cons_zero, List.set_cons_succ]
              refine skip_held 21 (by assumption) rfl (by kernel_rfl) (by kernel_rfl) (by kernel_rfl) (fun _ _ _ h => h) (by kernel_rfl) ?_
              simp only [Act.put, List.setIfInBounds_toArray, List.set_cons_zero, List.set_cons_succ]
              refine skip_held 22 (by assumption) rfl (by kernel_rfl) (by kernel_rfl) (by kernel_rfl) (fun _ _ _ h => h) (by kernel_rfl) ?_
              simp only [Act.put, List.setIfInBounds_toArray, List.set_cons_zero, List.set_cons_succ]
              refine skip_held 23 (by assumption) rfl (by kernel_rfl) (by kernel_rfl) (by kernel_rfl) (fun _ _ _ h => h) (by kernel_rfl) ?_
              simp only [Act.put, List.setIfInBounds_toArray, List.set_cons_zero, List.set_cons_succ]
              refine skip_held 24 (by assumption) rfl (by kernel_rfl) (by kernel_rfl) (by kernel_rfl) (fun _ _ _ h => h) (by kernel_rfl) ?_
              simp only [Act.put, List.setIfInBounds_toArray, List.set_cons_zero, List.set_cons_succ]
              refine skip_held 25 (by assumption) rfl (by kernel_rfl) (by kernel_rfl) (by kernel_rfl) (fun _ _ _ h => h) (by kernel_rfl) ?_
              simp only [Act.put, List.setIfInBounds_toArray, List.set_cons_zero, List.set_cons_succ]
              refine take_held 26 (by assumption) rfl (by kernel_rfl) (by kernel_rfl) (by kernel_rfl) (fun _ _ _ h => h) (by kernel_rfl) (v := ?v278) ?y278 ?r278
              case y278 => (intro u hu; go_simp; try rfl)
              simp only [Act.put, List.setIfInBounds_toArray, List.set_cons_zero, List.set_cons_succ]
              refine done_held (by kernel_rfl) ?_ _
              have HPz : Hid (Pg Fp W8.drew sv gs) := HPa.out.go (Below.refl _ _).drew
              have HTz : Hid (TAt Fp W8.drew b ls) := HTa.out.go (Below.refl _ _).drew
              have HBz : Hid (Below w.heap.size w W8.drew) := HBa.out.drew
              have HFz : Hid (∀ k, Fp k → w.heap.size ≤ k) := HFa.out
              clear hSa hSHa z0a z1a
              obtain ⟨W9, hW9⟩ : ∃ W9, W9 = W8.drew := ⟨_, rfl⟩
              rw [← hW9] at HTz HPz HBz ⊢
              clear hW9
              have HTb : Hid (TAt Fp W9 b ls) := HTz.out
              have HPb : Hid (Pg Fp W9 sv gs) := HPz.out
              have HBb : Hid (Below w.heap.size w W9) := HBz.out
              have HFb : Hid (∀ k, Fp k → w.heap.size ≤ k) := HFz.out
              clear HTz HPz HBz HFz HTa HPa HBa HFa
              obtain ⟨g', o', cp', es', lg, ng, c0, c1⟩ := HPb.out.at i hil
              have es2 := HSV.out.symm.trans es'
              injection es2 with e1 e2 e3
              injection e1 with e4
              injection e4 with e5 e6
              subst e5 e6
              rw [HPQ.out] at c0 c1
              simp only at c0 c1
              clear es' e3 e2
              have HLGb : Hid (g < W9.heap.size) := lg
              have HNGb : Hid (¬ Fp g) := ng
              obtain ⟨SHb, hSHb⟩ : ∃ S : World → Prop, S = fun u => u.heap[g]? = W9.heap[g]? := ⟨_, rfl⟩
              have hSb : SHb W9.drew := by rw [hSHb]; rfl
              have z0b : ∀ u, SHb u → u.cell? ⟨g, o + i * 2, none⟩ = some (.int .i64 p1) := fun u hu => by rw [hSHb] at hu; exact (cell_same hu).trans c0
              have z1b : ∀ u, SHb u → u.cell? ⟨g, o + i * 2 + 1, none⟩ = some (.int .i64 p2) := fun u hu => by rw [hSHb] at hu; exact (cell_same hu).trans c1
              clear c0 c1 lg ng
              by_cases hp2 : p2 < 4611686018427387904
              · obtain ⟨wAb, hwAb⟩ : ∃ wA, W9.drew.alloc (.cells #[.int .i64 (C : Nat), .int .i64 (p2 - 1), .int .i64 (p2 + 1)] 46) = wA := ⟨_, rfl⟩
                have SAb : SHb wAb := by rw [hSHb, ← hwAb]; exact ((Below.refl _ _).alloc (Nat.le_refl _) _ : Below W9.drew.heap.size W9.drew _).block g HLGb.out
                have cCb := claimT (u := W9.drew) (R := R) (x := ⟨(C : Nat), p2 - 1, p2 + 1⟩) (HTb.out.go (Below.refl _ _).drew) HOK.out HSM.out (by have := HLN.out; omega) (by have := HLN.out; omega) (by omega) (claim_one_taken (i := C) (by have := HLN.out; have := hC6.out; omega) HR0.out (by have := HPB.out; unfold FV; omega) (by rw [← rowOf_nat ls C (by have := HLN.out; have := hC6.out; omega), HLL.out]; exact met_at (HG.out.right (by unfold FV; exact hp2)) (by simp only; omega) (by simp only; omega)))
                rw [hwAb] at cCb
                go_wp2_with fail
                refine start_held (S := SHb) 27 rfl (by kernel_rfl) (hSb) ?_
                simp only [Array.replicate_succ, Array.replicate_zero, List.push_toArray, List.nil_append, List.cons_append]
                refine take_held 0 (by assumption) rfl (by kernel_rfl) (by kernel_rfl) (by kernel_rfl) (fun _ _ _ h => h) (by kernel_rfl) (v := ?v279) ?y279 ?r279
                case y279 => (intro u hu; go_simp; try rfl)
                simp only [Act.put, List.setIfInBounds_toArray, List.set_cons_zero, List.set_cons_succ]
                refine take_held 1 (by assumption) rfl (by kernel_rfl) (by kernel_rfl) (by kernel_rfl) (fun _ _ _ h => h) (by kernel_rfl) (v := ?v280) ?y280 ?r280
                case y280 => (intro u hu; go_simp; try rfl)
                simp only [Act.put, List.setIfInBounds_toArray, List.set_cons_zero, List.set_cons_succ]
                refine take_held 2 (by assumption) rfl (by kernel_rfl) (by kernel_rfl) (by kernel_rfl) (fun _ _ _ h => h) (by kernel_rfl) (v := ?v281) ?y281 ?r281
                case y281 => (intro u hu; go_simp; try rfl)
                simp only [Act.put, List.setIfInBounds_toArray, List.set_cons_zero, List.set_cons_succ]
                refine take_held 3 (by assumption) rfl (by kernel_rfl) (by kernel_rfl) (by kernel_rfl) (fun _ _ _ h => h) (by kernel_rfl) (v := ?v282) ?y282 ?r282
                case y282 => (intro u hu; go_simp; try rfl)
                simp only [Act.put, List.setIfInBounds_toArray, List.set_cons_zero, List.set_cons_succ]
                refine take_held 4 (by assumption) rfl (by kernel_rfl) (by kernel_rfl) (by kernel_rfl) (fun _ _ _ h => h) (by kernel_rfl) (v := ?v283) ?y283 ?r283
                case y283 => (intro u hu; have zz0 := z1b u hu; go_simp; try rfl)
                simp only [Act.put, List.setIfInBounds_toArray, List.set_cons_zero, List.set_cons_succ]
                refine take_held 5 (by assumption) rfl (by kernel_rfl) (by kernel_rfl) (by kernel_rfl) (fun _ _ _ h => h) (by kernel_rfl) (v := .bool true) ?y284 ?r284
                case y284 => (intro u hu; go_simp; try simp; try omega)
                simp only [Act.put, List.setIfInBounds_toArray, List.set_cons_zero, List.set_cons_succ]
                refine take_held 6 (by assumption) rfl (by kernel_rfl) (by kernel_rfl) (by kernel_rfl) (fun _ _ _ h => h) (by kernel_rfl) (v := ?v285) ?y285 ?r285
                case y285 => (intro u hu; go_simp; try rfl)
                simp only [Act.put, List.setIfInBounds_toArray, List.set_cons_zero, List.set_cons_succ]
                refine take_held 7 (by assumption) rfl (by kernel_rfl) (by kernel_rfl) (by kernel_rfl) (fun _ _ _ h => h) (by kernel_rfl) (v := ?v286) ?y286 ?r286
                case y286 => (intro u hu; go_simp; try rfl)
                simp only [Act.put, List.setIfInBounds_toArray, List.set_cons_zero, List.set_cons_succ]
                refine take_held 8 (by assumption) rfl (by kernel_rfl) (by kernel_rfl) (by kernel_rfl) (fun _ _ _ h => h) (by kernel_rfl) (v := ?v287) ?y287 ?r287
                case y287 => (intro u hu; go_simp; try rfl)
                simp only [Act.put, List.setIfInBounds_toArray, List.set_cons_zero, List.set_cons_succ]
                refine take_held 9 (by assumption) rfl (by kernel_rfl) (by kernel_rfl) (by kernel_rfl) (fun _ _ _ h => h) (by kernel_rfl) (v := ?v288) ?y288 ?r288
                case y288 => (intro u hu; go_simp; try rfl)
                simp only [Act.put, List.setIfInBounds_toArray, List.set_cons_zero, List.set_cons_succ]
                refine take_held 10 (by assumption) rfl (by kernel_rfl) (by kernel_rfl) (by kernel_rfl) (fun _ _ _ h => h) (by kernel_rfl) (v := ?v289) ?y289 ?r289
                case y289 => (intro u hu; go_simp; try rfl)
                simp only [Act.put, List.setIfInBounds_toArray, List.set_cons_zero, List.set_cons_succ]
                refine take_held 11 (by assumption) rfl (by kernel_rfl) (by kernel_rfl) (by kernel_rfl) (fun _ _ _ h => h) (by kernel_rfl) (v := ?v290) ?y290 ?r290
                case y290 => (intro u hu; go_simp; try rfl)
                simp only [Act.put, List.setIfInBounds_toArray, List.set_cons_zero, List.set_cons_succ]
                refine take_held 12 (by assumption) rfl (by kernel_rfl) (by kernel_rfl) (by kernel_rfl) (fun _ _ _ h => h) (by kernel_rfl) (v := ?v291) ?y291 ?r291
                case y291 => (intro u hu; go_simp; try rfl)
                simp only [Act.put, List.setIfInBounds_toArray, List.set_cons_zero, List.set_cons_succ]
                refine take_held 13 (by assumption) rfl (by kernel_rfl) (by kernel_rfl) (by kernel_rfl) (fun _ _ _ h => h) (by kernel_rfl) (v := ?v292) ?y292 ?r292
                case y292 => (intro u hu; go_simp; try rfl)
                simp only [Act.put, List.setIfInBounds_toArray, List.set_cons_zero, List.set_cons_succ]
                refine take_held 14 (by assumption) rfl (by kernel_rfl) (by kernel_rfl) (by kernel_rfl) (fun _ _ _ h => h) (by kernel_rfl) (v := ?v293) ?y293 ?r293
                case y293 => (intro u hu; have zz0 := z1b u hu; go_simp; try rfl)
                simp only [Act.put, List.setIfInBounds_toArray, List.set_cons_zero, List.set_cons_succ]
                refine take_held 15 (by assumption) rfl (by kernel_rfl) (by kernel_rfl) (by kernel_rfl) (fun _ _ _ h => h) (by kernel_rfl) (v := .int .i64 (p2 - 1)) ?y294 ?r294
                case y294 => (intro u hu; have hw : IntKind.i64.wrap (p2 - 1) = p2 - 1 := (by rw [IntKind.wrap_i64]; have := HPB.out; omega); go_simp; try rw [hw]; try rfl)
                simp only [Act.put, List.setIfInBounds_toArray, List.set_cons_zero, List.set_cons_succ]
                refine take_held 16 (by assumption) rfl (by kernel_rfl) (by kernel_rfl) (by kernel_rfl) (fun _ _ _ h => h) (by kernel_rfl) (v := ?v295) ?y295 ?r295
                case y295 => (intro u hu; go_simp; try rfl)
                simp only [Act.put, List.setIfInBounds_toArray, List.set_cons_zero, List.set_cons_succ]
                refine take_held 17 (by assumption) rfl (by kernel_rfl) (by kernel_rfl) (by kernel_rfl) (fun _ _ _ h => h) (by kernel_rfl) (v := ?v296) ?y296 ?r296
                case y296 => (intro u hu; go_simp; try rfl)
                simp only [Act.put, List.setIfInBounds_toArray, List.set_cons_zero, List.set_cons_succ]
                refine take_held 18 (by assumption) rfl (by kernel_rfl) (by kernel_rfl) (by kernel_rfl) (fun _ _ _ h => h) (by kernel_rfl) (v := ?v297) ?y297 ?r297
                case y297 => (intro u hu; go_simp; try rfl)
                simp only [Act.put, List.setIfInBounds_toArray, List.set_cons_zero, List.set_cons_succ]
                refine take_held 19 (by assumption) rfl (by kernel_rfl) (by kernel_rfl) (by kernel_rfl) (fun _ _ _ h => h) (by kernel_rfl) (v := ?v298) ?y298 ?r298
                case y298 => (intro u hu; go_simp; try rfl)
                simp only [Act.put, List.setIfInBounds_toArray, List.set_cons_zero, List.set_cons_succ]
                refine take_held 20 (by assumption) rfl (by kernel_rfl) (by kernel_rfl) (by kernel_rfl) (fun _ _ _ h => h) (by kernel_rfl) (v := ?v299) ?y299 ?r299
                case y299 => (intro u hu; have zz0 := z1b u hu; go_simp; try rfl)
                simp only [Act.put, List.setIfInBounds_toArray, List.set_cons_zero, List.set_cons_succ]
                refine take_held 21 (by assumption) rfl (by kernel_rfl) (by kernel_rfl) (by kernel_rfl) (fun _ _ _ h => h) (by kernel_rfl) (v := .int .i64 (p2 + 1)) ?y300 ?r300
                case y300 => (intro u hu; have hw : IntKind.i64.wrap (p2 + 1) = p2 + 1 := (by rw [IntKind.wrap_i64]; have := HPB.out; omega); go_simp; try rw [hw]; try rfl)
                simp only [Act.put, List.setIfInBounds_toArray, List.set_cons_zero, List.set_cons_succ]
                refine take_held 22 (by assumption) rfl (by kernel_rfl) (by kernel_rfl) (by kernel_rfl) (fun _ _ _ h => h) (by kernel_rfl) (v := ?v301) ?y301 ?r301
                case y301 => (intro u hu; go_simp; try rfl)
                simp only [Act.put, List.setIfInBounds_toArray, List.set_cons_zero, List.set_cons_succ]
                refine wpAnyH_ready (rs := [23]) (by kernel_rfl) (by simp) (AllReadyH.cons ((nth_eq _ 23).trans rfl) ?_ AllReadyH.nil)
                intro K' hK
                refine value_in hK (by kernel_rfl) (.slice (some ⟨W9.heap.size, 0, none⟩) 1 1) (wAb) (by rw [← hwAb]; go_simp; try rfl) (SAb) ?_
                simp only [Act.put, List.setIfInBounds_toArray, List.set_cons_zero, List.set_cons_succ]
                refine wpAnyH_ready (rs := [24]) (by kernel_rfl) (by simp) (AllReadyH.cons ((nth_eq _ 24).trans rfl) ?_ AllReadyH.nil)
                intro K' hK
                refine call_in hK (by kernel_rfl) 19 #[.pointer (some ⟨b, 0, none⟩), .int .i64 R, .slice (some ⟨W9.heap.size, 0, none⟩) 1 1] (by go_simp) _ (cCb) ?_
                rintro v wCb ⟨rfl, Fb, Tb, tCb⟩
                have SCb : SHb wCb := by rw [hSHb]; exact (tCb.block g HLGb.out HNGb.out)
                refine ⟨SCb, ?_⟩
                simp only [Act.put, List.setIfInBounds_toArray, List.set_cons_zero, List.set_cons_succ]
                refine take_held 25 (by assumption) rfl (by kernel_rfl) (by kernel_rfl) (by kernel_rfl) (fun _ _ _ h => h) (by kernel_rfl) (v := ?v302) ?y302 ?r302
                case y302 => (intro u hu; go_simp; try rfl)
                simp only [Act.put, List.setIfInBounds_toArray, List.set_cons_zero, List.set_cons_succ]
                refine take_held 26 (by assumption) rfl (by kernel_rfl) (by kernel_rfl) (by kernel_rfl) (fun _ _ _ h => h) (by kernel_rfl) (v := ?v303) ?y303 ?r303
                case y303 => (intro u hu; go_simp; try rfl)
                simp only [Act.put, List.setIfInBounds_toArray, List.set_cons_zero, List.set_cons_succ]
                refine done_held (by kernel_rfl) ?_ _
                have HPz : Hid (Pg Fb wCb sv gs) := HPb.out.turn ((Tn.below (Below.refl _ _).drew).trans tCb)
                obtain ⟨DB, DF⟩ := tCb.past (Below.drew HBb.out) HFb.out
                have HTz : Hid (TAt Fb wCb b ls) := Tb
                have HBz : Hid (Below w.heap.size w wCb) := DB
                have HFz : Hid (∀ k, Fb k → w.heap.size ≤ k) := DF
                clear cCb SAb SCb tCb Tb DB DF hSb hSHb z0b z1b hwAb
                go_wp2_with fail
                go_roundw
                case measure => simp only [intOf]; omega
                case rel => exact ⟨i + 1, _, rfl, hil, HTz, HPz, HBz, HFz⟩
              · go_wp2_with fail
                refine start_held (S := SHb) 27 rfl (by kernel_rfl) (hSb) ?_
                simp only [Array.replicate_succ, Array.replicate_zero, List.push_toArray, List.nil_append, List.cons_append]
                refine take_held 0 (by assumption) rfl (by kernel_rfl) (by kernel_rfl) (by kernel_rfl) (fun _ _ _ h => h) (by kernel_rfl) (v := ?v304) ?y304 ?r304
                case y304 => (intro u hu; go_simp; try rfl)
                simp only [Act.put, List.setIfInBounds_toArray, List.set_cons_zero, List.set_cons_succ]
                refine take_held 1 (by assumption) rfl (by kernel_rfl) (by kernel_rfl) (by kernel_rfl) (fun _ _ _ h => h) (by kernel_rfl) (v := ?v305) ?y305 ?r305
                case y305 => (intro u hu; go_simp; try rfl)
                simp only [Act.put, List.setIfInBounds_toArray, List.set_cons_zero, List.set_cons_succ]
                refine take_held 2 (by assumption) rfl (by kernel_rfl) (by kernel_rfl) (by kernel_rfl) (fun _ _ _ h => h) (by kernel_rfl) (v := ?v306) ?y306 ?r306
                case y306 => (intro u hu; go_simp; try rfl)
                simp only [Act.put, List.setIfInBounds_toArray, List.set_cons_zero, List.set_cons_succ]
                refine take_held 3 (by assumption) rfl (by kernel_rfl) (by kernel_rfl) (by kernel_rfl) (fun _ _ _ h => h) (by kernel_rfl) (v := ?v307) ?y307 ?r307
                case y307 => (intro u hu; go_simp; try rfl)
                simp only [Act.put, List.setIfInBounds_toArray, List.set_cons_zero, List.set_cons_succ]
                refine take_held 4 (by assumption) rfl (by kernel_rfl) (by kernel_rfl) (by kernel_rfl) (fun _ _ _ h => h) (by kernel_rfl) (v := ?v308) ?y308 ?r308
                case y308 => (intro u hu; have zz0 := z1b u hu; go_simp; try rfl)
                simp only [Act.put, List.setIfInBounds_toArray, List.set_cons_zero, List.set_cons_succ]
                refine take_held 5 (by assumption) rfl (by kernel_rfl) (by kernel_rfl) (by kernel_rfl) (fun _ _ _ h => h) (by kernel_rfl) (v := .bool false) ?y309 ?r309
                case y309 => (intro u hu; go_simp; try simp; try omega)
                simp only [Act.put, List.setIfInBounds_toArray, List.set_cons_zero, List.set_cons_succ]
                refine take_held 6 (by assumption) rfl (by kernel_rfl) (by kernel_rfl) (by kernel_rfl) (fun _ _ _ h => h) (by kernel_rfl) (v := ?v310) ?y310 ?r310
                case y310 => (intro u hu; go_simp; try rfl)
                simp only [Act.put, List.setIfInBounds_toArray, List.set_cons_zero, List.set_cons_succ]
                refine skip_held 7 (by assumption) rfl (by kernel_rfl) (by kernel_rfl) (by kernel_rfl) (fun _ _ _ h => h) (by kernel_rfl) ?_
                simp only [Act.put, List.setIfInBounds_toArray, List.set_cons_zero, List.set_cons_succ]
                refine skip_held 8 (by assumption) rfl (by kernel_rfl) (by kernel_rfl) (by kernel_rfl) (fun _ _ _ h => h) (by kernel_rfl) ?_
                simp only [Act.put, List.setIfInBounds_toArray, List.set_cons_zero, List.set_cons_succ]
                refine skip_held 9 (by assumption) rfl (by kernel_rfl) (by kernel_rfl) (by kernel_rfl) (fun _ _ _ h => h) (by kernel_rfl) ?_
                simp only [Act.put, List.setIfInBounds_toArray, List.set_cons_zero, List.set_cons_succ]
                refine skip_held 10 (by assumption) rfl (by kernel_rfl) (by kernel_rfl) (by kernel_rfl) (fun _ _ _ h => h) (by kernel_rfl) ?_
                simp only [Act.put, List.setIfInBounds_toArray, List.set_cons_zero, List.set_cons_succ]
                refine skip_held 11 (by assumption) rfl (by kernel_rfl) (by kernel_rfl) (by kernel_rfl) (fun _ _ _ h => h) (by kernel_rfl) ?_
                simp only [Act.put, List.setIfInBounds_toArray, List.set_cons_zero, List.set_cons_succ]
                refine skip_held 12 (by assumption) rfl (by kernel_rfl) (by kernel_rfl) (by kernel_rfl) (fun _ _ _ h => h) (by kernel_rfl) ?_
                simp only [Act.put, List.setIfInBounds_toArray, List.set_cons_zero, List.set_cons_succ]
                refine skip_held 13 (by assumption) rfl (by kernel_rfl) (by kernel_rfl) (by kernel_rfl) (fun _ _ _ h => h) (by kernel_rfl) ?_
                simp only [Act.put, List.setIfInBounds_toArray, List.set_cons_zero, List.set_cons_succ]
                refine skip_held 14 (by assumption) rfl (by kernel_rfl) (by kernel_rfl) (by kernel_rfl) (fun _ _ _ h => h) (by kernel_rfl) ?_
                simp only [Act.put, List.setIfInBounds_toArray, List.set_cons_zero, List.set_cons_succ]
                refine skip_held 15 (by assumption) rfl (by kernel_rfl) (by kernel_rfl) (by kernel_rfl) (fun _ _ _ h => h) (by kernel_rfl) ?_
                simp only [Act.put, List.setIfInBounds_toArray, List.set_cons_zero, List.set_cons_succ]
                refine skip_held 16 (by assumption) rfl (by kernel_rfl) (by kernel_rfl) (by kernel_rfl) (fun _ _ _ h => h) (by kernel_rfl) ?_
                simp only [Act.put, List.setIfInBounds_toArray, List.set_cons_zero, List.set_cons_succ]
                refine skip_held 17 (by assumption) rfl (by kernel_rfl) (by kernel_rfl) (by kernel_rfl) (fun _ _ _ h => h) (by kernel_rfl) ?_
                simp only [Act.put, List.setIfInBounds_toArray, List.set_cons_zero, List.set_cons_succ]
                refine skip_held 18 (by assumption) rfl (by kernel_rfl) (by kernel_rfl) (by kernel_rfl) (fun _ _ _ h => h) (by kernel_rfl) ?_
                simp only [Act.put, List.setIfInBounds_toArray, List.set_cons_zero, List.set_cons_succ]
                refine skip_held 19 (by assumption) rfl (by kernel_rfl) (by kernel_rfl) (by kernel_rfl) (fun _ _ _ h => h) (by kernel_rfl) ?_
                simp only [Act.put, List.setIfInBounds_toArray, List.set_cons_zero, List.set_cons_succ]
                refine skip_held 20 (by assumption) rfl (by kernel_rfl) (by kernel_rfl) (by kernel_rfl) (fun _ _ _ h => h) (by kernel_rfl) ?_
                simp only [Act.put, List.setIfInBounds_toArray, List.set_cons_zero, List.set_cons_succ]
                refine skip_held 21 (by assumption) rfl (by kernel_rfl) (by kernel_rfl) (by kernel_rfl) (fun _ _ _ h => h) (by kernel_rfl) ?_
                simp only [Act.put, List.setIfInBounds_toArray, List.set_cons_zero, List.set_cons_succ]
                refine skip_held 22 (by assumption) rfl (by kernel_rfl) (by kernel_rfl) (by kernel_rfl) (fun _ _ _ h => h) (by kernel_rfl) ?_
                simp only [Act.put, List.setIfInBounds_toArray, List.set_cons_zero, List.set_cons_succ]
                refine skip_held 23 (by assumption) rfl (by kernel_rfl) (by kernel_rfl) (by kernel_rfl) (fun _ _ _ h => h) (by kernel_rfl) ?_
                simp only [Act.put, List.setIfInBounds_toArray, List.set_cons_zero, List.set_cons_succ]
                refine skip_held 24 (by assumption) rfl (by kernel_rfl) (by kernel_rfl) (by kernel_rfl) (fun _ _ _ h => h) (by kernel_rfl) ?_
                simp only [Act.put, List.setIfInBounds_toArray, List.set_cons_zero, List.set_cons_succ]
                refine skip_held 25 (by assumption) rfl (by kernel_rfl) (by kernel_rfl) (by kernel_rfl) (fun _ _ _ h => h) (by kernel_rfl) ?_
                simp only [Act.put, List.setIfInBounds_toArray, List.set_cons_zero, List.set_cons_succ]
                refine take_held 26 (by assumption) rfl (by kernel_rfl) (by kernel_rfl) (by kernel_rfl) (fun _ _ _ h => h) (by kernel_rfl) (v := ?v311) ?y311 ?r311
                case y311 => (intro u hu; go_simp; try rfl)
                simp only [Act.put, List.setIfInBounds_toArray, List.set_cons_zero, List.set_cons_succ]
                refine done_held (by kernel_rfl) ?_ _
                have HPz : Hid (Pg Fp W9.drew sv gs) := HPb.out.go (Below.refl _ _).drew
                have HTz : Hid (TAt Fp W9.drew b ls) := HTb.out.go (Below.refl _ _).drew
                have HBz : Hid (Below w.heap.size w W9.drew) := HBb.out.drew
                have HFz : Hid (∀ k, Fp k → w.heap.size ≤ k) := HFb.out
                clear hSb hSHb z0b z1b
                go_wp2_with fail
                go_roundw
                case measure => simp only [intOf]; omega
                case rel => exact ⟨i + 1, _, rfl, hil, HTz, HPz, HBz, HFz⟩
          · obtain ⟨i2, hi2⟩ : ∃ i2, i = i2 + 1 := ⟨i - 1, by omega⟩
            obtain ⟨g2, o2, cp2, es3, _, _, m0, m1⟩ := HPi.out.at i2 (by omega)
            have es4 := HES.out.symm.trans es3
            injection es4 with e1 e2 e3
            injection e1 with e4
            injection e4 with e5 e6
            subst e5 e6
            have hpw := List.pairwise_iff_getElem.1 HGA.out.2.1 i2 i (by omega) hil (by omega)
            obtain ⟨q1, q2, hq⟩ : ∃ q1 q2, gs[i2]'(by omega) = (q1, q2) := ⟨_, _, rfl⟩
            rw [hq] at m0 m1 hpw
            rw [HPQ.out] at hpw
            simp only at m0 m1 hpw
            have d5 : decide (p1 ≤ q2) = false := decide_eq_false (by omega)
            have dz : decide ((i : Int) > 0) = true := decide_eq_true (by omega)
            have dz2 : decide (0 < i) = true := decide_eq_true (by omega)
            have f1 : (i : Int) - 1 = (i2 : Nat) := by omega
            have hi2l : (i2 : Int) < (gs.length : Int) := by omega
            clear es3 e2 e3 hq hpw hi2 hpos
            go_wp2_with fail
            go_quiet (fail)
            obtain ⟨W8, hW8⟩ : ∃ W8, W8 = wr.drewN nq := ⟨_, rfl⟩
            have HTa : Hid (TAt Fp W8 b ls) := by unfold Hid; rw [hW8]; exact HTi.out.go (below_drewN (Below.refl _ _) _)
            have HPa : Hid (Pg Fp W8 sv gs) := by unfold Hid; rw [hW8]; exact HPi.out.go (below_drewN (Below.refl _ _) _)
            have HBa : Hid (Below w.heap.size w W8) := by unfold Hid; rw [hW8]; exact below_dn HBi.out _
            have HFa : Hid (∀ k, Fp k → w.heap.size ≤ k) := HFi.out
            rw [← hW8]
            replace c0 : W8.cell? ⟨g, o + i * 2, none⟩ = some (.int .i64 p1) := by rw [hW8]; exact c0
            replace c1 : W8.cell? ⟨g, o + i * 2 + 1, none⟩ = some (.int .i64 p2) := by rw [hW8]; exact c1
            replace lg : g < W8.heap.size := by rw [hW8]; exact lg
            clear hW8 HTi HPi HBi HFi dz dz2 d1 d5 f1 hi2l m0 m1
            have HLGa : Hid (g < W8.heap.size) := lg
            have HNGa : Hid (¬ Fp g) := ng
            obtain ⟨SHa, hSHa⟩ : ∃ S : World → Prop, S = fun u => u.heap[g]? = W8.heap[g]? := ⟨_, rfl⟩
            have hSa : SHa W8.drew := by rw [hSHa]; rfl
            have z0a : ∀ u, SHa u → u.cell? ⟨g, o + i * 2, none⟩ = some (.int .i64 p1) := fun u hu => by rw [hSHa] at hu; exact (cell_same hu).trans c0
            have z1a : ∀ u, SHa u → u.cell? ⟨g, o + i * 2 + 1, none⟩ = some (.int .i64 p2) := fun u hu => by rw [hSHa] at hu; exact (cell_same hu).trans c1
            clear c0 c1 lg ng
            by_cases hp1 : 0 < p1
            · obtain ⟨wAa, hwAa⟩ : ∃ wA, W8.drew.alloc (.cells #[.int .i64 (C : Nat), .int .i64 (p1 - 1), .int .i64 (p1 + 1)] 46) = wA := ⟨_, rfl⟩
              have SAa : SHa wAa := by rw [hSHa, ← hwAa]; exact ((Below.refl _ _).alloc (Nat.le_refl _) _ : Below W8.drew.heap.size W8.drew _).block g HLGa.out
              have cCa := claimT (u := W8.drew) (R := R) (x := ⟨(C : Nat), p1 - 1, p1 + 1⟩) (HTa.out.go (Below.refl _ _).drew) HOK.out HSM.out (by have := HLN.out; omega) (by have := HLN.out; omega) (by omega) (claim_one_taken (i := C) (by have := HLN.out; have := hC6.out; omega) HR0.out (by have := HPB.out; unfold FV; omega) (by rw [← rowOf_nat ls C (by have := HLN.out; have := hC6.out; omega), HLL.out]; exact met_at (HG.out.left (by simp only; omega)) (by simp only; omega) (by simp only; omega)))
              rw [hwAa] at cCa
              go_wp2_with fail
              refine start_held (S := SHa) 27 rfl (by kernel_rfl) (hSa) ?_
              simp only [Array.replicate_succ, Array.replicate_zero, List.push_toArray, List.nil_append, List.cons_append]
              refine take_held 0 (by assumption) rfl (by kernel_rfl) (by kernel_rfl) (by kernel_rfl) (fun _ _ _ h => h) (by kernel_rfl) (v := ?v312) ?y312 ?r312
              case y312 => (intro u hu; go_simp; try rfl)
              simp only [Act.put, List.setIfInBounds_toArray, List.set_cons_zero, List.set_cons_succ]
              refine take_held 1 (by assumption) rfl (by kernel_rfl) (by kernel_rfl) (by kernel_rfl) (fun _ _ _ h => h) (by kernel_rfl) (v := ?v313) ?y313 ?r313
              case y313 => (intro u hu; go_simp; try rfl)
              simp only [Act.put, List.setIfInBounds_toArray, List.set_cons_zero, List.set_cons_succ]
              refine take_held 2 (by assumption) rfl (by kernel_rfl) (by kernel_rfl) (by kernel_rfl) (fun _ _ _ h => h) (by kernel_rfl) (v := ?v314) ?y314 ?r314
              case y314 => (intro u hu; go_simp; try rfl)
              simp only [Act.put, List.setIfInBounds_toArray, List.set_cons_zero, List.set_cons_succ]
              refine take_held 3 (by assumption) rfl (by kernel_rfl) (by kernel_rfl) (by kernel_rfl) (fun _ _ _ h => h) (by kernel_rfl) (v := ?v315) ?y315 ?r315
              case y315 => (intro u hu; go_simp; try rfl)
              simp only [Act.put, List.setIfInBounds_toArray, List.set_cons_zero, List.set_cons_succ]
              refine take_held 4 (by assumption) rfl (by kernel_rfl) (by kernel_rfl) (by kernel_rfl) (fun _ _ _ h => h) (by kernel_rfl) (v := ?v316) ?y316 ?r316
              case y316 => (intro u hu; have zz0 := z0a u hu; go_simp; try rfl)
              simp only [Act.put, List.setIfInBounds_toArray, List.set_cons_zero, List.set_cons_succ]
              refine take_held 5 (by assumption) rfl (by kernel_rfl) (by kernel_rfl) (by kernel_rfl) (fun _ _ _ h => h) (by kernel_rfl) (v := .bool true) ?y317 ?r317
              case y317 => (intro u hu; go_simp; try simp; try omega)
              simp only [Act.put, List.setIfInBounds_toArray, List.set_cons_zero, List.set_cons_succ]
              refine take_held 6 (by assumption) rfl (by kernel_rfl) (by kernel_rfl) (by kernel_rfl) (fun _ _ _ h => h) (by kernel_rfl) (v := ?v318) ?y318 ?r318
              case y318 => (intro u hu; go_simp; try rfl)
              simp only [Act.put, List.setIfInBounds_toArray, List.set_cons_zero, List.set_cons_succ]
              refine take_held 7 (by assumption) rfl (by kernel_rfl) (by kernel_rfl) (by kernel_rfl) (fun _ _ _ h => h) (by kernel_rfl) (v := ?v319) ?y319 ?r319
              case y319 => (intro u hu; go_simp; try rfl)
              simp only [Act.put, List.setIfInBounds_toArray, List.set_cons_zero, List.set_cons_succ]
              refine take_held 8 (by assumption) rfl (by kernel_rfl) (by kernel_rfl) (by kernel_rfl) (fun _ _ _ h => h) (by kernel_rfl) (v := ?v320) ?y320 ?r320
              case y320 => (intro u hu; go_simp; try rfl)
              simp only [Act.put, List.setIfInBounds_toArray, List.set_cons_zero, List.set_cons_succ]
              refine take_held 9 (by assumption) rfl (by kernel_rfl) (by kernel_rfl) (by kernel_rfl) (fun _ _ _ h => h) (by kernel_rfl) (v := ?v321) ?y321 ?r321
              case y321 => (intro u hu; go_simp; try rfl)
              simp only [Act.put, List.setIfInBounds_toArray, List.set_cons_zero, List.set_cons_succ]
              refine take_held 10 (by assumption) rfl (by kernel_rfl) (by kernel_rfl) (by kernel_rfl) (fun _ _ _ h => h) (by kernel_rfl) (v := ?v322) ?y322 ?r322
              case y322 => (intro u hu; go_simp; try rfl)
              simp only [Act.put, List.setIfInBounds_toArray, List.set_cons_zero, List.set_cons_succ]
              refine take_held 11 (by assumption) rfl (by kernel_rfl) (by kernel_rfl) (by kernel_rfl) (fun _ _ _ h => h) (by kernel_rfl) (v := ?v323) ?y323 ?r323
              case y323 => (intro u hu; go_simp; try rfl)
              simp only [Act.put, List.setIfInBounds_toArray, List.set_cons_zero, List.set_cons_succ]
              refine take_held 12 (by assumption) rfl (by kernel_rfl) (by kernel_rfl) (by kernel_rfl) (fun _ _ _ h => h) (by kernel_rfl) (v := ?v324) ?y324 ?r324
              case y324 => (intro u hu; go_simp; try rfl)
              simp only [Act.put, List.setIfInBounds_toArray, List.set_cons_zero, List.set_cons_succ]
              refine take_held 13 (by assumption) rfl (by kernel_rfl) (by kernel_rfl) (by kernel_rfl) (fun _ _ _ h => h) (by kernel_rfl) (v := ?v325) ?y325 ?r325
              case y325 => (intro u hu; go_simp; try rfl)
              simp only [Act.put, List.setIfInBounds_toArray, List.set_cons_zero, List.set_cons_succ]
              refine take_held 14 (by assumption) rfl (by kernel_rfl) (by kernel_rfl) (by kernel_rfl) (fun _ _ _ h => h) (by kernel_rfl) (v := ?v326) ?y326 ?r326
              case y326 => (intro u hu; have zz0 := z0a u hu; go_simp; try rfl)
              simp only [Act.put, List.setIfInBounds_toArray, List.set_cons_zero, List.set_cons_succ]
              refine take_held 15 (by assumption) rfl (by kernel_rfl) (by kernel_rfl) (by kernel_rfl) (fun _ _ _ h => h) (by kernel_rfl) (v := .int .i64 (p1 - 1)) ?y327 ?r327
              case y327 => (intro u hu; have hw : IntKind.i64.wrap (p1 - 1) = p1 - 1 := (by rw [IntKind.wrap_i64]; have := HPB.out; omega); go_simp; try rw [hw]; try rfl)
              simp only [Act.put, List.setIfInBounds_toArray, List.set_cons_zero, List.set_cons_succ]
              refine take_held 16 (by assumption) rfl (by kernel_rfl) (by kernel_rfl) (by kernel_rfl) (fun _ _ _ h => h) (by kernel_rfl) (v := ?v328) ?y328 ?r328
              case y328 => (intro u hu; go_simp; try rfl)
              simp only [Act.put, List.setIfInBounds_toArray, List.set_cons_zero, List.set_cons_succ]
              refine take_held 17 (by assumption) rfl (by kernel_rfl) (by kernel_rfl) (by kernel_rfl) (fun _ _ _ h => h) (by kernel_rfl) (v := ?v329) ?y329 ?r329
              case y329 => (intro u hu; go_simp; try rfl)
              simp only [Act.put, List.setIfInBounds_toArray, List.set_cons_zero, List.set_cons_succ]
              refine take_held 18 (by assumption) rfl (by kernel_rfl) (by kernel_rfl) (by kernel_rfl) (fun _ _ _ h => h) (by kernel_rfl) (v := ?v330) ?y330 ?r330
              case y330 => (intro u hu; go_simp; try rfl)
              simp only [Act.put, List.setIfInBounds_toArray, List.set_cons_zero, List.set_cons_succ]
              refine take_held 19 (by assumption) rfl (by kernel_rfl) (by kernel_rfl) (by kernel_rfl) (fun _ _ _ h => h) (by kernel_rfl) (v := ?v331) ?y331 ?r331
              case y331 => (intro u hu; go_simp; try rfl)
              simp only [Act.put, List.setIfInBounds_toArray, List.set_cons_zero, List.set_cons_succ]
              refine take_held 20 (by assumption) rfl (by kernel_rfl) (by kernel_rfl) (by kernel_rfl) (fun _ _ _ h => h) (by kernel_rfl) (v := ?v332) ?y332 ?r332
              case y332 => (intro u hu; have zz0 := z0a u hu; go_simp; try rfl)
              simp only [Act.put, List.setIfInBounds_toArray, List.set_cons_zero, List.set_cons_succ]
              refine take_held 21 (by assumption) rfl (by kernel_rfl) (by kernel_rfl) (by kernel_rfl) (fun _ _ _ h => h) (by kernel_rfl) (v := .int .i64 (p1 + 1)) ?y333 ?r333
              case y333 => (intro u hu; have hw : IntKind.i64.wrap (p1 + 1) = p1 + 1 := (by rw [IntKind.wrap_i64]; have := HPB.out; omega); go_simp; try rw [hw]; try rfl)
              simp only [Act.put, List.setIfInBounds_toArray, List.set_cons_zero, List.set_cons_succ]
              refine take_held 22 (by assumption) rfl (by kernel_rfl) (by kernel_rfl) (by kernel_rfl) (fun _ _ _ h => h) (by kernel_rfl) (v := ?v334) ?y334 ?r334
              case y334 => (intro u hu; go_simp; try rfl)
              simp only [Act.put, List.setIfInBounds_toArray, List.set_cons_zero, List.set_cons_succ]
              refine wpAnyH_ready (rs := [23]) (by kernel_rfl) (by simp) (AllReadyH.cons ((nth_eq _ 23).trans rfl) ?_ AllReadyH.nil)
              intro K' hK
              refine value_in hK (by kernel_rfl) (.slice (some ⟨W8.heap.size, 0, none⟩) 1 1) (wAa) (by rw [← hwAa]; go_simp; try rfl) (SAa) ?_
              simp only [Act.put, List.setIfInBounds_toArray, List.set_cons_zero, List.set_cons_succ]
              refine wpAnyH_ready (rs := [24]) (by kernel_rfl) (by simp) (AllReadyH.cons ((nth_eq _ 24).trans rfl) ?_ AllReadyH.nil)
              intro K' hK
              refine call_in hK (by kernel_rfl) 19 #[.pointer (some ⟨b, 0, none⟩), .int .i64 R, .slice (some ⟨W8.heap.size, 0, none⟩) 1 1] (by go_simp) _ (cCa) ?_
              rintro v wCa ⟨rfl, Fa, Ta, tCa⟩
              have SCa : SHa wCa := by rw [hSHa]; exact (tCa.block g HLGa.out HNGa.out)
              refine ⟨SCa, ?_⟩
              simp only [Act.put, List.setIfInBounds_toArray, List.set_cons_zero, List.set_cons_succ]
              refine take_held 25 (by assumption) rfl (by kernel_rfl) (by kernel_rfl) (by kernel_rfl) (fun _ _ _ h => h) (by kernel_rfl) (v := ?v335) ?y335 ?r335
              case y335 => (intro u hu; go_simp; try rfl)
              simp only [Act.put, List.setIfInBounds_toArray, List.set_cons_zero, List.set_cons_succ]
              refine take_held 26 (by assumption) rfl (by kernel_rfl) (by kernel_rfl) (by kernel_rfl) (fun _ _ _ h => h) (by kernel_rfl) (v := ?v336) ?y336 ?r336
              case y336 => (intro u hu; go_simp; try rfl)
              simp only [Act.put, List.setIfInBounds_toArray, List.set_cons_zero, List.set_cons_succ]
              refine done_held (by kernel_rfl) ?_ _
              have HPz : Hid (Pg Fa wCa sv gs) := HPa.out.turn ((Tn.below (Below.refl _ _).drew).trans tCa)
              obtain ⟨DB, DF⟩ := tCa.past (Below.drew HBa.out) HFa.out
              have HTz : Hid (TAt Fa wCa b ls) := Ta
              have HBz : Hid (Below w.heap.size w wCa) := DB
              have HFz : Hid (∀ k, Fa k → w.heap.size ≤ k) := DF
              clear cCa SAa SCa tCa Ta DB DF hSa hSHa z0a z1a hwAa
              obtain ⟨W9, hW9⟩ : ∃ W9, W9 = wCa := ⟨_, rfl⟩
              rw [← hW9] at HTz HPz HBz ⊢
              clear hW9
              have HTb : Hid (TAt Fa W9 b ls) := HTz.out
              have HPb : Hid (Pg Fa W9 sv gs) := HPz.out
              have HBb : Hid (Below w.heap.size w W9) := HBz.out
              have HFb : Hid (∀ k, Fa k → w.heap.size ≤ k) := HFz.out
              clear HTz HPz HBz HFz HTa HPa HBa HFa
              obtain ⟨g', o', cp', es', lg, ng, c0, c1⟩ := HPb.out.at i hil
              have es2 := HSV.out.symm.trans es'
              injection es2 with e1 e2 e3
              injection e1 with e4
              injection e4 with e5 e6
              subst e5 e6
              rw [HPQ.out] at c0 c1
              simp only at c0 c1
              clear es' e3 e2
              have HLGb : Hid (g < W9.heap.size) := lg
              have HNGb : Hid (¬ Fa g) := ng
              obtain ⟨SHb, hSHb⟩ : ∃ S : World → Prop, S = fun u => u.heap[g]? = W9.heap[g]? := ⟨_, rfl⟩
              have hSb : SHb W9.drew := by rw [hSHb]; rfl
              have z0b : ∀ u, SHb u → u.cell? ⟨g, o + i * 2, none⟩ = some (.int .i64 p1) := fun u hu => by rw [hSHb] at hu; exact (cell_same hu).trans c0
              have z1b : ∀ u, SHb u → u.cell? ⟨g, o + i * 2 + 1, none⟩ = some (.int .i64 p2) := fun u hu => by rw [hSHb] at hu; exact (cell_same hu).trans c1
              clear c0 c1 lg ng
              by_cases hp2 : p2 < 4611686018427387904
              · obtain ⟨wAb, hwAb⟩ : ∃ wA, W9.drew.alloc (.cells #[.int .i64 (C : Nat), .int .i64 (p2 - 1), .int .i64 (p2 + 1)] 46) = wA := ⟨_, rfl⟩
                have SAb : SHb wAb := by rw [hSHb, ← hwAb]; exact ((Below.refl _ _).alloc (Nat.le_refl _) _ : Below W9.drew.heap.size W9.drew _).block g HLGb.out
                have cCb := claimT (u := W9.drew) (R := R) (x := ⟨(C : Nat), p2 - 1, p2 + 1⟩) (HTb.out.go (Below.refl _ _).drew) HOK.out HSM.out (by have := HLN.out; omega) (by have := HLN.out; omega) (by omega) (claim_one_taken (i := C) (by have := HLN.out; have := hC6.out; omega) HR0.out (by have := HPB.out; unfold FV; omega) (by rw [← rowOf_nat ls C (by have := HLN.out; have := hC6.out; omega), HLL.out]; exact met_at (HG.out.right (by unfold FV; exact hp2)) (by simp only; omega) (by simp only; omega)))
                rw [hwAb] at cCb
                go_wp2_with fail
                refine start_held (S := SHb) 27 rfl (by kernel_rfl) (hSb) ?_
                simp only [Array.replicate_succ, Array.replicate_zero, List.push_toArray, List.nil_append, List.cons_append]
                refine take_held 0 (by assumption) rfl (by kernel_rfl) (by kernel_rfl) (by kernel_rfl) (fun _ _ _ h => h) (by kernel_rfl) (v := ?v337) ?y337 ?r337
                case y337 => (intro u hu; go_simp; try rfl)
                simp only [Act.put, List.setIfInBounds_toArray, List.set_cons_zero, List.set_cons_succ]
                refine take_held 1 (by assumption) rfl (by kernel_rfl) (by kernel_rfl) (by kernel_rfl) (fun _ _ _ h => h) (by kernel_rfl) (v := ?v338) ?y338 ?r338
                case y338 => (intro u hu; go_simp; try rfl)
                simp only [Act.put, List.setIfInBounds_toArray, List.set_cons_zero, List.set_cons_succ]
                refine take_held 2 (by assumption) rfl (by kernel_rfl) (by kernel_rfl) (by kernel_rfl) (fun _ _ _ h => h) (by kernel_rfl) (v := ?v339) ?y339 ?r339
                case y339 => (intro u hu; go_simp; try rfl)
                simp only [Act.put, List.setIfInBounds_toArray, List.set_cons_zero, List.set_cons_succ]
                refine take_held 3 (by assumption) rfl (by kernel_rfl) (by kernel_rfl) (by kernel_rfl) (fun _ _ _ h => h) (by kernel_rfl) (v := ?v340) ?y340 ?r340
                case y340 => (intro u hu; go_simp; try rfl)
                simp only [Act.put, List.setIfInBounds_toArray, List.set_cons_zero, List.set_cons_succ]
                refine take_held 4 (by assumption) rfl (by kernel_rfl) (by kernel_rfl) (by kernel_rfl) (fun _ _ _ h => h) (by kernel_rfl) (v := ?v341) ?y341 ?r341
                case y341 => (intro u hu; have zz0 := z1b u hu; go_simp; try rfl)
                simp only [Act.put, List.setIfInBounds_toArray, List.set_cons_zero, List.set_cons_succ]
                refine take_held 5 (by assumption) rfl (by kernel_rfl) (by kernel_rfl) (by kernel_rfl) (fun _ _ _ h => h) (by kernel_rfl) (v := .bool true) ?y342 ?r342
                case y342 => (intro u hu; go_simp; try simp; try omega)
                simp only [Act.put, List.setIfInBounds_toArray, List.set_cons_zero, List.set_cons_succ]
                refine take_held 6 (by assumption) rfl (by kernel_rfl) (by kernel_rfl) (by kernel_rfl) (fun _ _ _ h => h) (by kernel_rfl) (v := ?v343) ?y343 ?r343
                case y343 => (intro u hu; go_simp; try rfl)
                simp only [Act.put, List.setIfInBounds_toArray, List.set_cons_zero, List.set_cons_succ]
                refine take_held 7 (by assumption) rfl (by kernel_rfl) (by kernel_rfl) (by kernel_rfl) (fun _ _ _ h => h) (by kernel_rfl) (v := ?v344) ?y344 ?r344
                case y344 => (intro u hu; go_simp; try rfl)
                simp only [Act.put, List.setIfInBounds_toArray, List.set_cons_zero, List.set_cons_succ]
                refine take_held 8 (by assumption) rfl (by kernel_rfl) (by kernel_rfl) (by kernel_rfl) (fun _ _ _ h => h) (by kernel_rfl) (v := ?v345) ?y345 ?r345
                case y345 => (intro u hu; go_simp; try rfl)
                simp only [Act.put, List.setIfInBounds_toArray, List.set_cons_zero, List.set_cons_succ]
                refine take_held 9 (by assumption) rfl (by kernel_rfl) (by kernel_rfl) (by kernel_rfl) (fun _ _ _ h => h) (by kernel_rfl) (v := ?v346) ?y346 ?r346
                case y346 => (intro u hu; go_simp; try rfl)
                simp only [Act.put, List.setIfInBounds_toArray, List.set_cons_zero, List.set_cons_succ]
                refine take_held 10 (by assumption) rfl (by kernel_rfl) (by kernel_rfl) (by kernel_rfl) (fun _ _ _ h => h) (by kernel_rfl) (v := ?v347) ?y347 ?r347
                case y347 => (intro u hu; go_simp; try rfl)
                simp only [Act.put, List.setIfInBounds_toArray, List.set_cons_zero, List.set_cons_succ]
                refine take_held 11 (by assumption) rfl (by kernel_rfl) (by kernel_rfl) (by kernel_rfl) (fun _ _ _ h => h) (by kernel_rfl) (v := ?v348) ?y348 ?r348
                case y348 => (intro u hu; go_simp; try rfl)
                simp only [Act.put, List.setIfInBounds_toArray, List.set_cons_zero, List.set_cons_succ]
                refine take_held 12 (by assumption) rfl (by kernel_rfl) (by kernel_rfl) (by kernel_rfl) (fun _ _ _ h => h) (by kernel_rfl) (v := ?v349) ?y349 ?r349
                case y349 => (intro u hu; go_simp; try rfl)
                simp only [Act.put, List.setIfInBounds_toArray, List.set_cons_zero, List.set_cons_succ]
                refine take_held 13 (by assumption) rfl (by kernel_rfl) (by kernel_rfl) (by kernel_rfl) (fun _ _ _ h => h) (by kernel_rfl) (v := ?v350) ?y350 ?r350
                case y350 => (intro u hu; go_simp; try rfl)
                simp only [Act.put, List.setIfInBounds_toArray, List.set_cons_zero, List.set_cons_succ]
                refine take_held 14 (by assumption) rfl (by kernel_rfl) (by kernel_rfl) (by kernel_rfl) (fun _ _ _ h => h) (by kernel_rfl) (v := ?v351) ?y351 ?r351
                case y351 => (intro u hu; have zz0 := z1b u hu; go_simp; try rfl)
                simp only [Act.put, List.setIfInBounds_toArray, List.set_cons_zero, List.set_cons_succ]
                refine take_held 15 (by assumption) rfl (by kernel_rfl) (by kernel_rfl) (by kernel_rfl) (fun _ _ _ h => h) (by kernel_rfl) (v := .int .i64 (p2 - 1)) ?y352 ?r352
                case y352 => (intro u hu; have hw : IntKind.i64.wrap (p2 - 1) = p2 - 1 := (by rw [IntKind.wrap_i64]; have := HPB.out; omega); go_simp; try rw [hw]; try rfl)
                simp only [Act.put, List.setIfInBounds_toArray, List.set_cons_zero, List.set_cons_succ]
                refine take_held 16 (by assumption) rfl (by kernel_rfl) (by kernel_rfl) (by kernel_rfl) (fun _ _ _ h => h) (by kernel_rfl) (v := ?v353) ?y353 ?r353
                case y353 => (intro u hu; go_simp; try rfl)
                simp only [Act.put, List.setIfInBounds_toArray, List.set_cons_zero, List.set_cons_succ]
                refine take_held 17 (by assumption) rfl (by kernel_rfl) (by kernel_rfl) (by kernel_rfl) (fun _ _ _ h => h) (by kernel_rfl) (v := ?v354) ?y354 ?r354
                case y354 => (intro u hu; go_simp; try rfl)
                simp only [Act.put, List.setIfInBounds_toArray, List.set_cons_zero, List.set_cons_succ]
                refine take_held 18 (by assumption) rfl (by kernel_rfl) (by kernel_rfl) (by kernel_rfl) (fun _ _ _ h => h) (by kernel_rfl) (v := ?v355) ?y355 ?r355
                case y355 => (intro u hu; go_simp; try rfl)
                simp only [Act.put, List.setIfInBounds_toArray, List.set_cons_zero, List.set_cons_succ]
                refine take_held 19 (by assumption) rfl (by kernel_rfl) (by kernel_rfl) (by kernel_rfl) (fun _ _ _ h => h) (by kernel_rfl) (v := ?v356) ?y356 ?r356
                case y356 => (intro u hu; go_simp; try rfl)
                simp only [Act.put, List.setIfInBounds_toArray, List.set_cons_zero, List.set_cons_succ]
                refine take_held 20 (by assumption) rfl (by kernel_rfl) (by kernel_rfl) (by kernel_rfl) (fun _ _ _ h => h) (by kernel_rfl) (v := ?v357) ?y357 ?r357
                case y357 => (intro u hu; have zz0 := z1b u hu; go_simp; try rfl)
                simp only [Act.put, List.setIfInBounds_toArray, List.set_cons_zero, List.set_cons_succ]
                refine take_held 21 (by assumption) rfl (by kernel_rfl) (by kernel_rfl) (by kernel_rfl) (fun _ _ _ h => h) (by kernel_rfl) (v := .int .i64 (p2 + 1)) ?y358 ?r358
                case y358 => (intro u hu; have hw : IntKind.i64.wrap (p2 + 1) = p2 + 1 := (by rw [IntKind.wrap_i64]; have := HPB.out; omega); go_simp; try rw [hw]; try rfl)
                simp only [Act.put, List.setIfInBounds_toArray, List.set_cons_zero, List.set_cons_succ]
                refine take_held 22 (by assumption) rfl (by kernel_rfl) (by kernel_rfl) (by kernel_rfl) (fun _ _ _ h => h) (by kernel_rfl) (v := ?v359) ?y359 ?r359
                case y359 => (intro u hu; go_simp; try rfl)
                simp only [Act.put, List.setIfInBounds_toArray, List.set_cons_zero, List.set_cons_succ]
                refine wpAnyH_ready (rs := [23]) (by kernel_rfl) (by simp) (AllReadyH.cons ((nth_eq _ 23).trans rfl) ?_ AllReadyH.nil)
                intro K' hK
                refine value_in hK (by kernel_rfl) (.slice (some ⟨W9.heap.size, 0, none⟩) 1 1) (wAb) (by rw [← hwAb]; go_simp; try rfl) (SAb) ?_
                simp only [Act.put, List.setIfInBounds_toArray, List.set_cons_zero, List.set_cons_succ]
                refine wpAnyH_ready (rs := [24]) (by kernel_rfl) (by simp) (AllReadyH.cons ((nth_eq _ 24).trans rfl) ?_ AllReadyH.nil)
                intro K' hK
                refine call_in hK (by kernel_rfl) 19 #[.pointer (some ⟨b, 0, none⟩), .int .i64 R, .slice (some ⟨W9.heap.size, 0, none⟩) 1 1] (by go_simp) _ (cCb) ?_
                rintro v wCb ⟨rfl, Fb, Tb, tCb⟩
                have SCb : SHb wCb := by rw [hSHb]; exact (tCb.block g HLGb.out HNGb.out)
                refine ⟨SCb, ?_⟩
                simp only [Act.put, List.setIfInBounds_toArray, List.set_cons_zero, List.set_cons_succ]
                refine take_held 25 (by assumption) rfl (by kernel_rfl) (by kernel_rfl) (by kernel_rfl) (fun _ _ _ h => h) (by kernel_rfl) (v := ?v360) ?y360 ?r360
                case y360 => (intro u hu; go_simp; try rfl)
                simp only [Act.put, List.setIfInBounds_toArray, List.set_cons_zero, List.set_cons_succ]
                refine take_held 26 (by assumption) rfl (by kernel_rfl) (by kernel_rfl) (by kernel_rfl) (fun _ _ _ h => h) (by kernel_rfl) (v := ?v361) ?y361 ?r361
                case y361 => (intro u hu; go_simp; try rfl)
                simp only [Act.put, List.setIfInBounds_toArray, List.set_cons_zero, List.set_cons_succ]
                refine done_held (by kernel_rfl) ?_ _
                have HPz : Hid (Pg Fb wCb sv gs) := HPb.out.turn ((Tn.below (Below.refl _ _).drew).trans tCb)
                obtain ⟨DB, DF⟩ := tCb.past (Below.drew HBb.out) HFb.out
                have HTz : Hid (TAt Fb wCb b ls) := Tb
                have HBz : Hid (Below w.heap.size w wCb) := DB
                have HFz : Hid (∀ k, Fb k → w.heap.size ≤ k) := DF
                clear cCb SAb SCb tCb Tb DB DF hSb hSHb z0b z1b hwAb
                go_wp2_with fail
                go_roundw
                case measure => simp only [intOf]; omega
                case rel => exact ⟨i + 1, _, rfl, hil, HTz, HPz, HBz, HFz⟩
              · go_wp2_with fail
                refine start_held (S := SHb) 27 rfl (by kernel_rfl) (hSb) ?_
                simp only [Array.replicate_succ, Array.replicate_zero, List.push_toArray, List.nil_append, List.cons_append]
                refine take_held 0 (by assumption) rfl (by kernel_rfl) (by kernel_rfl) (by kernel_rfl) (fun _ _ _ h => h) (by kernel_rfl) (v := ?v362) ?y362 ?r362
                case y362 => (intro u hu; go_simp; try rfl)
                simp only [Act.put, List.setIfInBounds_toArray, List.set_cons_zero, List.set_cons_succ]
                refine take_held 1 (by assumption) rfl (by kernel_rfl) (by kernel_rfl) (by kernel_rfl) (fun _ _ _ h => h) (by kernel_rfl) (v := ?v363) ?y363 ?r363
                case y363 => (intro u hu; go_simp; try rfl)
                simp only [Act.put, List.setIfInBounds_toArray, List.set_cons_zero, List.set_cons_succ]
                refine take_held 2 (by assumption) rfl (by kernel_rfl) (by kernel_rfl) (by kernel_rfl) (fun _ _ _ h => h) (by kernel_rfl) (v := ?v364) ?y364 ?r364
                case y364 => (intro u hu; go_simp; try rfl)
                simp only [Act.put, List.setIfInBounds_toArray, List.set_cons_zero, List.set_cons_succ]
                refine take_held 3 (by assumption) rfl (by kernel_rfl) (by kernel_rfl) (by kernel_rfl) (fun _ _ _ h => h) (by kernel_rfl) (v := ?v365) ?y365 ?r365
                case y365 => (intro u hu; go_simp; try rfl)
                simp only [Act.put, List.setIfInBounds_toArray, List.set_cons_zero, List.set_cons_succ]
                refine take_held 4 (by assumption) rfl (by kernel_rfl) (by kernel_rfl) (by kernel_rfl) (fun _ _ _ h => h) (by kernel_rfl) (v := ?v366) ?y366 ?r366
                case y366 => (intro u hu; have zz0 := z1b u hu; go_simp; try rfl)
                simp only [Act.put, List.setIfInBounds_toArray, List.set_cons_zero, List.set_cons_succ]
                refine take_held 5 (by assumption) rfl (by kernel_rfl) (by kernel_rfl) (by kernel_rfl) (fun _ _ _ h => h) (by kernel_rfl) (v := .bool false) ?y367 ?r367
                case y367 => (intro u hu; go_simp; try simp; try omega)
                simp only [Act.put, List.setIfInBounds_toArray, List.set_cons_zero, List.set_cons_succ]
                refine take_held 6 (by assumption) rfl (by kernel_rfl) (by kernel_rfl) (by kernel_rfl) (fun _ _ _ h => h) (by kernel_rfl) (v := ?v368) ?y368 ?r368
                case y368 => (intro u hu; go_simp; try rfl)
                simp only [Act.put, List.setIfInBounds_toArray, List.set_cons_zero, List.set_cons_succ]
                refine skip_held 7 (by assumption) rfl (by kernel_rfl) (by kernel_rfl) (by kernel_rfl) (fun _ _ _ h => h) (by kernel_rfl) ?_
                simp only [Act.put, List.setIfInBounds_toArray, List.set_cons_zero, List.set_cons_succ]
                refine skip_held 8 (by assumption) rfl (by kernel_rfl) (by kernel_rfl) (by kernel_rfl) (fun _ _ _ h => h) (by kernel_rfl) ?_
                simp only [Act.put, List.setIfInBounds_toArray, List.set_cons_zero, List.set_cons_succ]
                refine skip_held 9 (by assumption) rfl (by kernel_rfl) (by kernel_rfl) (by kernel_rfl) (fun _ _ _ h => h) (by kernel_rfl) ?_
                simp only [Act.put, List.setIfInBounds_toArray, List.set_cons_zero, List.set_cons_succ]
                refine skip_held 10 (by assumption) rfl (by kernel_rfl) (by kernel_rfl) (by kernel_rfl) (fun _ _ _ h => h) (by kernel_rfl) ?_
                simp only [Act.put, List.setIfInBounds_toArray, List.set_cons_zero, List.set_cons_succ]
                refine skip_held 11 (by assumption) rfl (by kernel_rfl) (by kernel_rfl) (by kernel_rfl) (fun _ _ _ h => h) (by kernel_rfl) ?_
                simp only [Act.put, List.setIfInBounds_toArray, List.set_cons_zero, List.set_cons_succ]
                refine skip_held 12 (by assumption) rfl (by kernel_rfl) (by kernel_rfl) (by kernel_rfl) (fun _ _ _ h => h) (by kernel_rfl) ?_
                simp only [Act.put, List.setIfInBounds_toArray, List.set_cons_zero, List.set_cons_succ]
                refine skip_held 13 (by assumption) rfl (by kernel_rfl) (by kernel_rfl) (by kernel_rfl) (fun _ _ _ h => h) (by kernel_rfl) ?_
                simp only [Act.put, List.setIfInBounds_toArray, List.set_cons_zero, List.set_cons_succ]
                refine skip_held 14 (by assumption) rfl (by kernel_rfl) (by kernel_rfl) (by kernel_rfl) (fun _ _ _ h => h) (by kernel_rfl) ?_
                simp only [Act.put, List.setIfInBounds_toArray, List.set_cons_zero, List.set_cons_succ]
                refine skip_held 15 (by assumption) rfl (by kernel_rfl) (by kernel_rfl) (by kernel_rfl) (fun _ _ _ h => h) (by kernel_rfl) ?_
                simp only [Act.put, List.setIfInBounds_toArray, List.set_cons_zero, List.set_cons_succ]
                refine skip_held 16 (by assumption) rfl (by kernel_rfl) (by kernel_rfl) (by kernel_rfl) (fun _ _ _ h => h) (by kernel_rfl) ?_
                simp only [Act.put, List.setIfInBounds_toArray, List.set_cons_zero, List.set_cons_succ]
                refine skip_held 17 (by assumption) rfl (by kernel_rfl) (by kernel_rfl) (by kernel_rfl) (fun _ _ _ h => h) (by kernel_rfl) ?_
                simp only [Act.put, List.setIfInBounds_toArray, List.set_cons_zero, List.set_cons_succ]
                refine skip_held 18 (by assumption) rfl (by kernel_rfl) (by kernel_rfl) (by kernel_rfl) (fun _ _ _ h => h) (by kernel_rfl) ?_
                simp only [Act.put, List.setIfInBounds_toArray, List.set_cons_zero, List.set_cons_succ]
                refine skip_held 19 (by assumption) rfl (by kernel_rfl) (by kernel_rfl) (by kernel_rfl) (fun _ _ _ h => h) (by kernel_rfl) ?_
                simp only [Act.put, List.setIfInBounds_toArray, List.set_cons_zero, List.set_cons_succ]
                refine skip_held 20 (by assumption) rfl (by kernel_rfl) (by kernel_rfl) (by kernel_rfl) (fun _ _ _ h => h) (by kernel_rfl) ?_
                simp only [Act.put, List.setIfInBounds_toArray, List.set_cons_zero, List.set_cons_succ]
                refine skip_held 21 (by assumption) rfl (by kernel_rfl) (by kernel_rfl) (by kernel_rfl) (fun _ _ _ h => h) (by kernel_rfl) ?_
                simp only [Act.put, List.setIfInBounds_toArray, List.set_cons_zero, List.set_cons_succ]
                refine skip_held 22 (by assumption) rfl (by kernel_rfl) (by kernel_rfl) (by kernel_rfl) (fun _ _ _ h => h) (by kernel_rfl) ?_
                simp only [Act.put, List.setIfInBounds_toArray, List.set_cons_zero, List.set_cons_succ]
                refine skip_held 23 (by assumption) rfl (by kernel_rfl) (by kernel_rfl) (by kernel_rfl) (fun _ _ _ h => h) (by kernel_rfl) ?_
                simp only [Act.put, List.setIfInBounds_toArray, List.set_cons_zero, List.set_cons_succ]
                refine skip_held 24 (by assumption) rfl (by kernel_rfl) (by kernel_rfl) (by kernel_rfl) (fun _ _ _ h => h) (by kernel_rfl) ?_
                simp only [Act.put, List.setIfInBounds_toArray, List.set_cons_zero, List.set_cons_succ]
                refine skip_held 25 (by assumption) rfl (by kernel_rfl) (by kernel_rfl) (by kernel_rfl) (fun _ _ _ h => h) (by kernel_rfl) ?_
                simp only [Act.put, List.setIfInBounds_toArray, List.set_cons_zero, List.set_cons_succ]
                refine take_held 26 (by assumption) rfl (by kernel_rfl) (by kernel_rfl) (by kernel_rfl) (fun _ _ _ h => h) (by kernel_rfl) (v := ?v369) ?y369 ?r369
                case y369 => (intro u hu; go_simp; try rfl)
                simp only [Act.put, List.setIfInBounds_toArray, List.set_cons_zero, List.set_cons_succ]
                refine done_held (by kernel_rfl) ?_ _
                have HPz : Hid (Pg Fa W9.drew sv gs) := HPb.out.go (Below.refl _ _).drew
                have HTz : Hid (TAt Fa W9.drew b ls) := HTb.out.go (Below.refl _ _).drew
                have HBz : Hid (Below w.heap.size w W9.drew) := HBb.out.drew
                have HFz : Hid (∀ k, Fa k → w.heap.size ≤ k) := HFb.out
                clear hSb hSHb z0b z1b
                go_wp2_with fail
                go_roundw
                case measure => simp only [intOf]; omega
                case rel => exact ⟨i + 1, _, rfl, hil, HTz, HPz, HBz, HFz⟩
            · have hp1z : p1 = 0 := by have := HG.out.low; simp only at this; omega
              go_wp2_with fail
              refine start_held (S := SHa) 27 rfl (by kernel_rfl) (hSa) ?_
              simp only [Array.replicate_succ, Array.replicate_zero, List.push_toArray, List.nil_append, List.cons_append]
              refine take_held 0 (by assumption) rfl (by kernel_rfl) (by kernel_rfl) (by kernel_rfl) (fun _ _ _ h => h) (by kernel_rfl) (v := ?v370) ?y370 ?r370
              case y370 => (intro u hu; go_simp; try rfl)
              simp only [Act.put, List.setIfInBounds_toArray, List.set_cons_zero, List.set_cons_succ]
              refine take_held 1 (by assumption) rfl (by kernel_rfl) (by kernel_rfl) (by kernel_rfl) (fun _ _ _ h => h) (by kernel_rfl) (v := ?v371) ?y371 ?r371
              case y371 => (intro u hu; go_simp; try rfl)
              simp only [Act.put, List.setIfInBounds_toArray, List.set_cons_zero, List.set_cons_succ]
              refine take_held 2 (by assumption) rfl (by kernel_rfl) (by kernel_rfl) (by kernel_rfl) (fun _ _ _ h => h) (by kernel_rfl) (v := ?v372) ?y372 ?r372
              case y372 => (intro u hu; go_simp; try rfl)
              simp only [Act.put, List.setIfInBounds_toArray, List.set_cons_zero, List.set_cons_succ]
              refine take_held 3 (by assumption) rfl (by kernel_rfl) (by kernel_rfl) (by kernel_rfl) (fun _ _ _ h => h) (by kernel_rfl) (v := ?v373) ?y373 ?r373
              case y373 => (intro u hu; go_simp; try rfl)
              simp only [Act.put, List.setIfInBounds_toArray, List.set_cons_zero, List.set_cons_succ]
              refine take_held 4 (by assumption) rfl (by kernel_rfl) (by kernel_rfl) (by kernel_rfl) (fun _ _ _ h => h) (by kernel_rfl) (v := ?v374) ?y374 ?r374
              case y374 => (intro u hu; have zz0 := z0a u hu; go_simp; try rfl)
              simp only [Act.put, List.setIfInBounds_toArray, List.set_cons_zero, List.set_cons_succ]
              refine take_held 5 (by assumption) rfl (by kernel_rfl) (by kernel_rfl) (by kernel_rfl) (fun _ _ _ h => h) (by kernel_rfl) (v := .bool false) ?y375 ?r375
              case y375 => (intro u hu; go_simp; try simp; try omega)
              simp only [Act.put, List.setIfInBounds_toArray, List.set_cons_zero, List.set_cons_succ]
              refine take_held 6 (by assumption) rfl (by kernel_rfl) (by kernel_rfl) (by kernel_rfl) (fun _ _ _ h => h) (by kernel_rfl) (v := ?v376) ?y376 ?r376
              case y376 => (intro u hu; go_simp; try rfl)
              simp only [Act.put, List.setIfInBounds_toArray, List.set_cons_zero, List.set_cons_succ]
              refine skip_held 7 (by assumption) rfl (by kernel_rfl) (by kernel_rfl) (by kernel_rfl) (fun _ _ _ h => h) (by kernel_rfl) ?_
              simp only [Act.put, List.setIfInBounds_toArray, List.set_cons_zero, List.set_cons_succ]
              refine skip_held 8 (by assumption) rfl (by kernel_rfl) (by kernel_rfl) (by kernel_rfl) (fun _ _ _ h => h) (by kernel_rfl) ?_
              simp only [Act.put, List.setIfInBounds_toArray, List.set_cons_zero, List.set_cons_succ]
              refine skip_held 9 (by assumption) rfl (by kernel_rfl) (by kernel_rfl) (by kernel_rfl) (fun _ _ _ h => h) (by kernel_rfl) ?_
              simp only [Act.put, List.setIfInBounds_toArray, List.set_cons_zero, List.set_cons_succ]
              refine skip_held 10 (by assumption) rfl (by kernel_rfl) (by kernel_rfl) (by kernel_rfl) (fun _ _ _ h => h) (by kernel_rfl) ?_
              simp only [Act.put, List.setIfInBounds_toArray, List.set_cons_zero, List.set_cons_succ]
              refine skip_held 11 (by assumption) rfl (by kernel_rfl) (by kernel_rfl) (by kernel_rfl) (fun _ _ _ h => h) (by kernel_rfl) ?_
              simp only [Act.put, List.setIfInBounds_toArray, List.set_cons_zero, List.set_cons_succ]
              refine skip_held 12 (by assumption) rfl (by kernel_rfl) (by kernel_rfl) (by kernel_rfl) (fun _ _ _ h => h) (by kernel_rfl) ?_
              simp only [Act.put, List.setIfInBounds_toArray, List.set_cons_zero, List.set_cons_succ]
              refine skip_held 13 (by assumption) rfl (by kernel_rfl) (by kernel_rfl) (by kernel_rfl) (fun _ _ _ h => h) (by kernel_rfl) ?_
              simp only [Act.put, List.setIfInBounds_toArray, List.set_cons_zero, List.set_cons_succ]
              refine skip_held 14 (by assumption) rfl (by kernel_rfl) (by kernel_rfl) (by kernel_rfl) (fun _ _ _ h => h) (by kernel_rfl) ?_
              simp only [Act.put, List.setIfInBounds_toArray, List.set_cons_zero, List.set_cons_succ]
              refine skip_held 15 (by assumption) rfl (by kernel_rfl) (by kernel_rfl) (by kernel_rfl) (fun _ _ _ h => h) (by kernel_rfl) ?_
              simp only [Act.put, List.setIfInBounds_toArray, List.set_cons_zero, List.set_cons_succ]
              refine skip_held 16 (by assumption) rfl (by kernel_rfl) (by kernel_rfl) (by kernel_rfl) (fun _ _ _ h => h) (by kernel_rfl) ?_
              simp only [Act.put, List.setIfInBounds_toArray, List.set_cons_zero, List.set_cons_succ]
              refine skip_held 17 (by assumption) rfl (by kernel_rfl) (by kernel_rfl) (by kernel_rfl) (fun _ _ _ h => h) (by kernel_rfl) ?_
              simp only [Act.put, List.setIfInBounds_toArray, List.set_cons_zero, List.set_cons_succ]
              refine skip_held 18 (by assumption) rfl (by kernel_rfl) (by kernel_rfl) (by kernel_rfl) (fun _ _ _ h => h) (by kernel_rfl) ?_
              simp only [Act.put, List.setIfInBounds_toArray, List.set_cons_zero, List.set_cons_succ]
              refine skip_held 19 (by assumption) rfl (by kernel_rfl) (by kernel_rfl) (by kernel_rfl) (fun _ _ _ h => h) (by kernel_rfl) ?_
              simp only [Act.put, List.setIfInBounds_toArray, List.set_cons_zero, List.set_cons_succ]
              refine skip_held 20 (by assumption) rfl (by kernel_rfl) (by kernel_rfl) (by kernel_rfl) (fun _ _ _ h => h) (by kernel_rfl) ?_
              simp only [Act.put, List.setIfInBounds_toArray, List.set_cons_zero, List.set_cons_succ]
              refine skip_held 21 (by assumption) rfl (by kernel_rfl) (by kernel_rfl) (by kernel_rfl) (fun _ _ _ h => h) (by kernel_rfl) ?_
              simp only [Act.put, List.setIfInBounds_toArray, List.set_cons_zero, List.set_cons_succ]
              refine skip_held 22 (by assumption) rfl (by kernel_rfl) (by kernel_rfl) (by kernel_rfl) (fun _ _ _ h => h) (by kernel_rfl) ?_
              simp only [Act.put, List.setIfInBounds_toArray, List.set_cons_zero, List.set_cons_succ]
              refine skip_held 23 (by assumption) rfl (by kernel_rfl) (by kernel_rfl) (by kernel_rfl) (fun _ _ _ h => h) (by kernel_rfl) ?_
              simp only [Act.put, List.setIfInBounds_toArray, List.set_cons_zero, List.set_cons_succ]
              refine skip_held 24 (by assumption) rfl (by kernel_rfl) (by kernel_rfl) (by kernel_rfl) (fun _ _ _ h => h) (by kernel_rfl) ?_
              simp only [Act.put, List.setIfInBounds_toArray, List.set_cons_zero, List.set_cons_succ]
              refine skip_held 25 (by assumption) rfl (by kernel_rfl) (by kernel_rfl) (by kernel_rfl) (fun _ _ _ h => h) (by kernel_rfl) ?_
              simp only [Act.put, List.setIfInBounds_toArray, List.set_cons_zero, List.set_cons_succ]
              refine take_held 26 (by assumption) rfl (by kernel_rfl) (by kernel_rfl) (by kernel_rfl) (fun _ _ _ h => h) (by kernel_rfl) (v := ?v377) ?y377 ?r377
              case y377 => (intro u hu; go_simp; try rfl)
              simp only [Act.put, List.setIfInBounds_toArray, List.set_cons_zero, List.set_cons_succ]
              refine done_held (by kernel_rfl) ?_ _
              have HPz : Hid (Pg Fp W8.drew sv gs) := HPa.out.go (Below.refl _ _).drew
              have HTz : Hid (TAt Fp W8.drew b ls) := HTa.out.go (Below.refl _ _).drew
              have HBz : Hid (Below w.heap.size w W8.drew) := HBa.out.drew
              have HFz : Hid (∀ k, Fp k → w.heap.size ≤ k) := HFa.out
              clear hSa hSHa z0a z1a
              obtain ⟨W9, hW9⟩ : ∃ W9, W9 = W8.drew := ⟨_, rfl⟩
              rw [← hW9] at HTz HPz HBz ⊢
              clear hW9
              have HTb : Hid (TAt Fp W9 b ls) := HTz.out
              have HPb : Hid (Pg Fp W9 sv gs) := HPz.out
              have HBb : Hid (Below w.heap.size w W9) := HBz.out
              have HFb : Hid (∀ k, Fp k → w.heap.size ≤ k) := HFz.out
              clear HTz HPz HBz HFz HTa HPa HBa HFa
              obtain ⟨g', o', cp', es', lg, ng, c0, c1⟩ := HPb.out.at i hil
              have es2 := HSV.out.symm.trans es'
              injection es2 with e1 e2 e3
              injection e1 with e4
              injection e4 with e5 e6
              subst e5 e6
              rw [HPQ.out] at c0 c1
              simp only at c0 c1
              clear es' e3 e2
              have HLGb : Hid (g < W9.heap.size) := lg
              have HNGb : Hid (¬ Fp g) := ng
              obtain ⟨SHb, hSHb⟩ : ∃ S : World → Prop, S = fun u => u.heap[g]? = W9.heap[g]? := ⟨_, rfl⟩
              have hSb : SHb W9.drew := by rw [hSHb]; rfl
              have z0b : ∀ u, SHb u → u.cell? ⟨g, o + i * 2, none⟩ = some (.int .i64 p1) := fun u hu => by rw [hSHb] at hu; exact (cell_same hu).trans c0
              have z1b : ∀ u, SHb u → u.cell? ⟨g, o + i * 2 + 1, none⟩ = some (.int .i64 p2) := fun u hu => by rw [hSHb] at hu; exact (cell_same hu).trans c1
              clear c0 c1 lg ng
              by_cases hp2 : p2 < 4611686018427387904
              · obtain ⟨wAb, hwAb⟩ : ∃ wA, W9.drew.alloc (.cells #[.int .i64 (C : Nat), .int .i64 (p2 - 1), .int .i64 (p2 + 1)] 46) = wA := ⟨_, rfl⟩
                have SAb : SHb wAb := by rw [hSHb, ← hwAb]; exact ((Below.refl _ _).alloc (Nat.le_refl _) _ : Below W9.drew.heap.size W9.drew _).block g HLGb.out
                have cCb := claimT (u := W9.drew) (R := R) (x := ⟨(C : Nat), p2 - 1, p2 + 1⟩) (HTb.out.go (Below.refl _ _).drew) HOK.out HSM.out (by have := HLN.out; omega) (by have := HLN.out; omega) (by omega) (claim_one_taken (i := C) (by have := HLN.out; have := hC6.out; omega) HR0.out (by have := HPB.out; unfold FV; omega) (by rw [← rowOf_nat ls C (by have := HLN.out; have := hC6.out; omega), HLL.out]; exact met_at (HG.out.right (by unfold FV; exact hp2)) (by simp only; omega) (by simp only; omega)))
                rw [hwAb] at cCb
                go_wp2_with fail
                refine start_held (S := SHb) 27 rfl (by kernel_rfl) (hSb) ?_
                simp only [Array.replicate_succ, Array.replicate_zero, List.push_toArray, List.nil_append, List.cons_append]
                refine take_held 0 (by assumption) rfl (by kernel_rfl) (by kernel_rfl) (by kernel_rfl) (fun _ _ _ h => h) (by kernel_rfl) (v := ?v378) ?y378 ?r378
                case y378 => (intro u hu; go_simp; try rfl)
                simp only [Act.put, List.setIfInBounds_toArray, List.set_cons_zero, List.set_cons_succ]
                refine take_held 1 (by assumption) rfl (by kernel_rfl) (by kernel_rfl) (by kernel_rfl) (fun _ _ _ h => h) (by kernel_rfl) (v := ?v379) ?y379 ?r379
                case y379 => (intro u hu; go_simp; try rfl)
                simp only [Act.put, List.setIfInBounds_toArray, List.set_cons_zero, List.set_cons_succ]
                refine take_held 2 (by assumption) rfl (by kernel_rfl) (by kernel_rfl) (by kernel_rfl) (fun _ _ _ h => h) (by kernel_rfl) (v := ?v380) ?y380 ?r380
                case y380 => (intro u hu; go_simp; try rfl)
                simp only [Act.put, List.setIfInBounds_toArray, List.set_cons_zero, List.set_cons_succ]
                refine take_held 3 (by assumption) rfl (by kernel_rfl) (by kernel_rfl) (by kernel_rfl) (fun _ _ _ h => h) (by kernel_rfl) (v := ?v381) ?y381 ?r381
                case y381 => (intro u hu; go_simp; try rfl)
                simp only [Act.put, List.setIfInBounds_toArray, List.set_cons_zero, List.set_cons_succ]
                refine take_held 4 (by assumption) rfl (by kernel_rfl) (by kernel_rfl) (by kernel_rfl) (fun _ _ _ h => h) (by kernel_rfl) (v := ?v382) ?y382 ?r382
                case y382 => (intro u hu; have zz0 := z1b u hu; go_simp; try rfl)
                simp only [Act.put, List.setIfInBounds_toArray, List.set_cons_zero, List.set_cons_succ]
                refine take_held 5 (by assumption) rfl (by kernel_rfl) (by kernel_rfl) (by kernel_rfl) (fun _ _ _ h => h) (by kernel_rfl) (v := .bool true) ?y383 ?r383
                case y383 => (intro u hu; go_simp; try simp; try omega)
                simp only [Act.put, List.setIfInBounds_toArray, List.set_cons_zero, List.set_cons_succ]
                refine take_held 6 (by assumption) rfl (by kernel_rfl) (by kernel_rfl) (by kernel_rfl) (fun _ _ _ h => h) (by kernel_rfl) (v := ?v384) ?y384 ?r384
                case y384 => (intro u hu; go_simp; try rfl)
                simp only [Act.put, List.setIfInBounds_toArray, List.set_cons_zero, List.set_cons_succ]
                refine take_held 7 (by assumption) rfl (by kernel_rfl) (by kernel_rfl) (by kernel_rfl) (fun _ _ _ h => h) (by kernel_rfl) (v := ?v385) ?y385 ?r385
                case y385 => (intro u hu; go_simp; try rfl)
                simp only [Act.put, List.setIfInBounds_toArray, List.set_cons_zero, List.set_cons_succ]
                refine take_held 8 (by assumption) rfl (by kernel_rfl) (by kernel_rfl) (by kernel_rfl) (fun _ _ _ h => h) (by kernel_rfl) (v := ?v386) ?y386 ?r386
                case y386 => (intro u hu; go_simp; try rfl)
                simp only [Act.put, List.setIfInBounds_toArray, List.set_cons_zero, List.set_cons_succ]
                refine take_held 9 (by assumption) rfl (by kernel_rfl) (by kernel_rfl) (by kernel_rfl) (fun _ _ _ h => h) (by kernel_rfl) (v := ?v387) ?y387 ?r387
                case y387 => (intro u hu; go_simp; try rfl)
                simp only [Act.put, List.setIfInBounds_toArray, List.set_cons_zero, List.set_cons_succ]
                refine take_held 10 (by assumption) rfl (by kernel_rfl) (by kernel_rfl) (by kernel_rfl) (fun _ _ _ h => h) (by kernel_rfl) (v := ?v388) ?y388 ?r388
                case y388 => (intro u hu; go_simp; try rfl)
                simp only [Act.put, List.setIfInBounds_toArray, List.set_cons_zero, List.set_cons_succ]
                refine take_held 11 (by assumption) rfl (by kernel_rfl) (by kernel_rfl) (by kernel_rfl) (fun _ _ _ h => h) (by kernel_rfl) (v := ?v389) ?y389 ?r389
                case y389 => (intro u hu; go_simp; try rfl)
                simp only [Act.put, List.setIfInBounds_toArray, List.set_cons_zero, List.set_cons_succ]
                refine take_held 12 (by assumption) rfl (by kernel_rfl) (by kernel_rfl) (by kernel_rfl) (fun _ _ _ h => h) (by kernel_rfl) (v := ?v390) ?y390 ?r390
                case y390 => (intro u hu; go_simp; try rfl)
                simp only [Act.put, List.setIfInBounds_toArray, List.set_cons_zero, List.set_cons_succ]
                refine take_held 13 (by assumption) rfl (by kernel_rfl) (by kernel_rfl) (by kernel_rfl) (fun _ _ _ h => h) (by kernel_rfl) (v := ?v391) ?y391 ?r391
                case y391 => (intro u hu; go_simp; try rfl)
                simp only [Act.put, List.setIfInBounds_toArray, List.set_cons_zero, List.set_cons_succ]
                refine take_held 14 (by assumption) rfl (by kernel_rfl) (by kernel_rfl) (by kernel_rfl) (fun _ _ _ h => h) (by kernel_rfl) (v := ?v392) ?y392 ?r392
                case y392 => (intro u hu; have zz0 := z1b u hu; go_simp; try rfl)
                simp only [Act.put, List.setIfInBounds_toArray, List.set_cons_zero, List.set_cons_succ]
                refine take_held 15 (by assumption) rfl (by kernel_rfl) (by kernel_rfl) (by kernel_rfl) (fun _ _ _ h => h) (by kernel_rfl) (v := .int .i64 (p2 - 1)) ?y393 ?r393
                case y393 => (intro u hu; have hw : IntKind.i64.wrap (p2 - 1) = p2 - 1 := (by rw [IntKind.wrap_i64]; have := HPB.out; omega); go_simp; try rw [hw]; try rfl)
                simp only [Act.put, List.setIfInBounds_toArray, List.set_cons_zero, List.set_cons_succ]
                refine take_held 16 (by assumption) rfl (by kernel_rfl) (by kernel_rfl) (by kernel_rfl) (fun _ _ _ h => h) (by kernel_rfl) (v := ?v394) ?y394 ?r394
                case y394 => (intro u hu; go_simp; try rfl)
                simp only [Act.put, List.setIfInBounds_toArray, List.set_cons_zero, List.set_cons_succ]
                refine take_held 17 (by assumption) rfl (by kernel_rfl) (by kernel_rfl) (by kernel_rfl) (fun _ _ _ h => h) (by kernel_rfl) (v := ?v395) ?y395 ?r395
                case y395 => (intro u hu; go_simp; try rfl)
                simp only [Act.put, List.setIfInBounds_toArray, List.set_cons_zero, List.set_cons_succ]
                refine take_held 18 (by assumption) rfl (by kernel_rfl) (by kernel_rfl) (by kernel_rfl) (fun _ _ _ h => h) (by kernel_rfl) (v := ?v396) ?y396 ?r396
                case y396 => (intro u hu; go_simp; try rfl)
                simp only [Act.put, List.setIfInBounds_toArray, List.set_cons_zero, List.set_cons_succ]
                refine take_held 19 (by assumption) rfl (by kernel_rfl) (by kernel_rfl) (by kernel_rfl) (fun _ _ _ h => h) (by kernel_rfl) (v := ?v397) ?y397 ?r397
                case y397 => (intro u hu; go_simp; try rfl)
                simp only [Act.put, List.setIfInBounds_toArray, List.set_cons_zero, List.set_cons_succ]
                refine take_held 20 (by assumption) rfl (by kernel_rfl) (by kernel_rfl) (by kernel_rfl) (fun _ _ _ h => h) (by kernel_rfl) (v := ?v398) ?y398 ?r398
                case y398 => (intro u hu; have zz0 := z1b u hu; go_simp; try rfl)
                simp only [Act.put, List.setIfInBounds_toArray, List.set_cons_zero, List.set_cons_succ]
                refine take_held 21 (by assumption) rfl (by kernel_rfl) (by kernel_rfl) (by kernel_rfl) (fun _ _ _ h => h) (by kernel_rfl) (v := .int .i64 (p2 + 1)) ?y399 ?r399
                case y399 => (intro u hu; have hw : IntKind.i64.wrap (p2 + 1) = p2 + 1 := (by rw [IntKind.wrap_i64]; have := HPB.out; omega); go_simp; try rw [hw]; try rfl)
                simp only [Act.put, List.setIfInBounds_toArray, List.set_cons_zero, List.set_cons_succ]
                refine take_held 22 (by assumption) rfl (by kernel_rfl) (by kernel_rfl) (by kernel_rfl) (fun _ _ _ h => h) (by kernel_rfl) (v := ?v400) ?y400 ?r400
                case y400 => (intro u hu; go_simp; try rfl)
                simp only [Act.put, List.setIfInBounds_toArray, List.set_cons_zero, List.set_cons_succ]
                refine wpAnyH_ready (rs := [23]) (by kernel_rfl) (by simp) (AllReadyH.cons ((nth_eq _ 23).trans rfl) ?_ AllReadyH.nil)
                intro K' hK
                refine value_in hK (by kernel_rfl) (.slice (some ⟨W9.heap.size, 0, none⟩) 1 1) (wAb) (by rw [← hwAb]; go_simp; try rfl) (SAb) ?_
                simp only [Act.put, List.setIfInBounds_toArray, List.set_cons_zero, List.set_cons_succ]
                refine wpAnyH_ready (rs := [24]) (by kernel_rfl) (by simp) (AllReadyH.cons ((nth_eq _ 24).trans rfl) ?_ AllReadyH.nil)
                intro K' hK
                refine call_in hK (by kernel_rfl) 19 #[.pointer (some ⟨b, 0, none⟩), .int .i64 R, .slice (some ⟨W9.heap.size, 0, none⟩) 1 1] (by go_simp) _ (cCb) ?_
                rintro v wCb ⟨rfl, Fb, Tb, tCb⟩
                have SCb : SHb wCb := by rw [hSHb]; exact (tCb.block g HLGb.out HNGb.out)
                refine ⟨SCb, ?_⟩
                simp only [Act.put, List.setIfInBounds_toArray, List.set_cons_zero, List.set_cons_succ]
                refine take_held 25 (by assumption) rfl (by kernel_rfl) (by kernel_rfl) (by kernel_rfl) (fun _ _ _ h => h) (by kernel_rfl) (v := ?v401) ?y401 ?r401
                case y401 => (intro u hu; go_simp; try rfl)
                simp only [Act.put, List.setIfInBounds_toArray, List.set_cons_zero, List.set_cons_succ]
                refine take_held 26 (by assumption) rfl (by kernel_rfl) (by kernel_rfl) (by kernel_rfl) (fun _ _ _ h => h) (by kernel_rfl) (v := ?v402) ?y402 ?r402
                case y402 => (intro u hu; go_simp; try rfl)
                simp only [Act.put, List.setIfInBounds_toArray, List.set_cons_zero, List.set_cons_succ]
                refine done_held (by kernel_rfl) ?_ _
                have HPz : Hid (Pg Fb wCb sv gs) := HPb.out.turn ((Tn.below (Below.refl _ _).drew).trans tCb)
                obtain ⟨DB, DF⟩ := tCb.past (Below.drew HBb.out) HFb.out
                have HTz : Hid (TAt Fb wCb b ls) := Tb
                have HBz : Hid (Below w.heap.size w wCb) := DB
                have HFz : Hid (∀ k, Fb k → w.heap.size ≤ k) := DF
                clear cCb SAb SCb tCb Tb DB DF hSb hSHb z0b z1b hwAb
                go_wp2_with fail
                go_roundw
                case measure => simp only [intOf]; omega
                case rel => exact ⟨i + 1, _, rfl, hil, HTz, HPz, HBz, HFz⟩
              · go_wp2_with fail
                refine start_held (S := SHb) 27 rfl (by kernel_rfl) (hSb) ?_
                simp only [Array.replicate_succ, Array.replicate_zero, List.push_toArray, List.nil_append, List.cons_append]
                refine take_held 0 (by assumption) rfl (by kernel_rfl) (by kernel_rfl) (by kernel_rfl) (fun _ _ _ h => h) (by kernel_rfl) (v := ?v403) ?y403 ?r403
                case y403 => (intro u hu; go_simp; try rfl)
                simp only [Act.put, List.setIfInBounds_toArray, List.set_cons_zero, List.set_cons_succ]
                refine take_held 1 (by assumption) rfl (by kernel_rfl) (by kernel_rfl) (by kernel_rfl) (fun _ _ _ h => h) (by kernel_rfl) (v := ?v404) ?y404 ?r404
                case y404 => (intro u hu; go_simp; try rfl)
                simp only [Act.put, List.setIfInBounds_toArray, List.set_cons_zero, List.set_cons_succ]
                refine take_held 2 (by assumption) rfl (by kernel_rfl) (by kernel_rfl) (by kernel_rfl) (fun _ _ _ h => h) (by kernel_rfl) (v := ?v405) ?y405 ?r405
                case y405 => (intro u hu; go_simp; try rfl)
                simp only [Act.put, List.setIfInBounds_toArray, List.set_cons_zero, List.set_cons_succ]
                refine take_held 3 (by assumption) rfl (by kernel_rfl) (by kernel_rfl) (by kernel_rfl) (fun _ _ _ h => h) (by kernel_rfl) (v := ?v406) ?y406 ?r406
                case y406 => (intro u hu; go_simp; try rfl)
                simp only [Act.put, List.setIfInBounds_toArray, List.set_cons_zero, List.set_cons_succ]
                refine take_held 4 (by assumption) rfl (by kernel_rfl) (by kernel_rfl) (by kernel_rfl) (fun _ _ _ h => h) (by kernel_rfl) (v := ?v407) ?y407 ?r407
                case y407 => (intro u hu; have zz0 := z1b u hu; go_simp; try rfl)
                simp only [Act.put, List.setIfInBounds_toArray, List.set_cons_zero, List.set_cons_succ]
                refine take_held 5 (by assumption) rfl (by kernel_rfl) (by kernel_rfl) (by kernel_rfl) (fun _ _ _ h => h) (by kernel_rfl) (v := .bool false) ?y408 ?r408
                case y408 => (intro u hu; go_simp; try simp; try omega)
                simp only [Act.put, List.setIfInBounds_toArray, List.set_cons_zero, List.set_cons_succ]
                refine take_held 6 (by assumption) rfl (by kernel_rfl) (by kernel_rfl) (by kernel_rfl) (fun _ _ _ h => h) (by kernel_rfl) (v := ?v409) ?y409 ?r409
                case y409 => (intro u hu; go_simp; try rfl)
                simp only [Act.put, List.setIfInBounds_toArray, List.set_cons_zero, List.set_cons_succ]
                refine skip_held 7 (by assumption) rfl (by kernel_rfl) (by kernel_rfl) (by kernel_rfl) (fun _ _ _ h => h) (by kernel_rfl) ?_
                simp only [Act.put, List.setIfInBounds_toArray, List.set_cons_zero, List.set_cons_succ]
                refine skip_held 8 (by assumption) rfl (by kernel_rfl) (by kernel_rfl) (by kernel_rfl) (fun _ _ _ h => h) (by kernel_rfl) ?_
                simp only [Act.put, List.setIfInBounds_toArray, List.set_cons_zero, List.set_cons_succ]
                refine skip_held 9 (by assumption) rfl (by kernel_rfl) (by kernel_rfl) (by kernel_rfl) (fun _ _ _ h => h) (by kernel_rfl) ?_
                simp only [Act.put, List.setIfInBounds_toArray, List.set_cons_zero, List.set_cons_succ]
                refine skip_held 10 (by assumption) rfl (by kernel_rfl) (by kernel_rfl) (by kernel_rfl) (fun _ _ _ h => h) (by kernel_rfl) ?_
                simp only [Act.put, List.setIfInBounds_toArray, List.set_cons_zero, List.set_cons_succ]
                refine skip_held 11 (by assumption) rfl (by kernel_rfl) (by kernel_rfl) (by kernel_rfl) (fun _ _ _ h => h) (by kernel_rfl) ?_
                simp only [Act.put, List.setIfInBounds_toArray, List.set_cons_zero, List.set_cons_succ]
                refine skip_held 12 (by assumption) rfl (by kernel_rfl) (by kernel_rfl) (by kernel_rfl) (fun _ _ _ h => h) (by kernel_rfl) ?_
                simp only [Act.put, List.setIfInBounds_toArray, List.set_cons_zero, List.set_cons_succ]
                refine skip_held 13 (by assumption) rfl (by kernel_rfl) (by kernel_rfl) (by kernel_rfl) (fun _ _ _ h => h) (by kernel_rfl) ?_
                simp only [Act.put, List.setIfInBounds_toArray, List.set_cons_zero, List.set_cons_succ]
                refine skip_held 14 (by assumption) rfl (by kernel_rfl) (by kernel_rfl) (by kernel_rfl) (fun _ _ _ h => h) (by kernel_rfl) ?_
                simp only [Act.put, List.setIfInBounds_toArray, List.set_cons_zero, List.set_cons_succ]
                refine skip_held 15 (by assumption) rfl (by kernel_rfl) (by kernel_rfl) (by kernel_rfl) (fun _ _ _ h => h) (by kernel_rfl) ?_
                simp only [Act.put, List.setIfInBounds_toArray, List.set_cons_zero, List.set_cons_succ]
                refine skip_held 16 (by assumption) rfl (by kernel_rfl) (by kernel_rfl) (by kernel_rfl) (fun _ _ _ h => h) (by kernel_rfl) ?_
                simp only [Act.put, List.setIfInBounds_toArray, List.set_cons_zero, List.set_cons_succ]
                refine skip_held 17 (by assumption) rfl (by kernel_rfl) (by kernel_rfl) (by kernel_rfl) (fun _ _ _ h => h) (by kernel_rfl) ?_
                simp only [Act.put, List.setIfInBounds_toArray, List.set_cons_zero, List.set_cons_succ]
                refine skip_held 18 (by assumption) rfl (by kernel_rfl) (by kernel_rfl) (by kernel_rfl) (fun _ _ _ h => h) (by kernel_rfl) ?_
                simp only [Act.put, List.setIfInBounds_toArray, List.set_cons_zero, List.set_cons_succ]
                refine skip_held 19 (by assumption) rfl (by kernel_rfl) (by kernel_rfl) (by kernel_rfl) (fun _ _ _ h => h) (by kernel_rfl) ?_
                simp only [Act.put, List.setIfInBounds_toArray, List.set_cons_zero, List.set_cons_succ]
                refine skip_held 20 (by assumption) rfl (by kernel_rfl) (by kernel_rfl) (by kernel_rfl) (fun _ _ _ h => h) (by kernel_rfl) ?_
                simp only [Act.put, List.setIfInBounds_toArray, List.set_cons_zero, List.set_cons_succ]
                refine skip_held 21 (by assumption) rfl (by kernel_rfl) (by kernel_rfl) (by kernel_rfl) (fun _ _ _ h => h) (by kernel_rfl) ?_
                simp only [Act.put, List.setIfInBounds_toArray, List.set_cons_zero, List.set_cons_succ]
                refine skip_held 22 (by assumption) rfl (by kernel_rfl) (by kernel_rfl) (by kernel_rfl) (fun _ _ _ h => h) (by kernel_rfl) ?_
                simp only [Act.put, List.setIfInBounds_toArray, List.set_cons_zero, List.set_cons_succ]
                refine skip_held 23 (by assumption) rfl (by kernel_rfl) (by kernel_rfl) (by kernel_rfl) (fun _ _ _ h => h) (by kernel_rfl) ?_
                simp only [Act.put, List.setIfInBounds_toArray, List.set_cons_zero, List.set_cons_succ]
                refine skip_held 24 (by assumption) rfl (by kernel_rfl) (by kernel_rfl) (by kernel_rfl) (fun _ _ _ h => h) (by kernel_rfl) ?_
                simp only [Act.put, List.setIfInBounds_toArray, List.set_cons_zero, List.set_cons_succ]
                refine skip_held 25 (by assumption) rfl (by kernel_rfl) (by kernel_rfl) (by kernel_rfl) (fun _ _ _ h => h) (by kernel_rfl) ?_
                simp only [Act.put, List.setIfInBounds_toArray, List.set_cons_zero, List.set_cons_succ]
                refine take_held 26 (by assumption) rfl (by kernel_rfl) (by kernel_rfl) (by kernel_rfl) (fun _ _ _ h => h) (by kernel_rfl) (v := ?v410) ?y410 ?r410
                case y410 => (intro u hu; go_simp; try rfl)
                simp only [Act.put, List.setIfInBounds_toArray, List.set_cons_zero, List.set_cons_succ]
                refine done_held (by kernel_rfl) ?_ _
                have HPz : Hid (Pg Fp W9.drew sv gs) := HPb.out.go (Below.refl _ _).drew
                have HTz : Hid (TAt Fp W9.drew b ls) := HTb.out.go (Below.refl _ _).drew
                have HBz : Hid (Below w.heap.size w W9.drew) := HBb.out.drew
                have HFz : Hid (∀ k, Fp k → w.heap.size ≤ k) := HFb.out
                clear hSb hSHb z0b z1b
                go_wp2_with fail
                go_roundw
                case measure => simp only [intOf]; omega
                case rel => exact ⟨i + 1, _, rfl, hil, HTz, HPz, HBz, HFz⟩
        · have hin : ¬ (i : Int) < (gs.length : Int) := by omega
          clear hig hi
          go_wp2_with fail
          go_loopw [13] (fun s13 wr => ∃ (i : Nat) (Fp : Nat → Prop) (lk : List (List Sl)), s13 = .int .i64 i ∧ i ≤ gs.length ∧ Hid (TAt Fp wr b lk) ∧ Hid (Pg Fp wr sv gs) ∧ Hid (Below w.heap.size w wr) ∧ Hid (∀ k, Fp k → w.heap.size ≤ k) ∧ Hid (Gk R C L (1800 + i) lk)) (fun s13 _ => gs.length - (intOf s13).toNat)
          case atStart => exact ⟨0, Fp, ls, rfl, Nat.zero_le _, HTi, HPi, HBi, HFi, ⟨HOK.out, HSM.out, HLN.out, fun t r _ => by rw [HLL.out]⟩⟩
          case round =>
            clear HTi HPi HBi HFi
            obtain ⟨i, Fp, lk, rfl, hi, HTi, HPi, HBi, HFi, HK⟩ := hrel
            obtain ⟨W8, rfl⟩ : ∃ W8, W8 = wr := ⟨_, rfl⟩
            rcases Nat.lt_or_ge i gs.length with hil | hig
            · have hil' : (i : Int) < (gs.length : Int) := by omega
              have his : (i : Int) + 1 ≤ 100000 := by omega
              obtain ⟨g, o, cp, es, lg, ng, c0, c1⟩ := HPi.out.at i hil
              have HG : Hid (GapOk R 0 L gs[i]) := HGA.out.1 _ (List.getElem_mem hil)
              obtain ⟨p1, p2, hp⟩ : ∃ p1 p2, gs[i] = (p1, p2) := ⟨_, _, rfl⟩
              rw [hp] at c0 c1 HG
              simp only at c0 c1
              have esc : (.slice sa gs.length sc : Value) = .slice (some ⟨g, o, none⟩) gs.length cp := HSE.out.symm.trans es
              have esa : sa = some ⟨g, o, none⟩ := by injection esc
              have escp : sc = cp := by injection esc
              subst esa escp
              have hpr : 0 ≤ p1 ∧ p1 < p2 ∧ p2 ≤ FV := ⟨HG.out.low, HG.out.lt, HG.out.top⟩
              have HPR : Hid (0 ≤ p1 ∧ p1 < p2 ∧ p2 ≤ FV) := hpr
              have HLGa : Hid (g < W8.heap.size) := lg
              have HNGa : Hid (¬ Fp g) := ng
              obtain ⟨SHa, hSHa⟩ : ∃ S : World → Prop, S = fun u => u.heap[g]? = W8.heap[g]? := ⟨_, rfl⟩
              have hSa : SHa W8.drew := by rw [hSHa]; rfl
              have z0a : ∀ u, SHa u → u.cell? ⟨g, o + i * 2, none⟩ = some (.int .i64 p1) := fun u hu => by rw [hSHa] at hu; exact (cell_same hu).trans c0
              have z1a : ∀ u, SHa u → u.cell? ⟨g, o + i * 2 + 1, none⟩ = some (.int .i64 p2) := fun u hu => by rw [hSHa] at hu; exact (cell_same hu).trans c1
              obtain ⟨wAa, hwAa⟩ : ∃ wA, W8.drew.alloc (.cells #[.int .i64 (C : Nat), .int .i64 p1, .int .i64 p2] 46) = wA := ⟨_, rfl⟩
              have SAa : SHa wAa := by rw [hSHa, ← hwAa]; exact ((Below.refl _ _).alloc (Nat.le_refl _) _ : Below W8.drew.heap.size W8.drew _).block g HLGa.out
              have cCa := claimN (u := W8.drew) (R := R) (x := ⟨(C : Nat), p1, p2⟩) (HTi.out.go (Below.refl _ _).drew) HK.out.ok HK.out.small (by have := HK.out.len; omega) (by have := HK.out.len; omega) (by omega) (badArg_one HR0.out (by have := HK.out.len; have := hC6.out; omega) hpr) (HK.out.no_met (p := (p1, p2)) hC6.out hpr.2.1 HG.out.free)
              rw [hwAa] at cCa
              clear c0 c1 lg ng hpr es esc hp
              go_wp2_with fail
              refine start_held (S := SHa) 17 rfl (by kernel_rfl) (hSa) ?_
              simp only [Array.replicate_succ, Array.replicate_zero, List.push_toArray, List.nil_append, List.cons_append]
              refine take_held 0 (by assumption) rfl (by kernel_rfl) (by kernel_rfl) (by kernel_rfl) (fun _ _ _ h => h) (by kernel_rfl) (v := ?v411) ?y411 ?r411
              case y411 => (intro u hu; go_simp; try rfl)
              simp only [Act.put, List.setIfInBounds_toArray, List.set_cons_zero, List.set_cons_succ]
              refine take_held 1 (by assumption) rfl (by kernel_rfl) (by kernel_rfl) (by kernel_rfl) (fun _ _ _ h => h) (by kernel_rfl) (v := ?v412) ?y412 ?r412
              case y412 => (intro u hu; go_simp; try rfl)
              simp only [Act.put, List.setIfInBounds_toArray, List.set_cons_zero, List.set_cons_succ]
              refine take_held 2 (by assumption) rfl (by kernel_rfl) (by kernel_rfl) (by kernel_rfl) (fun _ _ _ h => h) (by kernel_rfl) (v := ?v413) ?y413 ?r413
              case y413 => (intro u hu; go_simp; try rfl)
              simp only [Act.put, List.setIfInBounds_toArray, List.set_cons_zero, List.set_cons_succ]
              refine take_held 3 (by assumption) rfl (by kernel_rfl) (by kernel_rfl) (by kernel_rfl) (fun _ _ _ h => h) (by kernel_rfl) (v := ?v414) ?y414 ?r414
              case y414 => (intro u hu; go_simp; try rfl)
              simp only [Act.put, List.setIfInBounds_toArray, List.set_cons_zero, List.set_cons_succ]
              refine take_held 4 (by assumption) rfl (by kernel_rfl) (by kernel_rfl) (by kernel_rfl) (fun _ _ _ h => h) (by kernel_rfl) (v := ?v415) ?y415 ?r415
              case y415 => (intro u hu; go_simp; try rfl)
              simp only [Act.put, List.setIfInBounds_toArray, List.set_cons_zero, List.set_cons_succ]
              refine take_held 5 (by assumption) rfl (by kernel_rfl) (by kernel_rfl) (by kernel_rfl) (fun _ _ _ h => h) (by kernel_rfl) (v := ?v416) ?y416 ?r416
              case y416 => (intro u hu; go_simp; try rfl)
              simp only [Act.put, List.setIfInBounds_toArray, List.set_cons_zero, List.set_cons_succ]
              refine take_held 6 (by assumption) rfl (by kernel_rfl) (by kernel_rfl) (by kernel_rfl) (fun _ _ _ h => h) (by kernel_rfl) (v := ?v417) ?y417 ?r417
              case y417 => (intro u hu; go_simp; try rfl)
              simp only [Act.put, List.setIfInBounds_toArray, List.set_cons_zero, List.set_cons_succ]
              refine take_held 7 (by assumption) rfl (by kernel_rfl) (by kernel_rfl) (by kernel_rfl) (fun _ _ _ h => h) (by kernel_rfl) (v := ?v418) ?y418 ?r418
              case y418 => (intro u hu; have zz0 := z0a u hu; go_simp; try rfl)
              simp only [Act.put, List.setIfInBounds_toArray, List.set_cons_zero, List.set_cons_succ]
              refine take_held 8 (by assumption) rfl (by kernel_rfl) (by kernel_rfl) (by kernel_rfl) (fun _ _ _ h => h) (by kernel_rfl) (v := ?v419) ?y419 ?r419
              case y419 => (intro u hu; go_simp; try rfl)
              simp only [Act.put, List.setIfInBounds_toArray, List.set_cons_zero, List.set_cons_succ]
              refine take_held 9 (by assumption) rfl (by kernel_rfl) (by kernel_rfl) (by kernel_rfl) (fun _ _ _ h => h) (by kernel_rfl) (v := ?v420) ?y420 ?r420
              case y420 => (intro u hu; go_simp; try rfl)
              simp only [Act.put, List.setIfInBounds_toArray, List.set_cons_zero, List.set_cons_succ]
              refine take_held 10 (by assumption) rfl (by kernel_rfl) (by kernel_rfl) (by kernel_rfl) (fun _ _ _ h => h) (by kernel_rfl) (v := ?v421) ?y421 ?r421
              case y421 => (intro u hu; go_simp; try rfl)
              simp only [Act.put, List.setIfInBounds_toArray, List.set_cons_zero, List.set_cons_succ]
              refine take_held 11 (by assumption) rfl (by kernel_rfl) (by kernel_rfl) (by kernel_rfl) (fun _ _ _ h => h) (by kernel_rfl) (v := ?v422) ?y422 ?r422
              case y422 => (intro u hu; go_simp; try rfl)
              simp only [Act.put, List.setIfInBounds_toArray, List.set_cons_zero, List.set_cons_succ]
              refine take_held 12 (by assumption) rfl (by kernel_rfl) (by kernel_rfl) (by kernel_rfl) (fun _ _ _ h => h) (by kernel_rfl) (v := ?v423) ?y423 ?r423
              case y423 => (intro u hu; have zz0 := z1a u hu; go_simp; try rfl)
              simp only [Act.put, List.setIfInBounds_toArray, List.set_cons_zero, List.set_cons_succ]
              refine take_held 13 (by assumption) rfl (by kernel_rfl) (by kernel_rfl) (by kernel_rfl) (fun _ _ _ h => h) (by kernel_rfl) (v := ?v424) ?y424 ?r424
              case y424 => (intro u hu; go_simp; try rfl)
              simp only [Act.put, List.setIfInBounds_toArray, List.set_cons_zero, List.set_cons_succ]
              refine wpAnyH_ready (rs := [14]) (by kernel_rfl) (by simp) (AllReadyH.cons ((nth_eq _ 14).trans rfl) ?_ AllReadyH.nil)
              intro K' hK
              refine value_in hK (by kernel_rfl) (.slice (some ⟨W8.heap.size, 0, none⟩) 1 1) (wAa) (by rw [← hwAa]; go_simp; try rfl) (SAa) ?_
              simp only [Act.put, List.setIfInBounds_toArray, List.set_cons_zero, List.set_cons_succ]
              refine wpAnyH_ready (rs := [15]) (by kernel_rfl) (by simp) (AllReadyH.cons ((nth_eq _ 15).trans rfl) ?_ AllReadyH.nil)
              intro K' hK
              refine call_in hK (by kernel_rfl) 19 #[.pointer (some ⟨b, 0, none⟩), .int .i64 R, .slice (some ⟨W8.heap.size, 0, none⟩) 1 1] (by go_simp) _ (cCa) ?_
              rintro v wCa ⟨rfl, Fa, lk2, Ta, tCa, Ca⟩
              have SCa : SHa wCa := by rw [hSHa]; exact (tCa.block g HLGa.out HNGa.out)
              refine ⟨SCa, ?_⟩
              simp only [Act.put, List.setIfInBounds_toArray, List.set_cons_zero, List.set_cons_succ]
              refine take_held 16 (by assumption) rfl (by kernel_rfl) (by kernel_rfl) (by kernel_rfl) (fun _ _ _ h => h) (by kernel_rfl) (v := ?v425) ?y425 ?r425
              case y425 => (intro u hu; go_simp; try rfl)
              simp only [Act.put, List.setIfInBounds_toArray, List.set_cons_zero, List.set_cons_succ]
              refine done_held (by kernel_rfl) ?_ _
              have HPz : Hid (Pg Fa wCa sv gs) := HPi.out.turn ((Tn.below (Below.refl _ _).drew).trans tCa)
              obtain ⟨DB, DF⟩ := tCa.past (Below.drew HBi.out) HFi.out
              have HTz : Hid (TAt Fa wCa b lk2) := Ta
              have HBz : Hid (Below w.heap.size w wCa) := DB
              have HFz : Hid (∀ k, Fa k → w.heap.size ≤ k) := DF
              have HKz : Hid (Gk R C L (1800 + (i + 1)) lk2) := HK.out.next (p := (p1, p2)) hC6.out HR0.out HPR.out HG.out.free Ca
              clear cCa SAa SCa tCa Ta DB DF hSa hSHa z0a z1a hwAa Ca
              go_wp2_with fail
              go_roundw
              case measure => simp only [intOf]; omega
              case rel => exact ⟨i + 1, _, _, rfl, hil, HTz, HPz, HBz, HFz, HKz⟩
            · have hin2 : ¬ (i : Int) < (gs.length : Int) := by omega
              have hei : i = gs.length := by omega
              have cG2 := gaps_any Fp b lk (C : Nat) R W8 HTi.out
              have hrl2 := HK.out.small.row (C : Nat)
              have HGE : Hid ((gapsOf (isThere lk.length (C : Nat)) R (rowOf lk (C : Nat))).take 10000 = gs) := by
                unfold Hid gapsOf
                rw [show isThere lk.length ((C : Nat) : Int) = true by unfold isThere; have := HK.out.len; have := hC6.out; simp; omega]
                rw [if_pos rfl, HK.out.gaps HOL.out, HGS.out, List.take_of_length_le (by omega)]
              obtain ⟨L2, hL2⟩ : ∃ L2, rowOf lk (C : Nat) = L2 := ⟨_, rfl⟩
              rw [hL2] at cG2 hrl2 HGE
              have HSR : Hid (RowAt prL (fun _ => True) W8 (.slice sa gs.length sc) gs) := by unfold Hid; rw [← HSE.out]; exact RowAt.mono HPi.out fun _ _ => trivial
              clear hL2 hig hi
              go_wp2_with (first
                | (go_at_call 23; refine cG2.mono ?_; rintro _ w10 ⟨p8, p7, p5, lv, rfl, G10, b10⟩; unfold GapsV at *)
                | (go_at_call 22; refine (stretches_any p8 p7 p5 10000 _ lv L2 R _ G10 (by omega) (by omega) (by omega)).mono ?_; rintro _ w11 ⟨sv2, rfl, O11, b11⟩; rw [HGE.out] at O11; obtain ⟨x2a, x2c, ex2, _⟩ := (pr_of_own O11).form; rw [ex2] at O11 ⊢)
                | (go_at_call 24; refine (alike_any _ (fun _ => True) _ _ gs gs _ (pr_of_own O11) (pr_go (pr_go HSR.out b10) b11) (by omega)).mono ?_; rintro _ w12 ⟨rfl, b12⟩; rw [decide_eq_true (show gs = gs from rfl)])
                | (go_at_call 13; refine (awake_any _).mono ?_; rintro _ w13 ⟨rfl, b13⟩))
              go_ret
              exact ⟨rfl, bcat HBi.out (bcat b10 (bcat b11 (bcat b12 b13)))⟩
end Go.Proofs.Ytddkgkafgjdheaa.Rs
