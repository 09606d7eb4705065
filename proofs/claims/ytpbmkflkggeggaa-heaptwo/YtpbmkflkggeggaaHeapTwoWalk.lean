/-
  Two heaps have nothing in common.
-/
import Derived.Test.YtpbmkflkggeggaaHeapApart
import Derived.Test.YtpbmkflkggeggaaHeapDropTwo
namespace Go.Proofs.Ytpbmkflkggeggaa.Hp
set_option linter.unusedVariables false
set_option linter.unusedSimpArgs false
open Go Go.RowKit Go.Shelf Go.Proofs
attribute [local go_sem] Oper.semAt_some

theorem whichTwo (k n : Int) (w : World) : Calls Try.prog 35 #[.agg #[.int .i64 k, .int .i64 n]] w fun e w' => e = .returned (.bool (decide (k.tmod 2 = 0))) ∧ Below w.heap.size w w' := by
  have hc : (k.tmod 2 == 0) = decide (k.tmod 2 = 0) := rfl
  go_enter Try.func35, Try.ntmps35
  go_wp2
  go_ret
  exact ⟨rfl, (Below.refl _ _).alloc (Nat.le_refl _) _⟩
set_option maxRecDepth 100000 in
set_option maxHeartbeats 4000000 in
theorem two_big (a a2 : Option Addr) (n cap m cap2 : Nat) (w : World) (hn : 200 < n ∨ (n ≤ 200 ∧ 200 < m)) : Calls Try.prog 8 #[.slice a n cap, .slice a2 m cap2] w fun e w' => e = .returned (.bool true) ∧ Below w.heap.size w w' := by
  rcases hn with hn | ⟨hn1, hn⟩
  · have i0 : (200 : Int) < (n : Int) := by omega
    go_enter Try.func8, Try.ntmps8
    go_wp2_with fail
    go_at_call 10
    refine (awake_any _).mono ?_
    rintro e w1 ⟨rfl, b1⟩
    go_wp2_with fail
    go_at_call 10
    refine (awake_any _).mono ?_
    rintro e w2 ⟨rfl, b2⟩
    go_wp2
    go_ret
    exact ⟨rfl, bcat b1 b2⟩
  · have i0 : ¬ (200 : Int) < (n : Int) := by omega
    have i1 : (200 : Int) < (m : Int) := by omega
    go_enter Try.func8, Try.ntmps8
    go_wp2_with fail
    go_at_call 10
    refine (awake_any _).mono ?_
    rintro e w1 ⟨rfl, b1⟩
    go_wp2_with fail
    go_at_call 10
    refine (awake_any _).mono ?_
    rintro e w2 ⟨rfl, b2⟩
    go_wp2
    go_ret
    exact ⟨rfl, bcat b1 b2⟩
theorem fill_more {ks : List Int} {i n : Nat} (h : i < n) : fill ks (min (i + 1) n) = ins ⟨ks.getD i 0, i, i⟩ (fill ks (min i n)) ∧ min i n = i ∧ min (i + 1) n = i + 1 := by
  have e1 : min i n = i := by omega
  have e2 : min (i + 1) n = i + 1 := by omega
  rw [e1, e2]
  exact ⟨rfl, rfl, rfl⟩
set_option maxRecDepth 100000 in
set_option maxHeartbeats 8000000 in
theorem two_all (a a2 : Option Addr) (n cap m cap2 : Nat) (ks js : List Int) (w : World) (h : Ks w a n ks) (h2 : Ks w a2 m js) (hn : n ≤ 200) (hm : m ≤ 200) : Calls Try.prog 8 #[.slice a n cap, .slice a2 m cap2] w fun e w' => e = .returned (.bool true) ∧ Below w.heap.size w w' := by
  have i0 : ¬ (200 : Int) < (n : Int) := by omega
  have i1 : ¬ (200 : Int) < (m : Int) := by omega
  obtain ⟨B, hB⟩ : ∃ B, w.heap.size = B := ⟨_, rfl⟩
  rw [hB]
  go_enter Try.func8, Try.ntmps8
  go_wp2_with fail
  go_at_call 10
  refine (awake_any _).mono ?_
  rintro e w1 ⟨rfl, b1⟩
  rw [hB] at b1
  go_wp2_with fail
  go_at_call 11
  refine (new_any B _ (by have := b1.size; omega)).mono ?_
  rintro e w2 ⟨rfl, G1, b2⟩
  have c2 := b1.trans (b2.mono (by have := b1.size; omega))
  go_wp2_with fail
  go_at_call 11
  refine (new_any B _ (by have := c2.size; omega)).mono ?_
  rintro e w3 ⟨rfl, G2, b3⟩
  have c3 := c2.trans (b3.mono (by have := c2.size; omega))
  go_wp2_with fail
  go_at_call 11
  refine (new_any B _ (by have := c3.size; omega)).mono ?_
  rintro e w4 ⟨rfl, G3, b4⟩
  have c4 := c3.trans (b4.mono (by have := c3.size; omega))
  have A12 := apart_new G1
  have A13 := apart_new (G1.go b3)
  have A23 := apart_new G2
  have G1' := (G1.go b3).go b4
  have G2' := G2.go b4
  generalize w1.heap.size = b1' at *
  generalize w2.heap.size = b2' at *
  generalize w3.heap.size = b3' at *
  have hK : Hid (∀ w', Below B w w' → Ks w' a n ks ∧ Ks w' a2 m js) := fun w' q => ⟨h.after (by rw [hB]; exact q), h2.after (by rw [hB]; exact q)⟩
  clear b1 b2 b3 b4 h h2 G1 G2 c2 c3
  go_wp2_with fail
  go_loopw [8] (fun ix wr => ∃ (i : Nat) (v1 v2 v3 : Value), ix = .int .i64 i ∧ i ≤ max n m ∧ Hid (HpAt B wr b1' v1 (fill ks (min i n)) (min i n)) ∧ Hid (HpAt B wr b2' v2 (fill js (min i m)) (min i m)) ∧ Hid (HpAt B wr b3' v3 (fill ks (min i n)) (min i n)) ∧ Hid (Apart b1' v1 b2' v2 ∧ Apart b1' v1 b3' v3 ∧ Apart b2' v2 b3' v3) ∧ Below B w wr) (fun ix wr => max n m - (intOf ix).toNat)
  case atStart => exact ⟨0, _, _, _, rfl, Nat.zero_le _, by rw [Nat.zero_min]; exact G1', by rw [Nat.zero_min]; exact G2', by rw [Nat.zero_min]; exact G3, ⟨A12, A13, A23⟩, c4⟩
  case round =>
    clear G1' G2' G3 A12 A13 A23
    obtain ⟨i, v1, v2, v3, rfl, hi, H1, H2, H3, HA, cr⟩ := hrel
    by_cases hlt : i < n
    · obtain ⟨x, rfl, hx⟩ := (hK.out wr cr).1.cell i hlt
      have hlt' : (i : Int) < (n : Int) := by omega
      obtain ⟨f1, f2, f3⟩ := fill_more (ks := ks) hlt
      have g1 := H1.out
      have g2 := H2.out
      have g3 := H3.out
      obtain ⟨A12, A13, A23⟩ := HA.out
      rw [f2] at g1 g3
      have F1 : Hid (fill ks (min (i + 1) n) = ins ⟨ks.getD i 0, i, i⟩ (fill ks i)) := by unfold Hid; rw [f1, f2]
      have F3 : Hid (min (i + 1) n = i + 1) := f3
      clear H1 H2 H3 HA f1 f2 f3
      go_wp2_with fail
      go_at_call 27
      refine (of_any _ _ _).mono ?_
      rintro e w5 ⟨rfl, b5⟩
      have g15 := g1.go b5
      have c5 := cr.trans (b5.mono (by have := cr.size; omega))
      go_wp2_with fail
      go_at_call 14
      refine (push_any B b1' _ _ _ _ _ _ g15 (by rw [fill_len]; omega) (by omega)).mono ?_
      rintro e w6 ⟨rfl, u1, g16, t6⟩
      have g26 := (g2.go b5).aside t6 A12
      have g36 := (g3.go b5).aside t6 A13
      have A12' := A12.turn t6 (g2.go b5)
      have A13' := A13.turn t6 (g3.go b5)
      have c6 := c5.trans (t6.past g15 (by have := c5.size; omega))
      obtain ⟨x', ex, hx6⟩ := (hK.out w6 c6).1.cell i hlt
      cases ex
      clear g1 g2 g3 g15 b5 c5 t6 A12 A13
      go_wp2_with fail
      go_at_call 27
      refine (of_any _ _ _).mono ?_
      rintro e w7 ⟨rfl, b7⟩
      have g37 := g36.go b7
      have c7 := c6.trans (b7.mono (by have := c6.size; omega))
      go_wp2_with fail
      go_at_call 14
      refine (push_any B b3' _ _ _ _ _ _ g37 (by rw [fill_len]; omega) (by omega)).mono ?_
      rintro e w8 ⟨rfl, u3, g38, t8⟩
      have g18 := (g16.go b7).aside t8 A13'.symm
      have g28 := (g26.go b7).aside t8 A23.symm
      have A13'' := (A13'.symm.turn t8 (g16.go b7)).symm
      have A23' := (A23.symm.turn t8 (g26.go b7)).symm
      have c8 := c7.trans (t8.past g37 (by have := c7.size; omega))
      clear g16 g26 g36 g37 b7 c7 t8 A13' A23 hx hx6 c6 cr
      by_cases hlm : i < m
      · obtain ⟨y, rfl, hy⟩ := (hK.out w8 c8).2.cell i hlm
        have hlm' : (i : Int) < (m : Int) := by omega
        obtain ⟨e1, e2, e3⟩ := fill_more (ks := js) hlm
        rw [e2] at g28
        have E1 : Hid (fill js (min (i + 1) m) = ins ⟨js.getD i 0, i, i⟩ (fill js i)) := by unfold Hid; rw [e1, e2]
        have E3 : Hid (min (i + 1) m = i + 1) := e3
        clear e1 e2 e3
        go_wp2_with fail
        go_at_call 27
        refine (of_any _ _ _).mono ?_
        rintro e w9 ⟨rfl, b9⟩
        have g29 := g28.go b9
        have c9 := c8.trans (b9.mono (by have := c8.size; omega))
        go_wp2_with fail
        go_at_call 14
        refine (push_any B b2' _ _ _ _ _ _ g29 (by rw [fill_len]; omega) (by omega)).mono ?_
        rintro e wA ⟨rfl, u2, g2A, tA⟩
        have g1A := (g18.go b9).aside tA A12'.symm
        have g3A := (g38.go b9).aside tA A23'
        have B12 := (A12'.symm.turn tA (g18.go b9)).symm
        have B23 := A23'.turn tA (g38.go b9)
        have cA := c9.trans (tA.past g29 (by have := c9.size; omega))
        clear g18 g28 g38 g29 b9 c9 tA A12' A23' hy c8
        go_wp2
        go_roundw
        case rel => exact ⟨i + 1, u1, u2, u3, by go_num, by omega, by rw [F1.out, F3.out]; exact g1A, by rw [E1.out, E3.out]; exact g2A, by rw [F1.out, F3.out]; exact g3A, ⟨B12, A13'', B23⟩, cA⟩
        case measure => simp [intOf]; omega
      · have hlm' : ¬ (i : Int) < (m : Int) := by omega
        have E3 : Hid (min (i + 1) m = min i m) := by unfold Hid; omega
        go_wp2
        go_roundw
        case rel => exact ⟨i + 1, u1, v2, u3, by go_num, by omega, by rw [F1.out, F3.out]; exact g18, by rw [E3.out]; exact g28, by rw [F1.out, F3.out]; exact g38, ⟨A12', A13'', A23'⟩, c8⟩
        case measure => simp [intOf]; omega
    · have hlt' : ¬ (i : Int) < (n : Int) := by omega
      have F3 : Hid (min (i + 1) n = min i n) := by unfold Hid; omega
      by_cases hlm : i < m
      · obtain ⟨y, rfl, hy⟩ := (hK.out wr cr).2.cell i hlm
        have hlm' : (i : Int) < (m : Int) := by omega
        obtain ⟨e1, e2, e3⟩ := fill_more (ks := js) hlm
        have g1 := H1.out
        have g2 := H2.out
        have g3 := H3.out
        obtain ⟨A12, A13, A23⟩ := HA.out
        rw [e2] at g2
        have E1 : Hid (fill js (min (i + 1) m) = ins ⟨js.getD i 0, i, i⟩ (fill js i)) := by unfold Hid; rw [e1, e2]
        have E3 : Hid (min (i + 1) m = i + 1) := e3
        clear e1 e2 e3 H1 H2 H3 HA
        go_wp2_with fail
        go_at_call 27
        refine (of_any _ _ _).mono ?_
        rintro e w9 ⟨rfl, b9⟩
        have g29 := g2.go b9
        have c9 := cr.trans (b9.mono (by have := cr.size; omega))
        go_wp2_with fail
        go_at_call 14
        refine (push_any B b2' _ _ _ _ _ _ g29 (by rw [fill_len]; omega) (by omega)).mono ?_
        rintro e wA ⟨rfl, u2, g2A, tA⟩
        have g1A := (g1.go b9).aside tA A12.symm
        have g3A := (g3.go b9).aside tA A23
        have B12 := (A12.symm.turn tA (g1.go b9)).symm
        have B23 := A23.turn tA (g3.go b9)
        have cA := c9.trans (tA.past g29 (by have := c9.size; omega))
        clear g1 g2 g3 g29 b9 c9 tA A12 A23 hy cr
        go_wp2
        go_roundw
        case rel => exact ⟨i + 1, v1, u2, v3, by go_num, by omega, by rw [F3.out]; exact g1A, by rw [E1.out, E3.out]; exact g2A, by rw [F3.out]; exact g3A, ⟨B12, A13, B23⟩, cA⟩
        case measure => simp [intOf]; omega
      · have hlm' : ¬ (i : Int) < (m : Int) := by omega
        have g1 := H1.out
        have g2 := H2.out
        have g3 := H3.out
        obtain ⟨A12, A13, A23⟩ := HA.out
        have e1 : min i n = n := by omega
        rw [e1] at g1 g3
        have hl2 : (fill js (min i m)).length ≤ 200 := by rw [fill_len]; omega
        clear H1 H2 H3 HA F3 e1
        have cD := callsIn_wide.1 (dropTwo_in B b2' v2 _ _ (fun x => decide (x.1.tmod 2 = 0)) wr g2 (by omega) (fun W _ k n => whichTwo k n W))
        go_wp2_with fail
        go_at_call 23
        refine (cD).mono ?_
        rintro e w5 ⟨rfl, u2, g25, t5⟩
        have g15 := g1.aside t5 A12.symm
        have g35 := g3.aside t5 A23
        have c5 := cr.trans (t5.past g2 (by have := cr.size; omega))
        obtain ⟨s, hs⟩ : ∃ s, fill ks n = s := ⟨_, rfl⟩
        have hsl : s.length = n := by rw [← hs]; exact fill_len ks n
        rw [hs] at g15 g35
        clear g1 g2 g3 g25 t5 A12 A13 A23 cD cr hl2 hs
        have ca := all_any B b1' v1 s n 1000 w5 g15 (by omega) (by omega) (by omega)
        obtain ⟨xs, hxs⟩ : ∃ xs, (s.map vOf).take (1000 : Int).toNat = xs := ⟨_, rfl⟩
        have hxl : xs.length ≤ 1000 := by rw [← hxs, List.length_take]; omega
        rw [hxs] at ca
        go_wp2_with fail
        go_at_call 21
        refine (ca).mono ?_
        rintro e w6 ⟨y1, rfl, o6, b6⟩
        have cb := all_any B b3' v3 s n 1000 w6 (g35.go b6) (by omega) (by omega) (by omega)
        rw [hxs] at cb
        obtain ⟨y1a, y1c, rfl, _⟩ := own_form o6
        generalize hq : xs.length = q at *
        go_wp2_with fail
        go_at_call 21
        refine (cb).mono ?_
        rintro e w7 ⟨y2, rfl, o7, b7⟩
        have cS := same_any w5.heap.size w6.heap.size _ _ xs xs w7 (by rw [hq]; exact owns_go o6 b7) (by rw [hq]; exact o7) (by rw [hq]; omega) rfl
        obtain ⟨y2a, y2c, rfl, _⟩ := own_form o7
        have g17 := (g15.go b6).go b7
        have c7 := (c5.trans (b6.mono (by have := c5.size; omega))).trans (b7.mono (by have := c5.size; have := b6.size; omega))
        go_wp2_with fail
        go_at_call 20
        refine (cS).mono ?_
        rintro e w8 ⟨rfl, b8⟩
        have cL := len_any B b1' _ _ _ w8 (g17.go b8)
        rw [hsl] at cL
        go_wp2_with fail
        go_at_call 26
        refine (cL).mono ?_
        rintro e w9 ⟨rfl, rfl⟩
        go_wp2
        go_ret
        exact ⟨rfl, c7.trans (b8.mono (by have := c7.size; omega))⟩
end Go.Proofs.Ytpbmkflkggeggaa.Hp
