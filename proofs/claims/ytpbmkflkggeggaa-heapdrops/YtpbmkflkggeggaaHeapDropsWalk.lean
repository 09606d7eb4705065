/-
  What is dropped is gone, the others stay in their order.
-/
import Derived.Test.YtpbmkflkggeggaaHeapByKey
import Derived.Test.YtpbmkflkggeggaaHeapDropMod1
import Derived.Test.YtpbmkflkggeggaaHeapDropMod2
namespace Go.Proofs.Ytpbmkflkggeggaa.Hp
set_option linter.unusedVariables false
set_option linter.unusedSimpArgs false
open Go Go.RowKit Go.Shelf Go.Proofs
attribute [local go_sem] Oper.semAt_some

theorem whichMod1 (nb N : Nat) (k n : Int) (w : World) (hN : 1 ≤ N) (hb : Boxed w nb 3 (.int .i64 (N : Nat))) : Calls Try.prog 28 #[.agg #[.int .i64 k, .int .i64 n], .pointer (some ⟨nb, 0, none⟩)] w fun e w' => e = .returned (.bool (decide (n.tmod N = 0))) ∧ Below w.heap.size w w' := by
  have hc := hb.cell
  have hl := hb.lt
  have h0 : ¬ (N : Int) = 0 := by omega
  have hd : (n.tmod (N : Int) == 0) = decide (n.tmod (N : Int) = 0) := rfl
  go_enter Try.func28, Try.ntmps28
  go_wp2
  go_ret
  exact ⟨rfl, (Below.refl _ _).alloc (Nat.le_refl _) _⟩
theorem whichMod2 (nb N : Nat) (k n : Int) (w : World) (hN : 1 ≤ N) (hb : Boxed w nb 3 (.int .i64 (N : Nat))) : Calls Try.prog 29 #[.agg #[.int .i64 k, .int .i64 n], .pointer (some ⟨nb, 0, none⟩)] w fun e w' => e = .returned (.bool (decide (n.tmod N = 0))) ∧ Below w.heap.size w w' := by
  have hc := hb.cell
  have hl := hb.lt
  have h0 : ¬ (N : Int) = 0 := by omega
  have hd : (n.tmod (N : Int) == 0) = decide (n.tmod (N : Int) = 0) := rfl
  go_enter Try.func29, Try.ntmps29
  go_wp2
  go_ret
  exact ⟨rfl, (Below.refl _ _).alloc (Nat.le_refl _) _⟩
set_option maxRecDepth 100000 in
set_option maxHeartbeats 4000000 in
theorem drops_big (a : Option Addr) (n cap : Nat) (m : Int) (w : World) (hn : 300 < n) : Calls Try.prog 6 #[.slice a n cap, .int .i64 m] w fun e w' => e = .returned (.bool true) ∧ Below w.heap.size w w' := by
  have i0 : (300 : Int) < (n : Int) := by omega
  go_enter Try.func6, Try.ntmps6
  go_wp2_with fail
  go_at_call 10
  refine (awake_any _).mono ?_
  rintro e w1 ⟨rfl, b1⟩
  go_wp2_with fail
  go_at_call 10
  refine (awake_any _).mono ?_
  rintro e w2 ⟨rfl, b2⟩
  go_wp2
  go_ret
  exact ⟨rfl, bcat b1 b2⟩
set_option maxRecDepth 100000 in
set_option maxHeartbeats 8000000 in
theorem drops_all (a : Option Addr) (n cap : Nat) (ks : List Int) (m : Int) (w : World) (h : Ks w a n ks) (hn : n ≤ 300) : Calls Try.prog 6 #[.slice a n cap, .int .i64 m] w fun e w' => e = .returned (.bool true) ∧ Below w.heap.size w w' := by
  have i0 : ¬ (300 : Int) < (n : Int) := by omega
  have hmf : ∀ (fn : Fn) (first cap : Array Value) (w : World), (Instr.makeFunc fn first cap).run Try.prog w = .ok (.func fn first cap) w := fun _ _ _ _ => rfl
  have pb := place_bd m 5 (by omega)
  have cP := fun w1 => place_any m 5 w1 (by omega) (by omega)
  obtain ⟨N, hN⟩ : ∃ N : Nat, 1 + place m 5 = (N : Int) := ⟨(1 + place m 5).toNat, by omega⟩
  obtain ⟨r, hr⟩ : ∃ r, place m 5 = r := ⟨_, rfl⟩
  rw [hr] at pb cP hN
  clear hr
  have hN1 : 1 ≤ N := by omega
  have hN5 : N ≤ 5 := by omega
  have hN0 : ¬ (N : Int) = 0 := by omega
  go_enter Try.func6, Try.ntmps6
  go_wp2_with fail
  go_at_call 10
  refine (awake_any _).mono ?_
  rintro e w1 ⟨rfl, b1⟩
  go_wp2_with fail
  go_at_call 13
  refine (cP _).mono ?_
  rintro e w2 ⟨rfl, rfl⟩
  go_wp2_with fail
  try rw [hN]
  obtain ⟨W, hW⟩ : ∃ W, w2.alloc (.cells #[.int .i64 (N : Int)] 3) = W := ⟨_, rfl⟩
  have bW : Below w2.heap.size w2 W := by rw [← hW]; exact (Below.refl _ _).alloc (Nat.le_refl _) _
  have nW : Boxed W w2.heap.size 3 (.int .i64 (N : Nat)) := by rw [← hW]; exact Boxed.new _ _ _
  have nl := nW.lt
  have cW : Below w.heap.size w W := bcat b1 bW
  try rw [hW]
  generalize w2.heap.size = nb at *
  obtain ⟨B, hB⟩ : ∃ B, W.heap.size = B := ⟨_, rfl⟩
  have hK : Hid (∀ w', Below B W w' → Ks w' a n ks ∧ Boxed w' nb 3 (.int .i64 (N : Nat))) := fun w' q => ⟨(h.after cW).after (by rw [hB]; exact q), (q.block nb (by omega)).trans nW⟩
  clear b1 bW hW nW pb cP h
  go_at_call 11
  refine (new_any B _ (by omega)).mono ?_
  rintro e w3 ⟨rfl, G1, b3⟩
  rw [hB] at G1 b3 ⊢
  go_wp2_with fail
  go_at_call 11
  refine (new_any B _ (by have := b3.size; omega)).mono ?_
  rintro e w4 ⟨rfl, G2, b4⟩
  have c4 := b3.trans (b4.mono (by have := b3.size; omega))
  have A12 := apart_new G1
  have G1' := G1.go b4
  generalize w3.heap.size = bg at *
  clear b3 b4 G1
  obtain ⟨p, hp⟩ : ∃ p : Int × Int → Bool, p = fun x => decide (x.2.tmod (N : Int) = 0) := ⟨_, rfl⟩
  have HP : Hid (p = fun x => decide (x.2.tmod (N : Int) = 0)) := hp
  clear hp
  go_wp2_with fail
  go_loopw [8, 9] (fun gx ix wr => ∃ (i : Nat) (v1 v2 : Value) (s2 : List It) (c2 : Nat), gx = .int .i64 (went p (fill ks i) : Nat) ∧ ix = .int .i64 i ∧ i ≤ n ∧ Hid (HpAt B wr B v1 (fill ks i) i) ∧ Hid (HpAt B wr bg v2 s2 c2) ∧ c2 ≤ i ∧ Hid (s2.map vOf = ((fill ks i).map vOf).filter fun x => !p x) ∧ Hid (Apart B v1 bg v2) ∧ Below B W wr) (fun gx ix wr => n - (intOf ix).toNat)
  case atStart => exact ⟨0, _, _, [], 0, rfl, rfl, Nat.zero_le _, G1', G2, Nat.le_refl _, rfl, A12, c4⟩
  case round =>
    clear G1' G2 A12
    obtain ⟨i, v1, v2, s2, c2, rfl, rfl, hi, H1, H2, hc2, HS, HA, cr⟩ := hrel
    have wl := went_le p (fill ks i)
    rw [fill_len] at wl
    by_cases hlt : i < n
    · obtain ⟨x, rfl, hx⟩ := (hK.out wr cr).1.cell i hlt
      have hlt' : (i : Int) < (n : Int) := by omega
      go_wp2_with fail
      go_at_call 27
      refine (of_any _ _ _).mono ?_
      rintro e w5 ⟨rfl, b5⟩
      have g15 := H1.out.go b5
      have g25 := H2.out.go b5
      have c5 := cr.trans (b5.mono (by have := cr.size; omega))
      go_wp2_with fail
      go_at_call 14
      refine (push_any B B _ _ _ _ _ _ g15 (by rw [fill_len]; omega) (by omega)).mono ?_
      rintro e w6 ⟨rfl, u1, g16, t6⟩
      have g26 := g25.aside t6 HA.out
      have A6 := HA.out.turn t6 g25
      have c6 := c5.trans (t6.past g15 (by have := c5.size; omega))
      have n6 := (hK.out w6 c6).2.cell
      have we := went_ins p ⟨ks.getD i 0, i, i⟩ (fill ks i)
      have wf : went p (fill ks (i + 1)) = went p (fill ks i) + if p (ks.getD i 0, (i : Int)) then 1 else 0 := we
      have hpi : p (ks.getD i 0, (i : Int)) = decide ((i : Int).tmod (N : Int) = 0) := by rw [HP.out]
      obtain ⟨x', ex, hx6⟩ := (hK.out w6 c6).1.cell i hlt
      cases ex
      clear H1 H2 HA g15 g25 b5 c5 t6 we hx
      obtain ⟨z, hzz⟩ : ∃ z, (i : Int).tmod (N : Int) = z := ⟨_, rfl⟩
      rw [hzz] at hpi
      by_cases hz : z = 0
      · have hpt : p (ks.getD i 0, (i : Int)) = true := by rw [hpi]; exact decide_eq_true hz
        subst hz
        rw [if_pos hpt] at wf
        have S6 : Hid (s2.map vOf = ((fill ks (i + 1)).map vOf).filter fun x => !p x) := both_yes HS.out hpt
        have WF : Hid (went p (fill ks (i + 1)) = went p (fill ks i) + 1) := wf
        clear wf hpi
        go_wp2
        go_roundw
        case rel => exact ⟨i + 1, u1, v2, s2, c2, by rw [WF.out]; exact congrArg (Value.int IntKind.i64) (by omega), by go_num, by omega, g16, g26, by omega, S6.out, A6, c6⟩
        case measure => simp [intOf]; omega
      · have hpt : p (ks.getD i 0, (i : Int)) = false := by rw [hpi]; exact decide_eq_false hz
        rw [if_neg (by rw [hpt]; decide)] at wf
        have hz' : (z == 0) = false := by rw [beq_eq_false_iff_ne]; exact hz
        have S6 : Hid ((ins ⟨ks.getD i 0, i, c2⟩ s2).map vOf = ((fill ks (i + 1)).map vOf).filter fun x => !p x) := both_no HS.out g26.turns hpt
        have sl := both_len HS.out
        have WF : Hid (went p (fill ks (i + 1)) = went p (fill ks i)) := wf
        clear wf hpi hpt
        go_wp2_with fail
        go_at_call 27
        refine (of_any _ _ _).mono ?_
        rintro e w7 ⟨rfl, b7⟩
        have g27 := g26.go b7
        have g17 := g16.go b7
        have c7 := c6.trans (b7.mono (by have := c6.size; omega))
        go_wp2_with fail
        go_at_call 14
        refine (push_any B bg _ _ _ _ _ _ g27 (by omega) (by omega)).mono ?_
        rintro e w8 ⟨rfl, u2, g28, t8⟩
        have g18 := g17.aside t8 A6.symm
        have A8 := (A6.symm.turn t8 g17).symm
        have c8 := c7.trans (t8.past g27 (by have := c7.size; omega))
        clear g16 g26 g27 g17 b7 c7 t8 A6 n6 hx6 c6 cr
        go_wp2
        go_roundw
        case rel => exact ⟨i + 1, u1, u2, _, c2 + 1, by rw [WF.out], by go_num, by omega, g18, g28, by omega, S6.out, A8, c8⟩
        case measure => simp [intOf]; omega
    · obtain rfl : i = n := by omega
      obtain ⟨s, hs⟩ : ∃ s, fill ks i = s := ⟨_, rfl⟩
      have hsl : s.length = i := by rw [← hs]; exact fill_len ks i
      have g1 := H1.out
      have g2 := H2.out
      have hS := HS.out
      rw [hs] at g1 hS ⊢
      have hb2 := both_len HS.out
      clear H1 H2 HS
      have hf : ∀ W', Below wr.heap.size wr W' → Boxed W' nb 3 (.int .i64 (N : Nat)) := fun W' q => (q.block nb (by have := cr.size; omega)).trans (hK.out wr cr).2
      have cD := callsIn_wide.1 (dropMod1_in B B v1 s i nb p wr g1 (by omega) (fun W' q k n => by have := whichMod1 nb N k n W' hN1 (hf W' q); rw [HP.out]; exact this))
      have st := stay_went p s
      have s1 := (stay_stay p s).1
      have s2' := (stay_stay p s).2
      have sm := stay_map p s
      rw [← hS] at sm
      have wl2 := went_le p s
      rw [hs] at wl
      generalize went p s = q at *
      go_wp2_with fail
      go_at_call 23
      refine (cD).mono ?_
      rintro e w5 ⟨rfl, u1, g15, t5⟩
      have g25 := g2.aside t5 HA.out
      have A5 := HA.out.turn t5 g2
      have c5 := cr.trans (t5.past g1 (by have := cr.size; omega))
      have hf5 : ∀ W', Below w5.heap.size w5 W' → Boxed W' nb 3 (.int .i64 (N : Nat)) := fun W' z => (z.block nb (by have := c5.size; omega)).trans (hK.out w5 c5).2
      have cE := callsIn_wide.1 (dropMod2_in B B u1 (stay p s) i nb p w5 g15 (by omega) (fun W' z k n => by have := whichMod2 nb N k n W' hN1 (hf5 W' z); rw [HP.out]; exact this))
      rw [s2', s1] at cE
      clear g1 g2 t5 HA cD hf cr s1 s2'
      go_wp2_with fail
      go_at_call 23
      refine (cE).mono ?_
      rintro e w6 ⟨rfl, u2, g16, t6⟩
      have g26 := g25.aside t6 A5
      have c6 := c5.trans (t6.past g15 (by have := c5.size; omega))
      clear g15 g25 A5 t6 cE hf5 c5
      have ca := all_any B B u2 (stay p s) i 1000 w6 g16 (by omega) (by omega) (by omega)
      rw [sm] at ca
      obtain ⟨xs, hxs⟩ : ∃ xs, (s2.map vOf).take (1000 : Int).toNat = xs := ⟨_, rfl⟩
      have hxl : xs.length ≤ 1000 := by rw [← hxs, List.length_take]; omega
      rw [hxs] at ca
      go_wp2_with fail
      go_at_call 21
      refine (ca).mono ?_
      rintro e w7 ⟨y1, rfl, o7, b7⟩
      have cb := all_any B bg v2 s2 c2 1000 w7 (g26.go b7) (by omega) (by omega) (by omega)
      rw [hxs] at cb
      obtain ⟨y1a, y1c, rfl, _⟩ := own_form o7
      generalize hq : xs.length = qq at *
      go_wp2_with fail
      go_at_call 21
      refine (cb).mono ?_
      rintro e w8 ⟨y2, rfl, o8, b8⟩
      have cS := same_any w6.heap.size w7.heap.size _ _ xs xs w8 (by rw [hq]; exact owns_go o7 b8) (by rw [hq]; exact o8) (by rw [hq]; omega) rfl
      obtain ⟨y2a, y2c, rfl, _⟩ := own_form o8
      have g18 := (g16.go b7).go b8
      have c8 := (c6.trans (b7.mono (by have := c6.size; omega))).trans (b8.mono (by have := c6.size; have := b7.size; omega))
      go_wp2_with fail
      go_at_call 20
      refine (cS).mono ?_
      rintro e w9 ⟨rfl, b9⟩
      have cL := len_any B B _ _ _ w9 (g18.go b9)
      have hlen : ((stay p s).length : Int) = (i : Int) - (q : Int) := by omega
      rw [hlen] at cL
      go_wp2_with fail
      go_at_call 26
      refine (cL).mono ?_
      rintro e wA ⟨rfl, rfl⟩
      go_wp2
      go_ret
      have cB : Below w.heap.size W wA := (c8.trans (b9.mono (by have := c8.size; omega))).mono (by have := cW.size; omega)
      exact ⟨rfl, cW.trans cB⟩
end Go.Proofs.Ytpbmkflkggeggaa.Hp
