/-
  Any calls: each answers, and all slots and stretches are, what the document says.
-/
import Derived.Test.YtddkgkafgjdheaaResvSame
namespace Go.Proofs.Ytddkgkafgjdheaa.Rs
set_option linter.unusedVariables false
set_option linter.unusedSimpArgs false
open Go Go.RowKit Go.Shelf Go.Proofs Hp
attribute [local go_sem] Oper.semAt_some

def PlN (w00 : World) (b c n i : Nat) (w : World) : Prop := ∃ (F G : Nat → Prop) (ls : List (List Sl)), TAt F w b ls ∧ TAt G w c ls ∧ (∀ k, G k → ¬ F k) ∧ Below w00.heap.size w00 w ∧ (∀ k, F k → w00.heap.size ≤ k) ∧ (∀ k, G k → w00.heap.size ≤ k) ∧ OkT ls ∧ Small (60 * i) ls ∧ ls.length = n
theorem PlN.start {w00 w1 w2 : World} {b c n : Nat} {F G : Nat → Prop} (T1 : TAt F w1 b (List.replicate n [])) (b1 : Below w00.heap.size w00 w1) (f1 : ∀ k, F k → w00.heap.size ≤ k) (T2 : TAt G w2 c (List.replicate n [])) (b2 : Below w1.heap.size w1 w2) (f2 : ∀ k, G k → w1.heap.size ≤ k) : PlN w00 b c n 0 w2 :=
  ⟨F, G, _, T1.go b2, T2, fun k hg hf => by have := T1.low k hf; have := f2 k hg; omega, bcat b1 b2, f1, fun k hk => Nat.le_trans b1.size (f2 k hk), bare_ok n, bare_small n _, by simp⟩
theorem PlN.bw {w00 w : World} {b c n i : Nat} (h : PlN w00 b c n i w) : Below w00.heap.size w00 w := by
  obtain ⟨F, G, ls, _, _, _, h, _⟩ := h; exact h
theorem PlN.go {w00 w w' : World} {b c n i : Nat} (h : PlN w00 b c n i w) (hb : Below w.heap.size w w') : PlN w00 b c n i w' := by
  obtain ⟨F, G, ls, TF, TG, ho, hw, r⟩ := h
  exact ⟨F, G, ls, TF.go hb, TG.go hb, ho, bcat hw hb, r⟩
theorem do_turnN {w00 : World} {b c n i : Nat} {w : World} (h : PlN w00 b c n i w) (hi : i < 50) (h0 : 0 < n) (h1 : n ≤ 12) (x : Cl) (hin : InW w00 x.a x.n x.cap x.ws) (hn : x.n ≤ 60) : Calls Try.prog 16 #[.pointer (some ⟨b, 0, none⟩), .pointer (some ⟨c, 0, none⟩), .agg #[.int .i64 x.kd, .int .i64 x.r, .int .i64 x.c, .int .i64 x.ti, .int .i64 x.by_, .slice x.a x.n x.cap]] w fun e w' => e = .returned (.bool true) ∧ PlN w00 b c n (i + 1) w' := by
  obtain ⟨F, G, ls, TF, TG, ho, hb, fF, fG, ok, sm, hl⟩ := h
  refine (do_any w00 F G b c ls x.kd x.r x.c x.ti x.by_ x.a x.n x.cap x.ws (60 * i) w hin hn TF TG ho hb fF fG ok sm (by omega) (by omega) (by omega)).mono fun e w' ⟨F', G', l', he, h1, h2, h3, h4, h5, h6, h7, h8, h9⟩ => ⟨he, F', G', l', h1, h2, h3, h4, h5, h6, h7, h8, by omega⟩
theorem same_turn {w00 : World} {b c n i : Nat} {w : World} (h : PlN w00 b c n i w) (hi : i ≤ 50) (h0 : 0 < n) (h1 : n ≤ 12) (R : Int) : Calls Try.prog 17 #[.pointer (some ⟨b, 0, none⟩), .pointer (some ⟨c, 0, none⟩), .int .i64 R] w fun e w' => e = .returned (.bool true) ∧ PlN w00 b c n i w' := by
  obtain ⟨F, G, ls, TF, TG, ho, hb, fF, fG, ok, sm, hl⟩ := id h
  exact (same_any F G b c ls R (60 * i) w TF TG ok sm (by omega) (by omega) (by omega)).mono fun e w' ⟨he, k⟩ => ⟨he, h.go k⟩
set_option maxRecDepth 100000 in
set_option maxHeartbeats 4000000 in
theorem plays_all (N : Int) (a : Option Addr) (n cap : Nat) (os : List Cl) (w : World) (hin : InS w a n cap os) : Calls Try.prog 3 #[.int .i64 N, .slice a n cap] w fun e w' => e = .returned (.bool true) ∧ Below w.heap.size w w' := by
  have HIN : Hid (InS w a n cap os) := hin
  have hol := hin.len
  subst hol
  clear hin
  by_cases hlow : N < 1
  · have cN := new_bad N w (Or.inl hlow)
    have d1 : decide (N < 1) = true := decide_eq_true hlow
    clear hlow
    go_enter Try.func3, Try.ntmps3
    go_wp2_with (first
      | (go_at_call 12; refine cN.mono ?_; rintro _ w1 ⟨rfl, hw1⟩; have hw1' := hw1.symm; subst hw1')
      | (go_at_call 13; refine (awake_any _).mono ?_; rintro _ w2 ⟨rfl, b2⟩))
    go_ret
    exact ⟨rfl, b2⟩
  have d1 : decide (N < 1) = false := decide_eq_false hlow
  by_cases hhigh : N > 256
  · have cN := new_bad N w (Or.inr hhigh)
    have d2 : decide (N > 256) = true := decide_eq_true hhigh
    clear hlow hhigh
    go_enter Try.func3, Try.ntmps3
    go_wp2_with (first
      | (go_at_call 12; refine cN.mono ?_; rintro _ w1 ⟨rfl, hw1⟩; have hw1' := hw1.symm; subst hw1')
      | (go_at_call 13; refine (awake_any _).mono ?_; rintro _ w2 ⟨rfl, b2⟩))
    go_ret
    exact ⟨rfl, b2⟩
  have d2 : decide (N > 256) = false := decide_eq_false hhigh
  obtain ⟨m, rfl⟩ : ∃ m : Nat, N = (m : Nat) := ⟨N.toNat, by omega⟩
  have hm0 : 0 < m := by omega
  have hm1 : m ≤ 256 := by omega
  have cN := new_any m w hm0 hm1
  clear hlow hhigh
  by_cases hbig : (m : Int) > 12
  · have d3 : decide ((m : Int) > 12) = true := decide_eq_true hbig
    have hHm : Hid (0 < m ∧ m ≤ 256) := ⟨hm0, hm1⟩
    clear hbig hm0 hm1
    go_enter Try.func3, Try.ntmps3
    go_wp2_with (first
      | (go_at_call 12; refine cN.mono ?_; rintro _ w1 ⟨b, rfl, F, T1, b1, f1⟩; have cC := cells_any F b _ w1 T1; simp only [List.length_replicate] at cC)
      | (go_at_call 14; refine cC.mono ?_; rintro _ wz ⟨rfl, hwz⟩; have hwz' := hwz.symm; subst hwz')
      | (go_at_call 13; refine (awake_any _).mono ?_; rintro _ w2 ⟨rfl, b2⟩))
    go_ret
    exact ⟨rfl, bcat b1 b2⟩
  have d3 : decide ((m : Int) > 12) = false := decide_eq_false hbig
  have hHm : Hid (0 < m ∧ m ≤ 12) := ⟨hm0, by omega⟩
  have cN2 := fun u => refNew_any m u hm0 hm1
  clear hbig hm0 hm1
  go_enter Try.func3, Try.ntmps3
  go_wp2_with (first
    | (go_at_call 12; refine cN.mono ?_; rintro _ w1 ⟨b, rfl, F, T1, b1, f1⟩)
    | (go_at_call 15; refine (cN2 w1).mono ?_; rintro _ w2 ⟨c, rfl, G, T2, b2, f2⟩))
  have P0 : Hid (PlN w b c m 0 w2) := PlN.start T1 b1 f1 T2 b2 f2
  clear cN cN2 T1 b1 f1 T2 b2 f2
  go_loopw [8] (fun s6 wr => ∃ i : Nat, s6 = .int .i64 i ∧ i ≤ os.length ∧ i ≤ 50 ∧ Hid (PlN w b c m i wr)) (fun s6 _ => os.length - (intOf s6).toNat)
  case atStart => exact ⟨0, rfl, Nat.zero_le _, Nat.zero_le _, P0⟩
  case round =>
    clear P0
    obtain ⟨i, rfl, hi, hi60, PL⟩ := hrel
    by_cases hgo : i < os.length ∧ i < 50
    · obtain ⟨hlt, hl60⟩ := hgo
      have hlt' : (i : Int) < (os.length : Int) := by omega
      have hl60' : (i : Int) < 50 := by omega
      have his : (i : Int) + 1 ≤ 1000 := by omega
      obtain ⟨p, ea, c0, c1, c2, c3, c4, c5, IW⟩ := (HIN.out.go PL.out.bw).at i hlt
      have IW0 : Hid (InW w (os[i]).a (os[i]).n (os[i]).cap (os[i]).ws) := by obtain ⟨_, _, _, q⟩ := HIN.out.lay i hlt; exact q
      subst ea
      have HRd : Hid (∀ u, Below w.heap.size w u → u.cell? ⟨(p.add (i * 6)).block, (p.add (i * 6)).off + 1, none⟩ = some (.int .i64 (os[i]).r)) := fun u hu => by
        obtain ⟨p', ep, _, q, _⟩ := (HIN.out.go hu).at i hlt
        cases ep
        exact q
      obtain ⟨x, hx⟩ : ∃ x, os[i] = x := ⟨_, rfl⟩
      rw [hx] at c0 c1 c2 c3 c4 c5 IW0 HRd
      clear hx IW
      by_cases hbig : x.n > 60
      · have hb' : (x.n : Int) > 60 := by omega
        go_wp2_with (go_at_call 13; refine (awake_any _).mono ?_; rintro _ w3 ⟨rfl, b3⟩)
        go_ret
        exact ⟨rfl, bcat PL.out.bw b3⟩
      · have hb' : ¬ (x.n : Int) > 60 := by omega
        have cD := do_turnN PL.out hl60 hHm.out.1 hHm.out.2 x IW0.out (by omega)
        go_wp2_with (first
          | (go_at_call 16; refine cD.mono ?_; rintro _ w3 ⟨rfl, P3⟩; have d9 := HRd.out w3 P3.bw; have cS := same_turn P3 (by omega) hHm.out.1 hHm.out.2 x.r; clear P3)
          | (go_at_call 17; refine cS.mono ?_; rintro _ w4 ⟨rfl, P4⟩))
        go_roundw
        case measure => simp only [intOf]; omega
        case rel => exact ⟨i + 1, rfl, hlt, hl60, P4⟩
    · have cS := same_turn PL.out hi60 hHm.out.1 hHm.out.2 1
      have hgo' : ((i : Int) < (os.length : Int)) → ¬ ((i : Int) < 50) := fun h => by omega
      by_cases hlt : i < os.length
      · have hlt' : (i : Int) < (os.length : Int) := by omega
        have hl60' : ¬ (i : Int) < 50 := by omega
        clear hgo hgo' hlt
        go_wp2_with (first
          | (go_at_call 17; refine cS.mono ?_; rintro _ w4 ⟨rfl, P4⟩)
          | (go_at_call 13; refine (awake_any _).mono ?_; rintro _ w5 ⟨rfl, b5⟩))
        go_ret
        exact ⟨rfl, bcat P4.bw b5⟩
      · have hlt' : ¬ (i : Int) < (os.length : Int) := by omega
        clear hgo hgo' hlt
        go_wp2_with (first
          | (go_at_call 17; refine cS.mono ?_; rintro _ w4 ⟨rfl, P4⟩)
          | (go_at_call 13; refine (awake_any _).mono ?_; rintro _ w5 ⟨rfl, b5⟩))
        go_ret
        exact ⟨rfl, bcat P4.bw b5⟩
end Go.Proofs.Ytddkgkafgjdheaa.Rs
