/-
  The chapter's own answer to how a run ends that is stopped.
-/
import Derived.Test.YtjblplaaogbkiaaKinRef2
namespace Go.Proofs.Ytjblplaaogbkiaa.Kin
set_option linter.unusedVariables false
set_option linter.unusedSimpArgs false
open Go Go.RowKit Go.Shelf Go.Proofs
attribute [local go_sem] Oper.semAt_some

set_option maxHeartbeats 2000000 in
theorem refStop_low (u a v : Nat) (n t : Int) (w : World) (ok : Ok u a v) (ht : t < 1 ∨ (profI u a v n).length = 0) :
    Calls Try.prog 29 #[.agg #[.int .i64 u, .int .i64 a, .int .i64 v], .int .i64 n, .int .i64 t] w fun e w' => e = .returned (.tuple #[.int .i64 0, .int .i64 0]) ∧ Below w.heap.size w w' := by
  have cP := fun w1 => refProfile_any u a v n w1 ok
  have bb : Below w.heap.size w (w.alloc (.cells #[.int .i64 u, .int .i64 a, .int .i64 v] 24)) := (Below.refl _ _).alloc (Nat.le_refl _) _
  by_cases h1 : t < 1
  · generalize (profI u a v n).length = k at *
    generalize ints (profI u a v n) = xs at *
    clear ht
    go_enter Try.func29, Try.ntmps29
    go_wp2_with (go_at_call 20; refine (cP _).mono ?_; rintro e w3 ⟨x, rfl, r3, b3⟩; obtain ⟨xa, xc, rfl, _⟩ := own_form r3; obtain ⟨c0, c1, c2⟩ := box_cell b3)
    go_ret2
    exact ⟨rfl, bb.trans (b3.mono bb.size)⟩
  · have h0 : (profI u a v n).length = 0 := by rcases ht with h | h <;> first | exact (h1 h).elim | exact h
    have hd1 : decide (t < 1) = false := decide_eq_false h1
    rw [h0] at cP
    generalize ints (profI u a v n) = xs at *
    clear ht h0
    go_enter Try.func29, Try.ntmps29
    go_wp2_with (go_at_call 20; refine (cP _).mono ?_; rintro e w3 ⟨x, rfl, r3, b3⟩; obtain ⟨xa, xc, rfl, _⟩ := own_form r3; obtain ⟨c0, c1, c2⟩ := box_cell b3)
    go_ret2
    exact ⟨rfl, bb.trans (b3.mono bb.size)⟩
set_option maxHeartbeats 2000000 in
theorem refStop_end (u a v : Nat) (n t : Int) (w : World) (ok : Ok u a v) (ht : ¬ t < 1) (h0 : (profI u a v n).length ≠ 0) (hl : ((profI u a v n).length : Int) ≤ t) :
    Calls Try.prog 29 #[.agg #[.int .i64 u, .int .i64 a, .int .i64 v], .int .i64 n, .int .i64 t] w fun e w' => e = .returned (.tuple #[.int .i64 n, .int .i64 0]) ∧ Below w.heap.size w w' := by
  have cP := fun w1 => refProfile_any u a v n w1 ok
  have bb : Below w.heap.size w (w.alloc (.cells #[.int .i64 u, .int .i64 a, .int .i64 v] 24)) := (Below.refl _ _).alloc (Nat.le_refl _) _
  have hd1 : decide (t < 1) = false := decide_eq_false ht
  generalize (profI u a v n).length = k at *
  generalize ints (profI u a v n) = xs at *
  have hd2 : ((k : Int) == 0) = false := by rw [beq_eq_false_iff_ne]; omega
  go_enter Try.func29, Try.ntmps29
  go_wp2_with (go_at_call 20; refine (cP _).mono ?_; rintro e w3 ⟨x, rfl, r3, b3⟩; obtain ⟨xa, xc, rfl, _⟩ := own_form r3; obtain ⟨c0, c1, c2⟩ := box_cell b3)
  go_ret2
  exact ⟨rfl, bb.trans (b3.mono bb.size)⟩
set_option maxRecDepth 100000 in
set_option maxHeartbeats 4000000 in
theorem refStop_mid (u a v : Nat) (n t : Int) (w : World) (ok : Ok u a v) (ht : ¬ t < 1) (ht2 : t ≤ 9223372036854775807) (h0 : (profI u a v n).length ≠ 0) (hl : ¬ ((profI u a v n).length : Int) ≤ t) (p s : Nat) (hp : atI u a v n t = p) (hs : velI u a v n t = s) (hp2 : p ≤ 16000) (hs1 : 1 ≤ s) (hsv : s ≤ v) :
    Calls Try.prog 29 #[.agg #[.int .i64 u, .int .i64 a, .int .i64 v], .int .i64 n, .int .i64 t] w fun e w' => e = .returned (.tuple #[.int .i64 (cellsS u a p s : Nat), .int .i64 (ticksS u a v p s : Nat)]) ∧ Below w.heap.size w w' := by
  have cP := fun w1 => refProfile_any u a v n w1 ok
  have cA := fun w1 => refAt_any u a v n t w1 ok
  have cS := fun w1 => refSpeed_any u a v n t w1 ok ht2
  rw [hp] at cA
  rw [hs] at cS
  have bb : Below w.heap.size w (w.alloc (.cells #[.int .i64 u, .int .i64 a, .int .i64 v] 24)) := (Below.refl _ _).alloc (Nat.le_refl _) _
  have hd1 : decide (t < 1) = false := decide_eq_false ht
  generalize (profI u a v n).length = k at *
  generalize ints (profI u a v n) = xs at *
  have hd2 : ((k : Int) == 0) = false := by rw [beq_eq_false_iff_ne]; omega
  have hl2 : t < (k : Int) := by omega
  obtain ⟨u1, u2, a1, a2, v1, v2⟩ := ok
  have hu0 : ¬ (u : Int) = 0 := by omega
  have hB := brk_bound (m := 1000) a1 (show s ≤ 1000 by omega)
  obtain ⟨q1, q2⟩ := cells_bd (u := u) (a := a) (p := p) (s := s) u1
  have cB := fun w1 => refbrake_any u a v s w1 a1 a2 (by omega)
  have EC : Hid (((p : Int) + (brk a s : Nat) + u - 1) / u = (cellsS u a p s : Nat)) := by
    unfold Hid cellsS
    rw [Int.natCast_ediv]
    congr 1
    omega
  obtain ⟨r, hr⟩ : ∃ r, runs a v 0 (cellsS u a p s * u - p) s = r := ⟨_, rfl⟩
  have hrl : r.length ≤ cellsS u a p s * u - p := by rw [← hr]; exact (runs_len a1 v1 (by omega)).1
  have ET : Hid (ticksS u a v p s = r.length) := by unfold Hid ticksS; rw [hr]
  have hsum : r.sum = cellsS u a p s * u - p := by rw [← hr]; exact runs_sum a1 v1 _ _ (by omega)
  have hnx : ∀ i, i < r.length → r.getD i 0 = nxt a (cellsS u a p s * u - p - (r.take i).sum) (min (ahead s r i) v) := by
    intro i hi
    have := runs_nxt (a := a) (v := v) (rise := 0) (left := cellsS u a p s * u - p) (s := s) (i := i) a1 v1 (by omega) (by rw [hr]; exact hi)
    rw [hr, Nat.add_zero] at this
    exact this
  have hst : ∀ i, i < r.length → Step a v 0 (cellsS u a p s * u - p - (r.take i).sum) (ahead s r i) (r.getD i 0) := by
    intro i hi
    have := runs_step (a := a) (v := v) (rise := 0) (left := cellsS u a p s * u - p) (s := s) (i := i) a1 v1 (by omega) (by rw [hr]; exact hi)
    rw [hr] at this
    exact this
  have hah : ∀ i, i ≤ r.length → 1 ≤ ahead s r i ∧ ahead s r i ≤ v := by
    intro i hi
    unfold ahead
    by_cases h : i = 0
    · rw [if_pos h]; omega
    · rw [if_neg h]
      have := hst (i - 1) (by omega)
      exact ⟨this.pos, this.top⟩
  generalize brk a s = B at *
  generalize cellsS u a p s = C at *
  generalize ticksS u a v p s = T at *
  have HN : Hid (∀ i, i < r.length → r.getD i 0 = nxt a (C * u - p - (r.take i).sum) (min (ahead s r i) v)) := hnx
  have HT : Hid (∀ i, i < r.length → Step a v 0 (C * u - p - (r.take i).sum) (ahead s r i) (r.getD i 0)) := hst
  have HA : Hid (∀ i, i ≤ r.length → 1 ≤ ahead s r i ∧ ahead s r i ≤ v) := hah
  have HS : Hid (r.sum = C * u - p) := hsum
  clear hnx hst hah hsum hr hp hs
  obtain ⟨X, hX⟩ : ∃ X, C * u = X := ⟨_, rfl⟩
  have eX : (C : Int) * (u : Int) = (X : Int) := by rw [← Int.natCast_mul, hX]
  have hX2 : X ≤ 2000000 := by omega
  rw [hX] at q1 q2 HN HT HS hrl
  replace hrl : r.length ≤ 2000000 := by omega
  clear hX
  go_enter Try.func29, Try.ntmps29
  go_wp2_with (first
    | (go_at_call 20; refine (cP _).mono ?_; rintro e w3 ⟨x, rfl, r3, b3⟩; obtain ⟨xa, xc, rfl, _⟩ := own_form r3; obtain ⟨c0, c1, c2⟩ := box_cell b3)
    | (go_at_call 24; refine (cA _).mono ?_; rintro e w4 ⟨rfl, b4⟩; have b34 := bcat (by exact b3) b4; obtain ⟨c0, c1, c2⟩ := box_cell b34)
    | (go_at_call 26; refine (cS _).mono ?_; rintro e w5 ⟨rfl, b5⟩; have b35 := bcat b34 b5))
  have lt2 : w.heap.size < (w.alloc (.cells #[.int .i64 u, .int .i64 a, .int .i64 v] 24)).heap.size := by simp
  obtain ⟨d0, d1, d2⟩ := box_cell b35
  have lw5 : w.heap.size < w5.heap.size := World.block_lt_of_cell? w5 _ d0
  have y0 : ∀ (z : Cls (fun w' => Below w5.heap.size w5 w')), z.w.cell? ⟨w.heap.size, 0, none⟩ = some (.int .i64 u) := fun z => (z.h.cell (p := ⟨w.heap.size, 0, none⟩) lw5).trans d0
  have y1 : ∀ (z : Cls (fun w' => Below w5.heap.size w5 w')), z.w.cell? ⟨w.heap.size, 1, none⟩ = some (.int .i64 a) := fun z => (z.h.cell (p := ⟨w.heap.size, 1, none⟩) lw5).trans d1
  have y2 : ∀ (z : Cls (fun w' => Below w5.heap.size w5 w')), z.w.cell? ⟨w.heap.size, 2, none⟩ = some (.int .i64 v) := fun z => (z.h.cell (p := ⟨w.heap.size, 2, none⟩) lw5).trans d2
  have ne : Nonempty (Cls (fun w' => Below w5.heap.size w5 w')) := ⟨⟨w5, Below.refl _ _⟩⟩
  refine wp_region_cls (fun w' => Below w5.heap.size w5 w') (by kernel_rfl) (by kernel_rfl) (Below.refl _ _).drew ?_
  repeat (go_big_quiet_step ((go_at_call 34; exact cls_call (cB _) (fun w' hw => bcat (Cls.h _) hw))))
  refine wpQuiet_nil ?_
  rintro w6 ⟨⟨_, b6⟩, rfl⟩
  rw [EC.out]
  have b36 := bcat b35 b6
  clear y0 y1 y2 ne EC d0 d1 d2 c0 c1 c2 b3 b4 b34 b5 b35 cA cS cB cP
  go_wp2
  go_loopw [9, 10, 12] (fun P S K wr => ∃ j : Nat, j ≤ r.length ∧ P = .int .i64 (p + (r.take j).sum : Nat) ∧ S = .int .i64 (ahead s r j : Nat) ∧ K = .int .i64 j ∧ Below (w.alloc (.cells #[.int .i64 u, .int .i64 a, .int .i64 v] 24)).heap.size (w.alloc (.cells #[.int .i64 u, .int .i64 a, .int .i64 v] 24)) wr) (fun P S K wr => r.length - (intOf K).toNat)
  case atStart => exact ⟨0, Nat.zero_le _, by simp, by simp [ahead], rfl, b36⟩
  case round =>
    obtain ⟨j, hj, rfl, rfl, rfl, hb⟩ := hrel
    obtain ⟨c0, c1, c2⟩ := box_cell hb
    have ha := HA.out j hj
    have htl := take_sum_le r j
    rw [HS.out] at htl
    by_cases hlt : j < r.length
    · have st := HT.out j hlt
      have g1 := st.pos
      have g2 := st.le
      have g3 := st.top
      have e1 := take_succ_sum hlt
      have e2 := HN.out j hlt
      have e3 : ahead s r (j + 1) = r.getD j 0 := by unfold ahead; rw [if_neg (by omega)]; rfl
      have cN := refnext_any u a v (X - p - (r.take j).sum) (ahead s r j) (ahead s r j) wr a1 a2 (by omega) (by omega) (by omega) ha.1 (by omega)
      rw [show min (ahead s r j + a) (ahead s r j) = min (ahead s r j) v by omega, ← e2, ← e3] at cN
      have ex : ((X - p - (r.take j).sum : Nat) : Int) = (X : Int) - ((p + (r.take j).sum : Nat) : Int) := by omega
      rw [ex] at cN
      have HE : Hid ((p + (r.take j).sum) + ahead s r (j + 1) = p + (r.take (j + 1)).sum) := by unfold Hid; rw [e1, e3]; omega
      have hP : p + (r.take j).sum < X := by omega
      rw [← e3] at g1 g3
      clear st e1 e2 e3 ex htl
      generalize hPP : p + (r.take j).sum = PP at *
      generalize hSS : ahead s r (j + 1) = S1 at *
      generalize ahead s r j = S0 at *
      have ES : Hid (ahead s r (j + 1) = S1) := hSS
      clear hPP hSS
      have hP' : (PP : Int) < X := by omega
      go_wp2_with (go_at_call 37; refine cN.mono ?_; rintro e w7 ⟨rfl, b7⟩)
      go_roundw
      case rel => exact ⟨j + 1, by omega, congrArg (Value.int IntKind.i64) (by have := HE.out; omega), by rw [ES.out], by go_num, bcat hb b7⟩
      case measure => simp [intOf]; omega
    · obtain rfl : j = r.length := by omega
      rw [List.take_length, HS.out, show p + (X - p) = X by omega, ← ET.out]
      go_wp2
      go_ret2
      exact ⟨rfl, bb.trans (hb.mono bb.size)⟩
theorem refStop_any (u a v : Nat) (n t : Int) (w : World) (ok : Ok u a v) (ht2 : t ≤ 9223372036854775807) :
    Calls Try.prog 29 #[.agg #[.int .i64 u, .int .i64 a, .int .i64 v], .int .i64 n, .int .i64 t] w fun e w' => e = .returned (.tuple #[.int .i64 (stopC u a v n t : Nat), .int .i64 (stopT u a v n t : Nat)]) ∧ Below w.heap.size w w' := by
  unfold stopC stopT
  by_cases h1 : t < 1 ∨ (profI u a v n).length = 0
  · rw [if_pos h1, if_pos h1]
    exact refStop_low u a v n t w ok h1
  · rw [if_neg h1, if_neg h1]
    have hz : ¬ (profI u a v n).length = 0 := fun e => h1 (Or.inr e)
    have hn := (not_congr (prof_zero ok)).1 hz
    have ht : ¬ t < 1 := fun e => h1 (Or.inl e)
    by_cases h2 : ((profI u a v n).length : Int) ≤ t
    · rw [if_pos h2, if_pos h2]
      have := refStop_end u a v n t w ok ht hz h2
      rw [show ((n.toNat : Nat) : Int) = n by omega]
      exact this
    · rw [if_neg h2, if_neg h2]
      have hv : 1 ≤ velI u a v n t ∧ velI u a v n t ≤ v := by
        obtain ⟨m, rfl⟩ := Int.eq_ofNat_of_zero_le (show 0 ≤ n by omega)
        obtain ⟨t', rfl⟩ := Int.eq_ofNat_of_zero_le (show 0 ≤ t by omega)
        rw [velI_in ok (by omega) (by omega)]
        rw [profI_in (by omega) (by omega), prof_len] at h2
        exact vel_bd ok (by omega) (by omega)
      exact refStop_mid u a v n t w ok ht ht2 hz h2 _ _ rfl rfl (atI_le ok n t).2 hv.1 hv.2
end Go.Proofs.Ytjblplaaogbkiaa.Kin
