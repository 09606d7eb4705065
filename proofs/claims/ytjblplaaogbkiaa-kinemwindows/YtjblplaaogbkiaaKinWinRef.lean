/-
  The chapter's own Windows.
-/
import Derived.Test.YtjblplaaogbkiaaKinWinFacts
import Derived.Test.YtjblplaaogbkiaaKinRef2
namespace Go.Proofs.Ytjblplaaogbkiaa.Kin
set_option linter.unusedVariables false
set_option linter.unusedSimpArgs false
open Go Go.RowKit Go.Shelf Go.Proofs
attribute [local go_sem] Oper.semAt_some

/- A window as the chapter reckons it: none yet is told by -1. -/
def rw1 (p : Nat × Nat) : Int := if p.2 = 0 then -1 else p.1
def rw2 (p : Nat × Nat) : Int := if p.2 = 0 then -1 else p.2
def pairs (l : List (Nat × Nat)) : List Value := l.flatMap fun p => [.int .i64 (p.1 : Nat), .int .i64 (p.2 : Nat)]
theorem pairs_len (l : List (Nat × Nat)) : (pairs l).length = l.length * 2 := by
  induction l with
  | nil => rfl
  | cons p l ih => simp [pairs] at ih ⊢; omega
theorem pairs_snoc (l : List (Nat × Nat)) (p : Nat × Nat) : pairs (l ++ [p]) = pairs l ++ [.int .i64 (p.1 : Nat), .int .i64 (p.2 : Nat)] := by simp [pairs]
theorem pairs_get (l : List (Nat × Nat)) : ∀ i, (h : i < l.length) → (pairs l)[i * 2]? = some (.int .i64 (l[i].1 : Nat)) ∧ (pairs l)[i * 2 + 1]? = some (.int .i64 (l[i].2 : Nat)) := by
  induction l with
  | nil => intro i h; cases h
  | cons p l ih =>
    intro i h
    cases i with
    | zero => exact ⟨rfl, rfl⟩
    | succ i =>
      have := ih i (by simpa using h)
      have e : pairs (p :: l) = .int .i64 (p.1 : Nat) :: .int .i64 (p.2 : Nat) :: pairs l := rfl
      rw [e, show (i + 1) * 2 = i * 2 + 1 + 1 by omega, show i * 2 + 1 + 1 + 1 = (i * 2 + 1) + 1 + 1 by omega]
      simpa using this
theorem set_two0 {w : World} {g : Nat} {p q x : Value} {t : TypeId} {r : Nat × Nat} (h : w.heap[g]? = some (.cells #[p, q] t r)) : (w.setCell ⟨g, 0, none⟩ x).heap[g]? = some (.cells #[x, q] t r) := by
  obtain ⟨hlt, hk⟩ := Array.getElem?_eq_some_iff.1 h
  show (w.heap.modify g _)[g]? = _
  rw [Array.getElem?_eq_getElem (by rw [Array.size_modify]; exact hlt), Array.getElem_modify_self, hk]
  rfl
theorem set_two1 {w : World} {g : Nat} {p q x : Value} {t : TypeId} {r : Nat × Nat} (h : w.heap[g]? = some (.cells #[p, q] t r)) : (w.setCell ⟨g, 1, none⟩ x).heap[g]? = some (.cells #[p, x] t r) := by
  obtain ⟨hlt, hk⟩ := Array.getElem?_eq_some_iff.1 h
  show (w.heap.modify g _)[g]? = _
  rw [Array.getElem?_eq_getElem (by rw [Array.size_modify]; exact hlt), Array.getElem_modify_self, hk]
  rfl
theorem two_new (w : World) (p q : Value) (t : TypeId) : ∀ j u, ([p, q] : List Value)[j]? = some u → (w.alloc (.cells #[p, q] t)).cell? ((⟨w.heap.size, 0, none⟩ : Addr).add j) = some u := by
  intro j u hj
  rw [Addr.add_lit, Nat.zero_add, cell_of (World.alloc_heap_new w (.cells #[p, q] t))]
  simpa using hj
set_option maxHeartbeats 4000000 in
theorem refWindows_out (u a v : Nat) (n len : Int) (w : World) (ok : Ok u a v) (hx : (n < 1 ∨ 16 < n) ∨ (len ≠ 1 ∧ len ≠ 2)) :
    Calls Try.prog 31 #[.agg #[.int .i64 u, .int .i64 a, .int .i64 v], .int .i64 n, .int .i64 len] w fun e w' => e = .returned (.slice none 0 0) ∧ Below w.heap.size w w' := by
  have cP := fun w1 => refProfile_any u a v n w1 ok
  have hz := prof_zero ok (n := n)
  have bb : Below w.heap.size w (w.alloc (.cells #[.int .i64 u, .int .i64 a, .int .i64 v] 24)) := (Below.refl _ _).alloc (Nat.le_refl _) _
  by_cases h0 : (profI u a v n).length = 0
  · rw [h0] at cP
    generalize ints (profI u a v n) = xs at *
    clear hz h0 hx
    go_enter Try.func31, Try.ntmps31
    go_wp2_with (go_at_call 20; refine (cP _).mono ?_; rintro e w3 ⟨x, rfl, r3, b3⟩; obtain ⟨xa, xc, rfl, _⟩ := own_form r3)
    go_ret
    exact ⟨rfl, bb.trans (b3.mono bb.size)⟩
  · have hl : len ≠ 1 ∧ len ≠ 2 := by
      rcases hx with h | h
      · exact (h0 (hz.2 h)).elim
      · exact h
    generalize (profI u a v n).length = k at *
    generalize ints (profI u a v n) = xs at *
    have d0 : ((k : Int) == 0) = false := by rw [beq_eq_false_iff_ne]; omega
    clear hz hx h0
    by_cases h1 : len < 1
    · go_enter Try.func31, Try.ntmps31
      go_wp2_with (go_at_call 20; refine (cP _).mono ?_; rintro e w3 ⟨x, rfl, r3, b3⟩; obtain ⟨xa, xc, rfl, _⟩ := own_form r3)
      go_ret
      exact ⟨rfl, bb.trans (b3.mono bb.size)⟩
    · have h2 : 2 < len := by omega
      have d1 : decide (len < 1) = false := decide_eq_false h1
      go_enter Try.func31, Try.ntmps31
      go_wp2_with (go_at_call 20; refine (cP _).mono ?_; rintro e w3 ⟨x, rfl, r3, b3⟩; obtain ⟨xa, xc, rfl, _⟩ := own_form r3)
      go_ret
      exact ⟨rfl, bb.trans (b3.mono bb.size)⟩
/- The windows of the first j cells. -/
def wins (u a v n len j : Nat) : List (Nat × Nat) := (List.range j).map fun i => (loW u a v n len i, hiW u a v n i)
theorem wins_len (u a v n len j : Nat) : (wins u a v n len j).length = j := by simp [wins]
theorem wins_succ (u a v n len j : Nat) : wins u a v n len (j + 1) = wins u a v n len j ++ [(loW u a v n len j, hiW u a v n j)] := by simp [wins, List.range_succ]
set_option maxRecDepth 100000 in
set_option maxHeartbeats 4000000 in
theorem refWindows_in (u a v n len : Nat) (w : World) (ok : Ok u a v) (hn1 : 1 ≤ n) (hn : n ≤ 16) (hl : len = 1 ∨ len = 2) :
    Calls Try.prog 31 #[.agg #[.int .i64 u, .int .i64 a, .int .i64 v], .int .i64 n, .int .i64 len] w fun e w' => ∃ x, e = .returned x ∧ w'.ownsRow w.heap.size 41 2 x (n + len) (pairs (wins u a v n len (n + len))) ∧ Below w.heap.size w w' := by
  have hL := spd_bd ok hn1 hn
  have cP := fun w1 => (refProfile_in u a v n w1 ok hn1 hn).mono (R' := fun e w' => ∃ gl c, e = .returned (.slice (some ⟨gl, 0, none⟩) (spd u a v n).length c) ∧ gl < w'.heap.size ∧ (∀ j, j < (spd u a v n).length → w'.cell? ⟨gl, j, none⟩ = some (.int .i64 (pos u a v n (j + 1) : Nat))) ∧ Below w1.heap.size w1 w') (by
    rintro e w' ⟨x, rfl, r, gq⟩
    rcases r.2 with ⟨_, q⟩ | ⟨gl, c, cur, rfl, hb, hgb, _⟩
    · omega
    · refine ⟨gl, c, rfl, (Array.getElem?_eq_some_iff.1 hgb).1, fun j hj => ?_, gq⟩
      rw [r.cellAt j (by omega)]
      unfold ints
      rw [List.getElem?_map, prof_get (by omega)]
      rfl)
  have bb : Below w.heap.size w (w.alloc (.cells #[.int .i64 u, .int .i64 a, .int .i64 v] 24)) := (Below.refl _ _).alloc (Nat.le_refl _) _
  obtain ⟨L, hLL⟩ : ∃ L, (spd u a v n).length = L := ⟨_, rfl⟩
  have HW : Hid (∀ j, j < n + len → win (onB u a v n len j) L = (loW u a v n len j, hiW u a v n j) ∧ loW u a v n len j < hiW u a v n j) := fun j hj => ⟨by rw [← hLL]; exact win_is ok hn1 hn (by omega) hj, lo_lt_hi ok hn1 hn (by omega) hj⟩
  have HB : Hid (∀ j, hiW u a v n j ≤ L ∧ loW u a v n len j ≤ L) := fun j => ⟨by rw [← hLL]; exact fst_le _ _, by rw [← hLL]; exact fst_le _ _⟩
  rw [hLL] at cP hL
  have d2 : ((L : Int) == 0) = false := by rw [beq_eq_false_iff_ne]; omega
  have d3 : decide ((len : Int) < 1) = false := decide_eq_false (by omega)
  have d4 : decide ((2 : Int) < len) = false := decide_eq_false (by omega)
  have hl2 : len ≤ 2 := by omega
  obtain ⟨M, hM⟩ : ∃ M, n + len = M := ⟨_, rfl⟩
  have eM : (n : Int) + (len : Int) = (M : Int) := by omega
  rw [hM] at HW ⊢
  obtain ⟨u1, u2⟩ : 1 ≤ u ∧ u ≤ 1000 := ⟨ok.u1, ok.u2⟩
  obtain ⟨LU, hLU⟩ : ∃ LU, len * u = LU := ⟨_, rfl⟩
  have eLU : (len : Int) * (u : Int) = (LU : Int) := by rw [← Int.natCast_mul, hLU]
  have hLU2 : LU ≤ 2000 := by rw [← hLU]; rcases hl with rfl | rfl <;> omega
  have HLU : Hid (len * u = LU) := hLU
  have HP : Hid (∀ t, pos u a v n t ≤ 16000) := fun t => by have := pos_le (u := u) (n := n) ok.a1 ok.v1 t; have := mul_small hn u2; omega
  obtain ⟨i0, hi, hz0, hz1, hz2⟩ := info_parts infoWin
  have hM2 : M ≤ 18 := by omega
  clear hLU hM hl ok hLL
  go_enter Try.func31, Try.ntmps31
  go_wp2_with (go_at_call 20; refine (cP _).mono ?_; rintro e w3 ⟨gl, c, rfl, lgl, CL, b3⟩; have HL : Hid (∀ j, j < L → w3.cell? ⟨gl, j, none⟩ = some (.int .i64 (pos u a v n (j + 1) : Nat))) := CL; clear CL)
  have s2 : (w.alloc (.cells #[.int .i64 u, .int .i64 a, .int .i64 v] 24)).heap.size = w.heap.size + 1 := by simp
  obtain ⟨k0, k1, k2⟩ := box_cell b3
  have lw3 : w.heap.size < w3.heap.size := World.block_lt_of_cell? w3 _ k0
  clear cP
  go_loopw [8, 9] (fun out jj wr => ∃ (j : Nat) (x : Value), j ≤ M ∧ x = out ∧ jj = .int .i64 j ∧ Below w3.heap.size w3 wr ∧ Hid (wr.ownsRow w3.heap.size 41 2 x j (pairs (wins u a v n len j)))) (fun out jj wr => M - (intOf jj).toNat)
  case atStart => exact ⟨0, _, Nat.zero_le _, rfl, rfl, Below.refl _ _, World.ownsRow_nil _ _ _ _⟩
  case round =>
    obtain ⟨j, x, hj, rfl, rfl, bk, HR⟩ := hrel
    obtain ⟨wo, rfl⟩ : ∃ wo, wo = wr := ⟨_, rfl⟩
    have zk := bk.size
    by_cases hlt : j < M
    · obtain ⟨wb, hwb⟩ : ∃ wb, wo.alloc (.cells #[.int .i64 (-1), .int .i64 (-1)] 41) = wb := ⟨_, rfl⟩
      have bwb : Below wo.heap.size wo wb := by rw [← hwb]; exact (Below.refl _ _).alloc (Nat.le_refl _) _
      have swb : wb.heap.size = wo.heap.size + 1 := by rw [← hwb]; simp
      have hwB : wb.heap[wo.heap.size]? = some (.cells #[.int .i64 (-1), .int .i64 (-1)] 41 (0, 0)) := by rw [← hwb]; exact World.alloc_heap_new _ _
      obtain ⟨X, hX⟩ : ∃ X, j * u = X := ⟨_, rfl⟩
      have eX : (j : Int) * (u : Int) = (X : Int) := by rw [← Int.natCast_mul, hX]
      have eX2 : ((j : Int) + 1) * (u : Int) = (X : Int) + (u : Int) := by rw [Int.add_mul, Int.one_mul, eX]
      have hX2 : X ≤ 18000 := by rw [← hX]; exact Nat.le_trans (Nat.mul_le_mul (show j ≤ 18 by omega) u2) (by omega)
      have HX : Hid (j * u = X) := hX
      clear hX
      go_wp2
      try rw [hwb]
      clear hwb
      go_loopw [11] (fun tt wq => ∃ k : Nat, k ≤ L ∧ tt = .int .i64 k ∧ Below wo.heap.size wo wq ∧ wq.heap[wo.heap.size]? = some (.cells #[.int .i64 (rw1 (win (onB u a v n len j) k)), .int .i64 (rw2 (win (onB u a v n len j) k))] 41 (0, 0))) (fun tt wq => L - (intOf tt).toNat)
      case atStart => exact ⟨0, Nat.zero_le _, rfl, bwb, hwB⟩
      case round =>
        obtain ⟨k, hk, rfl, bq, hQ⟩ := hrel
        have q0 : wr.cell? ⟨wo.heap.size, 0, none⟩ = some (.int .i64 (rw1 (win (onB u a v n len j) k))) := cell_of hQ 0
        have q1 : wr.cell? ⟨wo.heap.size, 1, none⟩ = some (.int .i64 (rw2 (win (onB u a v n len j) k))) := cell_of hQ 1
        have qf := frozen_of hQ
        have bq3 := bcat bk bq
        have c0 : wr.cell? ⟨w.heap.size, 0, none⟩ = some (.int .i64 u) := (bq3.cell (p := ⟨w.heap.size, 0, none⟩) lw3).trans k0
        by_cases hlt2 : k < L
        · skip
          have cl : wr.cell? ⟨gl, k, none⟩ = some (.int .i64 (pos u a v n (k + 1) : Nat)) := (bq3.cell (p := ⟨gl, k, none⟩) lgl).trans (HL.out k hlt2)
          have p0 := HP.out k
          have p1 := HP.out (k + 1)
          have hon : onB u a v n len j k = decide (pos u a v n k < X + u ∧ X < pos u a v n (k + 1) + LU) := by
            unfold onB
            rw [HLU.out, Nat.succ_mul, HX.out]
          have hwl := win_le (onB u a v n len j) k
          have ne : Nonempty (Cls (fun w' => Below wr.heap.size wr w')) := ⟨⟨wr, Below.refl _ _⟩⟩
          have lwr : w.heap.size < wr.heap.size := World.block_lt_of_cell? wr _ c0
          have lgr : gl < wr.heap.size := World.block_lt_of_cell? wr _ cl
          have z0 : ∀ z : Cls (fun w' => Below wr.heap.size wr w'), z.w.cell? ⟨w.heap.size, 0, none⟩ = some (.int .i64 u) := fun z => (z.h.cell (p := ⟨w.heap.size, 0, none⟩) lwr).trans c0
          have z1 : ∀ z : Cls (fun w' => Below wr.heap.size wr w'), z.w.cell? ⟨gl, k, none⟩ = some (.int .i64 (pos u a v n (k + 1) : Nat)) := fun z => (z.h.cell (p := ⟨gl, k, none⟩) lgr).trans cl
          have HWs : Hid (∀ p q : Nat, win (onB u a v n len j) k = (p, q) → p ≤ k ∧ q ≤ k) := fun p q e => by rw [e] at hwl; exact hwl
          obtain ⟨⟨wp, wq'⟩, hwin⟩ : ∃ pq, win (onB u a v n len j) k = pq := ⟨_, rfl⟩
          have hb2 := HWs.out wp wq' hwin
          rw [hwin] at q0 q1 hQ
          have HY : Hid (onB u a v n len j k = true → win (onB u a v n len j) (k + 1) = ((if wq' = 0 then k else wp), k + 1)) := fun h => by rw [win_yes h, hwin]
          have HN : Hid (onB u a v n len j k = false → win (onB u a v n len j) (k + 1) = (wp, wq')) := fun h => by rw [win_no h, hwin]
          obtain ⟨P0, hP0⟩ : ∃ P, pos u a v n k = P := ⟨_, rfl⟩
          obtain ⟨P1, hP1⟩ : ∃ P, pos u a v n (k + 1) = P := ⟨_, rfl⟩
          rw [hP0] at p0 hon
          rw [hP1] at p1 hon cl z1
          by_cases h0 : k = 0
          · have hP00 : P0 = 0 := by rw [← hP0, h0, pos_zero]
            have HP00 : Hid (P0 = 0) := hP00
            have hk0 : ¬ ((0 : Int) < k) := by omega
            clear hP0 hP1 hP00 h0
            go_wp2
            refine wp_region_cls (fun w' => Below wr.heap.size wr w') (by kernel_rfl) (by kernel_rfl) (Below.refl _ _).drew ?_
            repeat (go_big_quiet_step (fail))
            refine wpQuiet_nil ?_
            rintro z ⟨⟨_, bz⟩, rfl⟩
            have lq : wo.heap.size < wr.heap.size := (Array.getElem?_eq_some_iff.1 hQ).1
            have hQz : z.heap[wo.heap.size]? = some (.cells #[.int .i64 (rw1 (wp, wq')), .int .i64 (rw2 (wp, wq'))] 41 (0, 0)) := (bz.block _ lq).trans hQ
            have y0 : z.cell? ⟨w.heap.size, 0, none⟩ = some (.int .i64 u) := (bz.cell (p := ⟨w.heap.size, 0, none⟩) lwr).trans c0
            have y1 : z.cell? ⟨wo.heap.size, 0, none⟩ = some (.int .i64 (rw1 (wp, wq'))) := cell_of hQz 0
            have y2 : z.cell? ⟨wo.heap.size, 1, none⟩ = some (.int .i64 (rw2 (wp, wq'))) := cell_of hQz 1
            have yf := frozen_of hQz
            have boz : Below wo.heap.size wo z := bq.trans (bz.mono bq.size)
            clear z0 z1 ne q0 q1 qf c0 cl bq3
            by_cases hc : P0 < X + u ∧ X < P1 + LU
            · have hw := HY.out (by rw [hon, decide_eq_true hc])
              obtain ⟨h1, h2⟩ := hc
              have h1' : (0 : Int) < (X : Int) + u := by have := HP00.out; omega
              have h2' : (X : Int) < (P1 : Int) + LU := by omega
              by_cases hz : wq' = 0
              · have e1 : rw1 (wp, wq') = -1 := by unfold rw1; rw [if_pos hz]
                rw [e1] at y1
                have HF : Hid (((z.setCell ⟨wo.heap.size, 0, none⟩ (.int .i64 (((k : Nat) : Int)))).setCell ⟨wo.heap.size, 1, none⟩ (.int .i64 (((k : Nat) : Int) + 1))).heap[wo.heap.size]? = some (.cells #[.int .i64 (rw1 (win (onB u a v n len j) (k + 1))), .int .i64 (rw2 (win (onB u a v n len j) (k + 1)))] 41 (0, 0))) := by
                  unfold Hid
                  rw [hw, if_pos hz]
                  exact (set_two1 (set_two0 hQz)).trans (by unfold rw1 rw2; rfl)
                have HB2 : Hid (Below wo.heap.size wo ((z.setCell ⟨wo.heap.size, 0, none⟩ (.int .i64 (((k : Nat) : Int)))).setCell ⟨wo.heap.size, 1, none⟩ (.int .i64 (((k : Nat) : Int) + 1)))) := (boz.setCell (p := ⟨wo.heap.size, 0, none⟩) (Nat.le_refl _) _).setCell (p := ⟨wo.heap.size, 1, none⟩) (Nat.le_refl _) _
                have y3 : (z.setCell ⟨wo.heap.size, 0, none⟩ (.int .i64 (((k : Nat) : Int)))).cell? ⟨wo.heap.size, 1, none⟩ = some (.int .i64 (rw2 (wp, wq'))) := (World.cell?_setCell_other _ _ _ _ (by simp)).trans y2
                clear HY HN hw hQz hQ boz e1 hwin
                go_wp2
                go_roundw
                case rel => exact ⟨k + 1, by omega, by go_num, HB2.out, HF.out⟩
                case measure => simp [intOf]; omega
              · exfalso
                omega
            · have hw := HN.out (by rw [hon, decide_eq_false hc])
              have HF : Hid (z.heap[wo.heap.size]? = some (.cells #[.int .i64 (rw1 (win (onB u a v n len j) (k + 1))), .int .i64 (rw2 (win (onB u a v n len j) (k + 1)))] 41 (0, 0))) := by unfold Hid; rw [hw]; exact hQz
              have HB2 : Hid (Below wo.heap.size wo z) := boz
              clear HY HN hw hQz hQ boz hwin
              by_cases h1 : P0 < X + u
              · have hdd : decide ((0 : Int) < (X : Int) + (u : Int)) = true := decide_eq_true (by omega)
                have h1' : (0 : Int) < (X : Int) + u := by have := HP00.out; omega
                have h2' : ¬ ((X : Int) < (P1 : Int) + LU) := by omega
                clear hc
                go_wp2
                go_roundw
                case rel => exact ⟨k + 1, by omega, by go_num, HB2.out, HF.out⟩
                case measure => simp [intOf]; omega
              · exfalso
                have := HP00.out
                omega
          · obtain ⟨m, rfl⟩ : ∃ m, k = m + 1 := ⟨k - 1, by omega⟩
            have cm : wr.cell? ⟨gl, m, none⟩ = some (.int .i64 P0) := by rw [← hP0]; exact (bq3.cell (p := ⟨gl, m, none⟩) lgl).trans (HL.out m (by omega))
            clear hP0 hP1 h0
            go_wp2
            refine wp_region_cls (fun w' => Below wr.heap.size wr w') (by kernel_rfl) (by kernel_rfl) (Below.refl _ _).drew ?_
            repeat (go_big_quiet_step (fail))
            refine wpQuiet_nil ?_
            rintro z ⟨⟨_, bz⟩, rfl⟩
            have lq : wo.heap.size < wr.heap.size := (Array.getElem?_eq_some_iff.1 hQ).1
            have hQz : z.heap[wo.heap.size]? = some (.cells #[.int .i64 (rw1 (wp, wq')), .int .i64 (rw2 (wp, wq'))] 41 (0, 0)) := (bz.block _ lq).trans hQ
            have y0 : z.cell? ⟨w.heap.size, 0, none⟩ = some (.int .i64 u) := (bz.cell (p := ⟨w.heap.size, 0, none⟩) lwr).trans c0
            have y1 : z.cell? ⟨wo.heap.size, 0, none⟩ = some (.int .i64 (rw1 (wp, wq'))) := cell_of hQz 0
            have y2 : z.cell? ⟨wo.heap.size, 1, none⟩ = some (.int .i64 (rw2 (wp, wq'))) := cell_of hQz 1
            have yf := frozen_of hQz
            have boz : Below wo.heap.size wo z := bq.trans (bz.mono bq.size)
            clear z0 z1 ne q0 q1 qf c0 cl bq3
            by_cases hc : P0 < X + u ∧ X < P1 + LU
            · have hw := HY.out (by rw [hon, decide_eq_true hc])
              obtain ⟨h1, h2⟩ := hc
              have h1' : (P0 : Int) < (X : Int) + u := by omega
              have h2' : (X : Int) < (P1 : Int) + LU := by omega
              by_cases hz : wq' = 0
              · have e1 : rw1 (wp, wq') = -1 := by unfold rw1; rw [if_pos hz]
                rw [e1] at y1
                have HF : Hid (((z.setCell ⟨wo.heap.size, 0, none⟩ (.int .i64 ((m : Int) + 1))).setCell ⟨wo.heap.size, 1, none⟩ (.int .i64 ((m : Int) + 1 + 1))).heap[wo.heap.size]? = some (.cells #[.int .i64 (rw1 (win (onB u a v n len j) ((m + 1) + 1))), .int .i64 (rw2 (win (onB u a v n len j) ((m + 1) + 1)))] 41 (0, 0))) := by
                  unfold Hid
                  rw [hw, if_pos hz]
                  exact (set_two1 (set_two0 hQz)).trans (by unfold rw1 rw2; rfl)
                have HB2 : Hid (Below wo.heap.size wo ((z.setCell ⟨wo.heap.size, 0, none⟩ (.int .i64 ((m : Int) + 1))).setCell ⟨wo.heap.size, 1, none⟩ (.int .i64 ((m : Int) + 1 + 1)))) := (boz.setCell (p := ⟨wo.heap.size, 0, none⟩) (Nat.le_refl _) _).setCell (p := ⟨wo.heap.size, 1, none⟩) (Nat.le_refl _) _
                have y3 : (z.setCell ⟨wo.heap.size, 0, none⟩ (.int .i64 ((m : Int) + 1))).cell? ⟨wo.heap.size, 1, none⟩ = some (.int .i64 (rw2 (wp, wq'))) := (World.cell?_setCell_other _ _ _ _ (by simp)).trans y2
                clear HY HN hw hQz hQ boz e1 hwin
                go_wp2
                go_roundw
                case rel => exact ⟨(m + 1) + 1, by omega, by go_num, HB2.out, HF.out⟩
                case measure => simp [intOf]; omega
              · have e1 : rw1 (wp, wq') = (wp : Nat) := by unfold rw1; rw [if_neg hz]
                rw [e1] at y1
                have HF : Hid ((z.setCell ⟨wo.heap.size, 1, none⟩ (.int .i64 ((m : Int) + 1 + 1))).heap[wo.heap.size]? = some (.cells #[.int .i64 (rw1 (win (onB u a v n len j) ((m + 1) + 1))), .int .i64 (rw2 (win (onB u a v n len j) ((m + 1) + 1)))] 41 (0, 0))) := by
                  unfold Hid
                  rw [hw, if_neg hz]
                  refine (set_two1 hQz).trans ?_
                  rw [e1]
                  unfold rw1 rw2
                  rfl
                have HB2 : Hid (Below wo.heap.size wo (z.setCell ⟨wo.heap.size, 1, none⟩ (.int .i64 ((m : Int) + 1 + 1)))) := boz.setCell (p := ⟨wo.heap.size, 1, none⟩) (Nat.le_refl _) _
                have y4 : ¬ ((wp : Int) < 0) := by omega
                clear HY HN hw hQz hQ boz e1 hwin
                go_wp2
                go_roundw
                case rel => exact ⟨(m + 1) + 1, by omega, by go_num, HB2.out, HF.out⟩
                case measure => simp [intOf]; omega
            · have hw := HN.out (by rw [hon, decide_eq_false hc])
              have HF : Hid (z.heap[wo.heap.size]? = some (.cells #[.int .i64 (rw1 (win (onB u a v n len j) ((m + 1) + 1))), .int .i64 (rw2 (win (onB u a v n len j) ((m + 1) + 1)))] 41 (0, 0))) := by unfold Hid; rw [hw]; exact hQz
              have HB2 : Hid (Below wo.heap.size wo z) := boz
              clear HY HN hw hQz hQ boz hwin
              by_cases h1 : P0 < X + u
              · have h1' : (P0 : Int) < (X : Int) + u := by omega
                have h2' : ¬ ((X : Int) < (P1 : Int) + LU) := by omega
                clear hc
                go_wp2
                go_roundw
                case rel => exact ⟨(m + 1) + 1, by omega, by go_num, HB2.out, HF.out⟩
                case measure => simp [intOf]; omega
              · have h1' : ¬ ((P0 : Int) < (X : Int) + u) := by omega
                clear hc
                go_wp2
                go_roundw
                case rel => exact ⟨(m + 1) + 1, by omega, by go_num, HB2.out, HF.out⟩
                case measure => simp [intOf]; omega
        · obtain rfl : k = L := by omega
          obtain ⟨hw1, hw2⟩ := HW.out j hlt
          have hbb := HB.out j
          rw [hw1] at q0 q1 hQ
          have e1 : rw1 (loW u a v n len j, hiW u a v n j) = (loW u a v n len j : Nat) := by unfold rw1; rw [if_neg (by show ¬ hiW u a v n j = 0; omega)]
          have e2 : rw2 (loW u a v n len j, hiW u a v n j) = (hiW u a v n j : Nat) := by unfold rw2; rw [if_neg (by show ¬ hiW u a v n j = 0; omega)]
          rw [e1] at q0
          rw [e2] at q1
          have hO := owns_go HR.out bq
          have lq : wo.heap.size < wr.heap.size := (Array.getElem?_eq_some_iff.1 hQ).1
          have zq := bq.size
          have cAp : ∃ v6 w6, (Builtin.append_ #[39, 39] 39 #[x, .slice (some ⟨wr.heap.size, 0, none⟩) 1 1]).run Try.prog (wr.alloc (.cells #[.int .i64 (loW u a v n len j : Nat), .int .i64 (hiW u a v n j : Nat)] 41)) = .ok v6 w6 ∧ w6.ownsRow w3.heap.size 41 2 v6 (j + 1) (pairs (wins u a v n len (j + 1))) ∧ Below w3.heap.size w3 w6 := by
            have bA : Below wr.heap.size wr (wr.alloc (.cells #[.int .i64 (loW u a v n len j : Nat), .int .i64 (hiW u a v n j : Nat)] 41)) := (Below.refl _ _).alloc (Nat.le_refl _) _
            obtain ⟨v6, w6, hrun, o6, g6, _⟩ := run_append_own (P := Try.prog) (wr.alloc (.cells #[.int .i64 (loW u a v n len j : Nat), .int .i64 (hiW u a v n j : Nat)] 41)) w3.heap.size 39 39 41 i0 (.agg #[.int .i64 0, .int .i64 0]) 2 16 Try.underlying39 hi hz0 hz1 hz2 rfl (by decide) x j (pairs (wins u a v n len j))
              (owns_go hO bA) ⟨wr.heap.size, 0, none⟩ 1 1 [.int .i64 (loW u a v n len j : Nat), .int .i64 (hiW u a v n j : Nat)] rfl (two_new _ _ _ _) (by intro y hy; simp at hy; rcases hy with rfl | rfl <;> rfl) (by unfold maxLen; omega) (by omega) (by simp; omega)
            refine ⟨v6, w6, hrun, ?_, ?_⟩
            · rw [wins_succ, pairs_snoc]
              exact o6
            · exact (bk.trans (bq.mono bk.size)).trans ((bA.mono (by omega)).grown g6 (by simp; omega) (fun k e => (own_since hO k e).1))
          obtain ⟨v6, w6, hrun, o6, b6⟩ := cAp
          have HO6 : Hid (w6.ownsRow w3.heap.size 41 2 v6 (j + 1) (pairs (wins u a v n len (j + 1)))) := o6
          clear o6 hO HR HW HB hw1 hw2 e1 e2 hQ qf
          generalize loW u a v n len j = lo at *
          generalize hiW u a v n j = hh at *
          go_wp2_with (at_builtin; refine Lib.wpList_append_run _ rfl _ _ 39 39 rfl _ _ rfl rfl _ _ hrun ?_)
          go_roundw
          case rel => exact ⟨j + 1, v6, by omega, rfl, by go_num, b6, HO6.out⟩
          case measure => simp [intOf]; omega
    · obtain rfl : j = M := by omega
      have hO := HR.out
      have HF : Hid (wo.ownsRow w3.heap.size 41 2 x j (pairs (wins u a v n len j))) := hO
      obtain ⟨xa, xc, rfl, _⟩ := own_form hO
      clear hO HR
      go_wp2
      go_ret
      exact ⟨_, rfl, owns_base (by have := b3.size; omega) HF.out, bb.trans ((b3.trans (bk.mono b3.size)).mono bb.size)⟩
end Go.Proofs.Ytjblplaaogbkiaa.Kin
