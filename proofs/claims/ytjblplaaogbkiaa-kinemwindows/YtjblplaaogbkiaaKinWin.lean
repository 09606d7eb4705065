/-
  Windows: the ticks at which each cell is taken.
-/
import Derived.Test.YtjblplaaogbkiaaKinFacts
import Derived.Laws.MakeOwn
namespace Go.Proofs.Ytjblplaaogbkiaa.Kin
set_option linter.unusedVariables false
set_option linter.unusedSimpArgs false
open Go Go.RowKit Go.Shelf Go.Proofs
attribute [local go_sem] Oper.semAt_some

/- The first tick, and one more than the last one, of those below k at which it is on. -/
def win (on : Nat → Bool) : Nat → Nat × Nat
  | 0 => (0, 0)
  | k + 1 => if on k then ((if (win on k).2 = 0 then k else (win on k).1), k + 1) else win on k
theorem win_yes {on : Nat → Bool} {k : Nat} (h : on k = true) : win on (k + 1) = ((if (win on k).2 = 0 then k else (win on k).1), k + 1) := by rw [win, if_pos h]
theorem win_no {on : Nat → Bool} {k : Nat} (h : on k = false) : win on (k + 1) = win on k := by rw [win, h]; rfl
theorem win_le (on : Nat → Bool) : ∀ k, (win on k).1 ≤ k ∧ (win on k).2 ≤ k := by
  intro k
  induction k with
  | zero => exact ⟨Nat.le_refl _, Nat.le_refl _⟩
  | succ k ih =>
    by_cases h : on k = true
    · rw [win_yes h]; refine ⟨?_, Nat.le_refl _⟩; show (if _ then _ else _) ≤ _; split <;> omega
    · rw [win_no (by simpa using h)]; omega
/- Is the robot, of so many cells' length, on cell i in the tick t? -/
def onB (u a v n len i t : Nat) : Bool := decide (pos u a v n t < (i + 1) * u ∧ i * u < pos u a v n (t + 1) + len * u)
theorem div_le_iff' {p u i : Nat} (hu : 1 ≤ u) : p / u ≤ i ↔ p < (i + 1) * u := by
  rw [← Nat.lt_succ_iff, Nat.div_lt_iff_lt_mul (by omega)]
/- A row of windows in memory. -/
structure WR (w : World) (g M : Nat) (f : Nat → Nat × Nat) : Prop where
  lo : ∀ i, i < M → w.cell? ⟨g, i * 2, none⟩ = some (.int .i64 ((f i).1 : Nat))
  hi : ∀ i, i < M → w.cell? ⟨g, i * 2 + 1, none⟩ = some (.int .i64 ((f i).2 : Nat))
  froz : ∀ o, w.frozen? ⟨g, o, none⟩ = false
theorem WR.same {w w' : World} {g M : Nat} {f : Nat → Nat × Nat} (h : WR w g M f) (e : w'.heap[g]? = w.heap[g]?) : WR w' g M f :=
  ⟨fun i hi => (cell_same e).trans (h.lo i hi), fun i hi => (cell_same e).trans (h.hi i hi), fun o => (frozen_same e).trans (h.froz o)⟩
theorem WR.eq {w : World} {g M : Nat} {f f' : Nat → Nat × Nat} (h : WR w g M f) (e : ∀ i, i < M → f i = f' i) : WR w g M f' :=
  ⟨fun i hi => by rw [← e i hi]; exact h.lo i hi, fun i hi => by rw [← e i hi]; exact h.hi i hi, h.froz⟩
theorem WR.setHi {w : World} {g M j : Nat} {f : Nat → Nat × Nat} (h : WR w g M f) (hj : j < M) (x : Nat) : WR (w.setCell ⟨g, j * 2 + 1, none⟩ (.int .i64 (x : Nat))) g M (fun i => if i = j then ((f i).1, x) else f i) := by
  refine ⟨fun i hi => ?_, fun i hi => ?_, fun o => by rw [World.frozen?_setCell]; exact h.froz o⟩
  · rw [World.cell?_setCell_other _ _ _ _ (fun e => by have := congrArg Addr.off e; simp only at this; omega), h.lo i hi]
    by_cases e : i = j
    · rw [if_pos e]
    · rw [if_neg e]
  · by_cases e : i = j
    · subst e
      rw [if_pos rfl]
      exact World.cell?_setCell_same _ _ _ (h.hi i hi)
    · rw [if_neg e]
      exact (World.cell?_setCell_other _ _ _ _ (fun e' => by have := congrArg Addr.off e'; simp only at this; omega)).trans (h.hi i hi)
theorem WR.setLo {w : World} {g M j : Nat} {f : Nat → Nat × Nat} (h : WR w g M f) (hj : j < M) (x : Nat) : WR (w.setCell ⟨g, j * 2, none⟩ (.int .i64 (x : Nat))) g M (fun i => if i = j then (x, (f i).2) else f i) := by
  refine ⟨fun i hi => ?_, fun i hi => ?_, fun o => by rw [World.frozen?_setCell]; exact h.froz o⟩
  · by_cases e : i = j
    · subst e
      rw [if_pos rfl]
      exact World.cell?_setCell_same _ _ _ (h.lo i hi)
    · rw [if_neg e]
      exact (World.cell?_setCell_other _ _ _ _ (fun e' => by have := congrArg Addr.off e'; simp only at this; omega)).trans (h.lo i hi)
  · rw [World.cell?_setCell_other _ _ _ _ (fun e => by have := congrArg Addr.off e; simp only at this; omega), h.hi i hi]
    by_cases e : i = j
    · rw [if_pos e]
    · rw [if_neg e]
theorem infoWin : (Try.prog.info? 41).map (fun i => (i.zero, i.size, i.bytes)) = some (some (.agg #[.int .i64 0, .int .i64 0]), 2, 16) := by kernel_rfl
theorem run_mkWin (M : Nat) (hM : M ≤ 1000) (w : World) : (Instr.makeSlice 39 (.int .i64 (M : Int)) (.int .i64 (M : Int))).run Try.prog w = .ok (.slice (some ⟨w.heap.size, 0, none⟩) M M) (w.alloc (.cells (madeCells #[.int .i64 0, .int .i64 0] (M * 2)) 41)) := by
  obtain ⟨i0, hi, hz0, hz1, hz2⟩ := info_parts infoWin
  have := run_make (P := Try.prog) w 39 41 i0 _ Try.underlying39 hi hz0 .i64 .i64 M M (by omega) (by omega) (by rw [hz2]; omega) (by omega)
  simp only [Int.toNat_natCast, hz1] at this
  exact this
theorem zero_cells (M i : Nat) (h : i < M * 2) : (madeCells #[.int .i64 0, .int .i64 0] (M * 2))[i]? = some (.int .i64 0) := by
  unfold madeCells
  rw [Array.getElem?_map, Array.getElem?_range, if_pos h]
  have : i % 2 = 0 ∨ i % 2 = 1 := by omega
  rcases this with e | e <;> simp [e]
theorem run_made_op {o : Oper} {a : Act} {w w' : World} {v : Value} (t : TypeId) (l c : Operand) (ho : o.op = .makeSlice t l c) (n : Int) (hl : a.eval l = .int .i64 n) (hc : a.eval c = .int .i64 n)
    (h : (Instr.makeSlice t (.int .i64 n) (.int .i64 n)).run Try.prog w = .ok v w') : (execOp a.eval o).run Try.prog w = .ok (.value v) w' := by
  unfold execOp
  simp only [ho, hl, hc, Sem.run_bind, h, Result.andThen_ok, Sem.run_pure]
theorem wpList_mk {w w' : World} {ops : Array Oper} {rest : List Oper} {o : Oper} {a : Act} {Q : Exit → Act → World → Prop} (hgd : o.guard = none) (x : Operand) (t : TypeId) (ho : o.op = .makeSlice t x x) (n : Int) (hx : a.eval x = .int .i64 n) (v : Value)
    (hr : (Instr.makeSlice t (.int .i64 n) (.int .i64 n)).run Try.prog w = .ok v w') (h : wpList Try.prog ops Q rest (a.put o.dst v) w') : wpList Try.prog ops Q (o :: rest) a w :=
  wpList_plain hgd fun _ hK => by
    unfold Oper.wp
    rw [run_made_op t x x ho n hx hx hr]
    exact hK _ _ h
set_option maxHeartbeats 2000000 in
theorem windows_out (b u a v : Nat) (n len : Int) (w : World) (h : KinAt w b u a v) (ok : Ok u a v) (hx : (n < 1 ∨ 16 < n) ∨ (len ≠ 1 ∧ len ≠ 2)) :
    Calls Try.prog 30 #[.pointer (some ⟨b, 0, none⟩), .int .i64 n, .int .i64 len] w fun e w' => e = .returned (.slice none 0 0) ∧ KGo b u a v w w' := by
  have cP := places_all b u a v n w h ok
  have hz := prof_zero ok (n := n)
  by_cases hl : len ≠ 1 ∧ len ≠ 2
  · obtain ⟨l1, l2⟩ := hl
    have d1 : (len == 1) = false := by rw [beq_eq_false_iff_ne]; exact l1
    have d2 : (len == 2) = false := by rw [beq_eq_false_iff_ne]; exact l2
    have d3 : (len != 1) = true := by simp [l1]
    have d4 : (len != 2) = true := by simp [l2]
    generalize (profI u a v n).length = k at *
    generalize ints (profI u a v n) = xs at *
    clear hz hx
    go_enter Try.func30, Try.ntmps30
    go_wp2_with (go_at_call 36; refine cP.mono ?_; rintro e w1 ⟨x, rfl, r1, g1⟩; obtain ⟨xa, xc, rfl, _⟩ := own_form r1)
    go_ret
    exact ⟨rfl, g1⟩
  · have h0 : (profI u a v n).length = 0 := hz.2 (by rcases hx with h | h <;> first | exact h | exact (hl h).elim)
    rw [h0] at cP
    generalize ints (profI u a v n) = xs at *
    clear hz h0 hx
    by_cases e1 : len = 1
    · subst e1
      go_enter Try.func30, Try.ntmps30
      go_wp2_with (go_at_call 36; refine cP.mono ?_; rintro e w1 ⟨x, rfl, r1, g1⟩; obtain ⟨xa, xc, rfl, _⟩ := own_form r1)
      go_ret
      exact ⟨rfl, g1⟩
    · obtain rfl : len = 2 := by omega
      go_enter Try.func30, Try.ntmps30
      go_wp2_with (go_at_call 36; refine cP.mono ?_; rintro e w1 ⟨x, rfl, r1, g1⟩; obtain ⟨xa, xc, rfl, _⟩ := own_form r1)
      go_ret
      exact ⟨rfl, g1⟩
theorem win_prev {u a v n len i k : Nat} (h : onB u a v n len i k = false) : win (onB u a v n len i) (k + 1) = win (onB u a v n len i) k := win_no h
set_option maxRecDepth 100000 in
set_option maxHeartbeats 4000000 in
theorem windows_in (b u a v n len : Nat) (w : World) (h : KinAt w b u a v) (ok : Ok u a v) (hn1 : 1 ≤ n) (hn : n ≤ 16) (hl : len = 1 ∨ len = 2) :
    Calls Try.prog 30 #[.pointer (some ⟨b, 0, none⟩), .int .i64 n, .int .i64 len] w fun e w' => ∃ g, e = .returned (.slice (some ⟨g, 0, none⟩) (n + len) (n + len)) ∧ w.heap.size ≤ g ∧ WR w' g (n + len) (fun i => win (onB u a v n len i) (spd u a v n).length) ∧ KGo b u a v w w' := by
  have hL := spd_bd ok hn1 hn
  have cP := (places_any b u a v n w h ok.u2 ok.a1 ok.a2 ok.v1 ok.v2 hn1 hn).mono (R' := fun e w' => ∃ gl c, e = .returned (.slice (some ⟨gl, 0, none⟩) (spd u a v n).length c) ∧ gl < w'.heap.size ∧ (∀ j, j < (spd u a v n).length → w'.cell? ⟨gl, j, none⟩ = some (.int .i64 (pos u a v n (j + 1) : Nat))) ∧ KGo b u a v w w') (by
    rintro e w' ⟨x, rfl, r, gq⟩
    rcases r.2 with ⟨_, q⟩ | ⟨gl, c, cur, rfl, hb, hgb, _⟩
    · omega
    · refine ⟨gl, c, rfl, (Array.getElem?_eq_some_iff.1 hgb).1, fun j hj => ?_, gq⟩
      rw [r.cellAt j (by omega)]
      unfold ints
      rw [List.getElem?_map, prof_get (by omega)]
      rfl)
  have d1 : ((len : Int) != 1 && (len : Int) != 2) = false := by rcases hl with rfl | rfl <;> rfl
  obtain ⟨L, hLL⟩ : ∃ L, (spd u a v n).length = L := ⟨_, rfl⟩
  rw [hLL] at cP hL ⊢
  have d2 : ((L : Int) == 0) = false := by rw [beq_eq_false_iff_ne]; omega
  obtain ⟨M, hM⟩ : ∃ M, n + len = M := ⟨_, rfl⟩
  have eM : (n : Int) + (len : Int) = (M : Int) := by omega
  have cMk := fun w1 => run_mkWin M (by omega) w1
  rw [hM]
  obtain ⟨u1, u2⟩ : 1 ≤ u ∧ u ≤ 1000 := ⟨ok.u1, ok.u2⟩
  have hu0 : ¬ (u : Int) = 0 := by omega
  obtain ⟨LU, hLU⟩ : ∃ LU, len * u = LU := ⟨_, rfl⟩
  have eLU : (len : Int) * (u : Int) = (LU : Int) := by rw [← Int.natCast_mul, hLU]
  have hLU2 : LU ≤ 2000 := by rw [← hLU]; rcases hl with rfl | rfl <;> omega
  have HLU : Hid (len * u = LU) := hLU
  have hMU : M * u = n * u + LU := by rw [← hM, ← hLU, Nat.add_mul]
  have hnu := mul_small hn u2
  have HP : Hid (∀ t, pos u a v n t ≤ n * u) := fun t => pos_le ok.a1 ok.v1 t
  have HS : Hid (1 ≤ LU) := by unfold Hid; rw [← hLU]; exact Nat.mul_pos (by omega) u1
  have hl2 : len ≤ 2 := by omega
  by_cases hl1 : len = 1
  · have f1 : ((len : Int) != 1) = false := by rw [hl1]; rfl
    clear hl1 d1 hl hM hLU
    go_enter Try.func30, Try.ntmps30
    go_wp2_with (first | (go_at_call 36; refine cP.mono ?_; rintro e w1 ⟨gl, c, rfl, lgl, CL, g1⟩; have HL : Hid (∀ j, j < L → w1.cell? ⟨gl, j, none⟩ = some (.int .i64 (pos u a v n (j + 1) : Nat))) := CL; clear CL) | (at_make; refine wpList_mk rfl (.tmp 30) 39 rfl M rfl _ (cMk _) ?_))
    obtain ⟨w2, hw2⟩ : ∃ w2, w1.alloc (.cells (madeCells #[.int .i64 0, .int .i64 0] (M * 2)) 41) = w2 := ⟨_, rfl⟩
    have b12 : Below w1.heap.size w1 w2 := by rw [← hw2]; exact (Below.refl _ _).alloc (Nat.le_refl _) _
    have hB2 : w2.heap[w1.heap.size]? = some (.cells (madeCells #[.int .i64 0, .int .i64 0] (M * 2)) 41 (0, 0)) := by rw [← hw2]; exact World.alloc_heap_new _ _
    have r2 : WR w2 w1.heap.size M (fun i => win (onB u a v n len i) 0) := ⟨fun i hi => (cell_of hB2 _).trans (zero_cells M _ (by omega)), fun i hi => (cell_of hB2 _).trans (zero_cells M _ (by omega)), frozen_of hB2⟩
    try rw [hw2]
    clear hw2 hB2 cMk
    go_loopw [34, 9] (fun ix rear wr => ∃ k : Nat, k ≤ L ∧ ix = .int .i64 k ∧ rear = .int .i64 (pos u a v n k : Nat) ∧ Below w1.heap.size w1 wr ∧ Hid (WR wr w1.heap.size M (fun i => win (onB u a v n len i) k))) (fun ix rear wr => L - (intOf ix).toNat)
    case atStart => exact ⟨0, Nat.zero_le _, rfl, by rw [pos_zero]; rfl, b12, r2⟩
    case round =>
      obtain ⟨k, hk, rfl, rfl, bk, HR⟩ := hrel
      obtain ⟨wo, rfl⟩ : ∃ wo, wo = wr := ⟨_, rfl⟩
      have zk := bk.size
      by_cases hlt : k < L
      · have cl : wo.cell? ⟨gl, k, none⟩ = some (.int .i64 (pos u a v n (k + 1) : Nat)) := (bk.cell (p := ⟨gl, k, none⟩) lgl).trans (HL.out k hlt)
        have c0 : wo.cell? ⟨b, 0, none⟩ = some (.int .i64 u) := (g1.kin.nums.go bk).unit
        have p0 := HP.out k
        have p1 := HP.out (k + 1)
        have j0 : Hid ((((pos u a v n k : Nat) : Int) / (u : Int)) = ((pos u a v n k / u : Nat) : Int)) := by unfold Hid; rw [Int.natCast_ediv]
        have HO : Hid (∀ i, onB u a v n len i k = decide (pos u a v n k < (i + 1) * u ∧ i * u < pos u a v n (k + 1) + LU)) := fun i => by unfold onB; rw [HLU.out]
        have HJ : Hid (pos u a v n k / u < M) := by
          unfold Hid
          rw [Nat.div_lt_iff_lt_mul (by omega), hMU]
          have := HS.out
          omega
        obtain ⟨P0, hP0⟩ : ∃ P, pos u a v n k = P := ⟨_, rfl⟩
        obtain ⟨P1, hP1⟩ : ∃ P, pos u a v n (k + 1) = P := ⟨_, rfl⟩
        have E1 : Hid (pos u a v n (k + 1) = P1) := hP1
        rw [hP0] at p0 j0 HJ HO ⊢
        rw [hP1] at p1 cl HO
        clear hP0 hP1
        go_wp2
        rw [j0.out]
        go_loopw [13] (fun jj wq => ∃ j : Nat, P0 / u ≤ j ∧ j ≤ M ∧ jj = .int .i64 j ∧ Below w1.heap.size w1 wq ∧ Hid (WR wq w1.heap.size M (fun i => if i < j then win (onB u a v n len i) (k + 1) else win (onB u a v n len i) k))) (fun jj wq => M - (intOf jj).toNat)
        case atStart =>
          refine ⟨P0 / u, Nat.le_refl _, Nat.le_of_lt HJ.out, congrArg (Value.int IntKind.i64) (by have h1 := Nat.div_le_self P0 u; generalize P0 / u = qq at h1 ⊢; unfold wrap64; omega), bk, ?_⟩
          refine HR.out.eq (fun i hi => ?_)
          by_cases hc : i < P0 / u
          · rw [if_pos hc, win_prev]
            rw [HO.out, decide_eq_false]
            intro q
            have := (div_le_iff' u1).2 q.1
            omega
          · rw [if_neg hc]
        case round =>
          obtain ⟨j, hj1, hj2, rfl, bq, HQ⟩ := hrel
          have zq := bq.size
          have e0 : wr.cell? ⟨b, 0, none⟩ = some (.int .i64 u) := (g1.kin.nums.go bq).unit
          obtain ⟨X, hX⟩ : ∃ X, j * u = X := ⟨_, rfl⟩
          have eX : (j : Int) * (u : Int) = (X : Int) := by rw [← Int.natCast_mul, hX]
          have hXb : X ≤ M * u := by rw [← hX]; exact Nat.mul_le_mul hj2 (Nat.le_refl _)
          by_cases hc : X < P1 + LU
          · have hjM : j < M := by
              by_cases q : j = M
              · subst q; omega
              · omega
            have hon : onB u a v n len j k = true := by rw [HO.out, decide_eq_true]; exact ⟨(div_le_iff' u1).1 hj1, by rw [hX]; exact hc⟩
            have q1 := HQ.out.hi j hjM
            have q0 := HQ.out.lo j hjM
            have qf := HQ.out.froz
            rw [if_neg (by omega)] at q1 q0
            have hw := win_yes hon
            have hwl := win_le (onB u a v n len j) k
            have hc' : (X : Int) < (P1 : Int) + LU := by omega
            by_cases hz : (win (onB u a v n len j) k).2 = 0
            · rw [if_pos hz] at hw
              rw [hz] at q1
              have W2 := (HQ.out.setLo hjM k).setHi hjM (k + 1)
              have HW2 : Hid (WR ((wr.setCell ⟨w1.heap.size, j * 2, none⟩ (.int .i64 (k : Nat))).setCell ⟨w1.heap.size, j * 2 + 1, none⟩ (.int .i64 ((k : Int) + 1))) w1.heap.size M (fun i => if i < j + 1 then win (onB u a v n len i) (k + 1) else win (onB u a v n len i) k)) := by
                have e : ((k : Int) + 1) = ((k + 1 : Nat) : Int) := by omega
                rw [e]
                refine W2.eq (fun i hi => ?_)
                by_cases c : i = j
                · subst c; rw [if_pos rfl, if_pos (by omega), hw]; simp
                · rw [if_neg c, if_neg c]
                  by_cases c2 : i < j
                  · rw [if_pos c2, if_pos (by omega)]
                  · rw [if_neg c2, if_neg (by omega)]
              have y1 : (wr.setCell ⟨w1.heap.size, j * 2, none⟩ (.int .i64 (k : Nat))).cell? ⟨w1.heap.size, j * 2 + 1, none⟩ = some (.int .i64 0) := (World.cell?_setCell_other _ _ _ _ (fun e => by have := congrArg Addr.off e; simp only at this; omega)).trans q1
              have bz : Below w1.heap.size w1 ((wr.setCell ⟨w1.heap.size, j * 2, none⟩ (.int .i64 (k : Nat))).setCell ⟨w1.heap.size, j * 2 + 1, none⟩ (.int .i64 ((k : Int) + 1))) := (bq.setCell (p := ⟨w1.heap.size, j * 2, none⟩) (Nat.le_refl _) _).setCell (p := ⟨w1.heap.size, j * 2 + 1, none⟩) (Nat.le_refl _) _
              have HB : Hid (Below w1.heap.size w1 ((wr.setCell ⟨w1.heap.size, j * 2, none⟩ (.int .i64 (k : Nat))).setCell ⟨w1.heap.size, j * 2 + 1, none⟩ (.int .i64 ((k : Int) + 1)))) := bz
              clear W2 bz hw HQ hwl HO hon
              go_wp2
              go_roundw
              case rel => exact ⟨j + 1, by omega, by omega, by go_num, HB.out, HW2.out⟩
              case measure => simp [intOf]; omega
            · rw [if_neg hz] at hw
              obtain ⟨Z, hZ⟩ : ∃ Z, (win (onB u a v n len j) k).2 = Z := ⟨_, rfl⟩
              have W2 := HQ.out.setHi hjM (k + 1)
              have HW2 : Hid (WR (wr.setCell ⟨w1.heap.size, j * 2 + 1, none⟩ (.int .i64 ((k : Int) + 1))) w1.heap.size M (fun i => if i < j + 1 then win (onB u a v n len i) (k + 1) else win (onB u a v n len i) k)) := by
                have e : ((k : Int) + 1) = ((k + 1 : Nat) : Int) := by omega
                rw [e]
                refine W2.eq (fun i hi => ?_)
                by_cases c : i = j
                · subst c; rw [if_pos rfl, if_neg (by omega), if_pos (by omega), hw]
                · rw [if_neg c]
                  by_cases c2 : i < j
                  · rw [if_pos c2, if_pos (by omega)]
                  · rw [if_neg c2, if_neg (by omega)]
              have HB : Hid (Below w1.heap.size w1 (wr.setCell ⟨w1.heap.size, j * 2 + 1, none⟩ (.int .i64 ((k : Int) + 1)))) := bq.setCell (p := ⟨w1.heap.size, j * 2 + 1, none⟩) (Nat.le_refl _) _
              rw [hZ] at q1 hz
              have hz' : ((Z : Int) == 0) = false := by rw [beq_eq_false_iff_ne]; omega
              clear W2 hw HQ hwl HO hon hZ
              go_wp2
              go_roundw
              case rel => exact ⟨j + 1, by omega, by omega, by go_num, HB.out, HW2.out⟩
              case measure => simp [intOf]; omega
          · have hc' : ¬ ((X : Int) < (P1 : Int) + LU) := by omega
            have HF : Hid (WR wr w1.heap.size M (fun i => win (onB u a v n len i) (k + 1))) := by
              refine HQ.out.eq (fun i hi => ?_)
              by_cases c2 : i < j
              · rw [if_pos c2]
              · rw [if_neg c2, win_prev]
                rw [HO.out, decide_eq_false]
                intro q
                have : j * u ≤ i * u := Nat.mul_le_mul (by omega) (Nat.le_refl _)
                omega
            clear HQ HO
            go_wp2
            go_roundw
            case rel => exact ⟨k + 1, by omega, by go_num, by rw [E1.out], bq, HF.out⟩
            case measure => simp [intOf]; omega
      · obtain rfl : k = L := by omega
        go_wp2
        go_ret
        exact ⟨w1.heap.size, rfl, g1.grow.size, HR.out, g1.then bk⟩
  · have f1 : ((len : Int) != 1) = true := by have e : len = 2 := by omega
                                              rw [e]; rfl
    have f2 : ((len : Int) != 2) = false := by have e : len = 2 := by omega
                                               rw [e]; rfl
    clear hl1 d1 hl hM hLU
    go_enter Try.func30, Try.ntmps30
    go_wp2_with (first | (go_at_call 36; refine cP.mono ?_; rintro e w1 ⟨gl, c, rfl, lgl, CL, g1⟩; have HL : Hid (∀ j, j < L → w1.cell? ⟨gl, j, none⟩ = some (.int .i64 (pos u a v n (j + 1) : Nat))) := CL; clear CL) | (at_make; refine wpList_mk rfl (.tmp 30) 39 rfl M rfl _ (cMk _) ?_))
    obtain ⟨w2, hw2⟩ : ∃ w2, w1.alloc (.cells (madeCells #[.int .i64 0, .int .i64 0] (M * 2)) 41) = w2 := ⟨_, rfl⟩
    have b12 : Below w1.heap.size w1 w2 := by rw [← hw2]; exact (Below.refl _ _).alloc (Nat.le_refl _) _
    have hB2 : w2.heap[w1.heap.size]? = some (.cells (madeCells #[.int .i64 0, .int .i64 0] (M * 2)) 41 (0, 0)) := by rw [← hw2]; exact World.alloc_heap_new _ _
    have r2 : WR w2 w1.heap.size M (fun i => win (onB u a v n len i) 0) := ⟨fun i hi => (cell_of hB2 _).trans (zero_cells M _ (by omega)), fun i hi => (cell_of hB2 _).trans (zero_cells M _ (by omega)), frozen_of hB2⟩
    try rw [hw2]
    clear hw2 hB2 cMk
    go_loopw [34, 9] (fun ix rear wr => ∃ k : Nat, k ≤ L ∧ ix = .int .i64 k ∧ rear = .int .i64 (pos u a v n k : Nat) ∧ Below w1.heap.size w1 wr ∧ Hid (WR wr w1.heap.size M (fun i => win (onB u a v n len i) k))) (fun ix rear wr => L - (intOf ix).toNat)
    case atStart => exact ⟨0, Nat.zero_le _, rfl, by rw [pos_zero]; rfl, b12, r2⟩
    case round =>
      obtain ⟨k, hk, rfl, rfl, bk, HR⟩ := hrel
      obtain ⟨wo, rfl⟩ : ∃ wo, wo = wr := ⟨_, rfl⟩
      have zk := bk.size
      by_cases hlt : k < L
      · have cl : wo.cell? ⟨gl, k, none⟩ = some (.int .i64 (pos u a v n (k + 1) : Nat)) := (bk.cell (p := ⟨gl, k, none⟩) lgl).trans (HL.out k hlt)
        have c0 : wo.cell? ⟨b, 0, none⟩ = some (.int .i64 u) := (g1.kin.nums.go bk).unit
        have p0 := HP.out k
        have p1 := HP.out (k + 1)
        have j0 : Hid ((((pos u a v n k : Nat) : Int) / (u : Int)) = ((pos u a v n k / u : Nat) : Int)) := by unfold Hid; rw [Int.natCast_ediv]
        have HO : Hid (∀ i, onB u a v n len i k = decide (pos u a v n k < (i + 1) * u ∧ i * u < pos u a v n (k + 1) + LU)) := fun i => by unfold onB; rw [HLU.out]
        have HJ : Hid (pos u a v n k / u < M) := by
          unfold Hid
          rw [Nat.div_lt_iff_lt_mul (by omega), hMU]
          have := HS.out
          omega
        obtain ⟨P0, hP0⟩ : ∃ P, pos u a v n k = P := ⟨_, rfl⟩
        obtain ⟨P1, hP1⟩ : ∃ P, pos u a v n (k + 1) = P := ⟨_, rfl⟩
        have E1 : Hid (pos u a v n (k + 1) = P1) := hP1
        rw [hP0] at p0 j0 HJ HO ⊢
        rw [hP1] at p1 cl HO
        clear hP0 hP1
        go_wp2
        rw [j0.out]
        go_loopw [13] (fun jj wq => ∃ j : Nat, P0 / u ≤ j ∧ j ≤ M ∧ jj = .int .i64 j ∧ Below w1.heap.size w1 wq ∧ Hid (WR wq w1.heap.size M (fun i => if i < j then win (onB u a v n len i) (k + 1) else win (onB u a v n len i) k))) (fun jj wq => M - (intOf jj).toNat)
        case atStart =>
          refine ⟨P0 / u, Nat.le_refl _, Nat.le_of_lt HJ.out, congrArg (Value.int IntKind.i64) (by have h1 := Nat.div_le_self P0 u; generalize P0 / u = qq at h1 ⊢; unfold wrap64; omega), bk, ?_⟩
          refine HR.out.eq (fun i hi => ?_)
          by_cases hc : i < P0 / u
          · rw [if_pos hc, win_prev]
            rw [HO.out, decide_eq_false]
            intro q
            have := (div_le_iff' u1).2 q.1
            omega
          · rw [if_neg hc]
        case round =>
          obtain ⟨j, hj1, hj2, rfl, bq, HQ⟩ := hrel
          have zq := bq.size
          have e0 : wr.cell? ⟨b, 0, none⟩ = some (.int .i64 u) := (g1.kin.nums.go bq).unit
          obtain ⟨X, hX⟩ : ∃ X, j * u = X := ⟨_, rfl⟩
          have eX : (j : Int) * (u : Int) = (X : Int) := by rw [← Int.natCast_mul, hX]
          have hXb : X ≤ M * u := by rw [← hX]; exact Nat.mul_le_mul hj2 (Nat.le_refl _)
          by_cases hc : X < P1 + LU
          · have hjM : j < M := by
              by_cases q : j = M
              · subst q; omega
              · omega
            have hon : onB u a v n len j k = true := by rw [HO.out, decide_eq_true]; exact ⟨(div_le_iff' u1).1 hj1, by rw [hX]; exact hc⟩
            have q1 := HQ.out.hi j hjM
            have q0 := HQ.out.lo j hjM
            have qf := HQ.out.froz
            rw [if_neg (by omega)] at q1 q0
            have hw := win_yes hon
            have hwl := win_le (onB u a v n len j) k
            have hc' : (X : Int) < (P1 : Int) + LU := by omega
            by_cases hz : (win (onB u a v n len j) k).2 = 0
            · rw [if_pos hz] at hw
              rw [hz] at q1
              have W2 := (HQ.out.setLo hjM k).setHi hjM (k + 1)
              have HW2 : Hid (WR ((wr.setCell ⟨w1.heap.size, j * 2, none⟩ (.int .i64 (k : Nat))).setCell ⟨w1.heap.size, j * 2 + 1, none⟩ (.int .i64 ((k : Int) + 1))) w1.heap.size M (fun i => if i < j + 1 then win (onB u a v n len i) (k + 1) else win (onB u a v n len i) k)) := by
                have e : ((k : Int) + 1) = ((k + 1 : Nat) : Int) := by omega
                rw [e]
                refine W2.eq (fun i hi => ?_)
                by_cases c : i = j
                · subst c; rw [if_pos rfl, if_pos (by omega), hw]; simp
                · rw [if_neg c, if_neg c]
                  by_cases c2 : i < j
                  · rw [if_pos c2, if_pos (by omega)]
                  · rw [if_neg c2, if_neg (by omega)]
              have y1 : (wr.setCell ⟨w1.heap.size, j * 2, none⟩ (.int .i64 (k : Nat))).cell? ⟨w1.heap.size, j * 2 + 1, none⟩ = some (.int .i64 0) := (World.cell?_setCell_other _ _ _ _ (fun e => by have := congrArg Addr.off e; simp only at this; omega)).trans q1
              have bz : Below w1.heap.size w1 ((wr.setCell ⟨w1.heap.size, j * 2, none⟩ (.int .i64 (k : Nat))).setCell ⟨w1.heap.size, j * 2 + 1, none⟩ (.int .i64 ((k : Int) + 1))) := (bq.setCell (p := ⟨w1.heap.size, j * 2, none⟩) (Nat.le_refl _) _).setCell (p := ⟨w1.heap.size, j * 2 + 1, none⟩) (Nat.le_refl _) _
              have HB : Hid (Below w1.heap.size w1 ((wr.setCell ⟨w1.heap.size, j * 2, none⟩ (.int .i64 (k : Nat))).setCell ⟨w1.heap.size, j * 2 + 1, none⟩ (.int .i64 ((k : Int) + 1)))) := bz
              clear W2 bz hw HQ hwl HO hon
              go_wp2
              go_roundw
              case rel => exact ⟨j + 1, by omega, by omega, by go_num, HB.out, HW2.out⟩
              case measure => simp [intOf]; omega
            · rw [if_neg hz] at hw
              obtain ⟨Z, hZ⟩ : ∃ Z, (win (onB u a v n len j) k).2 = Z := ⟨_, rfl⟩
              have W2 := HQ.out.setHi hjM (k + 1)
              have HW2 : Hid (WR (wr.setCell ⟨w1.heap.size, j * 2 + 1, none⟩ (.int .i64 ((k : Int) + 1))) w1.heap.size M (fun i => if i < j + 1 then win (onB u a v n len i) (k + 1) else win (onB u a v n len i) k)) := by
                have e : ((k : Int) + 1) = ((k + 1 : Nat) : Int) := by omega
                rw [e]
                refine W2.eq (fun i hi => ?_)
                by_cases c : i = j
                · subst c; rw [if_pos rfl, if_neg (by omega), if_pos (by omega), hw]
                · rw [if_neg c]
                  by_cases c2 : i < j
                  · rw [if_pos c2, if_pos (by omega)]
                  · rw [if_neg c2, if_neg (by omega)]
              have HB : Hid (Below w1.heap.size w1 (wr.setCell ⟨w1.heap.size, j * 2 + 1, none⟩ (.int .i64 ((k : Int) + 1)))) := bq.setCell (p := ⟨w1.heap.size, j * 2 + 1, none⟩) (Nat.le_refl _) _
              rw [hZ] at q1 hz
              have hz' : ((Z : Int) == 0) = false := by rw [beq_eq_false_iff_ne]; omega
              clear W2 hw HQ hwl HO hon hZ
              go_wp2
              go_roundw
              case rel => exact ⟨j + 1, by omega, by omega, by go_num, HB.out, HW2.out⟩
              case measure => simp [intOf]; omega
          · have hc' : ¬ ((X : Int) < (P1 : Int) + LU) := by omega
            have HF : Hid (WR wr w1.heap.size M (fun i => win (onB u a v n len i) (k + 1))) := by
              refine HQ.out.eq (fun i hi => ?_)
              by_cases c2 : i < j
              · rw [if_pos c2]
              · rw [if_neg c2, win_prev]
                rw [HO.out, decide_eq_false]
                intro q
                have : j * u ≤ i * u := Nat.mul_le_mul (by omega) (Nat.le_refl _)
                omega
            clear HQ HO
            go_wp2
            go_roundw
            case rel => exact ⟨k + 1, by omega, by go_num, by rw [E1.out], bq, HF.out⟩
            case measure => simp [intOf]; omega
      · obtain rfl : k = L := by omega
        go_wp2
        go_ret
        exact ⟨w1.heap.size, rfl, g1.grow.size, HR.out, g1.then bk⟩
end Go.Proofs.Ytjblplaaogbkiaa.Kin
