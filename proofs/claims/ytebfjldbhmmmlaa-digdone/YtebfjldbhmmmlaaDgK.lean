/-
  slices.AppendSeq over a box's cells, and Swept.
  The cells that a move sweeps.
  The way back, in plain words: each move of a pose is legal, its end fits, the move back is legal, over the same cells, three and more.
  The chapter's own answer, further: whether a move is legal.
  The chapter's own answer, further: whether a move is legal, the whole of it.
  The cells of a grid, row by row, that lie in a box: they are the box.
  What a move sweeps, in plain words: the cells of the chapter's list are the box.
  The chapter's own answer, further: the cells that a move sweeps.
  The chapter's own answer, further: the cells that a legal move sweeps.
  What a move sweeps: the code's answer and the chapter's, legal or not.
-/
import Derived.Test.YtebfjldbhmmmlaaDgD
import Derived.Test.YtebfjldbhmmmlaaGridRef3
import Derived.Test.YtebfjldbhmmmlaaDgI
import Derived.Test.YtebfjldbhmmmlaaDgJ
namespace Go.Proofs.Ytebfjldbhmmmlaa.Grid
set_option linter.unusedVariables false
set_option linter.unusedSimpArgs false
open Go Go.RowKit Go.Shelf Go.Proofs
attribute [local go_sem] Oper.semAt_some

theorem box_kept {X Y : World} {row : Option Nat} {B : Nat} {t : TypeId} {v : Value} (hv : Boxed X B t v) (hg : X.grownBy Y row) (hrow : ∀ r, row = some r → ∃ o : Obj, X.heap[r]? = some o ∧ o.isCells = false) : Boxed Y B t v := by
  refine hv.kept hg (fun e' => ?_)
  obtain ⟨o, ho, hc⟩ := hrow B e'.symm
  rw [show X.heap[B]? = _ from hv] at ho; cases ho; cases hc
theorem cells_kept {X Y : World} {row : Option Nat} {B : Nat} {t : TypeId} {cs : Array Value} (hv : X.heap[B]? = some (.cells cs t (0, 0))) (hg : X.grownBy Y row) (hrow : ∀ r, row = some r → ∃ o : Obj, X.heap[r]? = some o ∧ o.isCells = false) : Y.heap[B]? = some (.cells cs t (0, 0)) := by
  refine (hg.block B (lt_of_heap hv) (fun e' => ?_)).trans hv
  obtain ⟨o, ho, hc⟩ := hrow B e'.symm
  rw [hv] at ho; cases ho; cases hc
theorem row_kept {X Y : World} {row : Option Nat} {base : Nat} {e : TypeId} {size n : Nat} {v : Value} {xs : List Value} (hr : X.ownsRow base e size v n xs) (hg : X.grownBy Y row) (hrow : ∀ r, row = some r → ∃ o : Obj, X.heap[r]? = some o ∧ o.isCells = false) : Y.ownsRow base e size v n xs := by
  refine hr.kept hg ?_
  rcases hr.2 with ⟨rfl, _⟩ | ⟨g, cap, cur, rfl, _, hgb, _⟩
  · exact .inl rfl
  · refine .inr fun e' => ?_
    obtain ⟨o, ho, hc⟩ := hrow g (by simpa [Value.ownBlock] using e'.symm)
    rw [hgb] at ho; cases ho; cases hc
/- What has been gathered so far. -/
theorem infoCell3 : (Try.prog.info? 30).map (fun i => (i.zero, i.size, i.bytes)) = some (some (.agg #[.int .i64 0, .int .i64 0]), 2, 16) := infoCell
theorem two_cells (w : World) (p q : Value) (t : TypeId) : ∀ j u, ([p, q] : List Value)[j]? = some u → (w.alloc (.cells #[p, q] t)).cell? ((⟨w.heap.size, 0, none⟩ : Addr).add j) = some u := by
  intro j u hj
  rw [Addr.add_lit, Nat.zero_add, cell_of (World.alloc_heap_new w (.cells #[p, q] t))]
  simpa using hj
/- The cells that a move sweeps. -/
def sweptP (W H : Int) (us : List Int) (m : Move) : List Cell := if legalU W H us m = true then boxOf m.2.2.2.1 m.2.2.2.2.1 else []
structure SpanOk (p q : Pose) (K : Nat) : Prop where
  a0 : -1000 ≤ (spanP p q).1.1
  a1 : (spanP p q).1.1 ≤ 1000
  b0 : -1000 ≤ (spanP p q).1.2
  b1 : (spanP p q).1.2 ≤ 1000
  c0 : -1000 ≤ (spanP p q).2.1
  c1 : (spanP p q).2.1 ≤ 1000
  d0 : -1000 ≤ (spanP p q).2.2
  d1 : (spanP p q).2.2 ≤ 1000
  size : ((spanP p q).2.1 - (spanP p q).1.1 + 1) * ((spanP p q).2.2 - (spanP p q).1.2 + 1) = (K : Int)
  small : K ≤ 1000000
  len : (boxOf p q).length = K
theorem rows_len2 (x0 y0 x1 y1 : Int) (hx : x0 ≤ x1) (hy : y0 ≤ y1) : (((boxList x0 y0 x1 y1).length : Nat) : Int) = (x1 - x0 + 1) * (y1 - y0 + 1) := by
  unfold boxList
  rw [rows_len, Int.natCast_mul, show (((y1 + 1 - y0).toNat : Nat) : Int) = y1 - y0 + 1 by omega, show (((x1 + 1 - x0).toNat : Nat) : Int) = x1 - x0 + 1 by omega, Int.mul_comm]
theorem span_ok {W H : Int} {us : List Int} {m : Move} (hW : W ≤ 16) (hH : H ≤ 16) (h : legalU W H us m = true) : ∃ K, SpanOk m.2.2.2.1 m.2.2.2.2.1 K := by
  obtain ⟨kd, dir, n, f, t, ma, me⟩ := m
  unfold legalU at h
  simp only [Bool.and_eq_true, decide_eq_true_eq] at h
  obtain ⟨⟨⟨hl, ht⟩, hf⟩, _⟩ := h
  simp only
  obtain ⟨⟨a, b, c, d⟩, _⟩ := fits_in hf
  have hn := leads_near (kd := kd) (dir := dir) (n := n) (f := f) (by omega) (by omega) (by omega) (by omega) hl
  rw [← ht] at hn
  have s1 := second_small (p := f) (by omega) (by omega) (by omega) (by omega)
  have s2 := second_small (p := t) (by omega) (by omega) (by omega) (by omega)
  have hx : (spanP f t).1.1 ≤ (spanP f t).2.1 ∧ (spanP f t).1.2 ≤ (spanP f t).2.2 ∧ -100 ≤ (spanP f t).1.1 ∧ -100 ≤ (spanP f t).1.2 ∧ (spanP f t).2.1 ≤ 100 ∧ (spanP f t).2.2 ≤ 100 := by
    unfold spanP
    simp only
    rw [s1, s2]
    cases f.2 <;> cases t.2 <;> simp only [if_true, if_false, Bool.false_eq_true] <;> omega
  obtain ⟨x1, x2, x3, x4, x5, x6⟩ := hx
  have hl := rows_len2 (spanP f t).1.1 (spanP f t).1.2 (spanP f t).2.1 (spanP f t).2.2 x1 x2
  refine ⟨(boxOf f t).length, by omega, by omega, by omega, by omega, by omega, by omega, by omega, by omega, hl.symm, ?_, rfl⟩
  have : (((boxOf f t).length : Nat) : Int) ≤ 201 * 201 := by
    rw [show (((boxOf f t).length : Nat) : Int) = _ from hl]
    exact Int.mul_le_mul (by omega) (by omega) (by omega) (by omega)
  omega
end Go.Proofs.Ytebfjldbhmmmlaa.Grid
namespace Go.Proofs.Ytebfjldbhmmmlaa.Grid
set_option linter.unusedVariables false
set_option linter.unusedSimpArgs false
open Go Go.RowKit Go.Shelf Go.Proofs
attribute [local go_sem] Oper.semAt_some

theorem run_mkCells (M : Nat) (hM : M ≤ 1000000) (w : World) : (Instr.makeSlice 22 (.int .i64 0) (.int .i64 (M : Int))).run Try.prog w = .ok (.slice (some ⟨w.heap.size, 0, none⟩) 0 M) (w.alloc (.cells (madeCells #[.int .i64 0, .int .i64 0] (M * 2)) 30)) := by
  obtain ⟨i0, hi, hz0, hz1, hz2⟩ := info_parts infoCell3
  have := run_make (P := Try.prog) w 22 30 i0 _ Try.underlying22 hi hz0 .i64 .i64 0 M (by omega) (by omega) (by rw [hz2]; omega) (by omega)
  simp only [Int.toNat_natCast, hz1] at this
  exact this
theorem run_mk2_op {o : Oper} {a : Act} {w w' : World} {v : Value} (t : TypeId) (l c : Operand) (ho : o.op = .makeSlice t l c) (n k : Int) (hl : a.eval l = .int .i64 n) (hc : a.eval c = .int .i64 k)
    (h : (Instr.makeSlice t (.int .i64 n) (.int .i64 k)).run Try.prog w = .ok v w') : (execOp a.eval o).run Try.prog w = .ok (.value v) w' := by
  unfold execOp
  simp only [ho, hl, hc, Sem.run_bind, h, Result.andThen_ok, Sem.run_pure]
theorem own_lower {w : World} {b b' : Nat} {e : TypeId} {sz n : Nat} {v : Value} {xs : List Value} (h : w.ownsRow b e sz v n xs) (hb : b' ≤ b) : w.ownsRow b' e sz v n xs := by
  rcases h with ⟨h1, h2 | ⟨g, cap, cur, h2, h3, h4⟩⟩
  · exact ⟨h1, .inl h2⟩
  · exact ⟨h1, .inr ⟨g, cap, cur, h2, Nat.le_trans hb h3, h4⟩⟩
theorem ret_cells {f : FuncId} {vals : Array Value} {w : World} {r : Value} {R : World → Prop} (h : Calls Try.prog f vals w fun e w' => e = .returned r ∧ R w') : Calls Try.prog f vals w fun e w' => ∃ v, e = .returned v ∧ (v = r ∧ R w') := h.mono fun e w' ⟨h1, h2⟩ => ⟨_, h1, rfl, h2⟩
theorem own_new (w : World) (M : Nat) (hM : M ≤ 1000000) (base : Nat) (hb : base ≤ w.heap.size) : (w.alloc (.cells (madeCells #[.int .i64 0, .int .i64 0] (M * 2)) 30)).ownsRow base 30 2 (.slice (some ⟨w.heap.size, 0, none⟩) 0 M) 0 [] :=
  ⟨rfl, .inr ⟨w.heap.size, M, _, rfl, hb, World.alloc_heap_new _ _, Nat.zero_le _, by unfold maxLen; omega, by rw [size_madeCells], by simp⟩⟩
end Go.Proofs.Ytebfjldbhmmmlaa.Grid
namespace Go.Proofs.Ytebfjldbhmmmlaa.Grid
set_option linter.unusedVariables false
set_option linter.unusedSimpArgs false
open Go Go.RowKit Go.Shelf Go.Proofs

def backM (m : Move) : Move := (m.1, (if m.1 = 1 then (m.2.1 + 2).tmod 4 else m.2.1), m.2.2.1, m.2.2.2.2.1, m.2.2.2.1, m.2.2.2.2.2.1, m.2.2.2.2.2.2)
theorem box_symm (a b : Pose) : boxOf a b = boxOf b a := by
  unfold boxOf spanP
  simp only
  rw [Int.min_comm a.1.1, Int.min_comm a.1.2, Int.max_comm (second a).1, Int.max_comm (second a).2]
theorem boxList_len (x0 y0 x1 y1 : Int) : (boxList x0 y0 x1 y1).length = (y1 + 1 - y0).toNat * (x1 + 1 - x0).toNat := by
  unfold boxList
  rw [rows_len]
theorem prod3 {a b : Nat} (h : (2 ≤ a ∧ 2 ≤ b) ∨ (1 ≤ a ∧ 3 ≤ b) ∨ (3 ≤ a ∧ 1 ≤ b)) : 3 ≤ a * b := by
  rcases h with ⟨h1, h2⟩ | ⟨h1, h2⟩ | ⟨h1, h2⟩ <;> (have := Nat.mul_le_mul h1 h2; omega)
structure Back (W H : Int) (us : List Int) (p : Pose) (m : Move) : Prop where
  from_ : m.2.2.2.1 = p
  legal : legalU W H us m = true
  back : legalU W H us (backM m) = true
  fits : fitsU W H us m.2.2.2.2.1 = true
  three : 3 ≤ (boxOf m.2.2.2.1 m.2.2.2.2.1).length
theorem back_run {W H : Int} {us : List Int} {p : Pose} {d n : Int} (hW : W ≤ 16) (hH : H ≤ 16) (hd : 0 ≤ d ∧ d ≤ 3) (hn : 1 ≤ n ∧ n ≤ 16) (h : legalU W H us (runM p d n) = true) : Back W H us p (runM p d n) := by
  obtain ⟨hf, hk⟩ := (legal_run hW hH hd hn).1 h
  obtain ⟨n1, n2, n3, n4⟩ := fits_near hW hH hf
  have ht := hk n hn.1 (Int.le_refl _)
  obtain ⟨t1, t2, t3, t4⟩ := fits_near hW hH ht
  have hs := fun k (q : 0 ≤ k) (r : k ≤ 16) => shift_small (p := p) (d := d) (k := k) (by omega) (by omega) (by omega) (by omega) q r
  have hdd : 0 ≤ (d + 2).tmod 4 ∧ (d + 2).tmod 4 ≤ 3 ∧ dx ((d + 2).tmod 4) = - dx d ∧ dy ((d + 2).tmod 4) = - dy d := by
    rcases (show d = 0 ∨ d = 1 ∨ d = 2 ∨ d = 3 by omega) with rfl | rfl | rfl | rfl <;> decide
  have hs2 := fun k (q : 0 ≤ k) (r : k ≤ 16) => shift_small (p := shiftP p d n) (d := (d + 2).tmod 4) (k := k) (by omega) (by omega) (by omega) (by omega) q r
  have hb : ∀ k, 0 ≤ k → k ≤ n → shiftP (shiftP p d n) ((d + 2).tmod 4) k = shiftP p d (n - k) := by
    intro k k1 k2
    rw [hs2 k k1 (by omega), hdd.2.2.1, hdd.2.2.2, hs n (by omega) (by omega), hs (n - k) (by omega) (by omega)]
    rcases (show d = 0 ∨ d = 1 ∨ d = 2 ∨ d = 3 by omega) with rfl | rfl | rfl | rfl <;> simp [dx, dy] <;> omega
  have e0 : shiftP (shiftP p d n) ((d + 2).tmod 4) n = p := by rw [hb n (by omega) (Int.le_refl _), Int.sub_self, shift_zero n1 n2 n3 n4]
  have hback : backM (runM p d n) = runM (shiftP p d n) ((d + 2).tmod 4) n := by
    unfold backM runM
    simp only [if_true]
    rw [e0]
  refine ⟨rfl, h, ?_, ht, ?_⟩
  · rw [hback]
    refine (legal_run hW hH ⟨hdd.1, hdd.2.1⟩ hn).2 ⟨ht, fun k k1 k2 => ?_⟩
    rw [hb k (by omega) k2]
    by_cases hz : n - k = 0
    · rw [hz, shift_zero n1 n2 n3 n4]; exact hf
    · exact hk (n - k) (by omega) (by omega)
  · show 3 ≤ (boxOf p (shiftP p d n)).length
    have hsec := second_small (p := shiftP p d n) (by omega) (by omega) (by omega) (by omega)
    have hsp := second_small (p := p) (by omega) (by omega) (by omega) (by omega)
    unfold boxOf spanP
    rw [boxList_len, hsec, hsp, hs n (by omega) (by omega)]
    obtain ⟨⟨x, y⟩, b⟩ := p
    refine prod3 ?_
    rcases (show d = 0 ∨ d = 1 ∨ d = 2 ∨ d = 3 by omega) with rfl | rfl | rfl | rfl <;> cases b <;> simp [dx, dy] <;> omega
theorem back_turn {W H : Int} {us : List Int} {p : Pose} (hW : W ≤ 16) (hH : H ≤ 16) (h : legalU W H us (turnM p) = true) : Back W H us p (turnM p) := by
  have h0 := h
  have e2 : legalU W H us (turnM p) = (fitsU W H us p && (boxOf p (turnP p)).all (openU W H us)) := by
    unfold legalU turnM leadsP
    simp [still]
  rw [e2, Bool.and_eq_true] at h
  obtain ⟨hf, hb⟩ := h
  obtain ⟨n1, n2, n3, n4⟩ := fits_near hW hH hf
  have hsp := second_small (p := p) (by omega) (by omega) (by omega) (by omega)
  have hst := second_small (p := turnP p) (by show -200 ≤ p.1.1; omega) (by show p.1.1 ≤ 200; omega) (by show -200 ≤ p.1.2; omega) (by show p.1.2 ≤ 200; omega)
  have hall := List.all_eq_true.1 hb
  have hft : fitsU W H us (turnP p) = true := by
    refine fits_iff.2 ⟨hall _ ?_, hall _ ?_⟩
    · unfold boxOf spanP
      rw [mem_boxList, hsp, hst]
      obtain ⟨⟨x, y⟩, b⟩ := p
      cases b <;> simp [turnP] <;> omega
    · unfold boxOf spanP
      rw [mem_boxList, hsp, hst]
      obtain ⟨⟨x, y⟩, b⟩ := p
      cases b <;> simp [turnP] <;> omega
  have htt : turnP (turnP p) = p := by unfold turnP; simp
  refine ⟨rfl, h0, ?_, hft, ?_⟩
  · have e : backM (turnM p) = turnM (turnP p) := by unfold backM turnM; simp only [htt]; rfl
    have e3 : legalU W H us (turnM (turnP p)) = (fitsU W H us (turnP p) && (boxOf (turnP p) (turnP (turnP p))).all (openU W H us)) := by
      unfold legalU turnM leadsP
      simp [still]
    rw [e, e3, htt, box_symm, Bool.and_eq_true]
    exact ⟨hft, hb⟩
  · show 3 ≤ (boxOf p (turnP p)).length
    unfold boxOf spanP
    rw [boxList_len, hsp, hst]
    refine prod3 ?_
    obtain ⟨⟨x, y⟩, b⟩ := p
    cases b <;> simp [turnP] <;> omega
theorem back_all {W H : Int} {us : List Int} {p : Pose} {m : Move} (hW : W ≤ 16) (hH : H ≤ 16) (h : m ∈ movesP W H us p) : Back W H us p m := by
  unfold movesP at h
  split at h
  · rename_i hf
    rcases List.mem_append.1 h with q | q
    · obtain ⟨i, hi, q⟩ := (mem_dirs 4).1 q
      obtain ⟨j, j1, j2, rfl, q2⟩ := (mem_dir hW hH ⟨by omega, by omega⟩ hf).1 q
      exact back_run hW hH ⟨by omega, by omega⟩ ⟨by omega, by omega⟩ q2
    · unfold lastP at q
      split at q
      · rename_i hl
        have := List.mem_singleton.1 q
        rw [this]
        exact back_turn hW hH hl
      · simp at q
  · simp at h
end Go.Proofs.Ytebfjldbhmmmlaa.Grid
namespace Go.Proofs.Ytebfjldbhmmmlaa.Grid
set_option linter.unusedVariables false
set_option linter.unusedSimpArgs false
open Go Go.RowKit Go.Shelf Go.Proofs
attribute [local go_sem] Oper.semAt_some

theorem fits_told {c : Conf} {G : GS} (h : newP c = some G) (p : Pose) : fitsU c.W c.H G.uses p = decide (fitsR c p) := by
  rw [Bool.eq_iff_iff, decide_eq_true_eq]
  unfold fitsU
  rw [open_same h, open_same h, Bool.and_eq_true, decide_eq_true_eq, decide_eq_true_eq]
  exact Iff.rfl
/- What the chapter asks of a move, case by case. -/
theorem legal_nofit {W H : Int} {us : List Int} {m : Move} (h : fitsU W H us m.2.2.2.1 = false) : legalU W H us m = false := by
  unfold legalU; rw [h]; simp
theorem legal_far {W H : Int} {us : List Int} {m : Move} (h1 : m.1 = 1) (h : (decide (1 ≤ m.2.2.1) && decide (m.2.2.1 ≤ 16)) = false ∨ (decide (0 ≤ m.2.1) && decide (m.2.1 ≤ 3)) = false) : legalU W H us m = false := by
  unfold legalU leadsP mayShift
  rw [if_pos h1]
  rw [Bool.eq_false_iff]
  intro q
  simp only [Bool.and_eq_true, decide_eq_true_eq] at q
  rcases h with h | h <;> (rw [Bool.eq_false_iff] at h; apply h; simp only [Bool.and_eq_true, decide_eq_true_eq]; omega)
theorem legal_else {W H : Int} {us : List Int} {m : Move} (h1 : m.1 = 1) (hd : 0 ≤ m.2.1 ∧ m.2.1 ≤ 3) (hn : 1 ≤ m.2.2.1 ∧ m.2.2.1 ≤ 16) (h : m.2.2.2.2.1 ≠ shiftP m.2.2.2.1 m.2.1 m.2.2.1) : legalU W H us m = false := by
  have hm : mayShift m.2.1 m.2.2.1 = true := by unfold mayShift; simp; omega
  unfold legalU leadsP shiftR
  rw [if_pos h1, if_pos hm, decide_eq_false h]
  simp
theorem legal_run2 {W H : Int} {us : List Int} {m : Move} (hW : W ≤ 16) (hH : H ≤ 16) (h1 : m.1 = 1) (hd : 0 ≤ m.2.1 ∧ m.2.1 ≤ 3) (hn : 1 ≤ m.2.2.1 ∧ m.2.2.1 ≤ 16) (h : m.2.2.2.2.1 = shiftP m.2.2.2.1 m.2.1 m.2.2.1) (hf : fitsU W H us m.2.2.2.1 = true) :
    legalU W H us m = true ↔ ∀ k, 1 ≤ k → k ≤ m.2.2.1 → fitsU W H us (shiftP m.2.2.2.1 m.2.1 k) = true := by
  obtain ⟨kd, dir, n, f, to, ma, me⟩ := m
  simp only at *
  subst h1 h
  have := legal_run (us := us) (p := f) hW hH hd hn
  rw [show legalU W H us (1, dir, n, f, shiftP f dir n, ma, me) = legalU W H us (runM f dir n) from rfl, this]
  exact ⟨fun q => q.2, fun q => ⟨hf, q⟩⟩
theorem legal_other {W H : Int} {us : List Int} {m : Move} (h1 : m.1 ≠ 1) (h2 : m.1 ≠ 2) (h3 : m.1 ≠ 3) (h4 : m.1 ≠ 4) : legalU W H us m = false := by
  unfold legalU leadsP
  rw [if_neg h1, if_neg h2, if_neg (by omega)]
  simp
theorem legal_turn {W H : Int} {us : List Int} {m : Move} (hW : W ≤ 16) (hH : H ≤ 16) (h2 : m.1 = 2) (hf : fitsU W H us m.2.2.2.1 = true) :
    legalU W H us m = (openU W H us m.2.2.2.1.1 && openU W H us (m.2.2.2.1.1.1 + 1, m.2.2.2.1.1.2) && openU W H us (m.2.2.2.1.1.1, m.2.2.2.1.1.2 + 1) && openU W H us (m.2.2.2.1.1.1 + 1, m.2.2.2.1.1.2 + 1) && decide (m.2.2.1 = 0) && decide (m.2.1 = 0) && decide (m.2.2.2.2.1 = (m.2.2.2.1.1, !m.2.2.2.1.2))) := by
  obtain ⟨kd, dir, n, ⟨⟨x, y⟩, b⟩, to, ma, me⟩ := m
  simp only at *
  subst h2
  obtain ⟨n1, n2, n3, n4⟩ := fits_near hW hH hf
  simp only at n1 n2 n3 n4
  unfold legalU leadsP
  simp only [show ¬ (2 : Int) = 1 by decide, if_false, if_true]
  rw [hf, Bool.and_true]
  have e : (boxOf ((x, y), b) (turnP ((x, y), b))).all (openU W H us) = (openU W H us (x, y) && openU W H us (x + 1, y) && openU W H us (x, y + 1) && openU W H us (x + 1, y + 1)) := by
    have hsp := second_small (p := ((x, y), b)) (by simp only; omega) (by simp only; omega) (by simp only; omega) (by simp only; omega)
    have hst := second_small (p := turnP ((x, y), b)) (by show -200 ≤ x; omega) (by show x ≤ 200; omega) (by show -200 ≤ y; omega) (by show y ≤ 200; omega)
    rw [Bool.eq_iff_iff, List.all_eq_true]
    simp only [Bool.and_eq_true, and_assoc]
    unfold boxOf spanP
    rw [hsp, hst]
    constructor
    · intro q
      refine ⟨q _ ?_, q _ ?_, q _ ?_, q _ ?_⟩ <;> (rw [mem_boxList]; cases b <;> simp [turnP] <;> omega)
    · rintro ⟨q1, q2, q3, q4⟩ ⟨cx, cy⟩ hm
      rw [mem_boxList] at hm
      have hx : (cx = x ∨ cx = x + 1) ∧ (cy = y ∨ cy = y + 1) := by
        cases b <;> simp [turnP] at hm <;> omega
      rcases hx with ⟨rfl | rfl, rfl | rfl⟩ <;> assumption
  rw [e]
  unfold still turnP
  simp only
  cases openU W H us (x, y) <;> cases openU W H us (x + 1, y) <;> cases openU W H us (x, y + 1) <;> cases openU W H us (x + 1, y + 1) <;> simp [Bool.and_comm, Bool.and_assoc]
theorem legal_still {W H : Int} {us : List Int} {m : Move} (hW : W ≤ 16) (hH : H ≤ 16) (h3 : m.1 = 3 ∨ m.1 = 4) (hf : fitsU W H us m.2.2.2.1 = true) :
    legalU W H us m = (decide (m.2.2.1 = 0) && decide (m.2.1 = 0) && decide (m.2.2.2.2.1 = m.2.2.2.1)) := by
  obtain ⟨kd, dir, n, p, to, ma, me⟩ := m
  simp only at *
  obtain ⟨n1, n2, n3, n4⟩ := fits_near hW hH hf
  have hsp := second_small (p := p) (by omega) (by omega) (by omega) (by omega)
  have ho := fits_iff.1 hf
  have e : (boxOf p p).all (openU W H us) = true := by
    rw [List.all_eq_true]
    rintro ⟨cx, cy⟩ hm
    unfold boxOf spanP at hm
    rw [hsp] at hm ho
    rw [mem_boxList] at hm
    obtain ⟨⟨x, y⟩, b⟩ := p
    have hx : (cx, cy) = (x, y) ∨ (cx, cy) = (if b = true then (x, y + 1) else (x + 1, y)) := by
      cases b <;> simp at hm ⊢ <;> omega
    rcases hx with e | e
    · rw [e]; exact ho.1
    · rw [e]; cases b <;> simpa using ho.2
  unfold legalU leadsP
  rw [if_neg (by simp only; omega), if_neg (by simp only; omega), if_pos h3]
  simp only
  rw [hf, e]
  unfold still
  simp [Bool.and_comm]
theorem pose_at2 {w : World} {b : Nat} {cs : Array Value} {t : TypeId} {x y : Int} {d : Bool} (h : w.heap[b]? = some (.cells cs t (0, 0))) (o : Nat) (h0 : cs[o]? = some (.int .i64 x)) (h1 : cs[o + 1]? = some (.int .i64 y)) (h2 : cs[o + 2]? = some (.bool d)) : ∀ j z, #[Value.int .i64 x, .int .i64 y, .bool d][j]? = some z → w.cell? ((⟨b, o, none⟩ : Addr).add j) = some z := by
  intro j z hj
  rw [Addr.add_lit]
  match j with
  | 0 => simp at hj; rw [← hj]; exact (cell_of h _).trans h0
  | 1 => simp at hj; rw [← hj]; exact (cell_of h _).trans h1
  | 2 => simp at hj; rw [← hj]; exact (cell_of h _).trans h2
  | j + 3 => simp at hj
theorem pose_below2 {w u : World} {b : Nat} {cs : Array Value} {t : TypeId} {x y : Int} {d : Bool} (h : w.heap[b]? = some (.cells cs t (0, 0))) (o : Nat) (h0 : cs[o]? = some (.int .i64 x)) (h1 : cs[o + 1]? = some (.int .i64 y)) (h2 : cs[o + 2]? = some (.bool d)) (hu : Below w.heap.size w u) : ∀ j z, #[Value.int .i64 x, .int .i64 y, .bool d][j]? = some z → u.cell? ((⟨b, o, none⟩ : Addr).add j) = some z :=
  pose_at2 ((hu.block _ (lt_of_heap h)).trans h) o h0 h1 h2
theorem within_call (v lo hi : Int) (w : World) : Calls Try.prog 48 #[.int .i64 v, .int .i64 lo, .int .i64 hi] w fun e w' => ∃ r, e = .returned r ∧ (r = .bool (decide (lo ≤ v) && decide (v ≤ hi)) ∧ Below w.heap.size w w') :=
  (withinR_any v lo hi w).mono fun e w' ⟨h1, h2⟩ => ⟨_, h1, rfl, by rw [h2]; exact Below.refl _ _⟩
theorem eqPose4 (x y : Int) (d : Bool) (x' y' : Int) (d' : Bool) (w : World) : (Op.equalIn 10000 69 (.agg #[.int .i64 x, .int .i64 y, .bool d]) (.agg #[.int .i64 x', .int .i64 y', .bool d'])).run Try.prog w = .ok (decide (((x, y), d) = ((x', y'), d'))) w := by
  go_simp
  repeat' split
  all_goals simp_all
theorem guardPose4 : Try.prog.eqGuardType Try.prog.depth 69 = false := by kernel_rfl
theorem run_neq_pose4 {o : Oper} {a : Act} {w : World} (x y : Operand) (ho : o.op = .binOp .neq 69 x y 69) (p q : Int) (d : Bool) (p' q' : Int) (d' : Bool) (hx : a.eval x = .agg #[.int .i64 p, .int .i64 q, .bool d]) (hy : a.eval y = .agg #[.int .i64 p', .int .i64 q', .bool d']) :
    (execOp a.eval o).run Try.prog w = .ok (.value (.bool (!decide (((p, q), d) = ((p', q'), d'))))) w := by
  unfold execOp
  simp only [ho, hx, hy, Sem.run_bind, Sem.run_pure, Result.andThen_ok, run_eqGuard_agg _ _ _ _ _ _ _ guardPose4, run_neq_struct, eqPose4]
end Go.Proofs.Ytebfjldbhmmmlaa.Grid
namespace Go.Proofs.Ytebfjldbhmmmlaa.Grid
set_option linter.unusedVariables false
set_option linter.unusedSimpArgs false
open Go Go.RowKit Go.Shelf Go.Proofs
attribute [local go_sem] Oper.semAt_some

def sq (x y : Int) : Nat → Cell
  | 0 => (x, y)
  | 1 => (x + 1, y)
  | 2 => (x, y + 1)
  | _ => (x + 1, y + 1)
theorem sq_at {w u : World} {g : Nat} {x y : Int} (h : w.heap[g]? = some (.cells #[.int .i64 x, .int .i64 y, .int .i64 (x + 1), .int .i64 y, .int .i64 x, .int .i64 (y + 1), .int .i64 (x + 1), .int .i64 (y + 1)] 30 (0, 0))) (hu : Below w.heap.size w u) (k : Nat) (hk : k < 4) :
    ∀ j z, #[Value.int .i64 (sq x y k).1, .int .i64 (sq x y k).2][j]? = some z → u.cell? (((⟨g, 0, none⟩ : Addr).add (k * 2)).add j) = some z := by
  intro j z hj
  have h' := (hu.block _ (lt_of_heap h)).trans h
  rw [Addr.add_lit, Addr.add_lit, cell_of h']
  match k, hk with
  | 0, _ => match j with
    | 0 => simpa [sq] using hj
    | 1 => simpa [sq] using hj
    | j + 2 => simp at hj
  | 1, _ => match j with
    | 0 => simpa [sq] using hj
    | 1 => simpa [sq] using hj
    | j + 2 => simp at hj
  | 2, _ => match j with
    | 0 => simpa [sq] using hj
    | 1 => simpa [sq] using hj
    | j + 2 => simp at hj
  | 3, _ => match j with
    | 0 => simpa [sq] using hj
    | 1 => simpa [sq] using hj
    | j + 2 => simp at hj
end Go.Proofs.Ytebfjldbhmmmlaa.Grid
namespace Go.Proofs.Ytebfjldbhmmmlaa.Grid
set_option linter.unusedVariables false
set_option linter.unusedSimpArgs false
open Go Go.RowKit Go.Shelf Go.Proofs

theorem filter_range (a : Nat) : ∀ n b : Nat, a ≤ b → b ≤ n → (List.range n).filter (fun i => decide (a ≤ i ∧ i < b)) = List.range' a (b - a)
  | 0, b, h1, h2 => by
    obtain rfl : b = 0 := by omega
    obtain rfl : a = 0 := by omega
    rfl
  | n + 1, b, h1, h2 => by
    rw [List.range_succ, List.filter_append]
    by_cases hb : b ≤ n
    · rw [filter_range a n b h1 hb, List.filter_cons_of_neg (by simp; omega)]
      simp
    · obtain rfl : b = n + 1 := by omega
      by_cases ha : a ≤ n
      · have e : (List.range n).filter (fun i => decide (a ≤ i ∧ i < n + 1)) = (List.range n).filter (fun i => decide (a ≤ i ∧ i < n)) := by
          refine List.filter_congr fun i hi => ?_
          have := List.mem_range.1 hi
          exact decide_eq_decide.2 (by omega)
        rw [e, filter_range a n n ha (Nat.le_refl _), List.filter_cons_of_pos (by simp; omega)]
        rw [show n + 1 - a = (n - a) + 1 by omega, List.range'_concat]
        simp
        omega
      · obtain rfl : a = n + 1 := by omega
        rw [List.filter_cons_of_neg (by simp)]
        have e : (List.range n).filter (fun i => decide (n + 1 ≤ i ∧ i < n + 1)) = [] := by
          rw [List.filter_eq_nil_iff]
          intro i hi
          simp
          try omega
        rw [e]
        simp
/- The cells of a row, and of the grid, that P takes. -/
def gridRow (W : Nat) (y : Int) (P : Cell → Bool) : List Cell := ((List.range W).map (fun (x : Nat) => ((x : Int), y))).filter P
def gridCells (W H : Nat) (P : Cell → Bool) : List Cell := (List.range H).flatMap (fun (y : Nat) => gridRow W (y : Int) P)
theorem flatMap_if {α β : Type} (p : α → Bool) (f : α → List β) : ∀ l : List α, l.flatMap (fun i => if p i = true then f i else []) = (l.filter p).flatMap f
  | [] => rfl
  | a :: l => by
    rw [List.flatMap_cons, flatMap_if p f l]
    cases h : p a
    · rw [List.filter_cons_of_neg (by rw [h]; simp)]
      simp
    · rw [List.filter_cons_of_pos h, List.flatMap_cons]
      simp
theorem gridRow_box {W : Nat} {x0 y0 x1 y1 : Int} (h0 : 0 ≤ x0) (h1 : x0 ≤ x1) (h2 : x1 < W) (y : Int) : gridRow W y (fun c => decide (c ∈ boxList x0 y0 x1 y1)) = if decide (y0 ≤ y ∧ y ≤ y1) = true then row x0 y (x1 + 1 - x0).toNat else [] := by
  unfold gridRow
  rw [List.filter_map]
  by_cases hy : y0 ≤ y ∧ y ≤ y1
  · rw [if_pos (decide_eq_true hy)]
    have e : ((fun c => decide (c ∈ boxList x0 y0 x1 y1)) ∘ fun (x : Nat) => ((x : Int), y)) = fun i : Nat => decide (x0.toNat ≤ i ∧ i < (x1 + 1).toNat) := by
      funext i
      show decide (((i : Int), y) ∈ boxList x0 y0 x1 y1) = _
      rw [decide_eq_decide, mem_boxList]
      simp only
      omega
    rw [e, filter_range _ _ _ (by omega) (by omega), List.range'_eq_map_range, List.map_map]
    unfold row
    rw [show (x1 + 1).toNat - x0.toNat = (x1 + 1 - x0).toNat by omega]
    refine List.map_congr_left fun k _ => ?_
    show (((x0.toNat + k : Nat) : Int), y) = (x0 + (k : Int), y)
    rw [show ((x0.toNat + k : Nat) : Int) = x0 + (k : Int) by omega]
  · rw [if_neg (by rw [decide_eq_true_eq]; exact hy)]
    rw [List.map_eq_nil_iff, List.filter_eq_nil_iff]
    intro i _
    show ¬ decide (((i : Int), y) ∈ boxList x0 y0 x1 y1) = true
    rw [decide_eq_true_eq, mem_boxList]
    simp only
    omega
theorem gridCells_box {W H : Nat} {x0 y0 x1 y1 : Int} (h0 : 0 ≤ x0) (h1 : x0 ≤ x1) (h2 : x1 < W) (h3 : 0 ≤ y0) (h4 : y0 ≤ y1) (h5 : y1 < H) : gridCells W H (fun c => decide (c ∈ boxList x0 y0 x1 y1)) = boxList x0 y0 x1 y1 := by
  unfold gridCells
  have e : (fun y : Nat => gridRow W (y : Int) (fun c => decide (c ∈ boxList x0 y0 x1 y1))) = fun y : Nat => if decide (y0.toNat ≤ y ∧ y < (y1 + 1).toNat) = true then row x0 (y : Int) (x1 + 1 - x0).toNat else [] := by
    funext y
    rw [gridRow_box h0 h1 h2, show decide (y0 ≤ (y : Int) ∧ (y : Int) ≤ y1) = decide (y0.toNat ≤ y ∧ y < (y1 + 1).toNat) from decide_eq_decide.2 (by omega)]
  rw [e, flatMap_if (fun y : Nat => decide (y0.toNat ≤ y ∧ y < (y1 + 1).toNat)), filter_range _ _ _ (by omega) (by omega), List.range'_eq_map_range, List.flatMap_map]
  unfold boxList rows
  rw [show (y1 + 1).toNat - y0.toNat = (y1 + 1 - y0).toNat by omega]
  refine congrArg List.flatten (List.map_congr_left fun k _ => ?_)
  rw [show ((y0.toNat + k : Nat) : Int) = y0 + (k : Int) by omega]
theorem gridRow_len (W : Nat) (y : Int) (P : Cell → Bool) : (gridRow W y P).length ≤ W := by
  unfold gridRow
  refine Nat.le_trans (List.length_filter_le _ _) ?_
  simp
theorem gridCells_nil (W : Nat) (P : Cell → Bool) : gridCells W 0 P = [] := rfl
theorem gridRow_nil (y : Int) (P : Cell → Bool) : gridRow 0 y P = [] := rfl
theorem gridRow_succ (W : Nat) (y : Int) (P : Cell → Bool) : gridRow (W + 1) y P = gridRow W y P ++ (if P ((W : Int), y) = true then [((W : Int), y)] else []) := by
  unfold gridRow
  rw [List.range_succ, List.map_append, List.filter_append]
  congr 1
  cases h : P ((W : Int), y)
  · simp [h]
  · simp [h]
theorem gridCells_succ (W H : Nat) (P : Cell → Bool) : gridCells W (H + 1) P = gridCells W H P ++ gridRow W (H : Int) P := by
  unfold gridCells
  rw [List.range_succ, List.flatMap_append]
  simp
theorem gridCells_len (W : Nat) (P : Cell → Bool) : ∀ H : Nat, (gridCells W H P).length ≤ W * H
  | 0 => Nat.le_refl _
  | H + 1 => by
    rw [gridCells_succ, List.length_append, Nat.mul_succ]
    exact Nat.add_le_add (gridCells_len W P H) (gridRow_len W _ P)
theorem list_lone {w : World} {g : Nat} {p q : Int} (h : w.heap[g]? = some (.cells #[.int .i64 p, .int .i64 q] 30 (0, 0))) : ListAt 2 cellEl (fun b => b = g) [(p, q)] (.slice (some ⟨g, 0, none⟩) 1 1) w := by
  refine ⟨some ⟨g, 0, none⟩, 1, [((p, q), #[.int .i64 p, .int .i64 q])], rfl, rfl, fun y hy => ?_, fun i hi => ⟨_, rfl, rfl, fun j u hj => ?_⟩, fun h => by cases h⟩
  · simp at hy
    rw [hy]; rfl
  · rw [Addr.add_lit, Nat.zero_add, cell_of h]
    match i, hi with
    | 0, _ =>
      match j with
      | 0 => simpa using hj
      | 1 => simpa using hj
      | j + 2 => simp at hj
end Go.Proofs.Ytebfjldbhmmmlaa.Grid
namespace Go.Proofs.Ytebfjldbhmmmlaa.Grid
set_option linter.unusedVariables false
set_option linter.unusedSimpArgs false
open Go Go.RowKit Go.Shelf Go.Proofs

theorem box_mem {p : Pose} {d n : Int} (h1 : 0 ≤ p.1.1) (h2 : p.1.1 < 16) (h3 : 0 ≤ p.1.2) (h4 : p.1.2 < 16) (hd : 0 ≤ d ∧ d ≤ 3) (hn : 0 ≤ n ∧ n ≤ 16) : ∀ c, c ∈ boxOf p (shiftP p d n) ↔ ∃ k, 0 ≤ k ∧ k ≤ n ∧ (c = (shiftP p d k).1 ∨ c = second (shiftP p d k)) := by
  have hs := fun k (q : 0 ≤ k) (r : k ≤ 16) => shift_small (p := p) (d := d) (k := k) (by omega) (by omega) (by omega) (by omega) q r
  have hb : -1 ≤ dx d ∧ dx d ≤ 1 ∧ -1 ≤ dy d ∧ dy d ≤ 1 ∧ (dx d = 0 ∨ dy d = 0) := by
    unfold dx dy
    rcases (show d = 0 ∨ d = 1 ∨ d = 2 ∨ d = 3 by omega) with rfl | rfl | rfl | rfl <;> decide
  have hx : ∀ k, 0 ≤ k → k ≤ 16 → -16 ≤ dx d * k ∧ dx d * k ≤ 16 ∧ -16 ≤ dy d * k ∧ dy d * k ≤ 16 := fun k q r => by
    rcases (show dx d = -1 ∨ dx d = 0 ∨ dx d = 1 by omega) with e | e | e <;> rcases (show dy d = -1 ∨ dy d = 0 ∨ dy d = 1 by omega) with f | f | f <;> rw [e, f] <;> omega
  have hsec := fun k (q : 0 ≤ k) (r : k ≤ 16) => second_small (p := ((p.1.1 + dx d * k, p.1.2 + dy d * k), p.2)) (by have := hx k q r; simp only; omega) (by have := hx k q r; simp only; omega) (by have := hx k q r; simp only; omega) (by have := hx k q r; simp only; omega)
  have hp := second_small (p := p) (by omega) (by omega) (by omega) (by omega)
  intro c
  unfold boxOf spanP
  rw [mem_boxList, hs n hn.1 hn.2, hsec n hn.1 hn.2, hp]
  have hxn := hx n hn.1 hn.2
  constructor
  · rintro ⟨q1, q2, q3, q4⟩
    obtain ⟨cx, cy⟩ := c
    obtain ⟨⟨px, py⟩, pd⟩ := p
    simp only at *
    have key : ∃ k, 0 ≤ k ∧ k ≤ n ∧ ((cx, cy) = (px + dx d * k, py + dy d * k) ∨ (cx, cy) = if pd = true then (px + dx d * k, py + dy d * k + 1) else (px + dx d * k + 1, py + dy d * k)) := by
      cases pd
      · simp only [Bool.false_eq_true, if_false] at q1 q2 q3 q4 ⊢
        simp only [Prod.mk.injEq]
        rcases (show d = 0 ∨ d = 1 ∨ d = 2 ∨ d = 3 by omega) with rfl | rfl | rfl | rfl
        · simp only [show dx 0 = 0 from rfl, show dy 0 = -1 from rfl] at *
          exact ⟨py - cy, by omega, by omega, by omega⟩
        · simp only [show dx 1 = 1 from rfl, show dy 1 = 0 from rfl] at *
          by_cases q : cx - px ≤ n
          · exact ⟨cx - px, by omega, by omega, by omega⟩
          · exact ⟨n, by omega, by omega, by omega⟩
        · simp only [show dx 2 = 0 from rfl, show dy 2 = 1 from rfl] at *
          exact ⟨cy - py, by omega, by omega, by omega⟩
        · simp only [show dx 3 = -1 from rfl, show dy 3 = 0 from rfl] at *
          by_cases q : cx ≤ px
          · exact ⟨px - cx, by omega, by omega, by omega⟩
          · exact ⟨0, by omega, by omega, by omega⟩
      · simp only [if_true] at q1 q2 q3 q4 ⊢
        simp only [Prod.mk.injEq]
        rcases (show d = 0 ∨ d = 1 ∨ d = 2 ∨ d = 3 by omega) with rfl | rfl | rfl | rfl
        · simp only [show dx 0 = 0 from rfl, show dy 0 = -1 from rfl] at *
          by_cases q : cy ≤ py
          · exact ⟨py - cy, by omega, by omega, by omega⟩
          · exact ⟨0, by omega, by omega, by omega⟩
        · simp only [show dx 1 = 1 from rfl, show dy 1 = 0 from rfl] at *
          exact ⟨cx - px, by omega, by omega, by omega⟩
        · simp only [show dx 2 = 0 from rfl, show dy 2 = 1 from rfl] at *
          by_cases q : cy - py ≤ n
          · exact ⟨cy - py, by omega, by omega, by omega⟩
          · exact ⟨n, by omega, by omega, by omega⟩
        · simp only [show dx 3 = -1 from rfl, show dy 3 = 0 from rfl] at *
          exact ⟨px - cx, by omega, by omega, by omega⟩
    obtain ⟨k, k1, k2, k3⟩ := key
    refine ⟨k, k1, k2, ?_⟩
    rw [hs k k1 (by omega), hsec k k1 (by omega)]
    exact k3
  · rintro ⟨k, k1, k2, k3⟩
    rw [hs k k1 (by omega), hsec k k1 (by omega)] at k3
    have hxk := hx k k1 (by omega)
    obtain ⟨⟨px, py⟩, pd⟩ := p
    simp only at *
    rcases (show d = 0 ∨ d = 1 ∨ d = 2 ∨ d = 3 by omega) with rfl | rfl | rfl | rfl <;>
      simp only [show dx 0 = 0 from rfl, show dy 0 = -1 from rfl, show dx 1 = 1 from rfl, show dy 1 = 0 from rfl, show dx 2 = 0 from rfl, show dy 2 = 1 from rfl, show dx 3 = -1 from rfl, show dy 3 = 0 from rfl] at * <;>
      cases pd <;> simp only [Bool.false_eq_true, if_false, if_true] at * <;> rcases k3 with rfl | rfl <;> simp only <;> omega
theorem box_turn {x y : Int} {b : Bool} (h1 : 0 ≤ x) (h2 : x < 16) (h3 : 0 ≤ y) (h4 : y < 16) : ∀ c, c ∈ boxOf ((x, y), b) (turnP ((x, y), b)) ↔ c ∈ [(x, y), (x + 1, y), (x, y + 1), (x + 1, y + 1)] := by
  have hsp := second_small (p := ((x, y), b)) (by simp only; omega) (by simp only; omega) (by simp only; omega) (by simp only; omega)
  have hst := second_small (p := turnP ((x, y), b)) (by show -200 ≤ x; omega) (by show x ≤ 200; omega) (by show -200 ≤ y; omega) (by show y ≤ 200; omega)
  rintro ⟨cx, cy⟩
  unfold boxOf spanP
  rw [hsp, hst, mem_boxList]
  simp only [List.mem_cons, Prod.mk.injEq, List.not_mem_nil, or_false]
  cases b <;> simp [turnP] <;> omega
theorem box_still {x y : Int} {b : Bool} (h1 : 0 ≤ x) (h2 : x < 16) (h3 : 0 ≤ y) (h4 : y < 16) : ∀ c, c ∈ boxOf ((x, y), b) ((x, y), b) ↔ c ∈ [(x, y), second ((x, y), b)] := by
  have hsp := second_small (p := ((x, y), b)) (by simp only; omega) (by simp only; omega) (by simp only; omega) (by simp only; omega)
  rintro ⟨cx, cy⟩
  unfold boxOf spanP
  rw [hsp, mem_boxList]
  simp only [List.mem_cons, Prod.mk.injEq, List.not_mem_nil, or_false]
  cases b <;> simp <;> omega
/- A legal move's box lies in the grid. -/
theorem legal_in {W H : Int} {us : List Int} {m : Move} (hW : W ≤ 16) (hH : H ≤ 16) (hl : legalU W H us m = true) : fitsU W H us m.2.2.2.1 = true ∧ (∀ c ∈ boxOf m.2.2.2.1 m.2.2.2.2.1, In W H c) := by
  unfold legalU at hl
  simp only [Bool.and_eq_true, decide_eq_true_eq] at hl
  obtain ⟨⟨⟨a, b⟩, c⟩, d⟩ := hl
  refine ⟨c, ?_⟩
  rw [b]
  exact fun q hq => open_in (List.all_eq_true.1 d q hq)
theorem cells_box {WN HN : Nat} {a b : Pose} (hin : ∀ c ∈ boxOf a b, In (WN : Int) (HN : Int) c) (hne : (spanP a b).1.1 ≤ (spanP a b).2.1 ∧ (spanP a b).1.2 ≤ (spanP a b).2.2) (As : List Cell) (hm : ∀ q, q ∈ As ↔ q ∈ boxOf a b) : gridCells WN HN (fun q => decide (q ∈ As)) = boxOf a b := by
  have e : (fun q => decide (q ∈ As)) = fun q => decide (q ∈ boxOf a b) := funext fun q => decide_eq_decide.2 (hm q)
  rw [e]
  have c1 := hin ((spanP a b).1.1, (spanP a b).1.2) (by unfold boxOf; rw [mem_boxList]; simp only; omega)
  have c2 := hin ((spanP a b).2.1, (spanP a b).2.2) (by unfold boxOf; rw [mem_boxList]; simp only; omega)
  obtain ⟨p1, p2, p3, p4⟩ := c1
  obtain ⟨q1, q2, q3, q4⟩ := c2
  simp only at p1 p2 p3 p4 q1 q2 q3 q4
  unfold boxOf
  exact gridCells_box p1 hne.1 q2 p3 hne.2 q4
theorem span_le {a b : Pose} (h1 : 0 ≤ a.1.1) (h2 : a.1.1 < 16) (h3 : 0 ≤ a.1.2) (h4 : a.1.2 < 16) : (spanP a b).1.1 ≤ (spanP a b).2.1 ∧ (spanP a b).1.2 ≤ (spanP a b).2.2 := by
  have hsp := second_small (p := a) (by omega) (by omega) (by omega) (by omega)
  unfold spanP
  rw [hsp]
  cases h : a.2 <;> simp <;> omega
/- The cells of the poses ahead of k of a run, pose by pose. -/
def runCells (p : Pose) (d : Int) (k : Nat) : List Cell := (List.range k).flatMap fun (i : Nat) => [(shiftP p d (i : Int)).1, second (shiftP p d (i : Int))]
theorem runCells_succ (p : Pose) (d : Int) (k : Nat) : runCells p d (k + 1) = runCells p d k ++ [(shiftP p d (k : Int)).1, second (shiftP p d (k : Int))] := by
  unfold runCells
  rw [List.range_succ, List.flatMap_append]
  simp
theorem runCells_len (p : Pose) (d : Int) : ∀ k : Nat, (runCells p d k).length = 2 * k
  | 0 => rfl
  | k + 1 => by rw [runCells_succ, List.length_append, runCells_len p d k]; simp; omega
theorem runCells_mem (p : Pose) (d : Int) (n : Nat) (c : Cell) : c ∈ runCells p d (n + 1) ↔ ∃ k : Int, 0 ≤ k ∧ k ≤ (n : Int) ∧ (c = (shiftP p d k).1 ∨ c = second (shiftP p d k)) := by
  unfold runCells
  rw [List.mem_flatMap]
  constructor
  · rintro ⟨i, hi, hc⟩
    have := List.mem_range.1 hi
    simp only [List.mem_cons, List.not_mem_nil, or_false] at hc
    exact ⟨(i : Int), by omega, by omega, hc⟩
  · rintro ⟨k, k1, k2, hc⟩
    refine ⟨k.toNat, List.mem_range.2 (by omega), ?_⟩
    rw [show ((k.toNat : Nat) : Int) = k by omega]
    simp only [List.mem_cons, List.not_mem_nil, or_false]
    exact hc
end Go.Proofs.Ytebfjldbhmmmlaa.Grid
namespace Go.Proofs.Ytebfjldbhmmmlaa.Grid
set_option linter.unusedVariables false
set_option linter.unusedSimpArgs false
open Go Go.RowKit Go.Shelf Go.Proofs
attribute [local go_sem] Oper.semAt_some

theorem below_row2 {w w1 w2 : World} {base : Nat} {v : Value} {e : TypeId} {S n : Nat} {xs : List Value} (h : Below base w w1) (hb : base ≤ w.heap.size) (hr : w1.ownsRow base e S v n xs) (hg : w1.grownBy w2 v.ownBlock) : Below base w w2 :=
  h.grown hg (Nat.le_trans hb h.size) (fun k q => by
    rcases hr.2 with ⟨rfl, _⟩ | ⟨g, cap, cur, rfl, h3, _⟩
    · cases q
    · cases q; exact h3)
theorem old_go {c : Conf} {vb vp vr vs : Value} {w u : World} (h : ConfAt (Old w) c vb vp vr vs w) (b : Below w.heap.size w u) : ConfAt (Old u) c vb vp vr vs u :=
  have h' := h.go (fun _ h => h) b
  have k : ∀ g, Old w g → Old u g := fun g hg => Nat.lt_of_lt_of_le hg b.size
  ⟨h'.b.mono heldCell k, h'.p.mono heldCell k, h'.r.mono heldPose k, h'.s.mono heldStack k⟩
end Go.Proofs.Ytebfjldbhmmmlaa.Grid
namespace Go.Proofs.Ytebfjldbhmmmlaa.Grid
set_option linter.unusedVariables false
set_option linter.unusedSimpArgs false
open Go Go.RowKit Go.Shelf Go.Proofs
attribute [local go_sem] Oper.semAt_some

theorem pose_at {w : World} {b : Nat} {cs : Array Value} {t : TypeId} {x y : Int} {d : Bool} (h : w.heap[b]? = some (.cells cs t (0, 0))) (o : Nat) (h0 : cs[o]? = some (.int .i64 x)) (h1 : cs[o + 1]? = some (.int .i64 y)) (h2 : cs[o + 2]? = some (.bool d)) : ∀ j z, #[Value.int .i64 x, .int .i64 y, .bool d][j]? = some z → w.cell? ((⟨b, o, none⟩ : Addr).add j) = some z := by
  intro j z hj
  rw [Addr.add_lit]
  match j with
  | 0 => simp at hj; rw [← hj]; exact (cell_of h _).trans h0
  | 1 => simp at hj; rw [← hj]; exact (cell_of h _).trans h1
  | 2 => simp at hj; rw [← hj]; exact (cell_of h _).trans h2
  | j + 3 => simp at hj
theorem list_four {w : World} {g : Nat} {p q p2 q2 p3 q3 p4 q4 : Int} (h : w.heap[g]? = some (.cells #[.int .i64 p, .int .i64 q, .int .i64 p2, .int .i64 q2, .int .i64 p3, .int .i64 q3, .int .i64 p4, .int .i64 q4] 30 (0, 0))) : ListAt 2 cellEl (fun b => b = g) [(p, q), (p2, q2), (p3, q3), (p4, q4)] (.slice (some ⟨g, 0, none⟩) 4 4) w := by
  refine ⟨some ⟨g, 0, none⟩, 4, [((p, q), #[.int .i64 p, .int .i64 q]), ((p2, q2), #[.int .i64 p2, .int .i64 q2]), ((p3, q3), #[.int .i64 p3, .int .i64 q3]), ((p4, q4), #[.int .i64 p4, .int .i64 q4])], rfl, rfl, fun y hy => ?_, fun i hi => ⟨_, rfl, rfl, fun j u hj => ?_⟩, fun h => by cases h⟩
  · simp at hy
    rcases hy with rfl | rfl | rfl | rfl <;> rfl
  · rw [Addr.add_lit, Nat.zero_add, cell_of h]
    match i, hi with
    | 0, _ =>
      match j with
      | 0 => simpa using hj
      | 1 => simpa using hj
      | j + 2 => simp at hj
    | 1, _ =>
      match j with
      | 0 => simpa using hj
      | 1 => simpa using hj
      | j + 2 => simp at hj
    | 2, _ =>
      match j with
      | 0 => simpa using hj
      | 1 => simpa using hj
      | j + 2 => simp at hj
    | 3, _ =>
      match j with
      | 0 => simpa using hj
      | 1 => simpa using hj
      | j + 2 => simp at hj
theorem own_go {w w1 : World} {b : Nat} {e : TypeId} {sz n : Nat} {v : Value} {xs : List Value} (h : w.ownsRow b e sz v n xs) (hb : Below w.heap.size w w1) : w1.ownsRow b e sz v n xs := by
  refine ⟨h.1, ?_⟩
  rcases h.2 with hn | ⟨g, cap, cur, rfl, hb', hg, rest⟩
  · exact .inl hn
  · exact .inr ⟨g, cap, cur, rfl, hb', (hb.block g (lt_of_heap hg)).trans hg, rest⟩
end Go.Proofs.Ytebfjldbhmmmlaa.Grid
namespace Go.Proofs.Ytebfjldbhmmmlaa.Grid
set_option linter.unusedVariables false
set_option linter.unusedSimpArgs false
open Go Go.RowKit Go.Shelf Go.Proofs

/- The cells that a move sweeps: none, if it is not legal. -/
def sweptL (W H : Int) (us : List Int) (m : Move) : List Cell := if legalU W H us m = true then boxOf m.2.2.2.1 m.2.2.2.2.1 else []
theorem nil_row (w : World) (b : Nat) : w.ownsRow b 30 2 (.slice none 0 0) ([] : List Cell).length (rowL cellL []) := ⟨rfl, .inl ⟨rfl, rfl⟩⟩
theorem sweptL_len {W H : Int} {us : List Int} {m : Move} (hW : W ≤ 16) (hH : H ≤ 16) : (sweptL W H us m).length ≤ 1000 := by
  unfold sweptL
  by_cases hl : legalU W H us m = true
  · rw [if_pos hl]
    obtain ⟨hf, hin⟩ := legal_in hW hH hl
    obtain ⟨n1, n2, n3, n4⟩ := fits_near hW hH hf
    obtain ⟨i1, i2⟩ := (fits_in hf).1
    obtain ⟨WN, hWN⟩ : ∃ n : Nat, W = n := Int.eq_ofNat_of_zero_le (by omega)
    obtain ⟨HN, hHN⟩ : ∃ n : Nat, H = n := Int.eq_ofNat_of_zero_le (by have := i2.2.2; omega)
    rw [hWN, hHN] at hin
    have hsp := span_le (b := m.2.2.2.2.1) n1 n2 n3 n4
    rw [← cells_box hin hsp _ (fun q => Iff.rfl)]
    have h1 := gridCells_len WN (fun q => decide (q ∈ boxOf m.2.2.2.1 m.2.2.2.2.1)) HN
    have h3 : WN * HN ≤ 16 * 16 := Nat.mul_le_mul (by omega) (by omega)
    omega
  · rw [if_neg hl]
    simp
end Go.Proofs.Ytebfjldbhmmmlaa.Grid
