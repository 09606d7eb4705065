/-
  slices.AppendSeq over a box's cells, and Swept.
  The cells that a move sweeps.
  The way back, in plain words: each move of a pose is legal, its end fits, the move back is legal, over the same cells, three and more.
  The chapter's own answer, further: whether a move is legal.
  The chapter's own answer, further: whether a move is legal, the whole of it.
  The cells of a grid, row by row, that lie in a box: they are the box.
  What a move sweeps, in plain words: the cells of the chapter's list are the box.
  The chapter's own answer, further: the cells that a move sweeps.
  The chapter's own answer, further: the cells that a legal move sweeps.
  What a move sweeps: the code's answer and the chapter's, legal or not.
-/
import Derived.Test.YtedhoghleelhfaaGreatQRgD
import Derived.Test.YtedhoghleelhfaaGreatQGridRef3
import Derived.Test.YtedhoghleelhfaaGreatQRgI
import Derived.Test.YtedhoghleelhfaaGreatQRgJ
namespace Go.Proofs.YtedhoghleelhfaaGreat.Grid
set_option linter.unusedVariables false
set_option linter.unusedSimpArgs false
open Go Go.RowKit Go.Shelf Go.Proofs
attribute [local go_sem] Oper.semAt_some

theorem box_kept {X Y : World} {row : Option Nat} {B : Nat} {t : TypeId} {v : Value} (hv : Boxed X B t v) (hg : X.grownBy Y row) (hrow : ∀ r, row = some r → ∃ o : Obj, X.heap[r]? = some o ∧ o.isCells = false) : Boxed Y B t v := by
  refine hv.kept hg (fun e' => ?_)
  obtain ⟨o, ho, hc⟩ := hrow B e'.symm
  rw [show X.heap[B]? = _ from hv] at ho; cases ho; cases hc
theorem row_kept {X Y : World} {row : Option Nat} {base : Nat} {e : TypeId} {size n : Nat} {v : Value} {xs : List Value} (hr : X.ownsRow base e size v n xs) (hg : X.grownBy Y row) (hrow : ∀ r, row = some r → ∃ o : Obj, X.heap[r]? = some o ∧ o.isCells = false) : Y.ownsRow base e size v n xs := by
  refine hr.kept hg ?_
  rcases hr.2 with ⟨rfl, _⟩ | ⟨g, cap, cur, rfl, _, hgb, _⟩
  · exact .inl rfl
  · refine .inr fun e' => ?_
    obtain ⟨o, ho, hc⟩ := hrow g (by simpa [Value.ownBlock] using e'.symm)
    rw [hgb] at ho; cases ho; cases hc
/- What has been gathered so far. -/
structure SwI (w : World) (base B Bn : Nat) (x0 y0 x1 y1 : Int) (pre : List Cell) (V : World) : Prop where
  row : ∃ v, Boxed V B 22 v ∧ V.ownsRow base 40 2 v pre.length (rowL cellL pre)
  box : V.heap[Bn]? = some (.cells #[.int .i64 x0, .int .i64 y0, .int .i64 x1, .int .i64 y1] 147 (0, 0))
  below : Below base w V
structure SpanOk (p q : Pose) (K : Nat) : Prop where
  a0 : -1000 ≤ (spanP p q).1.1
  a1 : (spanP p q).1.1 ≤ 1000
  b0 : -1000 ≤ (spanP p q).1.2
  b1 : (spanP p q).1.2 ≤ 1000
  c0 : -1000 ≤ (spanP p q).2.1
  c1 : (spanP p q).2.1 ≤ 1000
  d0 : -1000 ≤ (spanP p q).2.2
  d1 : (spanP p q).2.2 ≤ 1000
  size : ((spanP p q).2.1 - (spanP p q).1.1 + 1) * ((spanP p q).2.2 - (spanP p q).1.2 + 1) = (K : Int)
  small : K ≤ 1000000
  len : (boxOf p q).length = K
end Go.Proofs.YtedhoghleelhfaaGreat.Grid
namespace Go.Proofs.YtedhoghleelhfaaGreat.Grid
set_option linter.unusedVariables false
set_option linter.unusedSimpArgs false
open Go Go.RowKit Go.Shelf Go.Proofs
attribute [local go_sem] Oper.semAt_some

theorem own_lower {w : World} {b b' : Nat} {e : TypeId} {sz n : Nat} {v : Value} {xs : List Value} (h : w.ownsRow b e sz v n xs) (hb : b' ≤ b) : w.ownsRow b' e sz v n xs := by
  rcases h with ⟨h1, h2 | ⟨g, cap, cur, h2, h3, h4⟩⟩
  · exact ⟨h1, .inl h2⟩
  · exact ⟨h1, .inr ⟨g, cap, cur, h2, Nat.le_trans hb h3, h4⟩⟩
end Go.Proofs.YtedhoghleelhfaaGreat.Grid
namespace Go.Proofs.YtedhoghleelhfaaGreat.Grid
set_option linter.unusedVariables false
set_option linter.unusedSimpArgs false
open Go Go.RowKit Go.Shelf Go.Proofs

def backM (m : Move) : Move := (m.1, (if m.1 = 1 then (m.2.1 + 2).tmod 4 else m.2.1), m.2.2.1, m.2.2.2.2.1, m.2.2.2.1, m.2.2.2.2.2.1, m.2.2.2.2.2.2)
theorem box_symm (a b : Pose) : boxOf a b = boxOf b a := by
  unfold boxOf spanP
  simp only
  rw [Int.min_comm a.1.1, Int.min_comm a.1.2, Int.max_comm (second a).1, Int.max_comm (second a).2]
theorem boxList_len (x0 y0 x1 y1 : Int) : (boxList x0 y0 x1 y1).length = (y1 + 1 - y0).toNat * (x1 + 1 - x0).toNat := by
  unfold boxList
  rw [rows_len]
theorem prod3 {a b : Nat} (h : (2 ≤ a ∧ 2 ≤ b) ∨ (1 ≤ a ∧ 3 ≤ b) ∨ (3 ≤ a ∧ 1 ≤ b)) : 3 ≤ a * b := by
  rcases h with ⟨h1, h2⟩ | ⟨h1, h2⟩ | ⟨h1, h2⟩ <;> (have := Nat.mul_le_mul h1 h2; omega)
structure Back (W H : Int) (us : List Int) (p : Pose) (m : Move) : Prop where
  from_ : m.2.2.2.1 = p
  legal : legalU W H us m = true
  back : legalU W H us (backM m) = true
  fits : fitsU W H us m.2.2.2.2.1 = true
  three : 3 ≤ (boxOf m.2.2.2.1 m.2.2.2.2.1).length
theorem back_run {W H : Int} {us : List Int} {p : Pose} {d n : Int} (hW : W ≤ 16) (hH : H ≤ 16) (hd : 0 ≤ d ∧ d ≤ 3) (hn : 1 ≤ n ∧ n ≤ 16) (h : legalU W H us (runM p d n) = true) : Back W H us p (runM p d n) := by
  obtain ⟨hf, hk⟩ := (legal_run hW hH hd hn).1 h
  obtain ⟨n1, n2, n3, n4⟩ := fits_near hW hH hf
  have ht := hk n hn.1 (Int.le_refl _)
  obtain ⟨t1, t2, t3, t4⟩ := fits_near hW hH ht
  have hs := fun k (q : 0 ≤ k) (r : k ≤ 16) => shift_small (p := p) (d := d) (k := k) (by omega) (by omega) (by omega) (by omega) q r
  have hdd : 0 ≤ (d + 2).tmod 4 ∧ (d + 2).tmod 4 ≤ 3 ∧ dx ((d + 2).tmod 4) = - dx d ∧ dy ((d + 2).tmod 4) = - dy d := by
    rcases (show d = 0 ∨ d = 1 ∨ d = 2 ∨ d = 3 by omega) with rfl | rfl | rfl | rfl <;> decide
  have hs2 := fun k (q : 0 ≤ k) (r : k ≤ 16) => shift_small (p := shiftP p d n) (d := (d + 2).tmod 4) (k := k) (by omega) (by omega) (by omega) (by omega) q r
  have hb : ∀ k, 0 ≤ k → k ≤ n → shiftP (shiftP p d n) ((d + 2).tmod 4) k = shiftP p d (n - k) := by
    intro k k1 k2
    rw [hs2 k k1 (by omega), hdd.2.2.1, hdd.2.2.2, hs n (by omega) (by omega), hs (n - k) (by omega) (by omega)]
    rcases (show d = 0 ∨ d = 1 ∨ d = 2 ∨ d = 3 by omega) with rfl | rfl | rfl | rfl <;> simp [dx, dy] <;> omega
  have e0 : shiftP (shiftP p d n) ((d + 2).tmod 4) n = p := by rw [hb n (by omega) (Int.le_refl _), Int.sub_self, shift_zero n1 n2 n3 n4]
  have hback : backM (runM p d n) = runM (shiftP p d n) ((d + 2).tmod 4) n := by
    unfold backM runM
    simp only [if_true]
    rw [e0]
  refine ⟨rfl, h, ?_, ht, ?_⟩
  · rw [hback]
    refine (legal_run hW hH ⟨hdd.1, hdd.2.1⟩ hn).2 ⟨ht, fun k k1 k2 => ?_⟩
    rw [hb k (by omega) k2]
    by_cases hz : n - k = 0
    · rw [hz, shift_zero n1 n2 n3 n4]; exact hf
    · exact hk (n - k) (by omega) (by omega)
  · show 3 ≤ (boxOf p (shiftP p d n)).length
    have hsec := second_small (p := shiftP p d n) (by omega) (by omega) (by omega) (by omega)
    have hsp := second_small (p := p) (by omega) (by omega) (by omega) (by omega)
    unfold boxOf spanP
    rw [boxList_len, hsec, hsp, hs n (by omega) (by omega)]
    obtain ⟨⟨x, y⟩, b⟩ := p
    refine prod3 ?_
    rcases (show d = 0 ∨ d = 1 ∨ d = 2 ∨ d = 3 by omega) with rfl | rfl | rfl | rfl <;> cases b <;> simp [dx, dy] <;> omega
theorem back_turn {W H : Int} {us : List Int} {p : Pose} (hW : W ≤ 16) (hH : H ≤ 16) (h : legalU W H us (turnM p) = true) : Back W H us p (turnM p) := by
  have h0 := h
  have e2 : legalU W H us (turnM p) = (fitsU W H us p && (boxOf p (turnP p)).all (openU W H us)) := by
    unfold legalU turnM leadsP
    simp [still]
  rw [e2, Bool.and_eq_true] at h
  obtain ⟨hf, hb⟩ := h
  obtain ⟨n1, n2, n3, n4⟩ := fits_near hW hH hf
  have hsp := second_small (p := p) (by omega) (by omega) (by omega) (by omega)
  have hst := second_small (p := turnP p) (by show -200 ≤ p.1.1; omega) (by show p.1.1 ≤ 200; omega) (by show -200 ≤ p.1.2; omega) (by show p.1.2 ≤ 200; omega)
  have hall := List.all_eq_true.1 hb
  have hft : fitsU W H us (turnP p) = true := by
    refine fits_iff.2 ⟨hall _ ?_, hall _ ?_⟩
    · unfold boxOf spanP
      rw [mem_boxList, hsp, hst]
      obtain ⟨⟨x, y⟩, b⟩ := p
      cases b <;> simp [turnP] <;> omega
    · unfold boxOf spanP
      rw [mem_boxList, hsp, hst]
      obtain ⟨⟨x, y⟩, b⟩ := p
      cases b <;> simp [turnP] <;> omega
  have htt : turnP (turnP p) = p := by unfold turnP; simp
  refine ⟨rfl, h0, ?_, hft, ?_⟩
  · have e : backM (turnM p) = turnM (turnP p) := by unfold backM turnM; simp only [htt]; rfl
    have e3 : legalU W H us (turnM (turnP p)) = (fitsU W H us (turnP p) && (boxOf (turnP p) (turnP (turnP p))).all (openU W H us)) := by
      unfold legalU turnM leadsP
      simp [still]
    rw [e, e3, htt, box_symm, Bool.and_eq_true]
    exact ⟨hft, hb⟩
  · show 3 ≤ (boxOf p (turnP p)).length
    unfold boxOf spanP
    rw [boxList_len, hsp, hst]
    refine prod3 ?_
    obtain ⟨⟨x, y⟩, b⟩ := p
    cases b <;> simp [turnP] <;> omega
theorem back_all {W H : Int} {us : List Int} {p : Pose} {m : Move} (hW : W ≤ 16) (hH : H ≤ 16) (h : m ∈ movesP W H us p) : Back W H us p m := by
  unfold movesP at h
  split at h
  · rename_i hf
    rcases List.mem_append.1 h with q | q
    · obtain ⟨i, hi, q⟩ := (mem_dirs 4).1 q
      obtain ⟨j, j1, j2, rfl, q2⟩ := (mem_dir hW hH ⟨by omega, by omega⟩ hf).1 q
      exact back_run hW hH ⟨by omega, by omega⟩ ⟨by omega, by omega⟩ q2
    · unfold lastP at q
      split at q
      · rename_i hl
        have := List.mem_singleton.1 q
        rw [this]
        exact back_turn hW hH hl
      · simp at q
  · simp at h
end Go.Proofs.YtedhoghleelhfaaGreat.Grid
namespace Go.Proofs.YtedhoghleelhfaaGreat.Grid
set_option linter.unusedVariables false
set_option linter.unusedSimpArgs false
open Go Go.RowKit Go.Shelf Go.Proofs
attribute [local go_sem] Oper.semAt_some

theorem fits_told {c : Conf} {G : GS} (h : newP c = some G) (p : Pose) : fitsU c.W c.H G.uses p = decide (fitsR c p) := by
  rw [Bool.eq_iff_iff, decide_eq_true_eq]
  unfold fitsU
  rw [open_same h, open_same h, Bool.and_eq_true, decide_eq_true_eq, decide_eq_true_eq]
  exact Iff.rfl
/- What the chapter asks of a move, case by case. -/
theorem legal_nofit {W H : Int} {us : List Int} {m : Move} (h : fitsU W H us m.2.2.2.1 = false) : legalU W H us m = false := by
  unfold legalU; rw [h]; simp
theorem legal_far {W H : Int} {us : List Int} {m : Move} (h1 : m.1 = 1) (h : (decide (1 ≤ m.2.2.1) && decide (m.2.2.1 ≤ 16)) = false ∨ (decide (0 ≤ m.2.1) && decide (m.2.1 ≤ 3)) = false) : legalU W H us m = false := by
  unfold legalU leadsP mayShift
  rw [if_pos h1]
  rw [Bool.eq_false_iff]
  intro q
  simp only [Bool.and_eq_true, decide_eq_true_eq] at q
  rcases h with h | h <;> (rw [Bool.eq_false_iff] at h; apply h; simp only [Bool.and_eq_true, decide_eq_true_eq]; omega)
theorem legal_else {W H : Int} {us : List Int} {m : Move} (h1 : m.1 = 1) (hd : 0 ≤ m.2.1 ∧ m.2.1 ≤ 3) (hn : 1 ≤ m.2.2.1 ∧ m.2.2.1 ≤ 16) (h : m.2.2.2.2.1 ≠ shiftP m.2.2.2.1 m.2.1 m.2.2.1) : legalU W H us m = false := by
  have hm : mayShift m.2.1 m.2.2.1 = true := by unfold mayShift; simp; omega
  unfold legalU leadsP shiftR
  rw [if_pos h1, if_pos hm, decide_eq_false h]
  simp
theorem legal_run2 {W H : Int} {us : List Int} {m : Move} (hW : W ≤ 16) (hH : H ≤ 16) (h1 : m.1 = 1) (hd : 0 ≤ m.2.1 ∧ m.2.1 ≤ 3) (hn : 1 ≤ m.2.2.1 ∧ m.2.2.1 ≤ 16) (h : m.2.2.2.2.1 = shiftP m.2.2.2.1 m.2.1 m.2.2.1) (hf : fitsU W H us m.2.2.2.1 = true) :
    legalU W H us m = true ↔ ∀ k, 1 ≤ k → k ≤ m.2.2.1 → fitsU W H us (shiftP m.2.2.2.1 m.2.1 k) = true := by
  obtain ⟨kd, dir, n, f, to, ma, me⟩ := m
  simp only at *
  subst h1 h
  have := legal_run (us := us) (p := f) hW hH hd hn
  rw [show legalU W H us (1, dir, n, f, shiftP f dir n, ma, me) = legalU W H us (runM f dir n) from rfl, this]
  exact ⟨fun q => q.2, fun q => ⟨hf, q⟩⟩
theorem legal_other {W H : Int} {us : List Int} {m : Move} (h1 : m.1 ≠ 1) (h2 : m.1 ≠ 2) (h3 : m.1 ≠ 3) (h4 : m.1 ≠ 4) : legalU W H us m = false := by
  unfold legalU leadsP
  rw [if_neg h1, if_neg h2, if_neg (by omega)]
  simp
theorem legal_turn {W H : Int} {us : List Int} {m : Move} (hW : W ≤ 16) (hH : H ≤ 16) (h2 : m.1 = 2) (hf : fitsU W H us m.2.2.2.1 = true) :
    legalU W H us m = (openU W H us m.2.2.2.1.1 && openU W H us (m.2.2.2.1.1.1 + 1, m.2.2.2.1.1.2) && openU W H us (m.2.2.2.1.1.1, m.2.2.2.1.1.2 + 1) && openU W H us (m.2.2.2.1.1.1 + 1, m.2.2.2.1.1.2 + 1) && decide (m.2.2.1 = 0) && decide (m.2.1 = 0) && decide (m.2.2.2.2.1 = (m.2.2.2.1.1, !m.2.2.2.1.2))) := by
  obtain ⟨kd, dir, n, ⟨⟨x, y⟩, b⟩, to, ma, me⟩ := m
  simp only at *
  subst h2
  obtain ⟨n1, n2, n3, n4⟩ := fits_near hW hH hf
  simp only at n1 n2 n3 n4
  unfold legalU leadsP
  simp only [show ¬ (2 : Int) = 1 by decide, if_false, if_true]
  rw [hf, Bool.and_true]
  have e : (boxOf ((x, y), b) (turnP ((x, y), b))).all (openU W H us) = (openU W H us (x, y) && openU W H us (x + 1, y) && openU W H us (x, y + 1) && openU W H us (x + 1, y + 1)) := by
    have hsp := second_small (p := ((x, y), b)) (by simp only; omega) (by simp only; omega) (by simp only; omega) (by simp only; omega)
    have hst := second_small (p := turnP ((x, y), b)) (by show -200 ≤ x; omega) (by show x ≤ 200; omega) (by show -200 ≤ y; omega) (by show y ≤ 200; omega)
    rw [Bool.eq_iff_iff, List.all_eq_true]
    simp only [Bool.and_eq_true, and_assoc]
    unfold boxOf spanP
    rw [hsp, hst]
    constructor
    · intro q
      refine ⟨q _ ?_, q _ ?_, q _ ?_, q _ ?_⟩ <;> (rw [mem_boxList]; cases b <;> simp [turnP] <;> omega)
    · rintro ⟨q1, q2, q3, q4⟩ ⟨cx, cy⟩ hm
      rw [mem_boxList] at hm
      have hx : (cx = x ∨ cx = x + 1) ∧ (cy = y ∨ cy = y + 1) := by
        cases b <;> simp [turnP] at hm <;> omega
      rcases hx with ⟨rfl | rfl, rfl | rfl⟩ <;> assumption
  rw [e]
  unfold still turnP
  simp only
  cases openU W H us (x, y) <;> cases openU W H us (x + 1, y) <;> cases openU W H us (x, y + 1) <;> cases openU W H us (x + 1, y + 1) <;> simp [Bool.and_comm, Bool.and_assoc]
theorem legal_still {W H : Int} {us : List Int} {m : Move} (hW : W ≤ 16) (hH : H ≤ 16) (h3 : m.1 = 3 ∨ m.1 = 4) (hf : fitsU W H us m.2.2.2.1 = true) :
    legalU W H us m = (decide (m.2.2.1 = 0) && decide (m.2.1 = 0) && decide (m.2.2.2.2.1 = m.2.2.2.1)) := by
  obtain ⟨kd, dir, n, p, to, ma, me⟩ := m
  simp only at *
  obtain ⟨n1, n2, n3, n4⟩ := fits_near hW hH hf
  have hsp := second_small (p := p) (by omega) (by omega) (by omega) (by omega)
  have ho := fits_iff.1 hf
  have e : (boxOf p p).all (openU W H us) = true := by
    rw [List.all_eq_true]
    rintro ⟨cx, cy⟩ hm
    unfold boxOf spanP at hm
    rw [hsp] at hm ho
    rw [mem_boxList] at hm
    obtain ⟨⟨x, y⟩, b⟩ := p
    have hx : (cx, cy) = (x, y) ∨ (cx, cy) = (if b = true then (x, y + 1) else (x + 1, y)) := by
      cases b <;> simp at hm ⊢ <;> omega
    rcases hx with e | e
    · rw [e]; exact ho.1
    · rw [e]; cases b <;> simpa using ho.2
  unfold legalU leadsP
  rw [if_neg (by simp only; omega), if_neg (by simp only; omega), if_pos h3]
  simp only
  rw [hf, e]
  unfold still
  simp [Bool.and_comm]
theorem pose_at2 {w : World} {b : Nat} {cs : Array Value} {t : TypeId} {x y : Int} {d : Bool} (h : w.heap[b]? = some (.cells cs t (0, 0))) (o : Nat) (h0 : cs[o]? = some (.int .i64 x)) (h1 : cs[o + 1]? = some (.int .i64 y)) (h2 : cs[o + 2]? = some (.bool d)) : ∀ j z, #[Value.int .i64 x, .int .i64 y, .bool d][j]? = some z → w.cell? ((⟨b, o, none⟩ : Addr).add j) = some z := by
  intro j z hj
  rw [Addr.add_lit]
  match j with
  | 0 => simp at hj; rw [← hj]; exact (cell_of h _).trans h0
  | 1 => simp at hj; rw [← hj]; exact (cell_of h _).trans h1
  | 2 => simp at hj; rw [← hj]; exact (cell_of h _).trans h2
  | j + 3 => simp at hj
theorem pose_below2 {w u : World} {b : Nat} {cs : Array Value} {t : TypeId} {x y : Int} {d : Bool} (h : w.heap[b]? = some (.cells cs t (0, 0))) (o : Nat) (h0 : cs[o]? = some (.int .i64 x)) (h1 : cs[o + 1]? = some (.int .i64 y)) (h2 : cs[o + 2]? = some (.bool d)) (hu : Below w.heap.size w u) : ∀ j z, #[Value.int .i64 x, .int .i64 y, .bool d][j]? = some z → u.cell? ((⟨b, o, none⟩ : Addr).add j) = some z :=
  pose_at2 ((hu.block _ (lt_of_heap h)).trans h) o h0 h1 h2
theorem within_call (v lo hi : Int) (w : World) : Calls Tryz.prog 50 #[.int .i64 v, .int .i64 lo, .int .i64 hi] w fun e w' => ∃ r, e = .returned r ∧ (r = .bool (decide (lo ≤ v) && decide (v ≤ hi)) ∧ Below w.heap.size w w') :=
  (withinR_any v lo hi w).mono fun e w' ⟨h1, h2⟩ => ⟨_, h1, rfl, by rw [h2]; exact Below.refl _ _⟩
theorem eqPose4 (x y : Int) (d : Bool) (x' y' : Int) (d' : Bool) (w : World) : (Op.equalIn 10000 42 (.agg #[.int .i64 x, .int .i64 y, .bool d]) (.agg #[.int .i64 x', .int .i64 y', .bool d'])).run Tryz.prog w = .ok (decide (((x, y), d) = ((x', y'), d'))) w := by
  go_simp
  repeat' split
  all_goals simp_all
theorem guardPose4 : Tryz.prog.eqGuardType Tryz.prog.depth 42 = false := by kernel_rfl
theorem run_neq_pose4 {o : Oper} {a : Act} {w : World} (x y : Operand) (ho : o.op = .binOp .neq 42 x y 42) (p q : Int) (d : Bool) (p' q' : Int) (d' : Bool) (hx : a.eval x = .agg #[.int .i64 p, .int .i64 q, .bool d]) (hy : a.eval y = .agg #[.int .i64 p', .int .i64 q', .bool d']) :
    (execOp a.eval o).run Tryz.prog w = .ok (.value (.bool (!decide (((p, q), d) = ((p', q'), d'))))) w := by
  unfold execOp
  simp only [ho, hx, hy, Sem.run_bind, Sem.run_pure, Result.andThen_ok, run_eqGuard_agg _ _ _ _ _ _ _ guardPose4, run_neq_struct, eqPose4]
set_option maxRecDepth 100000 in
set_option maxHeartbeats 4000000 in
theorem rlegal_nofit (c : Conf) (vb vp vr vs : Value) (w : World) (hA : ConfAt (Old w) c vb vp vr vs w) (l1 : c.blocked.length ≤ 8796093022208) (l2 : c.ports.length ≤ 8796093022208) (l3 : c.robots.length ≤ 5864062014805) (l4 : c.stacks.length ≤ 3518437208880) (l5 : ∀ s ∈ c.stacks, s.2.length ≤ 17592186044416) (dir n fx fy tx ty ma me kd : Int) (fd td : Bool) (hf0 : decide (fitsR c ((fx, fy), fd)) = false) : Calls Tryz.prog 63 #[.agg #[.int .i64 c.W, .int .i64 c.H, .int .i64 c.height, vb, vp, vr, vs, .int .i64 c.unit, .int .i64 c.accel, .int .i64 c.speed, .int .i64 c.turn, .int .i64 c.hoist, .int .i64 c.queue, .int .i64 c.resend, .int .i64 c.budget, .bool c.back], .agg #[.int .i64 kd, .int .i64 dir, .int .i64 n, .int .i64 fx, .int .i64 fy, .bool fd, .int .i64 tx, .int .i64 ty, .bool td, .int .i64 ma, .int .i64 me]] w fun e w' => ∃ r, e = .returned r ∧ (r = .bool false ∧ Below w.heap.size w w') := by
  have L := fun (u : World) (b : Below w.heap.size w u) g (hg : Old w g) => Nat.lt_of_lt_of_le hg b.size
  have hAu := fun u (b : Below w.heap.size w u) => hA.go (fun _ h => h) b
  have Q0 := two_new w #[.int .i64 c.W, .int .i64 c.H, .int .i64 c.height, vb, vp, vr, vs, .int .i64 c.unit, .int .i64 c.accel, .int .i64 c.speed, .int .i64 c.turn, .int .i64 c.hoist, .int .i64 c.queue, .int .i64 c.resend, .int .i64 c.budget, .bool c.back] #[.int .i64 kd, .int .i64 dir, .int .i64 n, .int .i64 fx, .int .i64 fy, .bool fd, .int .i64 tx, .int .i64 ty, .bool td, .int .i64 ma, .int .i64 me] 44
  have cF := fun u (b : Below w.heap.size w u) => fitsR_any (Old w) c vb vp vr vs fx fy fd u (hAu u b) (L u b) (by omega)
  rw [hf0] at cF
  clear hA L hAu
  go_enter Tryz.func63, Tryz.ntmps63
  go_wp2_with (first
    | (refine wpList_load_row rfl 26 (.tmp 2) rfl w.heap.size rfl 26 #[.int .i64 c.W, .int .i64 c.H, .int .i64 c.height, vb, vp, vr, vs, .int .i64 c.unit, .int .i64 c.accel, .int .i64 c.speed, .int .i64 c.turn, .int .i64 c.hoist, .int .i64 c.queue, .int .i64 c.resend, .int .i64 c.budget, .bool c.back] (0, 0) _ Q0.a Tryz.underlying26 rfl info_conf ?_)
    | (go_at_call 22; refine (cF _ Q0.below).mono ?_; rintro e w1 ⟨r1, rfl, rfl, b1⟩; have Q1 := Q0.go b1; have q0 := cell_of Q1.b 0; have q1 := cell_of Q1.b 1; have q2 := cell_of Q1.b 2; have q3 := cell_of Q1.b 3; have q4 := cell_of Q1.b 4; have q5 := cell_of Q1.b 5; have q6 := cell_of Q1.b 6; have q7 := cell_of Q1.b 7; have q8 := cell_of Q1.b 8))
  go_ret
  exact ⟨_, rfl, rfl, Q1.below⟩
set_option maxRecDepth 100000 in
set_option maxHeartbeats 4000000 in
theorem rlegal_other (c : Conf) (vb vp vr vs : Value) (w : World) (hA : ConfAt (Old w) c vb vp vr vs w) (l1 : c.blocked.length ≤ 8796093022208) (l2 : c.ports.length ≤ 8796093022208) (l3 : c.robots.length ≤ 5864062014805) (l4 : c.stacks.length ≤ 3518437208880) (l5 : ∀ s ∈ c.stacks, s.2.length ≤ 17592186044416) (dir n fx fy tx ty ma me kd : Int) (fd td : Bool) (hf1 : decide (fitsR c ((fx, fy), fd)) = true) (h1 : (kd == 1) = false) (h2 : (kd == 2) = false) (h3 : (kd == 3) = false) (h4 : (kd == 4) = false) : Calls Tryz.prog 63 #[.agg #[.int .i64 c.W, .int .i64 c.H, .int .i64 c.height, vb, vp, vr, vs, .int .i64 c.unit, .int .i64 c.accel, .int .i64 c.speed, .int .i64 c.turn, .int .i64 c.hoist, .int .i64 c.queue, .int .i64 c.resend, .int .i64 c.budget, .bool c.back], .agg #[.int .i64 kd, .int .i64 dir, .int .i64 n, .int .i64 fx, .int .i64 fy, .bool fd, .int .i64 tx, .int .i64 ty, .bool td, .int .i64 ma, .int .i64 me]] w fun e w' => ∃ r, e = .returned r ∧ (r = .bool false ∧ Below w.heap.size w w') := by
  have L := fun (u : World) (b : Below w.heap.size w u) g (hg : Old w g) => Nat.lt_of_lt_of_le hg b.size
  have hAu := fun u (b : Below w.heap.size w u) => hA.go (fun _ h => h) b
  have Q0 := two_new w #[.int .i64 c.W, .int .i64 c.H, .int .i64 c.height, vb, vp, vr, vs, .int .i64 c.unit, .int .i64 c.accel, .int .i64 c.speed, .int .i64 c.turn, .int .i64 c.hoist, .int .i64 c.queue, .int .i64 c.resend, .int .i64 c.budget, .bool c.back] #[.int .i64 kd, .int .i64 dir, .int .i64 n, .int .i64 fx, .int .i64 fy, .bool fd, .int .i64 tx, .int .i64 ty, .bool td, .int .i64 ma, .int .i64 me] 44
  have cF := fun u (b : Below w.heap.size w u) => fitsR_any (Old w) c vb vp vr vs fx fy fd u (hAu u b) (L u b) (by omega)
  rw [hf1] at cF
  clear hA 
  go_enter Tryz.func63, Tryz.ntmps63
  go_wp2_with (first
    | (refine wpList_load_row rfl 26 (.tmp 2) rfl w.heap.size rfl 26 #[.int .i64 c.W, .int .i64 c.H, .int .i64 c.height, vb, vp, vr, vs, .int .i64 c.unit, .int .i64 c.accel, .int .i64 c.speed, .int .i64 c.turn, .int .i64 c.hoist, .int .i64 c.queue, .int .i64 c.resend, .int .i64 c.budget, .bool c.back] (0, 0) _ Q0.a Tryz.underlying26 rfl info_conf ?_)
    | (go_at_call 22; refine (cF _ Q0.below).mono ?_; rintro e w1 ⟨r1, rfl, rfl, b1⟩; have Q1 := Q0.go b1; have q0 := cell_of Q1.b 0; have q1 := cell_of Q1.b 1; have q2 := cell_of Q1.b 2; have q3 := cell_of Q1.b 3; have q4 := cell_of Q1.b 4; have q5 := cell_of Q1.b 5; have q6 := cell_of Q1.b 6; have q7 := cell_of Q1.b 7; have q8 := cell_of Q1.b 8))
  go_ret
  exact ⟨_, rfl, rfl, Q1.below⟩
set_option maxRecDepth 100000 in
set_option maxHeartbeats 4000000 in
theorem rlegal_far (c : Conf) (vb vp vr vs : Value) (w : World) (hA : ConfAt (Old w) c vb vp vr vs w) (l1 : c.blocked.length ≤ 8796093022208) (l2 : c.ports.length ≤ 8796093022208) (l3 : c.robots.length ≤ 5864062014805) (l4 : c.stacks.length ≤ 3518437208880) (l5 : ∀ s ∈ c.stacks, s.2.length ≤ 17592186044416) (dir n fx fy tx ty ma me : Int) (fd td : Bool) (hf1 : decide (fitsR c ((fx, fy), fd)) = true) (hw1 : (decide (1 ≤ n) && decide (n ≤ 16)) = false) : Calls Tryz.prog 63 #[.agg #[.int .i64 c.W, .int .i64 c.H, .int .i64 c.height, vb, vp, vr, vs, .int .i64 c.unit, .int .i64 c.accel, .int .i64 c.speed, .int .i64 c.turn, .int .i64 c.hoist, .int .i64 c.queue, .int .i64 c.resend, .int .i64 c.budget, .bool c.back], .agg #[.int .i64 1, .int .i64 dir, .int .i64 n, .int .i64 fx, .int .i64 fy, .bool fd, .int .i64 tx, .int .i64 ty, .bool td, .int .i64 ma, .int .i64 me]] w fun e w' => ∃ r, e = .returned r ∧ (r = .bool false ∧ Below w.heap.size w w') := by
  have L := fun (u : World) (b : Below w.heap.size w u) g (hg : Old w g) => Nat.lt_of_lt_of_le hg b.size
  have hAu := fun u (b : Below w.heap.size w u) => hA.go (fun _ h => h) b
  have Q0 := two_new w #[.int .i64 c.W, .int .i64 c.H, .int .i64 c.height, vb, vp, vr, vs, .int .i64 c.unit, .int .i64 c.accel, .int .i64 c.speed, .int .i64 c.turn, .int .i64 c.hoist, .int .i64 c.queue, .int .i64 c.resend, .int .i64 c.budget, .bool c.back] #[.int .i64 1, .int .i64 dir, .int .i64 n, .int .i64 fx, .int .i64 fy, .bool fd, .int .i64 tx, .int .i64 ty, .bool td, .int .i64 ma, .int .i64 me] 44
  have cF := fun u (b : Below w.heap.size w u) => fitsR_any (Old w) c vb vp vr vs fx fy fd u (hAu u b) (L u b) (by omega)
  have cW1 := fun u => within_call n 1 16 u
  rw [hw1] at cW1
  rw [hf1] at cF
  clear hA 
  go_enter Tryz.func63, Tryz.ntmps63
  go_wp2_with (first
    | (refine wpList_load_row rfl 26 (.tmp 2) rfl w.heap.size rfl 26 #[.int .i64 c.W, .int .i64 c.H, .int .i64 c.height, vb, vp, vr, vs, .int .i64 c.unit, .int .i64 c.accel, .int .i64 c.speed, .int .i64 c.turn, .int .i64 c.hoist, .int .i64 c.queue, .int .i64 c.resend, .int .i64 c.budget, .bool c.back] (0, 0) _ Q0.a Tryz.underlying26 rfl info_conf ?_)
    | (go_at_call 22; refine (cF _ Q0.below).mono ?_; rintro e w1 ⟨r1, rfl, rfl, b1⟩; have Q1 := Q0.go b1; have q0 := cell_of Q1.b 0; have q1 := cell_of Q1.b 1; have q2 := cell_of Q1.b 2; have q3 := cell_of Q1.b 3; have q4 := cell_of Q1.b 4; have q5 := cell_of Q1.b 5; have q6 := cell_of Q1.b 6; have q7 := cell_of Q1.b 7; have q8 := cell_of Q1.b 8))
  have B := Q1.below
  have eB := Q1.b
  obtain ⟨IH, hIH⟩ : ∃ I : World → Prop, I = Below w1.heap.size w1 := ⟨_, rfl⟩
  have kI : ∀ u, IH u → Below w1.heap.size w1 u := fun u hu => by rw [hIH] at hu; exact hu
  have hS : IH w1.drew := by rw [hIH]; exact (Below.refl _ _).drew
  have D0 : Below w1.heap.size w1 w1.drew := (Below.refl _ _).drew
  have z1 : ∀ u, IH u → u.cell? ⟨w.heap.size + 1, 1, none⟩ = some (.int .i64 dir) := fun u hu => cell_below q1 (kI u hu)
  have z2 : ∀ u, IH u → u.cell? ⟨w.heap.size + 1, 2, none⟩ = some (.int .i64 n) := fun u hu => cell_below q2 (kI u hu)
  have HF : Hid (∀ u, IH u → ∀ j z, #[Value.int .i64 fx, .int .i64 fy, .bool fd][j]? = some z → u.cell? ((⟨w.heap.size + 1, 3, none⟩ : Addr).add j) = some z) := fun u hu => pose_below2 eB 3 rfl rfl rfl (kI u hu)
  have HT : Hid (∀ u, IH u → ∀ j z, #[Value.int .i64 tx, .int .i64 ty, .bool td][j]? = some z → u.cell? ((⟨w.heap.size + 1, 6, none⟩ : Addr).add j) = some z) := fun u hu => pose_below2 eB 6 rfl rfl rfl (kI u hu)
  clear q0 q1 q2 q3 q4 q5 q6 q7 q8 eB
  refine start_held (S := IH) 22 rfl (by kernel_rfl) (hS) ?_
  simp only [Array.replicate_succ, Array.replicate_zero, List.push_toArray, List.nil_append, List.cons_append]
  refine tkq 0 (by assumption) ?_
  refine tkf 1 (by assumption) rfl (fun u hu => by have zz0 := z2 u hu; go_simp; try rfl) ?_
  refine wpAnyH_ready (rs := [2]) (by kernel_rfl) (by simp) (AllReadyH.cons ((nth_eq _ 2).trans rfl) ?_ AllReadyH.nil)
  intro K' hK
  refine call_in hK (by kernel_rfl) 50 #[.int .i64 n, .int .i64 1, .int .i64 16] (by go_simp) _ (cW1 _) ?_
  rintro v w5 ⟨rfl, b5⟩
  have D5 := bcat D0 b5 (Nat.le_refl _)
  have hS5 : IH w5 := by rw [hIH]; exact D5
  refine ⟨hS5, ?_⟩
  simp only [Act.put, List.setIfInBounds_toArray, List.set_cons_zero, List.set_cons_succ]
  refine tkq 3 (by assumption) ?_
  refine tkq 4 (by assumption) ?_
  refine skq 5 (by assumption) ?_
  refine skq 6 (by assumption) ?_
  refine skq 7 (by assumption) ?_
  refine skq 8 (by assumption) ?_
  refine tkq 9 (by assumption) ?_
  refine tkq 10 (by assumption) ?_
  refine skq 11 (by assumption) ?_
  refine skq 12 (by assumption) ?_
  refine skq 13 (by assumption) ?_
  refine skq 14 (by assumption) ?_
  refine skq 15 (by assumption) ?_
  refine skq 16 (by assumption) ?_
  refine skq 17 (by assumption) ?_
  refine skq 18 (by assumption) ?_
  refine skq 19 (by assumption) ?_
  refine skq 20 (by assumption) ?_
  refine tkq 21 (by assumption) ?_
  refine done_held (by kernel_rfl) ?_ _
  go_wp2
  go_ret
  exact ⟨_, rfl, rfl, bcat B D5 (Nat.le_refl _)⟩
set_option maxRecDepth 100000 in
set_option maxHeartbeats 4000000 in
theorem rlegal_dir (c : Conf) (vb vp vr vs : Value) (w : World) (hA : ConfAt (Old w) c vb vp vr vs w) (l1 : c.blocked.length ≤ 8796093022208) (l2 : c.ports.length ≤ 8796093022208) (l3 : c.robots.length ≤ 5864062014805) (l4 : c.stacks.length ≤ 3518437208880) (l5 : ∀ s ∈ c.stacks, s.2.length ≤ 17592186044416) (dir n fx fy tx ty ma me : Int) (fd td : Bool) (hf1 : decide (fitsR c ((fx, fy), fd)) = true) (hw1 : (decide (1 ≤ n) && decide (n ≤ 16)) = true) (hw2 : (decide (0 ≤ dir) && decide (dir ≤ 3)) = false) : Calls Tryz.prog 63 #[.agg #[.int .i64 c.W, .int .i64 c.H, .int .i64 c.height, vb, vp, vr, vs, .int .i64 c.unit, .int .i64 c.accel, .int .i64 c.speed, .int .i64 c.turn, .int .i64 c.hoist, .int .i64 c.queue, .int .i64 c.resend, .int .i64 c.budget, .bool c.back], .agg #[.int .i64 1, .int .i64 dir, .int .i64 n, .int .i64 fx, .int .i64 fy, .bool fd, .int .i64 tx, .int .i64 ty, .bool td, .int .i64 ma, .int .i64 me]] w fun e w' => ∃ r, e = .returned r ∧ (r = .bool false ∧ Below w.heap.size w w') := by
  have L := fun (u : World) (b : Below w.heap.size w u) g (hg : Old w g) => Nat.lt_of_lt_of_le hg b.size
  have hAu := fun u (b : Below w.heap.size w u) => hA.go (fun _ h => h) b
  have Q0 := two_new w #[.int .i64 c.W, .int .i64 c.H, .int .i64 c.height, vb, vp, vr, vs, .int .i64 c.unit, .int .i64 c.accel, .int .i64 c.speed, .int .i64 c.turn, .int .i64 c.hoist, .int .i64 c.queue, .int .i64 c.resend, .int .i64 c.budget, .bool c.back] #[.int .i64 1, .int .i64 dir, .int .i64 n, .int .i64 fx, .int .i64 fy, .bool fd, .int .i64 tx, .int .i64 ty, .bool td, .int .i64 ma, .int .i64 me] 44
  have cF := fun u (b : Below w.heap.size w u) => fitsR_any (Old w) c vb vp vr vs fx fy fd u (hAu u b) (L u b) (by omega)
  have cW1 := fun u => within_call n 1 16 u
  rw [hw1] at cW1
  have cW2 := fun u => within_call dir 0 3 u
  rw [hw2] at cW2
  rw [hf1] at cF
  clear hA 
  go_enter Tryz.func63, Tryz.ntmps63
  go_wp2_with (first
    | (refine wpList_load_row rfl 26 (.tmp 2) rfl w.heap.size rfl 26 #[.int .i64 c.W, .int .i64 c.H, .int .i64 c.height, vb, vp, vr, vs, .int .i64 c.unit, .int .i64 c.accel, .int .i64 c.speed, .int .i64 c.turn, .int .i64 c.hoist, .int .i64 c.queue, .int .i64 c.resend, .int .i64 c.budget, .bool c.back] (0, 0) _ Q0.a Tryz.underlying26 rfl info_conf ?_)
    | (go_at_call 22; refine (cF _ Q0.below).mono ?_; rintro e w1 ⟨r1, rfl, rfl, b1⟩; have Q1 := Q0.go b1; have q0 := cell_of Q1.b 0; have q1 := cell_of Q1.b 1; have q2 := cell_of Q1.b 2; have q3 := cell_of Q1.b 3; have q4 := cell_of Q1.b 4; have q5 := cell_of Q1.b 5; have q6 := cell_of Q1.b 6; have q7 := cell_of Q1.b 7; have q8 := cell_of Q1.b 8))
  have B := Q1.below
  have eB := Q1.b
  obtain ⟨IH, hIH⟩ : ∃ I : World → Prop, I = Below w1.heap.size w1 := ⟨_, rfl⟩
  have kI : ∀ u, IH u → Below w1.heap.size w1 u := fun u hu => by rw [hIH] at hu; exact hu
  have hS : IH w1.drew := by rw [hIH]; exact (Below.refl _ _).drew
  have D0 : Below w1.heap.size w1 w1.drew := (Below.refl _ _).drew
  have z1 : ∀ u, IH u → u.cell? ⟨w.heap.size + 1, 1, none⟩ = some (.int .i64 dir) := fun u hu => cell_below q1 (kI u hu)
  have z2 : ∀ u, IH u → u.cell? ⟨w.heap.size + 1, 2, none⟩ = some (.int .i64 n) := fun u hu => cell_below q2 (kI u hu)
  have HF : Hid (∀ u, IH u → ∀ j z, #[Value.int .i64 fx, .int .i64 fy, .bool fd][j]? = some z → u.cell? ((⟨w.heap.size + 1, 3, none⟩ : Addr).add j) = some z) := fun u hu => pose_below2 eB 3 rfl rfl rfl (kI u hu)
  have HT : Hid (∀ u, IH u → ∀ j z, #[Value.int .i64 tx, .int .i64 ty, .bool td][j]? = some z → u.cell? ((⟨w.heap.size + 1, 6, none⟩ : Addr).add j) = some z) := fun u hu => pose_below2 eB 6 rfl rfl rfl (kI u hu)
  clear q0 q1 q2 q3 q4 q5 q6 q7 q8 eB
  refine start_held (S := IH) 22 rfl (by kernel_rfl) (hS) ?_
  simp only [Array.replicate_succ, Array.replicate_zero, List.push_toArray, List.nil_append, List.cons_append]
  refine tkq 0 (by assumption) ?_
  refine tkf 1 (by assumption) rfl (fun u hu => by have zz0 := z2 u hu; go_simp; try rfl) ?_
  refine wpAnyH_ready (rs := [2]) (by kernel_rfl) (by simp) (AllReadyH.cons ((nth_eq _ 2).trans rfl) ?_ AllReadyH.nil)
  intro K' hK
  refine call_in hK (by kernel_rfl) 50 #[.int .i64 n, .int .i64 1, .int .i64 16] (by go_simp) _ (cW1 _) ?_
  rintro v w5 ⟨rfl, b5⟩
  have D5 := bcat D0 b5 (Nat.le_refl _)
  have hS5 : IH w5 := by rw [hIH]; exact D5
  refine ⟨hS5, ?_⟩
  simp only [Act.put, List.setIfInBounds_toArray, List.set_cons_zero, List.set_cons_succ]
  refine tkq 3 (by assumption) ?_
  refine tkq 4 (by assumption) ?_
  refine tkq 5 (by assumption) ?_
  refine tkf 6 (by assumption) rfl (fun u hu => by have zz0 := z1 u hu; go_simp; try rfl) ?_
  refine wpAnyH_ready (rs := [7]) (by kernel_rfl) (by simp) (AllReadyH.cons ((nth_eq _ 7).trans rfl) ?_ AllReadyH.nil)
  intro K' hK
  refine call_in hK (by kernel_rfl) 50 #[.int .i64 dir, .int .i64 0, .int .i64 3] (by go_simp) _ (cW2 _) ?_
  rintro v w6 ⟨rfl, b6⟩
  have D6 := bcat D5 b6 (Nat.le_refl _)
  have hS6 : IH w6 := by rw [hIH]; exact D6
  refine ⟨hS6, ?_⟩
  simp only [Act.put, List.setIfInBounds_toArray, List.set_cons_zero, List.set_cons_succ]
  refine tkq 8 (by assumption) ?_
  refine tkq 9 (by assumption) ?_
  refine tkq 10 (by assumption) ?_
  refine skq 11 (by assumption) ?_
  refine skq 12 (by assumption) ?_
  refine skq 13 (by assumption) ?_
  refine skq 14 (by assumption) ?_
  refine skq 15 (by assumption) ?_
  refine skq 16 (by assumption) ?_
  refine skq 17 (by assumption) ?_
  refine skq 18 (by assumption) ?_
  refine skq 19 (by assumption) ?_
  refine skq 20 (by assumption) ?_
  refine tkq 21 (by assumption) ?_
  refine done_held (by kernel_rfl) ?_ _
  go_wp2
  go_ret
  exact ⟨_, rfl, rfl, bcat B D6 (Nat.le_refl _)⟩
set_option maxRecDepth 100000 in
set_option maxHeartbeats 4000000 in
theorem rlegal_else (c : Conf) (vb vp vr vs : Value) (w : World) (hA : ConfAt (Old w) c vb vp vr vs w) (l1 : c.blocked.length ≤ 8796093022208) (l2 : c.ports.length ≤ 8796093022208) (l3 : c.robots.length ≤ 5864062014805) (l4 : c.stacks.length ≤ 3518437208880) (l5 : ∀ s ∈ c.stacks, s.2.length ≤ 17592186044416) (dir n fx fy tx ty ma me : Int) (fd td : Bool) (hf1 : decide (fitsR c ((fx, fy), fd)) = true) (hw1 : (decide (1 ≤ n) && decide (n ≤ 16)) = true) (hw2 : (decide (0 ≤ dir) && decide (dir ≤ 3)) = true) (px py : Int) (pd : Bool) (hsh : shiftP ((fx, fy), fd) dir n = ((px, py), pd)) (hne : decide (((tx, ty), td) = ((px, py), pd)) = false) : Calls Tryz.prog 63 #[.agg #[.int .i64 c.W, .int .i64 c.H, .int .i64 c.height, vb, vp, vr, vs, .int .i64 c.unit, .int .i64 c.accel, .int .i64 c.speed, .int .i64 c.turn, .int .i64 c.hoist, .int .i64 c.queue, .int .i64 c.resend, .int .i64 c.budget, .bool c.back], .agg #[.int .i64 1, .int .i64 dir, .int .i64 n, .int .i64 fx, .int .i64 fy, .bool fd, .int .i64 tx, .int .i64 ty, .bool td, .int .i64 ma, .int .i64 me]] w fun e w' => ∃ r, e = .returned r ∧ (r = .bool false ∧ Below w.heap.size w w') := by
  have L := fun (u : World) (b : Below w.heap.size w u) g (hg : Old w g) => Nat.lt_of_lt_of_le hg b.size
  have hAu := fun u (b : Below w.heap.size w u) => hA.go (fun _ h => h) b
  have Q0 := two_new w #[.int .i64 c.W, .int .i64 c.H, .int .i64 c.height, vb, vp, vr, vs, .int .i64 c.unit, .int .i64 c.accel, .int .i64 c.speed, .int .i64 c.turn, .int .i64 c.hoist, .int .i64 c.queue, .int .i64 c.resend, .int .i64 c.budget, .bool c.back] #[.int .i64 1, .int .i64 dir, .int .i64 n, .int .i64 fx, .int .i64 fy, .bool fd, .int .i64 tx, .int .i64 ty, .bool td, .int .i64 ma, .int .i64 me] 44
  have cF := fun u (b : Below w.heap.size w u) => fitsR_any (Old w) c vb vp vr vs fx fy fd u (hAu u b) (L u b) (by omega)
  have cW1 := fun u => within_call n 1 16 u
  rw [hw1] at cW1
  have cW2 := fun u => within_call dir 0 3 u
  rw [hw2] at cW2
  have cSh := fun u => shiftS_any fx fy fd dir n u
  rw [hsh] at cSh
  unfold poseCs at cSh
  simp only at cSh
  rw [hf1] at cF
  clear hA 
  go_enter Tryz.func63, Tryz.ntmps63
  go_wp2_with (first
    | (refine wpList_load_row rfl 26 (.tmp 2) rfl w.heap.size rfl 26 #[.int .i64 c.W, .int .i64 c.H, .int .i64 c.height, vb, vp, vr, vs, .int .i64 c.unit, .int .i64 c.accel, .int .i64 c.speed, .int .i64 c.turn, .int .i64 c.hoist, .int .i64 c.queue, .int .i64 c.resend, .int .i64 c.budget, .bool c.back] (0, 0) _ Q0.a Tryz.underlying26 rfl info_conf ?_)
    | (go_at_call 22; refine (cF _ Q0.below).mono ?_; rintro e w1 ⟨r1, rfl, rfl, b1⟩; have Q1 := Q0.go b1; have q0 := cell_of Q1.b 0; have q1 := cell_of Q1.b 1; have q2 := cell_of Q1.b 2; have q3 := cell_of Q1.b 3; have q4 := cell_of Q1.b 4; have q5 := cell_of Q1.b 5; have q6 := cell_of Q1.b 6; have q7 := cell_of Q1.b 7; have q8 := cell_of Q1.b 8))
  have B := Q1.below
  have eB := Q1.b
  obtain ⟨IH, hIH⟩ : ∃ I : World → Prop, I = Below w1.heap.size w1 := ⟨_, rfl⟩
  have kI : ∀ u, IH u → Below w1.heap.size w1 u := fun u hu => by rw [hIH] at hu; exact hu
  have hS : IH w1.drew := by rw [hIH]; exact (Below.refl _ _).drew
  have D0 : Below w1.heap.size w1 w1.drew := (Below.refl _ _).drew
  have z1 : ∀ u, IH u → u.cell? ⟨w.heap.size + 1, 1, none⟩ = some (.int .i64 dir) := fun u hu => cell_below q1 (kI u hu)
  have z2 : ∀ u, IH u → u.cell? ⟨w.heap.size + 1, 2, none⟩ = some (.int .i64 n) := fun u hu => cell_below q2 (kI u hu)
  have HF : Hid (∀ u, IH u → ∀ j z, #[Value.int .i64 fx, .int .i64 fy, .bool fd][j]? = some z → u.cell? ((⟨w.heap.size + 1, 3, none⟩ : Addr).add j) = some z) := fun u hu => pose_below2 eB 3 rfl rfl rfl (kI u hu)
  have HT : Hid (∀ u, IH u → ∀ j z, #[Value.int .i64 tx, .int .i64 ty, .bool td][j]? = some z → u.cell? ((⟨w.heap.size + 1, 6, none⟩ : Addr).add j) = some z) := fun u hu => pose_below2 eB 6 rfl rfl rfl (kI u hu)
  clear q0 q1 q2 q3 q4 q5 q6 q7 q8 eB
  refine start_held (S := IH) 22 rfl (by kernel_rfl) (hS) ?_
  simp only [Array.replicate_succ, Array.replicate_zero, List.push_toArray, List.nil_append, List.cons_append]
  refine tkq 0 (by assumption) ?_
  refine tkf 1 (by assumption) rfl (fun u hu => by have zz0 := z2 u hu; go_simp; try rfl) ?_
  refine wpAnyH_ready (rs := [2]) (by kernel_rfl) (by simp) (AllReadyH.cons ((nth_eq _ 2).trans rfl) ?_ AllReadyH.nil)
  intro K' hK
  refine call_in hK (by kernel_rfl) 50 #[.int .i64 n, .int .i64 1, .int .i64 16] (by go_simp) _ (cW1 _) ?_
  rintro v w5 ⟨rfl, b5⟩
  have D5 := bcat D0 b5 (Nat.le_refl _)
  have hS5 : IH w5 := by rw [hIH]; exact D5
  refine ⟨hS5, ?_⟩
  simp only [Act.put, List.setIfInBounds_toArray, List.set_cons_zero, List.set_cons_succ]
  refine tkq 3 (by assumption) ?_
  refine tkq 4 (by assumption) ?_
  refine tkq 5 (by assumption) ?_
  refine tkf 6 (by assumption) rfl (fun u hu => by have zz0 := z1 u hu; go_simp; try rfl) ?_
  refine wpAnyH_ready (rs := [7]) (by kernel_rfl) (by simp) (AllReadyH.cons ((nth_eq _ 7).trans rfl) ?_ AllReadyH.nil)
  intro K' hK
  refine call_in hK (by kernel_rfl) 50 #[.int .i64 dir, .int .i64 0, .int .i64 3] (by go_simp) _ (cW2 _) ?_
  rintro v w6 ⟨rfl, b6⟩
  have D6 := bcat D5 b6 (Nat.le_refl _)
  have hS6 : IH w6 := by rw [hIH]; exact D6
  refine ⟨hS6, ?_⟩
  simp only [Act.put, List.setIfInBounds_toArray, List.set_cons_zero, List.set_cons_succ]
  refine tkq 8 (by assumption) ?_
  refine tkq 9 (by assumption) ?_
  refine tkq 10 (by assumption) ?_
  refine tkq 11 (by assumption) ?_
  refine tkf 12 (by assumption) rfl (v := .agg #[.int .i64 tx, .int .i64 ty, .bool td]) (fun u hu => by exact run_load_op 42 _ rfl ⟨w.heap.size + 1, 6, none⟩ _ rfl (HT.out u hu) (aggPose u) infoPose2) ?_
  refine tkq 13 (by assumption) ?_
  refine tkf 14 (by assumption) rfl (v := .agg #[.int .i64 fx, .int .i64 fy, .bool fd]) (fun u hu => by exact run_load_op 42 _ rfl ⟨w.heap.size + 1, 3, none⟩ _ rfl (HF.out u hu) (aggPose u) infoPose2) ?_
  refine tkq 15 (by assumption) ?_
  refine tkf 16 (by assumption) rfl (fun u hu => by have zz0 := z1 u hu; go_simp; try rfl) ?_
  refine tkq 17 (by assumption) ?_
  refine tkf 18 (by assumption) rfl (fun u hu => by have zz0 := z2 u hu; go_simp; try rfl) ?_
  refine wpAnyH_ready (rs := [19]) (by kernel_rfl) (by simp) (AllReadyH.cons ((nth_eq _ 19).trans rfl) ?_ AllReadyH.nil)
  intro K' hK
  refine call_in hK (by kernel_rfl) 62 #[.agg #[.int .i64 fx, .int .i64 fy, .bool fd], .int .i64 dir, .int .i64 n] (by go_simp) _ (cSh _) ?_
  rintro v w7 ⟨rfl, b7⟩
  have D7 := bcat D6 b7 (Nat.le_refl _)
  have hS7 : IH w7 := by rw [hIH]; exact D7
  refine ⟨hS7, ?_⟩
  simp only [Act.put, List.setIfInBounds_toArray, List.set_cons_zero, List.set_cons_succ]
  refine tkf 20 (by assumption) rfl (v := .bool true) (fun u hu => by exact (run_neq_pose4 _ _ rfl tx ty td px py pd rfl rfl).trans (by rw [hne]; rfl)) ?_
  refine tkq 21 (by assumption) ?_
  refine done_held (by kernel_rfl) ?_ _
  go_wp2
  go_ret
  exact ⟨_, rfl, rfl, bcat B D7 (Nat.le_refl _)⟩
set_option maxRecDepth 100000 in
set_option maxHeartbeats 4000000 in
theorem rlegal_run (c : Conf) (vb vp vr vs : Value) (w : World) (hA : ConfAt (Old w) c vb vp vr vs w) (l1 : c.blocked.length ≤ 8796093022208) (l2 : c.ports.length ≤ 8796093022208) (l3 : c.robots.length ≤ 5864062014805) (l4 : c.stacks.length ≤ 3518437208880) (l5 : ∀ s ∈ c.stacks, s.2.length ≤ 17592186044416) (dir n fx fy tx ty ma me : Int) (fd td : Bool) (hf1 : decide (fitsR c ((fx, fy), fd)) = true) (hw1 : (decide (1 ≤ n) && decide (n ≤ 16)) = true) (hw2 : (decide (0 ≤ dir) && decide (dir ≤ 3)) = true) (hn1 : 1 ≤ n) (hn2 : n ≤ 16) (hsh : shiftP ((fx, fy), fd) dir n = ((tx, ty), td)) (LB : Bool) (hlb : Hid ((∀ k : Int, 1 ≤ k → k ≤ n → fitsR c (shiftP ((fx, fy), fd) dir k)) ↔ LB = true)) : Calls Tryz.prog 63 #[.agg #[.int .i64 c.W, .int .i64 c.H, .int .i64 c.height, vb, vp, vr, vs, .int .i64 c.unit, .int .i64 c.accel, .int .i64 c.speed, .int .i64 c.turn, .int .i64 c.hoist, .int .i64 c.queue, .int .i64 c.resend, .int .i64 c.budget, .bool c.back], .agg #[.int .i64 1, .int .i64 dir, .int .i64 n, .int .i64 fx, .int .i64 fy, .bool fd, .int .i64 tx, .int .i64 ty, .bool td, .int .i64 ma, .int .i64 me]] w fun e w' => ∃ r, e = .returned r ∧ (r = .bool LB ∧ Below w.heap.size w w') := by
  have L := fun (u : World) (b : Below w.heap.size w u) g (hg : Old w g) => Nat.lt_of_lt_of_le hg b.size
  have hAu := fun u (b : Below w.heap.size w u) => hA.go (fun _ h => h) b
  have Q0 := two_new w #[.int .i64 c.W, .int .i64 c.H, .int .i64 c.height, vb, vp, vr, vs, .int .i64 c.unit, .int .i64 c.accel, .int .i64 c.speed, .int .i64 c.turn, .int .i64 c.hoist, .int .i64 c.queue, .int .i64 c.resend, .int .i64 c.budget, .bool c.back] #[.int .i64 1, .int .i64 dir, .int .i64 n, .int .i64 fx, .int .i64 fy, .bool fd, .int .i64 tx, .int .i64 ty, .bool td, .int .i64 ma, .int .i64 me] 44
  have cF := fun u (b : Below w.heap.size w u) => fitsR_any (Old w) c vb vp vr vs fx fy fd u (hAu u b) (L u b) (by omega)
  have cW1 := fun u => within_call n 1 16 u
  rw [hw1] at cW1
  have cW2 := fun u => within_call dir 0 3 u
  rw [hw2] at cW2
  have cSh := fun u => shiftS_any fx fy fd dir n u
  rw [hsh] at cSh
  unfold poseCs at cSh
  simp only at cSh
  rw [hf1] at cF
  clear hA 
  go_enter Tryz.func63, Tryz.ntmps63
  go_wp2_with (first
    | (refine wpList_load_row rfl 26 (.tmp 2) rfl w.heap.size rfl 26 #[.int .i64 c.W, .int .i64 c.H, .int .i64 c.height, vb, vp, vr, vs, .int .i64 c.unit, .int .i64 c.accel, .int .i64 c.speed, .int .i64 c.turn, .int .i64 c.hoist, .int .i64 c.queue, .int .i64 c.resend, .int .i64 c.budget, .bool c.back] (0, 0) _ Q0.a Tryz.underlying26 rfl info_conf ?_)
    | (go_at_call 22; refine (cF _ Q0.below).mono ?_; rintro e w1 ⟨r1, rfl, rfl, b1⟩; have Q1 := Q0.go b1; have q0 := cell_of Q1.b 0; have q1 := cell_of Q1.b 1; have q2 := cell_of Q1.b 2; have q3 := cell_of Q1.b 3; have q4 := cell_of Q1.b 4; have q5 := cell_of Q1.b 5; have q6 := cell_of Q1.b 6; have q7 := cell_of Q1.b 7; have q8 := cell_of Q1.b 8))
  have B := Q1.below
  have eB := Q1.b
  obtain ⟨IH, hIH⟩ : ∃ I : World → Prop, I = Below w1.heap.size w1 := ⟨_, rfl⟩
  have kI : ∀ u, IH u → Below w1.heap.size w1 u := fun u hu => by rw [hIH] at hu; exact hu
  have hS : IH w1.drew := by rw [hIH]; exact (Below.refl _ _).drew
  have D0 : Below w1.heap.size w1 w1.drew := (Below.refl _ _).drew
  have z1 : ∀ u, IH u → u.cell? ⟨w.heap.size + 1, 1, none⟩ = some (.int .i64 dir) := fun u hu => cell_below q1 (kI u hu)
  have z2 : ∀ u, IH u → u.cell? ⟨w.heap.size + 1, 2, none⟩ = some (.int .i64 n) := fun u hu => cell_below q2 (kI u hu)
  have HF : Hid (∀ u, IH u → ∀ j z, #[Value.int .i64 fx, .int .i64 fy, .bool fd][j]? = some z → u.cell? ((⟨w.heap.size + 1, 3, none⟩ : Addr).add j) = some z) := fun u hu => pose_below2 eB 3 rfl rfl rfl (kI u hu)
  have HT : Hid (∀ u, IH u → ∀ j z, #[Value.int .i64 tx, .int .i64 ty, .bool td][j]? = some z → u.cell? ((⟨w.heap.size + 1, 6, none⟩ : Addr).add j) = some z) := fun u hu => pose_below2 eB 6 rfl rfl rfl (kI u hu)
  have eA := Q1.a
  have HC : Hid (∀ u, IH u → ∀ j z, #[.int .i64 c.W, .int .i64 c.H, .int .i64 c.height, vb, vp, vr, vs, .int .i64 c.unit, .int .i64 c.accel, .int .i64 c.speed, .int .i64 c.turn, .int .i64 c.hoist, .int .i64 c.queue, .int .i64 c.resend, .int .i64 c.budget, .bool c.back][j]? = some z → u.cell? ((⟨w.heap.size, 0, none⟩ : Addr).add j) = some z) := fun u hu => row_below eA (kI u hu)
  clear eA q0 q1 q2 q3 q4 q5 q6 q7 q8 eB
  refine start_held (S := IH) 22 rfl (by kernel_rfl) (hS) ?_
  simp only [Array.replicate_succ, Array.replicate_zero, List.push_toArray, List.nil_append, List.cons_append]
  refine tkq 0 (by assumption) ?_
  refine tkf 1 (by assumption) rfl (fun u hu => by have zz0 := z2 u hu; go_simp; try rfl) ?_
  refine wpAnyH_ready (rs := [2]) (by kernel_rfl) (by simp) (AllReadyH.cons ((nth_eq _ 2).trans rfl) ?_ AllReadyH.nil)
  intro K' hK
  refine call_in hK (by kernel_rfl) 50 #[.int .i64 n, .int .i64 1, .int .i64 16] (by go_simp) _ (cW1 _) ?_
  rintro v w5 ⟨rfl, b5⟩
  have D5 := bcat D0 b5 (Nat.le_refl _)
  have hS5 : IH w5 := by rw [hIH]; exact D5
  refine ⟨hS5, ?_⟩
  simp only [Act.put, List.setIfInBounds_toArray, List.set_cons_zero, List.set_cons_succ]
  refine tkq 3 (by assumption) ?_
  refine tkq 4 (by assumption) ?_
  refine tkq 5 (by assumption) ?_
  refine tkf 6 (by assumption) rfl (fun u hu => by have zz0 := z1 u hu; go_simp; try rfl) ?_
  refine wpAnyH_ready (rs := [7]) (by kernel_rfl) (by simp) (AllReadyH.cons ((nth_eq _ 7).trans rfl) ?_ AllReadyH.nil)
  intro K' hK
  refine call_in hK (by kernel_rfl) 50 #[.int .i64 dir, .int .i64 0, .int .i64 3] (by go_simp) _ (cW2 _) ?_
  rintro v w6 ⟨rfl, b6⟩
  have D6 := bcat D5 b6 (Nat.le_refl _)
  have hS6 : IH w6 := by rw [hIH]; exact D6
  refine ⟨hS6, ?_⟩
  simp only [Act.put, List.setIfInBounds_toArray, List.set_cons_zero, List.set_cons_succ]
  refine tkq 8 (by assumption) ?_
  refine tkq 9 (by assumption) ?_
  refine tkq 10 (by assumption) ?_
  refine tkq 11 (by assumption) ?_
  refine tkf 12 (by assumption) rfl (v := .agg #[.int .i64 tx, .int .i64 ty, .bool td]) (fun u hu => by exact run_load_op 42 _ rfl ⟨w.heap.size + 1, 6, none⟩ _ rfl (HT.out u hu) (aggPose u) infoPose2) ?_
  refine tkq 13 (by assumption) ?_
  refine tkf 14 (by assumption) rfl (v := .agg #[.int .i64 fx, .int .i64 fy, .bool fd]) (fun u hu => by exact run_load_op 42 _ rfl ⟨w.heap.size + 1, 3, none⟩ _ rfl (HF.out u hu) (aggPose u) infoPose2) ?_
  refine tkq 15 (by assumption) ?_
  refine tkf 16 (by assumption) rfl (fun u hu => by have zz0 := z1 u hu; go_simp; try rfl) ?_
  refine tkq 17 (by assumption) ?_
  refine tkf 18 (by assumption) rfl (fun u hu => by have zz0 := z2 u hu; go_simp; try rfl) ?_
  refine wpAnyH_ready (rs := [19]) (by kernel_rfl) (by simp) (AllReadyH.cons ((nth_eq _ 19).trans rfl) ?_ AllReadyH.nil)
  intro K' hK
  refine call_in hK (by kernel_rfl) 62 #[.agg #[.int .i64 fx, .int .i64 fy, .bool fd], .int .i64 dir, .int .i64 n] (by go_simp) _ (cSh _) ?_
  rintro v w7 ⟨rfl, b7⟩
  have D7 := bcat D6 b7 (Nat.le_refl _)
  have hS7 : IH w7 := by rw [hIH]; exact D7
  refine ⟨hS7, ?_⟩
  simp only [Act.put, List.setIfInBounds_toArray, List.set_cons_zero, List.set_cons_succ]
  refine tkf 20 (by assumption) rfl (v := .bool false) (fun u hu => by exact (run_neq_pose4 _ _ rfl tx ty td tx ty td rfl rfl).trans (by simp)) ?_
  refine tkq 21 (by assumption) ?_
  refine done_held (by kernel_rfl) ?_ _
  have HW0 : Hid (IH w7) := hS7
  go_wp2
  go_loopw [5] (fun i wq => ∃ k : Nat, 1 ≤ k ∧ (k : Int) ≤ n + 1 ∧ i = .int .i64 k ∧ Hid (∀ j : Int, 1 ≤ j → j < k → fitsR c (shiftP ((fx, fy), fd) dir j)) ∧ Hid (IH wq)) (fun i _ => (n + 1).toNat - (intOf i).toNat)
  case atStart => exact ⟨1, by omega, by omega, rfl, fun j a b => by omega, HW0⟩
  case round =>
    obtain ⟨k, hk1, hk2, rfl, HJ, HI⟩ := hrel
    clear HW0
    have y2 := z2 _ HI.out
    by_cases hlt : (k : Int) ≤ n
    · obtain ⟨⟨⟨sx, sy⟩, sd⟩, hse⟩ : ∃ q, shiftP ((fx, fy), fd) dir (k : Int) = q := ⟨_, rfl⟩
      have cS2 := fun u => shiftS_any fx fy fd dir (k : Int) u
      rw [hse] at cS2
      unfold poseCs at cS2
      simp only at cS2
      have cF2 := fun u (b : Below w.heap.size w u) => fitsR_any (Old w) c vb vp vr vs sx sy sd u (hAu u b) (L u b) (by omega)
      by_cases hfk : fitsR c ((sx, sy), sd)
      · rw [decide_eq_true hfk] at cF2
        go_wp2
        have Dr : Below w1.heap.size w1 wr.drew := bcat (kI _ HI.out) (Below.refl _ _).drew (Nat.le_refl _)
        have hSd : IH wr.drew := by rw [hIH]; exact Dr
        refine start_held (S := IH) 9 rfl (by kernel_rfl) (hSd) ?_
        simp only [Array.replicate_succ, Array.replicate_zero, List.push_toArray, List.nil_append, List.cons_append]
        refine tkf 0 (by assumption) rfl (v := .agg #[.int .i64 c.W, .int .i64 c.H, .int .i64 c.height, vb, vp, vr, vs, .int .i64 c.unit, .int .i64 c.accel, .int .i64 c.speed, .int .i64 c.turn, .int .i64 c.hoist, .int .i64 c.queue, .int .i64 c.resend, .int .i64 c.budget, .bool c.back]) (fun u hu => by exact run_load_op 26 _ rfl ⟨w.heap.size, 0, none⟩ _ rfl (HC.out u hu) (aggConf u) info_conf) ?_
        refine tkq 1 (by assumption) ?_
        refine tkf 2 (by assumption) rfl (v := .agg #[.int .i64 fx, .int .i64 fy, .bool fd]) (fun u hu => by exact run_load_op 42 _ rfl ⟨w.heap.size + 1, 3, none⟩ _ rfl (HF.out u hu) (aggPose u) infoPose2) ?_
        refine tkq 3 (by assumption) ?_
        refine tkf 4 (by assumption) rfl (fun u hu => by have zz0 := z1 u hu; go_simp; try rfl) ?_
        refine tkq 5 (by assumption) ?_
        refine wpAnyH_ready (rs := [6]) (by kernel_rfl) (by simp) (AllReadyH.cons ((nth_eq _ 6).trans rfl) ?_ AllReadyH.nil)
        intro K' hK
        refine call_in hK (by kernel_rfl) 62 #[.agg #[.int .i64 fx, .int .i64 fy, .bool fd], .int .i64 dir, .int .i64 (k : Int)] (by go_simp) _ (cS2 _) ?_
        rintro v w20 ⟨rfl, b20⟩
        have D20 := bcat Dr b20 (Nat.le_refl _)
        have hS20 : IH w20 := by rw [hIH]; exact D20
        refine ⟨hS20, ?_⟩
        simp only [Act.put, List.setIfInBounds_toArray, List.set_cons_zero, List.set_cons_succ]
        refine wpAnyH_ready (rs := [7]) (by kernel_rfl) (by simp) (AllReadyH.cons ((nth_eq _ 7).trans rfl) ?_ AllReadyH.nil)
        intro K' hK
        refine call_in hK (by kernel_rfl) 22 #[.agg #[.int .i64 c.W, .int .i64 c.H, .int .i64 c.height, vb, vp, vr, vs, .int .i64 c.unit, .int .i64 c.accel, .int .i64 c.speed, .int .i64 c.turn, .int .i64 c.hoist, .int .i64 c.queue, .int .i64 c.resend, .int .i64 c.budget, .bool c.back], .agg #[.int .i64 sx, .int .i64 sy, .bool sd]] (by go_simp) _ (cF2 _ (bcat B D20 (Nat.le_refl _))) ?_
        rintro v w21 ⟨rfl, b21⟩
        have D21 := bcat D20 b21 (Nat.le_refl _)
        have hS21 : IH w21 := by rw [hIH]; exact D21
        refine ⟨hS21, ?_⟩
        simp only [Act.put, List.setIfInBounds_toArray, List.set_cons_zero, List.set_cons_succ]
        refine tkq 8 (by assumption) ?_
        refine done_held (by kernel_rfl) ?_ _
        have HI9 : Hid (IH w21) := hS21
        go_wp2
        go_roundw
        case rel =>
          refine ⟨k + 1, by omega, by omega, by go_num, ?_, HI9⟩
          intro j a b
          by_cases e : j = k
          · rw [e, hse]; exact hfk
          · exact HJ.out j a (by omega)
        case measure => simp [intOf]; omega
      · rw [decide_eq_false hfk] at cF2
        go_wp2
        have Dr : Below w1.heap.size w1 wr.drew := bcat (kI _ HI.out) (Below.refl _ _).drew (Nat.le_refl _)
        have hSd : IH wr.drew := by rw [hIH]; exact Dr
        refine start_held (S := IH) 9 rfl (by kernel_rfl) (hSd) ?_
        simp only [Array.replicate_succ, Array.replicate_zero, List.push_toArray, List.nil_append, List.cons_append]
        refine tkf 0 (by assumption) rfl (v := .agg #[.int .i64 c.W, .int .i64 c.H, .int .i64 c.height, vb, vp, vr, vs, .int .i64 c.unit, .int .i64 c.accel, .int .i64 c.speed, .int .i64 c.turn, .int .i64 c.hoist, .int .i64 c.queue, .int .i64 c.resend, .int .i64 c.budget, .bool c.back]) (fun u hu => by exact run_load_op 26 _ rfl ⟨w.heap.size, 0, none⟩ _ rfl (HC.out u hu) (aggConf u) info_conf) ?_
        refine tkq 1 (by assumption) ?_
        refine tkf 2 (by assumption) rfl (v := .agg #[.int .i64 fx, .int .i64 fy, .bool fd]) (fun u hu => by exact run_load_op 42 _ rfl ⟨w.heap.size + 1, 3, none⟩ _ rfl (HF.out u hu) (aggPose u) infoPose2) ?_
        refine tkq 3 (by assumption) ?_
        refine tkf 4 (by assumption) rfl (fun u hu => by have zz0 := z1 u hu; go_simp; try rfl) ?_
        refine tkq 5 (by assumption) ?_
        refine wpAnyH_ready (rs := [6]) (by kernel_rfl) (by simp) (AllReadyH.cons ((nth_eq _ 6).trans rfl) ?_ AllReadyH.nil)
        intro K' hK
        refine call_in hK (by kernel_rfl) 62 #[.agg #[.int .i64 fx, .int .i64 fy, .bool fd], .int .i64 dir, .int .i64 (k : Int)] (by go_simp) _ (cS2 _) ?_
        rintro v w20 ⟨rfl, b20⟩
        have D20 := bcat Dr b20 (Nat.le_refl _)
        have hS20 : IH w20 := by rw [hIH]; exact D20
        refine ⟨hS20, ?_⟩
        simp only [Act.put, List.setIfInBounds_toArray, List.set_cons_zero, List.set_cons_succ]
        refine wpAnyH_ready (rs := [7]) (by kernel_rfl) (by simp) (AllReadyH.cons ((nth_eq _ 7).trans rfl) ?_ AllReadyH.nil)
        intro K' hK
        refine call_in hK (by kernel_rfl) 22 #[.agg #[.int .i64 c.W, .int .i64 c.H, .int .i64 c.height, vb, vp, vr, vs, .int .i64 c.unit, .int .i64 c.accel, .int .i64 c.speed, .int .i64 c.turn, .int .i64 c.hoist, .int .i64 c.queue, .int .i64 c.resend, .int .i64 c.budget, .bool c.back], .agg #[.int .i64 sx, .int .i64 sy, .bool sd]] (by go_simp) _ (cF2 _ (bcat B D20 (Nat.le_refl _))) ?_
        rintro v w21 ⟨rfl, b21⟩
        have D21 := bcat D20 b21 (Nat.le_refl _)
        have hS21 : IH w21 := by rw [hIH]; exact D21
        refine ⟨hS21, ?_⟩
        simp only [Act.put, List.setIfInBounds_toArray, List.set_cons_zero, List.set_cons_succ]
        refine tkq 8 (by assumption) ?_
        refine done_held (by kernel_rfl) ?_ _
        have hLf : LB = false := by
          cases LB
          · rfl
          · exact absurd (hlb.out.2 rfl k (by omega) hlt) (by rw [hse]; exact hfk)
        go_wp2
        go_ret
        exact ⟨_, rfl, by first | (rw [hLf]; rfl) | rfl, bcat B D21 (Nat.le_refl _)⟩
    · have hLt : LB = true := hlb.out.1 fun j a e => HJ.out j a (by omega)
      have bI := kI _ HI.out
      go_wp2
      go_ret
      exact ⟨_, rfl, by first | (rw [hLt]; rfl) | rfl, bcat B bI (Nat.le_refl _)⟩
end Go.Proofs.YtedhoghleelhfaaGreat.Grid
namespace Go.Proofs.YtedhoghleelhfaaGreat.Grid
set_option linter.unusedVariables false
set_option linter.unusedSimpArgs false
open Go Go.RowKit Go.Shelf Go.Proofs
attribute [local go_sem] Oper.semAt_some

theorem square_any (x y : Int) (d : Bool) (h1 : 0 ≤ x) (h2 : x ≤ 100) (h3 : 0 ≤ y) (h4 : y ≤ 100) (w : World) : Calls Tryz.prog 82 #[.agg #[.int .i64 x, .int .i64 y, .bool d]] w fun e w' => ∃ r, e = .returned r ∧
    (∃ g, r = .slice (some ⟨g, 0, none⟩) 4 4 ∧ w.heap.size ≤ g ∧ w'.heap[g]? = some (.cells #[.int .i64 x, .int .i64 y, .int .i64 (x + 1), .int .i64 y, .int .i64 x, .int .i64 (y + 1), .int .i64 (x + 1), .int .i64 (y + 1)] 40 (0, 0))) ∧ Below w.heap.size w w' := by
  go_enter Tryz.func82, Tryz.ntmps82
  go_wp2
  go_ret
  exact ⟨_, rfl, ⟨_, rfl, by simp, heap_new2 _ _ _⟩, below_two _ _ _⟩
def sq (x y : Int) : Nat → Cell
  | 0 => (x, y)
  | 1 => (x + 1, y)
  | 2 => (x, y + 1)
  | _ => (x + 1, y + 1)
theorem sq_at {w u : World} {g : Nat} {x y : Int} (h : w.heap[g]? = some (.cells #[.int .i64 x, .int .i64 y, .int .i64 (x + 1), .int .i64 y, .int .i64 x, .int .i64 (y + 1), .int .i64 (x + 1), .int .i64 (y + 1)] 40 (0, 0))) (hu : Below w.heap.size w u) (k : Nat) (hk : k < 4) :
    ∀ j z, #[Value.int .i64 (sq x y k).1, .int .i64 (sq x y k).2][j]? = some z → u.cell? (((⟨g, 0, none⟩ : Addr).add (k * 2)).add j) = some z := by
  intro j z hj
  have h' := (hu.block _ (lt_of_heap h)).trans h
  rw [Addr.add_lit, Addr.add_lit, cell_of h']
  match k, hk with
  | 0, _ => match j with
    | 0 => simpa [sq] using hj
    | 1 => simpa [sq] using hj
    | j + 2 => simp at hj
  | 1, _ => match j with
    | 0 => simpa [sq] using hj
    | 1 => simpa [sq] using hj
    | j + 2 => simp at hj
  | 2, _ => match j with
    | 0 => simpa [sq] using hj
    | 1 => simpa [sq] using hj
    | j + 2 => simp at hj
  | 3, _ => match j with
    | 0 => simpa [sq] using hj
    | 1 => simpa [sq] using hj
    | j + 2 => simp at hj
set_option maxRecDepth 100000 in
set_option maxHeartbeats 4000000 in
theorem rlegal_still3 (c : Conf) (vb vp vr vs : Value) (w : World) (hA : ConfAt (Old w) c vb vp vr vs w) (l1 : c.blocked.length ≤ 8796093022208) (l2 : c.ports.length ≤ 8796093022208) (l3 : c.robots.length ≤ 5864062014805) (l4 : c.stacks.length ≤ 3518437208880) (l5 : ∀ s ∈ c.stacks, s.2.length ≤ 17592186044416) (dir n fx fy tx ty ma me : Int) (fd td : Bool) (hf1 : decide (fitsR c ((fx, fy), fd)) = true) : Calls Tryz.prog 63 #[.agg #[.int .i64 c.W, .int .i64 c.H, .int .i64 c.height, vb, vp, vr, vs, .int .i64 c.unit, .int .i64 c.accel, .int .i64 c.speed, .int .i64 c.turn, .int .i64 c.hoist, .int .i64 c.queue, .int .i64 c.resend, .int .i64 c.budget, .bool c.back], .agg #[.int .i64 3, .int .i64 dir, .int .i64 n, .int .i64 fx, .int .i64 fy, .bool fd, .int .i64 tx, .int .i64 ty, .bool td, .int .i64 ma, .int .i64 me]] w fun e w' => ∃ r, e = .returned r ∧ (r = .bool (decide (n = 0) && decide (dir = 0) && decide (((tx, ty), td) = ((fx, fy), fd))) ∧ Below w.heap.size w w') := by
  have L := fun (u : World) (b : Below w.heap.size w u) g (hg : Old w g) => Nat.lt_of_lt_of_le hg b.size
  have hAu := fun u (b : Below w.heap.size w u) => hA.go (fun _ h => h) b
  have Q0 := two_new w #[.int .i64 c.W, .int .i64 c.H, .int .i64 c.height, vb, vp, vr, vs, .int .i64 c.unit, .int .i64 c.accel, .int .i64 c.speed, .int .i64 c.turn, .int .i64 c.hoist, .int .i64 c.queue, .int .i64 c.resend, .int .i64 c.budget, .bool c.back] #[.int .i64 3, .int .i64 dir, .int .i64 n, .int .i64 fx, .int .i64 fy, .bool fd, .int .i64 tx, .int .i64 ty, .bool td, .int .i64 ma, .int .i64 me] 44
  have cF := fun u (b : Below w.heap.size w u) => fitsR_any (Old w) c vb vp vr vs fx fy fd u (hAu u b) (L u b) (by omega)
  rw [hf1] at cF
  clear hA L hAu
  have eP := fun w => eqPose4 tx ty td fx fy fd w
  by_cases n0 : n = 0
  · subst n0
    by_cases d0 : dir = 0
    · subst d0
      go_enter Tryz.func63, Tryz.ntmps63
      go_wp2_with (first
        | (refine wpList_load_row rfl 26 (.tmp 2) rfl w.heap.size rfl 26 #[.int .i64 c.W, .int .i64 c.H, .int .i64 c.height, vb, vp, vr, vs, .int .i64 c.unit, .int .i64 c.accel, .int .i64 c.speed, .int .i64 c.turn, .int .i64 c.hoist, .int .i64 c.queue, .int .i64 c.resend, .int .i64 c.budget, .bool c.back] (0, 0) _ Q0.a Tryz.underlying26 rfl info_conf ?_)
        | (go_at_call 22; refine (cF _ Q0.below).mono ?_; rintro e w1 ⟨r1, rfl, rfl, b1⟩; have Q1 := Q0.go b1; have q0 := cell_of Q1.b 0; have q1 := cell_of Q1.b 1; have q2 := cell_of Q1.b 2; have q3 := cell_of Q1.b 3; have q4 := cell_of Q1.b 4; have q5 := cell_of Q1.b 5; have q6 := cell_of Q1.b 6; have q7 := cell_of Q1.b 7; have q8 := cell_of Q1.b 8))
      go_ret
      exact ⟨_, rfl, by simp, Q1.below⟩
    · have d1 : (dir == 0) = false := by rw [beq_eq_false_iff_ne]; exact d0
      go_enter Tryz.func63, Tryz.ntmps63
      go_wp2_with (first
        | (refine wpList_load_row rfl 26 (.tmp 2) rfl w.heap.size rfl 26 #[.int .i64 c.W, .int .i64 c.H, .int .i64 c.height, vb, vp, vr, vs, .int .i64 c.unit, .int .i64 c.accel, .int .i64 c.speed, .int .i64 c.turn, .int .i64 c.hoist, .int .i64 c.queue, .int .i64 c.resend, .int .i64 c.budget, .bool c.back] (0, 0) _ Q0.a Tryz.underlying26 rfl info_conf ?_)
        | (go_at_call 22; refine (cF _ Q0.below).mono ?_; rintro e w1 ⟨r1, rfl, rfl, b1⟩; have Q1 := Q0.go b1; have q0 := cell_of Q1.b 0; have q1 := cell_of Q1.b 1; have q2 := cell_of Q1.b 2; have q3 := cell_of Q1.b 3; have q4 := cell_of Q1.b 4; have q5 := cell_of Q1.b 5; have q6 := cell_of Q1.b 6; have q7 := cell_of Q1.b 7; have q8 := cell_of Q1.b 8))
      go_ret
      exact ⟨_, rfl, by rw [decide_eq_false d0]; simp, Q1.below⟩
  · have n1 : (n == 0) = false := by rw [beq_eq_false_iff_ne]; exact n0
    go_enter Tryz.func63, Tryz.ntmps63
    go_wp2_with (first
      | (refine wpList_load_row rfl 26 (.tmp 2) rfl w.heap.size rfl 26 #[.int .i64 c.W, .int .i64 c.H, .int .i64 c.height, vb, vp, vr, vs, .int .i64 c.unit, .int .i64 c.accel, .int .i64 c.speed, .int .i64 c.turn, .int .i64 c.hoist, .int .i64 c.queue, .int .i64 c.resend, .int .i64 c.budget, .bool c.back] (0, 0) _ Q0.a Tryz.underlying26 rfl info_conf ?_)
      | (go_at_call 22; refine (cF _ Q0.below).mono ?_; rintro e w1 ⟨r1, rfl, rfl, b1⟩; have Q1 := Q0.go b1; have q0 := cell_of Q1.b 0; have q1 := cell_of Q1.b 1; have q2 := cell_of Q1.b 2; have q3 := cell_of Q1.b 3; have q4 := cell_of Q1.b 4; have q5 := cell_of Q1.b 5; have q6 := cell_of Q1.b 6; have q7 := cell_of Q1.b 7; have q8 := cell_of Q1.b 8))
    go_ret
    exact ⟨_, rfl, by rw [decide_eq_false n0]; simp, Q1.below⟩
set_option maxRecDepth 100000 in
set_option maxHeartbeats 4000000 in
theorem rlegal_still4 (c : Conf) (vb vp vr vs : Value) (w : World) (hA : ConfAt (Old w) c vb vp vr vs w) (l1 : c.blocked.length ≤ 8796093022208) (l2 : c.ports.length ≤ 8796093022208) (l3 : c.robots.length ≤ 5864062014805) (l4 : c.stacks.length ≤ 3518437208880) (l5 : ∀ s ∈ c.stacks, s.2.length ≤ 17592186044416) (dir n fx fy tx ty ma me : Int) (fd td : Bool) (hf1 : decide (fitsR c ((fx, fy), fd)) = true) : Calls Tryz.prog 63 #[.agg #[.int .i64 c.W, .int .i64 c.H, .int .i64 c.height, vb, vp, vr, vs, .int .i64 c.unit, .int .i64 c.accel, .int .i64 c.speed, .int .i64 c.turn, .int .i64 c.hoist, .int .i64 c.queue, .int .i64 c.resend, .int .i64 c.budget, .bool c.back], .agg #[.int .i64 4, .int .i64 dir, .int .i64 n, .int .i64 fx, .int .i64 fy, .bool fd, .int .i64 tx, .int .i64 ty, .bool td, .int .i64 ma, .int .i64 me]] w fun e w' => ∃ r, e = .returned r ∧ (r = .bool (decide (n = 0) && decide (dir = 0) && decide (((tx, ty), td) = ((fx, fy), fd))) ∧ Below w.heap.size w w') := by
  have L := fun (u : World) (b : Below w.heap.size w u) g (hg : Old w g) => Nat.lt_of_lt_of_le hg b.size
  have hAu := fun u (b : Below w.heap.size w u) => hA.go (fun _ h => h) b
  have Q0 := two_new w #[.int .i64 c.W, .int .i64 c.H, .int .i64 c.height, vb, vp, vr, vs, .int .i64 c.unit, .int .i64 c.accel, .int .i64 c.speed, .int .i64 c.turn, .int .i64 c.hoist, .int .i64 c.queue, .int .i64 c.resend, .int .i64 c.budget, .bool c.back] #[.int .i64 4, .int .i64 dir, .int .i64 n, .int .i64 fx, .int .i64 fy, .bool fd, .int .i64 tx, .int .i64 ty, .bool td, .int .i64 ma, .int .i64 me] 44
  have cF := fun u (b : Below w.heap.size w u) => fitsR_any (Old w) c vb vp vr vs fx fy fd u (hAu u b) (L u b) (by omega)
  rw [hf1] at cF
  clear hA L hAu
  have eP := fun w => eqPose4 tx ty td fx fy fd w
  by_cases n0 : n = 0
  · subst n0
    by_cases d0 : dir = 0
    · subst d0
      go_enter Tryz.func63, Tryz.ntmps63
      go_wp2_with (first
        | (refine wpList_load_row rfl 26 (.tmp 2) rfl w.heap.size rfl 26 #[.int .i64 c.W, .int .i64 c.H, .int .i64 c.height, vb, vp, vr, vs, .int .i64 c.unit, .int .i64 c.accel, .int .i64 c.speed, .int .i64 c.turn, .int .i64 c.hoist, .int .i64 c.queue, .int .i64 c.resend, .int .i64 c.budget, .bool c.back] (0, 0) _ Q0.a Tryz.underlying26 rfl info_conf ?_)
        | (go_at_call 22; refine (cF _ Q0.below).mono ?_; rintro e w1 ⟨r1, rfl, rfl, b1⟩; have Q1 := Q0.go b1; have q0 := cell_of Q1.b 0; have q1 := cell_of Q1.b 1; have q2 := cell_of Q1.b 2; have q3 := cell_of Q1.b 3; have q4 := cell_of Q1.b 4; have q5 := cell_of Q1.b 5; have q6 := cell_of Q1.b 6; have q7 := cell_of Q1.b 7; have q8 := cell_of Q1.b 8))
      go_ret
      exact ⟨_, rfl, by simp, Q1.below⟩
    · have d1 : (dir == 0) = false := by rw [beq_eq_false_iff_ne]; exact d0
      go_enter Tryz.func63, Tryz.ntmps63
      go_wp2_with (first
        | (refine wpList_load_row rfl 26 (.tmp 2) rfl w.heap.size rfl 26 #[.int .i64 c.W, .int .i64 c.H, .int .i64 c.height, vb, vp, vr, vs, .int .i64 c.unit, .int .i64 c.accel, .int .i64 c.speed, .int .i64 c.turn, .int .i64 c.hoist, .int .i64 c.queue, .int .i64 c.resend, .int .i64 c.budget, .bool c.back] (0, 0) _ Q0.a Tryz.underlying26 rfl info_conf ?_)
        | (go_at_call 22; refine (cF _ Q0.below).mono ?_; rintro e w1 ⟨r1, rfl, rfl, b1⟩; have Q1 := Q0.go b1; have q0 := cell_of Q1.b 0; have q1 := cell_of Q1.b 1; have q2 := cell_of Q1.b 2; have q3 := cell_of Q1.b 3; have q4 := cell_of Q1.b 4; have q5 := cell_of Q1.b 5; have q6 := cell_of Q1.b 6; have q7 := cell_of Q1.b 7; have q8 := cell_of Q1.b 8))
      go_ret
      exact ⟨_, rfl, by rw [decide_eq_false d0]; simp, Q1.below⟩
  · have n1 : (n == 0) = false := by rw [beq_eq_false_iff_ne]; exact n0
    go_enter Tryz.func63, Tryz.ntmps63
    go_wp2_with (first
      | (refine wpList_load_row rfl 26 (.tmp 2) rfl w.heap.size rfl 26 #[.int .i64 c.W, .int .i64 c.H, .int .i64 c.height, vb, vp, vr, vs, .int .i64 c.unit, .int .i64 c.accel, .int .i64 c.speed, .int .i64 c.turn, .int .i64 c.hoist, .int .i64 c.queue, .int .i64 c.resend, .int .i64 c.budget, .bool c.back] (0, 0) _ Q0.a Tryz.underlying26 rfl info_conf ?_)
      | (go_at_call 22; refine (cF _ Q0.below).mono ?_; rintro e w1 ⟨r1, rfl, rfl, b1⟩; have Q1 := Q0.go b1; have q0 := cell_of Q1.b 0; have q1 := cell_of Q1.b 1; have q2 := cell_of Q1.b 2; have q3 := cell_of Q1.b 3; have q4 := cell_of Q1.b 4; have q5 := cell_of Q1.b 5; have q6 := cell_of Q1.b 6; have q7 := cell_of Q1.b 7; have q8 := cell_of Q1.b 8))
    go_ret
    exact ⟨_, rfl, by rw [decide_eq_false n0]; simp, Q1.below⟩
set_option maxRecDepth 100000 in
set_option maxHeartbeats 4000000 in
theorem rlegal_turn (c : Conf) (vb vp vr vs : Value) (w : World) (hA : ConfAt (Old w) c vb vp vr vs w) (l1 : c.blocked.length ≤ 8796093022208) (l2 : c.ports.length ≤ 8796093022208) (l3 : c.robots.length ≤ 5864062014805) (l4 : c.stacks.length ≤ 3518437208880) (l5 : ∀ s ∈ c.stacks, s.2.length ≤ 17592186044416) (dir n fx fy tx ty ma me : Int) (fd td : Bool) (hf1 : decide (fitsR c ((fx, fy), fd)) = true) (h1 : 0 ≤ fx) (h2 : fx ≤ 100) (h3 : 0 ≤ fy) (h4 : fy ≤ 100) (LB : Bool) (hlb : Hid (((∀ j : Nat, j < 4 → openR c (sq fx fy j)) ∧ n = 0 ∧ dir = 0 ∧ ((tx, ty), td) = ((fx, fy), !fd)) ↔ LB = true)) : Calls Tryz.prog 63 #[.agg #[.int .i64 c.W, .int .i64 c.H, .int .i64 c.height, vb, vp, vr, vs, .int .i64 c.unit, .int .i64 c.accel, .int .i64 c.speed, .int .i64 c.turn, .int .i64 c.hoist, .int .i64 c.queue, .int .i64 c.resend, .int .i64 c.budget, .bool c.back], .agg #[.int .i64 2, .int .i64 dir, .int .i64 n, .int .i64 fx, .int .i64 fy, .bool fd, .int .i64 tx, .int .i64 ty, .bool td, .int .i64 ma, .int .i64 me]] w fun e w' => ∃ r, e = .returned r ∧ (r = .bool LB ∧ Below w.heap.size w w') := by
  have L := fun (u : World) (b : Below w.heap.size w u) g (hg : Old w g) => Nat.lt_of_lt_of_le hg b.size
  have hAu := fun u (b : Below w.heap.size w u) => hA.go (fun _ h => h) b
  have Q0 := two_new w #[.int .i64 c.W, .int .i64 c.H, .int .i64 c.height, vb, vp, vr, vs, .int .i64 c.unit, .int .i64 c.accel, .int .i64 c.speed, .int .i64 c.turn, .int .i64 c.hoist, .int .i64 c.queue, .int .i64 c.resend, .int .i64 c.budget, .bool c.back] #[.int .i64 2, .int .i64 dir, .int .i64 n, .int .i64 fx, .int .i64 fy, .bool fd, .int .i64 tx, .int .i64 ty, .bool td, .int .i64 ma, .int .i64 me] 44
  have cF := fun u (b : Below w.heap.size w u) => fitsR_any (Old w) c vb vp vr vs fx fy fd u (hAu u b) (L u b) (by omega)
  rw [hf1] at cF
  clear hA
  have cQ := fun u => square_any fx fy fd h1 h2 h3 h4 u
  have eP := fun w => eqPose4 tx ty td fx fy (!fd) w
  go_enter Tryz.func63, Tryz.ntmps63
  go_wp2_with (first
    | (refine wpList_load_row rfl 26 (.tmp 2) rfl w.heap.size rfl 26 #[.int .i64 c.W, .int .i64 c.H, .int .i64 c.height, vb, vp, vr, vs, .int .i64 c.unit, .int .i64 c.accel, .int .i64 c.speed, .int .i64 c.turn, .int .i64 c.hoist, .int .i64 c.queue, .int .i64 c.resend, .int .i64 c.budget, .bool c.back] (0, 0) _ Q0.a Tryz.underlying26 rfl info_conf ?_)
    | (go_at_call 22; refine (cF _ Q0.below).mono ?_; rintro e w1 ⟨r1, rfl, rfl, b1⟩; have Q1 := Q0.go b1; have q0 := cell_of Q1.b 0; have q1 := cell_of Q1.b 1; have q2 := cell_of Q1.b 2; have q3 := cell_of Q1.b 3; have q4 := cell_of Q1.b 4; have q5 := cell_of Q1.b 5; have q6 := cell_of Q1.b 6; have q7 := cell_of Q1.b 7; have q8 := cell_of Q1.b 8)
    | (go_at_call 82; refine (cQ _).mono ?_; rintro e w2 ⟨r2, rfl, ⟨gq, rfl, hgq, hq⟩, b2⟩; have Q2 := Q1.go b2; obtain ⟨p, hp⟩ : ∃ p, (⟨gq, 0, none⟩ : Addr) = p := ⟨_, rfl⟩; rw [hp]))
  have B := Q2.below
  have eB := Q2.b
  have eA := Q2.a
  obtain ⟨IH, hIH⟩ : ∃ I : World → Prop, I = Below w2.heap.size w2 := ⟨_, rfl⟩
  have kI : ∀ u, IH u → Below w2.heap.size w2 u := fun u hu => by rw [hIH] at hu; exact hu
  have hS : IH w2.drew := by rw [hIH]; exact (Below.refl _ _).drew
  have HC : Hid (∀ u, IH u → ∀ j z, #[.int .i64 c.W, .int .i64 c.H, .int .i64 c.height, vb, vp, vr, vs, .int .i64 c.unit, .int .i64 c.accel, .int .i64 c.speed, .int .i64 c.turn, .int .i64 c.hoist, .int .i64 c.queue, .int .i64 c.resend, .int .i64 c.budget, .bool c.back][j]? = some z → u.cell? ((⟨w.heap.size, 0, none⟩ : Addr).add j) = some z) := fun u hu => row_below eA (kI u hu)
  have HRd : Hid (∀ k < 4, ∀ u, IH u → ∀ j z, #[Value.int .i64 (sq fx fy k).1, .int .i64 (sq fx fy k).2][j]? = some z → u.cell? ((p.add (k * 2)).add j) = some z) := by
    intro k hk u hu
    rw [← hp]
    exact sq_at hq (kI u hu) k hk
  have HW0 : Hid (IH w2) := by show IH w2; rw [hIH]; exact Below.refl _ _
  have HB : Hid (∀ u, IH u → u.heap[w.heap.size + 1]? = some (.cells #[.int .i64 2, .int .i64 dir, .int .i64 n, .int .i64 fx, .int .i64 fy, .bool fd, .int .i64 tx, .int .i64 ty, .bool td, .int .i64 ma, .int .i64 me] 44 (0, 0))) := fun u hu => ((kI u hu).block _ (lt_of_heap eB)).trans eB
  clear hq hp eA eB q0 q1 q2 q3 q4 q5 q6 q7 q8
  go_wp2
  go_loopw [7] (fun i wq => ∃ k : Nat, k ≤ 4 ∧ i = .int .i64 k ∧ Hid (∀ j : Nat, j < k → openR c (sq fx fy j)) ∧ Hid (IH wq)) (fun i _ => 4 - (intOf i).toNat)
  case atStart => exact ⟨0, by omega, rfl, fun j a => by omega, HW0⟩
  case round =>
    obtain ⟨k, hk, rfl, HJ, HI⟩ := hrel
    clear HW0
    by_cases hlt : k < 4
    · have HR : Hid (∀ u, IH u → ∀ j z, #[Value.int .i64 (sq fx fy k).1, .int .i64 (sq fx fy k).2][j]? = some z → u.cell? ((p.add (k * 2)).add j) = some z) := HRd.out k hlt
      obtain ⟨⟨cx, cy⟩, hce⟩ : ∃ q, sq fx fy k = q := ⟨_, rfl⟩
      rw [hce] at HR
      simp only at HR
      have cO := fun u (b : Below w.heap.size w u) => openR_any (Old w) c vb vp vr vs cx cy u (hAu u b) (L u b) (by omega)
      by_cases hfk : openR c (cx, cy)
      · rw [decide_eq_true hfk] at cO
        go_wp2
        have Dr : Below w2.heap.size w2 wr.drew := bcat (kI _ HI.out) (Below.refl _ _).drew (Nat.le_refl _)
        have hSd : IH wr.drew := by rw [hIH]; exact Dr
        refine start_held (S := IH) 7 rfl (by kernel_rfl) (hSd) ?_
        simp only [Array.replicate_succ, Array.replicate_zero, List.push_toArray, List.nil_append, List.cons_append]
        refine tkf 0 (by assumption) rfl (v := .agg #[.int .i64 c.W, .int .i64 c.H, .int .i64 c.height, vb, vp, vr, vs, .int .i64 c.unit, .int .i64 c.accel, .int .i64 c.speed, .int .i64 c.turn, .int .i64 c.hoist, .int .i64 c.queue, .int .i64 c.resend, .int .i64 c.budget, .bool c.back]) (fun u hu => by exact run_load_op 26 _ rfl ⟨w.heap.size, 0, none⟩ _ rfl (HC.out u hu) (aggConf u) info_conf) ?_
        refine tkq 1 (by assumption) ?_
        refine tkq 2 (by assumption) ?_
        refine tkq 3 (by assumption) ?_
        refine tkf 4 (by assumption) rfl (v := .agg #[.int .i64 cx, .int .i64 cy]) (fun u hu => by exact run_load_op 40 _ rfl (p.add (k * 2)) _ rfl (HR.out u hu) (aggCell u) infoCell2) ?_
        refine wpAnyH_ready (rs := [5]) (by kernel_rfl) (by simp) (AllReadyH.cons ((nth_eq _ 5).trans rfl) ?_ AllReadyH.nil)
        intro K' hK
        refine call_in hK (by kernel_rfl) 51 #[.agg #[.int .i64 c.W, .int .i64 c.H, .int .i64 c.height, vb, vp, vr, vs, .int .i64 c.unit, .int .i64 c.accel, .int .i64 c.speed, .int .i64 c.turn, .int .i64 c.hoist, .int .i64 c.queue, .int .i64 c.resend, .int .i64 c.budget, .bool c.back], .agg #[.int .i64 cx, .int .i64 cy]] (by go_simp) _ (cO _ (bcat B Dr (Nat.le_refl _))) ?_
        rintro v w20 ⟨rfl, b20⟩
        have D20 := bcat Dr b20 (Nat.le_refl _)
        have hS20 : IH w20 := by rw [hIH]; exact D20
        refine ⟨hS20, ?_⟩
        simp only [Act.put, List.setIfInBounds_toArray, List.set_cons_zero, List.set_cons_succ]
        refine tkq 6 (by assumption) ?_
        refine done_held (by kernel_rfl) ?_ _
        have HI9 : Hid (IH w20) := hS20
        go_wp2
        go_roundw
        case rel =>
          refine ⟨k + 1, by omega, by go_num, ?_, HI9⟩
          intro j a
          by_cases e : j = k
          · rw [e, hce]; exact hfk
          · exact HJ.out j (by omega)
        case measure => simp [intOf]; omega
      · rw [decide_eq_false hfk] at cO
        go_wp2
        have Dr : Below w2.heap.size w2 wr.drew := bcat (kI _ HI.out) (Below.refl _ _).drew (Nat.le_refl _)
        have hSd : IH wr.drew := by rw [hIH]; exact Dr
        refine start_held (S := IH) 7 rfl (by kernel_rfl) (hSd) ?_
        simp only [Array.replicate_succ, Array.replicate_zero, List.push_toArray, List.nil_append, List.cons_append]
        refine tkf 0 (by assumption) rfl (v := .agg #[.int .i64 c.W, .int .i64 c.H, .int .i64 c.height, vb, vp, vr, vs, .int .i64 c.unit, .int .i64 c.accel, .int .i64 c.speed, .int .i64 c.turn, .int .i64 c.hoist, .int .i64 c.queue, .int .i64 c.resend, .int .i64 c.budget, .bool c.back]) (fun u hu => by exact run_load_op 26 _ rfl ⟨w.heap.size, 0, none⟩ _ rfl (HC.out u hu) (aggConf u) info_conf) ?_
        refine tkq 1 (by assumption) ?_
        refine tkq 2 (by assumption) ?_
        refine tkq 3 (by assumption) ?_
        refine tkf 4 (by assumption) rfl (v := .agg #[.int .i64 cx, .int .i64 cy]) (fun u hu => by exact run_load_op 40 _ rfl (p.add (k * 2)) _ rfl (HR.out u hu) (aggCell u) infoCell2) ?_
        refine wpAnyH_ready (rs := [5]) (by kernel_rfl) (by simp) (AllReadyH.cons ((nth_eq _ 5).trans rfl) ?_ AllReadyH.nil)
        intro K' hK
        refine call_in hK (by kernel_rfl) 51 #[.agg #[.int .i64 c.W, .int .i64 c.H, .int .i64 c.height, vb, vp, vr, vs, .int .i64 c.unit, .int .i64 c.accel, .int .i64 c.speed, .int .i64 c.turn, .int .i64 c.hoist, .int .i64 c.queue, .int .i64 c.resend, .int .i64 c.budget, .bool c.back], .agg #[.int .i64 cx, .int .i64 cy]] (by go_simp) _ (cO _ (bcat B Dr (Nat.le_refl _))) ?_
        rintro v w20 ⟨rfl, b20⟩
        have D20 := bcat Dr b20 (Nat.le_refl _)
        have hS20 : IH w20 := by rw [hIH]; exact D20
        refine ⟨hS20, ?_⟩
        simp only [Act.put, List.setIfInBounds_toArray, List.set_cons_zero, List.set_cons_succ]
        refine tkq 6 (by assumption) ?_
        refine done_held (by kernel_rfl) ?_ _
        have hLf : LB = false := by
          cases LB
          · rfl
          · exact absurd ((hlb.out.2 rfl).1 k hlt) (by rw [hce]; exact hfk)
        go_wp2
        go_ret
        exact ⟨_, rfl, by first | (rw [hLf]; rfl) | rfl, bcat B D20 (Nat.le_refl _)⟩
    · obtain rfl : k = 4 := by omega
      have bI := kI _ HI.out
      have eB := HB.out _ HI.out
      have q1 := cell_of eB 1
      have q2 := cell_of eB 2
      have q3 := cell_of eB 3
      have q4 := cell_of eB 4
      have q5 := cell_of eB 5
      have q6 := cell_of eB 6
      have q7 := cell_of eB 7
      have q8 := cell_of eB 8
      clear cF cQ HC HRd HB eB
      by_cases n0 : n = 0
      · subst n0
        by_cases d0 : dir = 0
        · subst d0
          go_wp2
          go_ret
          refine ⟨.bool (decide (tx = fx) && decide (ty = fy) && decide (td = !fd)), rfl, ?_, bcat B bI (Nat.le_refl _)⟩
          have e : (decide (tx = fx) && decide (ty = fy) && decide (td = !fd)) = LB := by
            rw [Bool.eq_iff_iff, ← hlb.out]
            simp only [Bool.and_eq_true, decide_eq_true_eq]
            constructor
            · rintro ⟨⟨a, b⟩, d⟩
              exact ⟨HJ.out, trivial, trivial, by rw [a, b, d]⟩
            · rintro ⟨_, _, _, q⟩
              simp only [Prod.mk.injEq] at q
              exact ⟨⟨q.1.1, q.1.2⟩, q.2⟩
          rw [e]
        · have d1 : (dir == 0) = false := by rw [beq_eq_false_iff_ne]; exact d0
          have hLf : LB = false := by
            cases LB
            · rfl
            · exact absurd (hlb.out.2 rfl).2.2.1 d0
          go_wp2
          go_ret
          exact ⟨_, rfl, by first | (rw [hLf]; rfl) | rfl, bcat B bI (Nat.le_refl _)⟩
      · have n1 : (n == 0) = false := by rw [beq_eq_false_iff_ne]; exact n0
        have hLf : LB = false := by
          cases LB
          · rfl
          · exact absurd (hlb.out.2 rfl).2.1 n0
        go_wp2
        go_ret
        exact ⟨_, rfl, by first | (rw [hLf]; rfl) | rfl, bcat B bI (Nat.le_refl _)⟩
set_option maxHeartbeats 1000000 in
theorem rlegal_any (c : Conf) (vb vp vr vs : Value) (w : World) (hA : ConfAt (Old w) c vb vp vr vs w) (l1 : c.blocked.length ≤ 8796093022208) (l2 : c.ports.length ≤ 8796093022208) (l3 : c.robots.length ≤ 5864062014805) (l4 : c.stacks.length ≤ 3518437208880) (l5 : ∀ s ∈ c.stacks, s.2.length ≤ 17592186044416) {G : GS} (hN : newP c = some G) (m : Move) : Calls Tryz.prog 63 #[.agg #[.int .i64 c.W, .int .i64 c.H, .int .i64 c.height, vb, vp, vr, vs, .int .i64 c.unit, .int .i64 c.accel, .int .i64 c.speed, .int .i64 c.turn, .int .i64 c.hoist, .int .i64 c.queue, .int .i64 c.resend, .int .i64 c.budget, .bool c.back], .agg (moveCs m)] w fun e w' => ∃ r, e = .returned r ∧ (r = .bool (legalU c.W c.H G.uses m) ∧ Below w.heap.size w w') := by
  have hsd := limited_sides (new_some hN).1.1
  have hW : c.W ≤ 16 := by omega
  have hH : c.H ≤ 16 := by omega
  obtain ⟨kd, dir, n, ⟨⟨fx, fy⟩, fd⟩, ⟨⟨tx, ty⟩, td⟩, ma, me⟩ := m
  by_cases hf : fitsR c ((fx, fy), fd)
  · have hf1 := decide_eq_true hf
    have hfU : fitsU c.W c.H G.uses ((fx, fy), fd) = true := by rw [fits_told hN]; exact hf1
    by_cases k1 : kd = 1
    · subst k1
      cases hw1 : (decide (1 ≤ n) && decide (n ≤ 16)) with
      | false => rw [legal_far rfl (.inl hw1)]; exact rlegal_far c vb vp vr vs w hA l1 l2 l3 l4 l5 dir n fx fy tx ty ma me fd td hf1 hw1
      | true =>
        cases hw2 : (decide (0 ≤ dir) && decide (dir ≤ 3)) with
        | false => rw [legal_far rfl (.inr hw2)]; exact rlegal_dir c vb vp vr vs w hA l1 l2 l3 l4 l5 dir n fx fy tx ty ma me fd td hf1 hw1 hw2
        | true =>
          have hn : 1 ≤ n ∧ n ≤ 16 := by simpa using hw1
          have hd : 0 ≤ dir ∧ dir ≤ 3 := by simpa using hw2
          by_cases he : ((tx, ty), td) = shiftP ((fx, fy), fd) dir n
          · refine rlegal_run c vb vp vr vs w hA l1 l2 l3 l4 l5 dir n fx fy tx ty ma me fd td hf1 hw1 hw2 hn.1 hn.2 he.symm _ ?_
            show _ ↔ _
            rw [legal_run2 hW hH rfl hd hn he hfU]
            simp only [fits_told hN, decide_eq_true_eq]
          · rw [legal_else rfl hd hn he]
            obtain ⟨⟨⟨px, py⟩, pd⟩, hq⟩ : ∃ q, shiftP ((fx, fy), fd) dir n = q := ⟨_, rfl⟩
            rw [hq] at he
            exact rlegal_else c vb vp vr vs w hA l1 l2 l3 l4 l5 dir n fx fy tx ty ma me fd td hf1 hw1 hw2 px py pd hq (decide_eq_false he)
    · by_cases k2 : kd = 2
      · subst k2
        obtain ⟨n1, n2, n3, n4⟩ := fits_near hW hH hfU
        simp only at n1 n2 n3 n4
        refine rlegal_turn c vb vp vr vs w hA l1 l2 l3 l4 l5 dir n fx fy tx ty ma me fd td hf1 n1 (by omega) n3 (by omega) _ ?_
        show _ ↔ _
        rw [legal_turn hW hH rfl hfU]
        simp only [open_same hN, Bool.and_eq_true, decide_eq_true_eq]
        constructor
        · rintro ⟨a, b, d, e⟩
          exact ⟨⟨⟨⟨⟨⟨a 0 (by omega), a 1 (by omega)⟩, a 2 (by omega)⟩, a 3 (by omega)⟩, b⟩, d⟩, e⟩
        · rintro ⟨⟨⟨⟨⟨⟨a0, a1⟩, a2⟩, a3⟩, b⟩, d⟩, e⟩
          refine ⟨fun j hj => ?_, b, d, e⟩
          match j, hj with
          | 0, _ => exact a0
          | 1, _ => exact a1
          | 2, _ => exact a2
          | 3, _ => exact a3
      · by_cases k3 : kd = 3
        · subst k3
          rw [legal_still hW hH (.inl rfl) hfU]
          exact rlegal_still3 c vb vp vr vs w hA l1 l2 l3 l4 l5 dir n fx fy tx ty ma me fd td hf1
        · by_cases k4 : kd = 4
          · subst k4
            rw [legal_still hW hH (.inr rfl) hfU]
            exact rlegal_still4 c vb vp vr vs w hA l1 l2 l3 l4 l5 dir n fx fy tx ty ma me fd td hf1
          · rw [legal_other k1 k2 k3 k4]
            exact rlegal_other c vb vp vr vs w hA l1 l2 l3 l4 l5 dir n fx fy tx ty ma me kd fd td hf1 (beq_eq_false_iff_ne.2 k1) (beq_eq_false_iff_ne.2 k2) (beq_eq_false_iff_ne.2 k3) (beq_eq_false_iff_ne.2 k4)
  · rw [legal_nofit (by rw [fits_told hN]; exact decide_eq_false hf)]
    exact rlegal_nofit c vb vp vr vs w hA l1 l2 l3 l4 l5 dir n fx fy tx ty ma me kd fd td (decide_eq_false hf)
end Go.Proofs.YtedhoghleelhfaaGreat.Grid
namespace Go.Proofs.YtedhoghleelhfaaGreat.Grid
set_option linter.unusedVariables false
set_option linter.unusedSimpArgs false
open Go Go.RowKit Go.Shelf Go.Proofs

end Go.Proofs.YtedhoghleelhfaaGreat.Grid
namespace Go.Proofs.YtedhoghleelhfaaGreat.Grid
set_option linter.unusedVariables false
set_option linter.unusedSimpArgs false
open Go Go.RowKit Go.Shelf Go.Proofs

end Go.Proofs.YtedhoghleelhfaaGreat.Grid
namespace Go.Proofs.YtedhoghleelhfaaGreat.Grid
set_option linter.unusedVariables false
set_option linter.unusedSimpArgs false
open Go Go.RowKit Go.Shelf Go.Proofs
attribute [local go_sem] Oper.semAt_some

theorem below_row2 {w w1 w2 : World} {base : Nat} {v : Value} {e : TypeId} {S n : Nat} {xs : List Value} (h : Below base w w1) (hb : base ≤ w.heap.size) (hr : w1.ownsRow base e S v n xs) (hg : w1.grownBy w2 v.ownBlock) : Below base w w2 :=
  h.grown hg (Nat.le_trans hb h.size) (fun k q => by
    rcases hr.2 with ⟨rfl, _⟩ | ⟨g, cap, cur, rfl, h3, _⟩
    · cases q
    · cases q; exact h3)
theorem old_go {c : Conf} {vb vp vr vs : Value} {w u : World} (h : ConfAt (Old w) c vb vp vr vs w) (b : Below w.heap.size w u) : ConfAt (Old u) c vb vp vr vs u :=
  have h' := h.go (fun _ h => h) b
  have k : ∀ g, Old w g → Old u g := fun g hg => Nat.lt_of_lt_of_le hg b.size
  ⟨h'.b.mono heldCell k, h'.p.mono heldCell k, h'.r.mono heldPose k, h'.s.mono heldStack k⟩
theorem rlegal_old (c : Conf) (vb vp vr vs : Value) (w : World) (hA : ConfAt (Old w) c vb vp vr vs w) (l1 : c.blocked.length ≤ 8796093022208) (l2 : c.ports.length ≤ 8796093022208) (l3 : c.robots.length ≤ 5864062014805) (l4 : c.stacks.length ≤ 3518437208880) (l5 : ∀ s ∈ c.stacks, s.2.length ≤ 17592186044416) {G : GS} (hN : newP c = some G) (m : Move) (u : World) (b : Below w.heap.size w u) : Calls Tryz.prog 63 #[.agg #[.int .i64 c.W, .int .i64 c.H, .int .i64 c.height, vb, vp, vr, vs, .int .i64 c.unit, .int .i64 c.accel, .int .i64 c.speed, .int .i64 c.turn, .int .i64 c.hoist, .int .i64 c.queue, .int .i64 c.resend, .int .i64 c.budget, .bool c.back], .agg (moveCs m)] u fun e w' => ∃ r, e = .returned r ∧ (r = .bool (legalU c.W c.H G.uses m) ∧ Below u.heap.size u w') :=
  rlegal_any c vb vp vr vs u (old_go hA b) l1 l2 l3 l4 l5 hN m
end Go.Proofs.YtedhoghleelhfaaGreat.Grid
namespace Go.Proofs.YtedhoghleelhfaaGreat.Grid
set_option linter.unusedVariables false
set_option linter.unusedSimpArgs false
open Go Go.RowKit Go.Shelf Go.Proofs
attribute [local go_sem] Oper.semAt_some

theorem own_go {w w1 : World} {b : Nat} {e : TypeId} {sz n : Nat} {v : Value} {xs : List Value} (h : w.ownsRow b e sz v n xs) (hb : Below w.heap.size w w1) : w1.ownsRow b e sz v n xs := by
  refine ⟨h.1, ?_⟩
  rcases h.2 with hn | ⟨g, cap, cur, rfl, hb', hg, rest⟩
  · exact .inl hn
  · exact .inr ⟨g, cap, cur, rfl, hb', (hb.block g (lt_of_heap hg)).trans hg, rest⟩
end Go.Proofs.YtedhoghleelhfaaGreat.Grid
namespace Go.Proofs.YtedhoghleelhfaaGreat.Grid
set_option linter.unusedVariables false
set_option linter.unusedSimpArgs false
open Go Go.RowKit Go.Shelf Go.Proofs

end Go.Proofs.YtedhoghleelhfaaGreat.Grid
