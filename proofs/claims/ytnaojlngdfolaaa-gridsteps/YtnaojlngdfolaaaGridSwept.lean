/-
  slices.AppendSeq over a box's cells, and Swept.
-/
import Derived.Test.YtnaojlngdfolaaaGridRuns
namespace Go.Proofs.Ytnaojlngdfolaaa.Grid
set_option linter.unusedVariables false
set_option linter.unusedSimpArgs false
open Go Go.RowKit Go.Shelf Go.Proofs
attribute [local go_sem] Oper.semAt_some

theorem box_kept {X Y : World} {row : Option Nat} {B : Nat} {t : TypeId} {v : Value} (hv : Boxed X B t v) (hg : X.grownBy Y row) (hrow : ∀ r, row = some r → ∃ o : Obj, X.heap[r]? = some o ∧ o.isCells = false) : Boxed Y B t v := by
  refine hv.kept hg (fun e' => ?_)
  obtain ⟨o, ho, hc⟩ := hrow B e'.symm
  rw [show X.heap[B]? = _ from hv] at ho; cases ho; cases hc
theorem cells_kept {X Y : World} {row : Option Nat} {B : Nat} {t : TypeId} {cs : Array Value} (hv : X.heap[B]? = some (.cells cs t (0, 0))) (hg : X.grownBy Y row) (hrow : ∀ r, row = some r → ∃ o : Obj, X.heap[r]? = some o ∧ o.isCells = false) : Y.heap[B]? = some (.cells cs t (0, 0)) := by
  refine (hg.block B (lt_of_heap hv) (fun e' => ?_)).trans hv
  obtain ⟨o, ho, hc⟩ := hrow B e'.symm
  rw [hv] at ho; cases ho; cases hc
theorem row_kept {X Y : World} {row : Option Nat} {base : Nat} {e : TypeId} {size n : Nat} {v : Value} {xs : List Value} (hr : X.ownsRow base e size v n xs) (hg : X.grownBy Y row) (hrow : ∀ r, row = some r → ∃ o : Obj, X.heap[r]? = some o ∧ o.isCells = false) : Y.ownsRow base e size v n xs := by
  refine hr.kept hg ?_
  rcases hr.2 with ⟨rfl, _⟩ | ⟨g, cap, cur, rfl, _, hgb, _⟩
  · exact .inl rfl
  · refine .inr fun e' => ?_
    obtain ⟨o, ho, hc⟩ := hrow g (by simpa [Value.ownBlock] using e'.symm)
    rw [hgb] at ho; cases ho; cases hc
/- What has been gathered so far. -/
structure SwI (w : World) (base B Bn : Nat) (x0 y0 x1 y1 : Int) (pre : List Cell) (V : World) : Prop where
  row : ∃ v, Boxed V B 22 v ∧ V.ownsRow base 28 2 v pre.length (rowL cellL pre)
  box : V.heap[Bn]? = some (.cells #[.int .i64 x0, .int .i64 y0, .int .i64 x1, .int .i64 y1] 126 (0, 0))
  below : Below base w V
theorem swi_own {w : World} {base B Bn N : Nat} {x0 y0 x1 y1 : Int} (hb : base ≤ w.heap.size) (hN : base ≤ N) : OwnFrom N (fun (pre : List Cell) V => SwI w base B Bn x0 y0 x1 y1 pre V) := by
  intro pre X Y row h hg hr
  have hr' := fun r e => (hr r e).2
  obtain ⟨v, h1, h2⟩ := h.row
  exact ⟨⟨v, box_kept h1 hg hr', row_kept h2 hg hr'⟩, cells_kept h.box hg hr', h.below.grown hg (Nat.le_trans hb h.below.size) (fun k e => Nat.le_trans hN (hr k e).1)⟩
theorem infoCell3 : (Try.prog.info? 28).map (fun i => (i.zero, i.size, i.bytes)) = some (some (.agg #[.int .i64 0, .int .i64 0]), 2, 16) := infoCell
theorem two_cells (w : World) (p q : Value) (t : TypeId) : ∀ j u, ([p, q] : List Value)[j]? = some u → (w.alloc (.cells #[p, q] t)).cell? ((⟨w.heap.size, 0, none⟩ : Addr).add j) = some u := by
  intro j u hj
  rw [Addr.add_lit, Nat.zero_add, cell_of (World.alloc_heap_new w (.cells #[p, q] t))]
  simpa using hj
set_option maxRecDepth 100000 in
set_option maxHeartbeats 4000000 in
theorem appendSeq_in (base Bn g0 cap0 : Nat) (x0 y0 x1 y1 : Int) (hx0 : -1000 ≤ x0) (hy0 : -1000 ≤ y0) (hx1 : x1 ≤ 1000) (hy1 : y1 ≤ 1000) (hlen : (boxList x0 y0 x1 y1).length ≤ 1000000) (w : World) (hBn : w.heap[Bn]? = some (.cells #[.int .i64 x0, .int .i64 y0, .int .i64 x1, .int .i64 y1] 126 (0, 0))) (hbase : base ≤ w.heap.size) (h0 : w.ownsRow base 28 2 (.slice (some ⟨g0, 0, none⟩) 0 cap0) 0 []) :
    CallsIn Fence.wide 9 Try.prog 92 #[.slice (some ⟨g0, 0, none⟩) 0 cap0, .func (.func 130) #[] #[.pointer (some ⟨Bn, 0, none⟩)]] w fun e w' => ∃ v, e = .returned v ∧ w'.ownsRow base 28 2 v (boxList x0 y0 x1 y1).length (rowL cellL (boxList x0 y0 x1 y1)) ∧ Below base w w' := by
  obtain ⟨i0, hi, hz0, hz1, hz2⟩ := info_parts infoCell3
  refine callsIn_of_wp_marks Try.func92 rfl trivial ?_ rfl
  simp only [Try.ntmps92, List.size_toArray, List.length_cons, List.length_nil, Nat.reduceAdd, Nat.reduceSub, Array.replicate_succ, Array.replicate_zero, List.push_toArray, List.append_toArray, List.nil_append, List.cons_append]
  gi_wp2
  obtain ⟨V, hV⟩ : ∃ V, w.alloc (.cells #[.slice (some ⟨g0, 0, none⟩) 0 cap0] 22) = V := ⟨_, rfl⟩
  have bV : Below w.heap.size w V := by rw [← hV]; exact (Below.refl _ _).alloc (Nat.le_refl _) _
  have sV : V.heap.size = w.heap.size + 1 := by rw [← hV]; simp
  have xV : Boxed V w.heap.size 22 (.slice (some ⟨g0, 0, none⟩) 0 cap0) := by rw [← hV]; exact Boxed.new _ _ _
  have hBV : V.heap[Bn]? = some (.cells #[.int .i64 x0, .int .i64 y0, .int .i64 x1, .int .i64 y1] 126 (0, 0)) := (bV.block _ (lt_of_heap hBn)).trans hBn
  have rV := owns_go h0 bV
  try rw [hV]
  clear hV
  refine wpIn_rangeFunc_ownH rfl (by omega) (gf := 130) (lb := #[.pointer (some ⟨Bn, 0, none⟩)]) rfl trivial (enters_of Try.func130 (by kernel_rfl) rfl)
    (cells_stops 8 (by omega) Bn x0 y0 x1 y1 hx0 hy0 hx1 hy1 V hBV) KB.trans ?kb (Below.refl _ _) (fun _ => rfl)
    (fun pre V' => SwI w base w.heap.size Bn x0 y0 x1 y1 pre V') (fun _ _ _ => False)
    (swi_own hbase (by omega)) (fun _ _ _ _ _ hs _ _ => hs)
    ⟨⟨_, xV, rV⟩, hBV, bV.mono hbase⟩
    (fun c a' W => ∃ Bx, W.heap[Bx]? = some (.cells #[.int .i64 c.1, .int .i64 c.2] 28 (0, 0)) ∧ a' = { tmps := #[.slice (some ⟨g0, 0, none⟩) 0 cap0, .func (.func 130) #[] #[.pointer (some ⟨Bn, 0, none⟩)], .pointer (some ⟨w.heap.size, 0, none⟩), undef, .slice none 0 0, .pointer (some ⟨Bx, 0, none⟩), .func (.func 130) #[] #[.pointer (some ⟨Bn, 0, none⟩)], .agg #[.int .i64 c.1, .int .i64 c.2], undef, undef, undef, undef, undef], defers := [] })
    ?ax ?assign ?body ?done ?stop
  case kb =>
    intro W' l o o' hl ho _ _
    have hg := grownBy_putObj' W' l o'
    exact hg.block _ (by have := lt_of_heap ho; have := lt_of_heap hBV; omega) (fun e => by cases e; have := lt_of_heap hBV; omega)
  case ax =>
    rintro c a' _ X Y row ⟨Bx, h1, h2⟩ hg hr
    exact ⟨Bx, cells_kept h1 hg (fun r e => (hr r e).2), h2⟩
  case assign =>
    rintro l pre c W K hI hK
    simp only [encC]
    gi_wp2
    obtain ⟨v, hv, hrow⟩ := hI.row
    exact hK _ _ ((KeepsOthers.alloc _ _).from _) (Below.heap_alloc _ _ _ (lt_of_heap hI.box)) ⟨⟨v, hv.alloc _, hrow.alloc _⟩, (Below.heap_alloc _ _ _ (lt_of_heap hI.box)).trans hI.box, hI.below.alloc (Nat.le_trans hbase hI.below.size) _⟩ ⟨W.heap.size, World.alloc_heap_new _ _, rfl⟩
  case done =>
    rintro D ys V' hD rfl hI hKD
    obtain ⟨v, hv, hrow⟩ := hI.row
    obtain ⟨va, vc, rfl, _⟩ := own_form hrow
    have hc := hv.cell
    gi_wp2
    refine ⟨by simp, .inl ⟨_, _, rfl, run_takeDeferred hKD, ?_⟩⟩
    exact ⟨_, results_tmp rfl _ _ _, _, rfl, ownsRow_putObj hrow _ hKD rfl, hI.below.trans (belowK_b (w := w) hbase V' D _ _ (by omega) hKD rfl rfl)⟩
  case stop =>
    rintro D c pre V' _ _ h _
    exact h.elim
  case body =>
    rintro l pre c a' V' hl ⟨r, hr⟩ hI ⟨Bx, hBx, rfl⟩ hlt
    obtain ⟨v, hv, hrow⟩ := hI.row
    have hc := hv.cell
    have x0' : V'.cell? ⟨Bx, 0, none⟩ = some (.int .i64 c.1) := cell_of hBx 0
    have x1' : V'.cell? ⟨Bx, 1, none⟩ = some (.int .i64 c.2) := cell_of hBx 1
    have hsz := hI.below.size
    have hBl := lt_of_heap hBn
    obtain ⟨k, hk⟩ : ∃ k, pre.length = k := ⟨_, rfl⟩
    have HK : Hid (pre.length = k) := hk
    have hkl : k ≤ 1000000 := by omega
    rw [hk] at hrow
    have HI : Hid (SwI w base w.heap.size Bn x0 y0 x1 y1 pre V') := hI
    clear hk hI
    gi_wp2_with (gi_at_builtin; refine wpListIn_append_own _ rfl _ _ 22 rfl base 28 i0 (.agg #[.int .i64 0, .int .i64 0]) 2 16 Try.underlying22 hi hz0 hz1 hz2 rfl (by decide) v k _ rfl (hrow.alloc _) ⟨V'.heap.size, 0, none⟩ 1 1 [.int .i64 c.1, .int .i64 c.2] rfl rfl (two_cells _ _ _ _) (by intro y hy; simp at hy; rcases hy with rfl | rfl <;> rfl) (by unfold maxLen; omega) (by omega) (by simp; omega) ?_; intro v' w1 hown' hgrow _; obtain ⟨g', cap', rfl⟩ := ownsRow_succ hown'; obtain ⟨hv1, hv2, hr2, hk2, hb2⟩ := hv.appended (by decide) hrow (by omega) (by omega) hown' hgrow; have hc1 := hv1.cell; have hf1 := hv1.frozen)
    have hI := HI.out
    have hnb : v.ownBlock ≠ some Bn := fun e => by
      rcases hrow.2 with ⟨e', _⟩ | ⟨g2, cap2, cur2, e', _, hg2, _⟩
      · rw [e'] at e; cases e
      · rw [e'] at e; cases e; have := hI.box; rw [hg2] at this; cases this
    have hbn : (w1.setCell ⟨w.heap.size, 0, none⟩ (.slice (some ⟨g', 0, none⟩) (k + 1) cap')).heap[Bn]? = V'.heap[Bn]? := by
      refine (Below.heap_setCell _ _ _ _ (by show Bn ≠ w.heap.size; omega)).trans ?_
      refine (hgrow.block Bn (by have := lt_of_heap hI.box; simp; omega) (fun e => hnb e.symm)).trans ?_
      exact Below.heap_alloc _ _ _ (lt_of_heap hI.box)
    refine ⟨hk2.from _, hbn, ⟨_, hv2, ?_⟩, hbn.trans hI.box, hI.below.trans hb2⟩
    rw [List.length_append, HK.out]
    have e : rowL cellL (pre ++ [c]) = rowL cellL pre ++ [.int .i64 c.1, .int .i64 c.2] := by unfold rowL; rw [List.flatMap_append]; rfl
    rw [e]
    exact hr2
set_option maxHeartbeats 2000000 in
theorem size_any (x0 y0 x1 y1 : Int) (h0 : -1000 ≤ x0) (h1 : x0 ≤ 1000) (h2 : -1000 ≤ y0) (h3 : y0 ≤ 1000) (h4 : -1000 ≤ x1) (h5 : x1 ≤ 1000) (h6 : -1000 ≤ y1) (h7 : y1 ≤ 1000) (K : Nat) (hK : (x1 - x0 + 1) * (y1 - y0 + 1) = (K : Int)) (hK2 : K ≤ 10000000) (w : World) :
    Calls Try.prog 93 #[.agg #[.int .i64 x0, .int .i64 y0, .int .i64 x1, .int .i64 y1]] w fun e w' => ∃ r, e = .returned r ∧ (r = .int .i64 K ∧ Below w.heap.size w w') := by
  have bb : Below w.heap.size w (w.alloc (.cells #[.int .i64 x0, .int .i64 y0, .int .i64 x1, .int .i64 y1] 126)) := (Below.refl _ _).alloc (Nat.le_refl _) _
  go_enter Try.func93, Try.ntmps93
  go_wp2
  go_ret
  exact ⟨_, rfl, rfl, bb⟩
/- The cells that a move sweeps. -/
def sweptP (W H : Int) (us : List Int) (m : Move) : List Cell := if legalU W H us m = true then boxOf m.2.2.2.1 m.2.2.2.2.1 else []
structure SpanOk (p q : Pose) (K : Nat) : Prop where
  a0 : -1000 ≤ (spanP p q).1.1
  a1 : (spanP p q).1.1 ≤ 1000
  b0 : -1000 ≤ (spanP p q).1.2
  b1 : (spanP p q).1.2 ≤ 1000
  c0 : -1000 ≤ (spanP p q).2.1
  c1 : (spanP p q).2.1 ≤ 1000
  d0 : -1000 ≤ (spanP p q).2.2
  d1 : (spanP p q).2.2 ≤ 1000
  size : ((spanP p q).2.1 - (spanP p q).1.1 + 1) * ((spanP p q).2.2 - (spanP p q).1.2 + 1) = (K : Int)
  small : K ≤ 1000000
  len : (boxOf p q).length = K
theorem rows_len2 (x0 y0 x1 y1 : Int) (hx : x0 ≤ x1) (hy : y0 ≤ y1) : (((boxList x0 y0 x1 y1).length : Nat) : Int) = (x1 - x0 + 1) * (y1 - y0 + 1) := by
  unfold boxList
  rw [rows_len, Int.natCast_mul, show (((y1 + 1 - y0).toNat : Nat) : Int) = y1 - y0 + 1 by omega, show (((x1 + 1 - x0).toNat : Nat) : Int) = x1 - x0 + 1 by omega, Int.mul_comm]
theorem span_ok {W H : Int} {us : List Int} {m : Move} (hW : W ≤ 16) (hH : H ≤ 16) (h : legalU W H us m = true) : ∃ K, SpanOk m.2.2.2.1 m.2.2.2.2.1 K := by
  obtain ⟨kd, dir, n, f, t, ma, me⟩ := m
  unfold legalU at h
  simp only [Bool.and_eq_true, decide_eq_true_eq] at h
  obtain ⟨⟨⟨hl, ht⟩, hf⟩, _⟩ := h
  simp only
  obtain ⟨⟨a, b, c, d⟩, _⟩ := fits_in hf
  have hn := leads_near (kd := kd) (dir := dir) (n := n) (f := f) (by omega) (by omega) (by omega) (by omega) hl
  rw [← ht] at hn
  have s1 := second_small (p := f) (by omega) (by omega) (by omega) (by omega)
  have s2 := second_small (p := t) (by omega) (by omega) (by omega) (by omega)
  have hx : (spanP f t).1.1 ≤ (spanP f t).2.1 ∧ (spanP f t).1.2 ≤ (spanP f t).2.2 ∧ -100 ≤ (spanP f t).1.1 ∧ -100 ≤ (spanP f t).1.2 ∧ (spanP f t).2.1 ≤ 100 ∧ (spanP f t).2.2 ≤ 100 := by
    unfold spanP
    simp only
    rw [s1, s2]
    cases f.2 <;> cases t.2 <;> simp only [if_true, if_false, Bool.false_eq_true] <;> omega
  obtain ⟨x1, x2, x3, x4, x5, x6⟩ := hx
  have hl := rows_len2 (spanP f t).1.1 (spanP f t).1.2 (spanP f t).2.1 (spanP f t).2.2 x1 x2
  refine ⟨(boxOf f t).length, by omega, by omega, by omega, by omega, by omega, by omega, by omega, by omega, hl.symm, ?_, rfl⟩
  have : (((boxOf f t).length : Nat) : Int) ≤ 201 * 201 := by
    rw [show (((boxOf f t).length : Nat) : Int) = _ from hl]
    exact Int.mul_le_mul (by omega) (by omega) (by omega) (by omega)
  omega
end Go.Proofs.Ytnaojlngdfolaaa.Grid
