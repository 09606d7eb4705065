/-
  Where a bin stands: the first stack cell that has it, and the bins above it.
-/
import Derived.Test.YtebfjldbhmmmlaaDgV
import Derived.Test.YtebfjldbhmmmlaaDigIdx
namespace Go.Proofs.Ytebfjldbhmmmlaa.Dig
set_option linter.unusedVariables false
set_option linter.unusedSimpArgs false
open Go Go.RowKit Go.Shelf Go.Proofs Go.Proofs.Ytebfjldbhmmmlaa.Grid Go.Proofs.Ytebfjldbhmmmlaa.Srt
attribute [local go_sem] Oper.semAt_some

/- The first cell at which a bin stands, and its place there. -/
structure At (stks : List Stk) (L : List Cell) (bin : Int) (c : Cell) (j : Nat) : Prop where
  ex : ∃ L1 L2, L = L1 ++ c :: L2 ∧ ∀ x ∈ L1, bin ∉ pileOf stks x
  here : (pileOf stks c)[j]? = some bin
  first : ∀ k, k < j → (pileOf stks c)[k]? ≠ some bin
/- A list from a place on. -/
theorem run_from_int {F : Nat → Prop} {w : World} {v : Value} {l : List Int} (h : ListAt 1 intEl F l v w) (ok : SlOk v) (i : Nat) (hi : i ≤ l.length) : ∃ v', (∀ u, (Instr.sliceAt 38 v (some (.int .i64 i)) none none).run Try.prog u = .ok v' u) ∧ ListAt 1 intEl F (l.drop i) v' w := by
  obtain ⟨a, cap, ys, h1, h2, h3, h4, h5⟩ := h
  subst h2
  have hl : l.length = ys.length := by rw [h1, List.length_map]
  have ok2 : ys.length ≤ cap := ok
  rw [hl] at hi
  cases a with
  | none =>
    have hc := h5 rfl
    have e : ys = [] := List.eq_nil_of_length_eq_zero (by omega)
    subst e
    have e2 : i = 0 := by simpa using hi
    subst hc e2 h1
    refine ⟨.slice none 0 0, fun u => ?_, ListAt.nil _ _ _ _⟩
    clear h3 h4 h5 ok ok2
    go_simp
  | some p =>
    obtain ⟨n, hn⟩ : ∃ n, ys.length = n := ⟨_, rfl⟩
    have i1 : i ≤ n := by omega
    have i2 : n ≤ cap := by omega
    by_cases hc : cap = i
    · have e : l.drop i = [] := List.drop_eq_nil_of_le (by omega)
      have en : n - i = 0 := by omega
      refine ⟨.slice (some p) (n - i) (cap - i), ?_, ?_⟩
      · rw [hn]
        subst hc
        clear h3 h4 h5 h1 e hi ok ok2 hl hn
        have a1 : (cap : Int) ≤ (n : Int) := by omega
        have a2 : (n : Int) ≤ (cap : Int) := by omega
        intro u
        go_simp
      · rw [e, en]
        exact ⟨some p, cap - i, [], rfl, rfl, fun y hy => by simp at hy, fun k hk => by simp at hk, fun q => by cases q⟩
    · refine ⟨.slice (some (p.add i)) (n - i) (cap - i), ?_, some (p.add i), cap - i, ys.drop i, by rw [h1, List.map_drop], by rw [List.length_drop, hn], fun y hy => h3 y (List.mem_of_mem_drop hy), fun k hk => ?_, fun q => by cases q⟩
      · rw [hn]
        clear h3 h4 h5 h1 hi ok ok2 hl hn
        have a1 : (i : Int) ≤ (n : Int) := by omega
        have a2 : (n : Int) ≤ (cap : Int) := by omega
        intro u
        go_simp
      · rw [List.length_drop] at hk
        obtain ⟨q, hq, hf, hcell⟩ := h4 (i + k) (by omega)
        injection hq with hq
        subst hq
        refine ⟨p.add i, rfl, by rw [block_add]; exact hf, fun j z hj => ?_⟩
        rw [List.getElem_drop] at hj
        have := hcell j z hj
        rw [add_add]
        rw [show i + (k * 1 + j) = (i + k) * 1 + j by omega]
        exact this
/- While cells are told: the bin stands at none of them. -/
structure FdI (w2 : World) (stks : List Stk) (bin : Int) (W H : Int) (pre : List (CellIn W H)) (V : World) : Prop where
  not : ∀ x ∈ pre, bin ∉ pileOf stks x.1
  below : Below w2.heap.size w2 V
theorem fdi_own {w2 : World} {stks : List Stk} {bin W H : Int} : OwnFrom w2.heap.size (fun (pre : List (CellIn W H)) V => FdI w2 stks bin W H pre V) := by
  intro pre X Y row h hg hr
  exact ⟨h.not, h.below.grown hg h.below.size (fun k e => (hr k e).1)⟩
/- It was found: what is told lies in the results' variables. -/
structure FdX (w : World) (F : Nat → Prop) (stks : List Stk) (bin : Int) (W H : Int) (k : Code) (pre : List (CellIn W H)) (V : World) : Prop where
  ret : k = .ret
  below : Below w.heap.size w V
  big : w.heap.size + 5 ≤ V.heap.size
  is : ∃ (q : List (CellIn W H)) (x : CellIn W H) (j : Nat) (v : Value), pre = q ++ [x] ∧ (∀ y ∈ q, bin ∉ pileOf stks y.1) ∧ (pileOf stks x.1)[j]? = some bin ∧ (∀ i, i < j → (pileOf stks x.1)[i]? ≠ some bin) ∧ V.heap[w.heap.size + 2]? = some (.cells #[.int .i64 x.1.1, .int .i64 x.1.2] 30 (0, 0)) ∧ V.heap[w.heap.size + 3]? = some (.cells #[v] 38 (0, 0)) ∧ V.heap[w.heap.size + 4]? = some (.cells #[.bool true] 4 (0, 0)) ∧ ListAt 1 intEl F ((pileOf stks x.1).drop (j + 1)) v V
theorem fdx_own {w : World} {F : Nat → Prop} (hF : ∀ b, F b → b < w.heap.size) {stks : List Stk} {bin W H : Int} {B : Nat} (hB : w.heap.size ≤ B) (k : Code) : OwnFrom B (fun (pre : List (CellIn W H)) V => FdX w F stks bin W H k pre V) := by
  intro pre X Y row h hg hr
  have hr' := fun r e => (hr r e).2
  obtain ⟨q, x, j, v, e1, e2, e3, e4, e5, e6, e7, e8⟩ := h.is
  have hs := h.below.size
  exact ⟨h.ret, h.below.grown hg hs (fun k e => Nat.le_trans hB (hr k e).1), Nat.le_trans h.big hg.size, q, x, j, v, e1, e2, e3, e4, cells_kept e5 hg hr', cells_kept e6 hg hr', cells_kept e7 hg hr', e8.stable heldInt fun b hb => hg.block b (by have := hF b hb; omega) (fun e => by have := (hr b e.symm).1; have := hF b hb; omega)⟩
theorem results_cells3 {fn : Func} {p q r : Tmp} {t1 t2 t3 : TypeId} (h : fn.results = #[.cell p t1, .cell q t2, .cell r t3]) (tmps : Array Value) (w : World) (a1 a2 a3 : Addr) (x1 x2 x3 : Value)
    (h1 : tmps.getD p undef = .pointer (some a1)) (h2 : tmps.getD q undef = .pointer (some a2)) (h3 : tmps.getD r undef = .pointer (some a3)) (g1 : (loadVar t1 a1).run Try.prog w = .ok x1 w) (g2 : (loadVar t2 a2).run Try.prog w = .ok x2 w) (g3 : (loadVar t3 a3).run Try.prog w = .ok x3 w) :
    (results fn tmps).run Try.prog w = .ok (.tuple #[x1, x2, x3]) w := by
  have h1' : tmps[p]?.getD undef = .pointer (some a1) := by simpa using h1
  have h2' : tmps[q]?.getD undef = .pointer (some a2) := by simpa using h2
  have h3' : tmps[r]?.getD undef = .pointer (some a3) := by simpa using h3
  simp [results, h, h1', h2', h3', asAddr, g1, g2, g3]
theorem load_slice1 (w : World) (b : Nat) (a : Option Addr) (n c : Nat) (h : w.heap[b]? = some (.cells #[.slice a n c] 38 (0, 0))) : (loadVar 38 ⟨b, 0, none⟩).run Try.prog w = .ok (.slice a n c) w := by
  have h1 : w.cell? ⟨b, 0, none⟩ = some (.slice a n c) := (cell_of h 0).trans rfl
  go_simp
theorem load_bool1 (w : World) (b : Nat) (x : Bool) (h : w.heap[b]? = some (.cells #[.bool x] 4 (0, 0))) : (loadVar 4 ⟨b, 0, none⟩).run Try.prog w = .ok (.bool x) w := by
  have h1 : w.cell? ⟨b, 0, none⟩ = some (.bool x) := (cell_of h 0).trans rfl
  go_simp
theorem run_slice_op {o : Oper} {a : Act} {w : World} {v x i : Value} (px pi : Operand) (ho : o.op = .slice 38 px (some pi) none none) (hx : a.eval px = x) (hi : a.eval pi = i) (h : (Instr.sliceAt 38 x (some i) none none).run Try.prog w = .ok v w) : (execOp a.eval o).run Try.prog w = .ok (.value v) w := by
  unfold execOp
  simp only [ho, Option.map_some, Option.map_none, hx, hi, Sem.run_bind, Sem.run_pure, Result.andThen_ok, h]
set_option maxRecDepth 100000 in
set_option maxHeartbeats 4000000 in
theorem find_in (yb pb g u : Nat) (W H height : Int) (us : List Int) (vp : Value) (F : Nat → Prop) (stks : List Stk) (bin : Int) (w : World) (hY : YardAt w yb pb g u W H height us vp F stks) (hp : ∀ x, (pileOf stks x).length ≤ 17592186044416) :
    CallsIn Fence.wide 9 Try.prog 18 #[.pointer (some ⟨yb, 0, none⟩), .int .i64 bin] w fun e w' => ((∃ c j v, e = .returned (.tuple #[.agg #[.int .i64 c.1, .int .i64 c.2], v, .bool true]) ∧ At stks (stkUpTo W us us.length) bin c j ∧ ListAt 1 intEl F ((pileOf stks c).drop (j + 1)) v w') ∨ (e = .returned (.tuple #[.agg #[.int .i64 0, .int .i64 0], .slice none 0 0, .bool false]) ∧ ∀ x ∈ stkUpTo W us us.length, bin ∉ pileOf stks x)) ∧ Below w.heap.size w w' := by
  obtain ⟨wb, hwb⟩ : ∃ wb, wb = ((((w.alloc (.cells #[.pointer (some ⟨yb, 0, none⟩)] 49)).alloc (.cells #[.int .i64 bin] 3)).alloc (.cells #[.int .i64 0, .int .i64 0] 30)).alloc (.cells #[.slice none 0 0] 38)).alloc (.cells #[.bool false] 4) := ⟨_, rfl⟩
  have sb : wb.heap.size = w.heap.size + 5 := by rw [hwb]; simp
  have bb : Below w.heap.size w wb := by rw [hwb]; exact (((((Below.refl _ _).alloc (Nat.le_refl _) _).alloc (by simp) _).alloc (by simp; omega) _).alloc (by simp; omega) _).alloc (by simp; omega) _
  have k0 : wb.heap[w.heap.size]? = some (.cells #[.pointer (some ⟨yb, 0, none⟩)] 49 (0, 0)) := by rw [hwb]; exact (alloc_old _ _ _ (by simp; omega)).trans ((alloc_old _ _ _ (by simp; omega)).trans ((alloc_old _ _ _ (by simp; omega)).trans ((alloc_old _ _ _ (by simp)).trans (heap_alloc_new w _))))
  have k1 : wb.heap[w.heap.size + 1]? = some (.cells #[.int .i64 bin] 3 (0, 0)) := by rw [hwb]; exact (alloc_old _ _ _ (by simp <;> omega)).trans ((alloc_old _ _ _ (by simp <;> omega)).trans ((alloc_old _ _ _ (by simp)).trans (heap_new2 _ _ _)))
  have k2 : wb.heap[w.heap.size + 2]? = some (.cells #[.int .i64 0, .int .i64 0] 30 (0, 0)) := by
    rw [hwb]
    refine (alloc_old _ _ _ (by simp <;> omega)).trans ((alloc_old _ _ _ (by simp)).trans ?_)
    rw [show w.heap.size + 2 = ((w.alloc (.cells #[.pointer (some ⟨yb, 0, none⟩)] 49)).alloc (.cells #[.int .i64 bin] 3)).heap.size by simp]
    exact heap_alloc_new _ _
  have k3 : wb.heap[w.heap.size + 3]? = some (.cells #[.slice none 0 0] 38 (0, 0)) := by
    rw [hwb]
    refine (alloc_old _ _ _ (by simp)).trans ?_
    rw [show w.heap.size + 3 = (((w.alloc (.cells #[.pointer (some ⟨yb, 0, none⟩)] 49)).alloc (.cells #[.int .i64 bin] 3)).alloc (.cells #[.int .i64 0, .int .i64 0] 30)).heap.size by simp]
    exact heap_alloc_new _ _
  have k4 : wb.heap[w.heap.size + 4]? = some (.cells #[.bool false] 4 (0, 0)) := by
    rw [hwb, show w.heap.size + 4 = ((((w.alloc (.cells #[.pointer (some ⟨yb, 0, none⟩)] 49)).alloc (.cells #[.int .i64 bin] 3)).alloc (.cells #[.int .i64 0, .int .i64 0] 30)).alloc (.cells #[.slice none 0 0] 38)).heap.size by simp]
    exact heap_alloc_new _ _
  have hYb := hY.go bb
  have y0 : wb.cell? ⟨yb, 0, none⟩ = some (.pointer (some ⟨g, 0, none⟩)) := (cell_of hYb.hd 0).trans rfl
  have y0' := y0
  rw [hwb] at y0'
  have cS := stacksG_any g u W H us vp wb hYb.grid
  have HYb : Hid (YardAt wb yb pb g u W H height us vp F stks) := hYb
  have HBb : Hid (Below w.heap.size w wb) := bb
  have HK : Hid (wb.heap[w.heap.size]? = some (.cells #[.pointer (some ⟨yb, 0, none⟩)] 49 (0, 0)) ∧ wb.heap[w.heap.size + 1]? = some (.cells #[.int .i64 bin] 3 (0, 0)) ∧ wb.heap[w.heap.size + 2]? = some (.cells #[.int .i64 0, .int .i64 0] 30 (0, 0)) ∧ wb.heap[w.heap.size + 3]? = some (.cells #[.slice none 0 0] 38 (0, 0)) ∧ wb.heap[w.heap.size + 4]? = some (.cells #[.bool false] 4 (0, 0))) := ⟨k0, k1, k2, k3, k4⟩
  have HFt : Hid (∀ b, F b → b < w.heap.size) := hY.foot
  have HPl : Hid (∀ x, (pileOf stks x).length ≤ 17592186044416) := hp
  clear hY hYb bb k0 k1 k2 k3 k4 hp
  refine callsIn_of_wp_marks Try.func18 rfl trivial ?_ rfl
  simp only [Try.ntmps18, List.size_toArray, List.length_cons, List.length_nil, Nat.reduceAdd, Nat.reduceSub, Array.replicate_succ, Array.replicate_zero, List.push_toArray, List.append_toArray, List.nil_append, List.cons_append]
  gi_wp2_with (refine ⟨trivial, ?_⟩; rw [← hwb]; clear hwb y0'; gi_at_call 39; refine (callsIn_wide.2 cS).mono ?_; rintro e w2 ⟨rfl, C5, b5⟩)
  have bW2 : Below w.heap.size w w2 := bcat HBb.out b5 (Nat.le_refl _)
  have HBw2 : Hid (Below w.heap.size w w2) := bW2
  have HY5 : Hid (YardAt w2 yb pb g u W H height us vp F stks) := HYb.out.go b5
  rw [sb] at C5
  try rw [sb]
  have lg5 : w.heap.size + 5 < w2.heap.size := lt_of_heap C5.bg
  have hG5 := C5.grid
  have lgg := hG5.ltg
  have lgu := hG5.ltu
  have HC5 : Hid (w2.heap[w.heap.size + 5]? = some (.cells #[.pointer (some ⟨g, 0, none⟩)] 52 (0, 0))) := C5.bg
  have k5 : w2.heap[w.heap.size]? = some (.cells #[.pointer (some ⟨yb, 0, none⟩)] 49 (0, 0)) ∧ w2.heap[w.heap.size + 1]? = some (.cells #[.int .i64 bin] 3 (0, 0)) ∧ w2.heap[w.heap.size + 2]? = some (.cells #[.int .i64 0, .int .i64 0] 30 (0, 0)) ∧ w2.heap[w.heap.size + 3]? = some (.cells #[.slice none 0 0] 38 (0, 0)) ∧ w2.heap[w.heap.size + 4]? = some (.cells #[.bool false] 4 (0, 0)) := by
    obtain ⟨a, b, c, d, e⟩ := HK.out
    exact ⟨(b5.block _ (lt_of_heap a)).trans a, (b5.block _ (lt_of_heap b)).trans b, (b5.block _ (lt_of_heap c)).trans c, (b5.block _ (lt_of_heap d)).trans d, (b5.block _ (lt_of_heap e)).trans e⟩
  have HK5 : Hid (w2.heap[w.heap.size]? = some (.cells #[.pointer (some ⟨yb, 0, none⟩)] 49 (0, 0)) ∧ w2.heap[w.heap.size + 1]? = some (.cells #[.int .i64 bin] 3 (0, 0)) ∧ w2.heap[w.heap.size + 2]? = some (.cells #[.int .i64 0, .int .i64 0] 30 (0, 0)) ∧ w2.heap[w.heap.size + 3]? = some (.cells #[.slice none 0 0] 38 (0, 0)) ∧ w2.heap[w.heap.size + 4]? = some (.cells #[.bool false] 4 (0, 0))) := k5
  clear k5 y0 hG5
  refine wpIn_rangeFunc_ownH rfl (by omega) (gf := 56) (lb := #[.pointer (some ⟨w.heap.size + 5, 0, none⟩)]) rfl trivial (enters_of Try.func56 (by kernel_rfl) rfl)
    (stacksIn_stops 8 (by omega) (w.heap.size + 5) g u W H us vp w2 C5) K3.trans ?kb (Below.refl _ _) (fun _ => rfl)
    (fun pre V' => FdI w2 stks bin W H pre V') (fun k pre V' => FdX w F stks bin W H k pre V')
    fdi_own (fun k => fdx_own HFt.out bW2.size k)
    ⟨fun x hx => by simp at hx, Below.refl _ _⟩
    (fun x a' V => ∃ Bx, V.heap[Bx]? = some (.cells #[.int .i64 x.1.1, .int .i64 x.1.2] 30 (0, 0)) ∧ w2.heap.size ≤ Bx ∧ a' = { tmps := #[.pointer (some ⟨yb, 0, none⟩), .int .i64 bin, .pointer (some ⟨w.heap.size, 0, none⟩), .pointer (some ⟨w.heap.size + 1, 0, none⟩), .pointer (some ⟨w.heap.size + 2, 0, none⟩), .pointer (some ⟨w.heap.size + 3, 0, none⟩), .pointer (some ⟨w.heap.size + 4, 0, none⟩), .pointer (some ⟨Bx, 0, none⟩), undef, .pointer (some ⟨yb, 0, none⟩), .pointer (some ⟨yb, 0, none⟩), .pointer (some ⟨yb, 0, none⟩), .pointer (some ⟨g, 0, none⟩), .func (.func 56) #[] #[.pointer (some ⟨w.heap.size + 5, 0, none⟩)], .agg #[.int .i64 x.1.1, .int .i64 x.1.2], undef, undef, undef, undef, undef, undef, undef, undef, undef, undef, undef, undef, undef, undef, undef], defers := [] })
    ?ax ?assign ?body ?done ?stop
  case kb =>
    intro W' l o o' hl ho _ _
    have hg := grownBy_putObj' W' l o'
    have lw := lt_of_heap ho
    exact ⟨hg.block _ (by omega) (fun e => by cases e; omega), hg.block _ (by omega) (fun e => by cases e; omega), hg.block _ (by omega) (fun e => by cases e; omega)⟩
  case ax =>
    rintro x a' _ X Y row ⟨Bx, h1, h2, h3⟩ hg hr
    exact ⟨Bx, cells_kept h1 hg (fun r e => (hr r e).2), h2, h3⟩
  case assign =>
    rintro l pre x V K hI hK
    simp only [encIn, encC]
    gi_wp2
    have hsz := hI.below.size
    exact hK _ _ ((KeepsOthers.alloc _ _).from _) ⟨Below.heap_alloc _ _ _ (by omega), Below.heap_alloc _ _ _ (by omega), Below.heap_alloc _ _ _ (by omega)⟩ ⟨hI.not, hI.below.alloc hI.below.size _⟩ ⟨V.heap.size, World.alloc_heap_new _ _, hsz, rfl⟩
  case done =>
    rintro D ys V' hD hys hI hKD
    obtain ⟨q0, q1, q2, q3, q4⟩ := HK5.out
    have z2 := (hI.below.block _ (lt_of_heap q2)).trans q2
    have z3 := (hI.below.block _ (lt_of_heap q3)).trans q3
    have z4 := (hI.below.block _ (lt_of_heap q4)).trans q4
    have c20 : V'.cell? ⟨w.heap.size + 2, 0, none⟩ = some (.int .i64 0) := (cell_of z2 0).trans rfl
    have c21 : V'.cell? ⟨w.heap.size + 2, 1, none⟩ = some (.int .i64 0) := (cell_of z2 1).trans rfl
    have c3 : V'.cell? ⟨w.heap.size + 3, 0, none⟩ = some (.slice none 0 0) := (cell_of z3 0).trans rfl
    have c4 : V'.cell? ⟨w.heap.size + 4, 0, none⟩ = some (.bool false) := (cell_of z4 0).trans rfl
    have f20 := frozen_of z2 0
    have f21 := frozen_of z2 1
    have f3 := frozen_of z3 0
    have f4 := frozen_of z4 0
    gi_wp2
    obtain ⟨Vf, hVf⟩ : ∃ x, x = ((((V'.setCell ⟨w.heap.size + 1 + 1, 0, none⟩ (.int .i64 0)).setCell ⟨w.heap.size + 1 + 1, 1, none⟩ (.int .i64 0)).setCell ⟨w.heap.size + 1 + 1 + 1, 0, none⟩ (.slice none 0 0)).setCell ⟨w.heap.size + 1 + 1 + 1 + 1, 0, none⟩ (.bool false)) := ⟨_, rfl⟩
    rw [← hVf]
    have bv := bcat HBw2.out hI.below (Nat.le_refl _)
    have x2 : Vf.heap[w.heap.size + 2]? = some (.cells #[.int .i64 0, .int .i64 0] 30 (0, 0)) := by
      rw [hVf]
      refine (heap_setCell_other _ _ _ _ (by simp)).trans ((heap_setCell_other _ _ _ _ (by simp)).trans ?_)
      exact heap_setCell_same _ _ 1 _ _ _ (heap_setCell_same _ _ 0 _ _ _ z2)
    have x3 : Vf.heap[w.heap.size + 3]? = some (.cells #[.slice none 0 0] 38 (0, 0)) := by
      rw [hVf]
      refine (heap_setCell_other _ _ _ _ (by simp)).trans ?_
      exact heap_setCell_same _ _ 0 _ _ _ ((heap_setCell_other _ _ _ _ (by simp)).trans ((heap_setCell_other _ _ _ _ (by simp)).trans z3))
    have x4 : Vf.heap[w.heap.size + 4]? = some (.cells #[.bool false] 4 (0, 0)) := by
      rw [hVf]
      exact heap_setCell_same _ _ 0 _ _ _ ((heap_setCell_other _ _ _ _ (by simp)).trans ((heap_setCell_other _ _ _ _ (by simp)).trans ((heap_setCell_other _ _ _ _ (by simp)).trans z4)))
    have xD : Vf.heap[D]? = some (.deferred (some [])) := by
      rw [hVf]
      exact (heap_setCell_other _ _ _ _ (by simp; omega)).trans ((heap_setCell_other _ _ _ _ (by simp; omega)).trans ((heap_setCell_other _ _ _ _ (by simp; omega)).trans ((heap_setCell_other _ _ _ _ (by simp; omega)).trans hKD)))
    have xb : Below w.heap.size w Vf := by
      rw [hVf]
      exact below_set (below_set (below_set (below_set bv (by omega) _ _) (by omega) _ _) (by omega) _ _) (by omega) _ _
    clear hVf
    have gz := grownBy_putObj' Vf D (.deferred none)
    have y2 := (gz.block _ (lt_of_heap x2) (fun e => by cases e; rw [x2] at xD; cases xD)).trans x2
    have y3 := (gz.block _ (lt_of_heap x3) (fun e => by cases e; rw [x3] at xD; cases xD)).trans x3
    have y4 := (gz.block _ (lt_of_heap x4) (fun e => by cases e; rw [x4] at xD; cases xD)).trans x4
    refine ⟨by simp, .inl ⟨_, _, rfl, run_takeDeferred xD, ?_⟩⟩
    refine ⟨_, results_cells3 Try.results18 _ _ ⟨w.heap.size + 2, 0, none⟩ ⟨w.heap.size + 3, 0, none⟩ ⟨w.heap.size + 4, 0, none⟩ _ _ _ rfl rfl rfl (load_cell2 _ _ _ rfl y2) (load_slice1 _ _ _ _ _ y3) (load_bool1 _ _ _ y4), Or.inr ⟨rfl, fun x hx => ?_⟩, xb.grown gz xb.size (fun k e => by cases e; have := bW2.size; omega)⟩
    have hys2 : ys.map (·.1) = stkUpTo W us us.length := hys
    rw [← hys2] at hx
    obtain ⟨y, hy, rfl⟩ := List.mem_map.1 hx
    exact hI.not y hy
  case stop =>
    rintro D k pre V' hD hSp hX hKD
    obtain ⟨rfl, hbl, hbig, q, x, j, v, e1, e2, e3, e4, e5, e6, e7, e8⟩ := hX
    gi_wp2
    have gz := grownBy_putObj' V' D (.deferred none)
    have y2 := (gz.block _ (lt_of_heap e5) (fun e => by cases e; rw [e5] at hKD; cases hKD)).trans e5
    have y3 := (gz.block _ (lt_of_heap e6) (fun e => by cases e; rw [e6] at hKD; cases hKD)).trans e6
    have y4 := (gz.block _ (lt_of_heap e7) (fun e => by cases e; rw [e7] at hKD; cases hKD)).trans e7
    obtain ⟨va, vc, hv, _⟩ := e8.form
    subst hv
    refine ⟨by simp, .inl ⟨_, _, rfl, run_takeDeferred hKD, ?_⟩⟩
    refine ⟨_, results_cells3 Try.results18 _ _ ⟨w.heap.size + 2, 0, none⟩ ⟨w.heap.size + 3, 0, none⟩ ⟨w.heap.size + 4, 0, none⟩ _ _ _ rfl rfl rfl (load_cell2 _ _ _ rfl y2) (load_slice1 _ _ _ _ _ y3) (load_bool1 _ _ _ y4), Or.inl ⟨x.1, j, _, rfl, ⟨?_, e3, e4⟩, e8.stable heldInt fun b hb => gz.block b (by have := HFt.out b hb; have := hbl.size; omega) (fun e => by cases e; have := HFt.out _ hb; have := bW2.size; omega)⟩, hbl.grown gz hbl.size (fun k e => by cases e; have := bW2.size; omega)⟩
    have hSp2 : pre.map (·.1) <+: stkUpTo W us us.length := hSp
    obtain ⟨r, hr⟩ := hSp2
    rw [e1, List.map_append] at hr
    refine ⟨q.map (·.1), r, by rw [← hr]; simp, fun y hy => ?_⟩
    obtain ⟨z, hz, rfl⟩ := List.mem_map.1 hy
    exact e2 z hz
  case body =>
    rintro l pre x a' V' hl ⟨r, hr⟩ hI ⟨Bx, hBx, hbx2, rfl⟩ hlt
    have hsz := hI.below.size
    have HI : Hid (FdI w2 stks bin W H pre V') := hI
    have hY9 := HY5.out.go hI.below
    obtain ⟨q0, q1, q2, q3, q4⟩ := HK5.out
    have k0 := (hI.below.block _ (lt_of_heap q0)).trans q0
    have k1 := (hI.below.block _ (lt_of_heap q1)).trans q1
    have HZ : Hid (V'.heap[w.heap.size + 2]? = some (.cells #[.int .i64 0, .int .i64 0] 30 (0, 0)) ∧ V'.heap[w.heap.size + 3]? = some (.cells #[.slice none 0 0] 38 (0, 0)) ∧ V'.heap[w.heap.size + 4]? = some (.cells #[.bool false] 4 (0, 0))) := ⟨(hI.below.block _ (lt_of_heap q2)).trans q2, (hI.below.block _ (lt_of_heap q3)).trans q3, (hI.below.block _ (lt_of_heap q4)).trans q4⟩
    have HYp : Hid (∀ u, Below V'.heap.size V' u → u.cell? ⟨w.heap.size, 0, none⟩ = some (.pointer (some ⟨yb, 0, none⟩))) := fun u hu => cell_below ((cell_of k0 0).trans rfl) hu
    have HBn : Hid (∀ u, Below V'.heap.size V' u → u.cell? ⟨w.heap.size + 1, 0, none⟩ = some (.int .i64 bin)) := fun u hu => cell_below ((cell_of k1 0).trans rfl) hu
    have HXc : Hid (∀ u, Below V'.heap.size V' u → ∀ j z, #[.int .i64 x.1.1, .int .i64 x.1.2][j]? = some z → u.cell? ((⟨Bx, 0, none⟩ : Addr).add j) = some z) := fun u hu => row_below hBx hu
    have HPi : Hid (∀ uu, Below V'.heap.size V' uu → Calls Try.prog 41 #[.pointer (some ⟨yb, 0, none⟩), .agg #[.int .i64 x.1.1, .int .i64 x.1.2]] uu fun e w' => ∃ v, e = .returned v ∧ (ListAt 1 intEl F (pileOf stks x.1) v w' ∧ SlOk v ∧ Below uu.heap.size uu w')) := fun uu b => pileC_any yb pb g u W H height us vp F stks x.1.1 x.1.2 uu (hY9.go b) x.2
    have HFo : Hid (∀ b, F b → b < V'.heap.size) := fun b hb => by have := HFt.out b hb; omega
    have HBw : Hid (Below w.heap.size w V') := bcat HBw2.out hI.below (Nat.le_refl _)
    obtain ⟨L, hL⟩ : ∃ L, (pileOf stks x.1).length = L := ⟨_, rfl⟩
    have HLen : Hid ((pileOf stks x.1).length = L) := hL
    have hLb := HPl.out x.1
    rw [hL] at hLb
    have S0 : Below V'.heap.size V' V'.drew := (Below.refl _ _).drew
    have lbx := lt_of_heap hBx
    have HBx : Hid (V'.heap[Bx]? = some (.cells #[.int .i64 x.1.1, .int .i64 x.1.2] 30 (0, 0)) ∧ V'.heap[w.heap.size]? = some (.cells #[.pointer (some ⟨yb, 0, none⟩)] 49 (0, 0))) := ⟨hBx, k0⟩
    have HK3 : Hid (∀ V2, Below V'.heap.size V' V2 → K3 (w.heap.size + 5) g u V' V2) := fun V2 b => ⟨b.block _ (by omega), b.block _ (by omega), b.block _ (by omega)⟩
    have lk5 : w.heap.size + 5 < V'.heap.size := by omega
    clear hY9 q0 q1 q2 q3 q4 k0 k1 hBx hI hL C5
    gi_wp2
    refine start_round (S := fun u => Below V'.heap.size V' u) 6 rfl (by kernel_rfl) (by kernel_rfl) (fun _ _ h => h) S0 ?_
    simp only [Array.replicate_succ, Array.replicate_zero, List.push_toArray, List.nil_append, List.cons_append]
    refine take_held 0 S0 rfl (by kernel_rfl) (by kernel_rfl) (by kernel_rfl) (fun _ _ _ h => h) (by kernel_rfl) (v := .pointer (some ⟨yb, 0, none⟩)) ?y0 ?r0
    case y0 => (intro u hu; have zz := HYp.out u hu; go_simp; try rfl)
    simp only [Act.put, List.setIfInBounds_toArray, List.set_cons_zero, List.set_cons_succ]
    refine take_held 1 S0 rfl (by kernel_rfl) (by kernel_rfl) (by kernel_rfl) (fun _ _ _ h => h) (by kernel_rfl) (v := .agg #[.int .i64 x.1.1, .int .i64 x.1.2]) ?y1 ?r1
    case y1 => (intro u hu; exact run_load_op 30 _ rfl ⟨Bx, 0, none⟩ _ rfl (HXc.out u hu) (aggCell u) infoCell2)
    simp only [Act.put, List.setIfInBounds_toArray, List.set_cons_zero, List.set_cons_succ]
    refine take_held 3 S0 rfl (by kernel_rfl) (by kernel_rfl) (by kernel_rfl) (fun _ _ _ h => h) (by kernel_rfl) (v := .int .i64 bin) ?y2 ?r2
    case y2 => (intro u hu; have zz := HBn.out u hu; go_simp; try rfl)
    simp only [Act.put, List.setIfInBounds_toArray, List.set_cons_zero, List.set_cons_succ]
    refine wpAnyH_ready (rs := [2]) (by kernel_rfl) (by simp) (AllReadyH.cons ((nth_eq _ 2).trans rfl) ?_ AllReadyH.nil)
    intro K' hK
    refine call_in hK (by kernel_rfl) 41 #[.pointer (some ⟨yb, 0, none⟩), .agg #[.int .i64 x.1.1, .int .i64 x.1.2]] (by go_simp) _ (HPi.out _ S0) ?_
    rintro v1 x1 ⟨hL1, hok1, b1⟩
    have S1 : Below V'.heap.size V' x1 := bcat S0 b1 (Nat.le_refl _)
    obtain ⟨la, lc, hv1, _⟩ := hL1.form
    rw [HLen.out] at hv1
    subst hv1
    have cI := indexInt_any F (pileOf stks x.1) _ bin x1 hL1 (fun b hb => Nat.lt_of_lt_of_le (HFo.out b hb) S1.size) (by rw [HLen.out]; omega)
    refine ⟨S1, ?_⟩
    simp only [Act.put, List.setIfInBounds_toArray, List.set_cons_zero, List.set_cons_succ]
    refine wpAnyH_ready (rs := [4]) (by kernel_rfl) (by simp) (AllReadyH.cons ((nth_eq _ 4).trans rfl) ?_ AllReadyH.nil)
    intro K' hK
    refine call_in hK (by kernel_rfl) 40 #[.slice la L lc, .int .i64 bin] (by go_simp) _ (cI) ?_
    rintro v2 x2 ⟨rfl, b2⟩
    have S2 : Below V'.heap.size V' x2 := bcat S1 b2 (Nat.le_refl _)
    refine ⟨S2, ?_⟩
    simp only [Act.put, List.setIfInBounds_toArray, List.set_cons_zero, List.set_cons_succ]
    refine take_held 5 S2 rfl (by kernel_rfl) (by kernel_rfl) (by kernel_rfl) (fun _ _ _ h => h) (by kernel_rfl) (v := .int .i64 (idxP (pileOf stks x.1) bin 0)) ?y3 ?r3
    case y3 => (intro u hu; go_simp; try rfl)
    simp only [Act.put, List.setIfInBounds_toArray, List.set_cons_zero, List.set_cons_succ]
    refine done_held (by kernel_rfl) ?_ _
    by_cases hin : bin ∈ pileOf stks x.1
    · obtain ⟨j, hj, hj2, hj3⟩ := idx_at (pileOf stks x.1) bin 0 hin
      rw [hj, Nat.zero_add]
      have HJ2 : Hid ((pileOf stks x.1)[j]? = some bin ∧ ∀ k, k < j → (pileOf stks x.1)[k]? ≠ some bin) := ⟨hj2, hj3⟩
      have hjl := (List.getElem?_eq_some_iff.1 hj2).1
      rw [HLen.out] at hjl
      have HJl : Hid (j + 1 ≤ (pileOf stks x.1).length) := by show _ ≤ _; rw [HLen.out]; exact hjl
      have HJw : Hid (IntKind.i64.wrap ((j : Int) + 1) = ((j + 1 : Nat) : Int)) := by show _ = _; rw [IntKind.wrap_i64]; omega
      have hs2 := S2.size
      have T0 : x2.drew.heap[w.heap.size]? = x2.heap[w.heap.size]? ∧ x2.drew.heap[Bx]? = x2.heap[Bx]? := ⟨rfl, rfl⟩
      have xb2 := (S2.block _ (lt_of_heap HBx.out.1)).trans HBx.out.1
      have yb2 := (S2.block _ (lt_of_heap HBx.out.2)).trans HBx.out.2
      have HX2 : Hid (∀ u : World, (u.heap[w.heap.size]? = x2.heap[w.heap.size]? ∧ u.heap[Bx]? = x2.heap[Bx]?) → ∀ j z, #[.int .i64 x.1.1, .int .i64 x.1.2][j]? = some z → u.cell? ((⟨Bx, 0, none⟩ : Addr).add j) = some z) := fun u hu => row_below (hu.2.trans xb2) (Below.refl _ _)
      have HY2 : Hid (∀ u : World, (u.heap[w.heap.size]? = x2.heap[w.heap.size]? ∧ u.heap[Bx]? = x2.heap[Bx]?) → u.cell? ⟨w.heap.size, 0, none⟩ = some (.pointer (some ⟨yb, 0, none⟩))) := fun u hu => (cell_of (hu.1.trans yb2) 0).trans rfl
      have HZ2 : Hid (x2.heap[w.heap.size + 2]? = some (.cells #[.int .i64 0, .int .i64 0] 30 (0, 0)) ∧ x2.heap[w.heap.size + 3]? = some (.cells #[.slice none 0 0] 38 (0, 0)) ∧ x2.heap[w.heap.size + 4]? = some (.cells #[.bool false] 4 (0, 0))) := ⟨(S2.block _ (by omega)).trans HZ.out.1, (S2.block _ (by omega)).trans HZ.out.2.1, (S2.block _ (by omega)).trans HZ.out.2.2⟩
      clear HZ hj hj2 hj3 hin xb2 yb2 hL1 hok1 cI
      have HZ := HZ2
      gi_wp2
      refine start_round (S := fun u => u.heap[w.heap.size]? = x2.heap[w.heap.size]? ∧ u.heap[Bx]? = x2.heap[Bx]?) 10 rfl (by kernel_rfl) (by kernel_rfl) (fun _ _ h => h) T0 ?_
      simp only [Array.replicate_succ, Array.replicate_zero, List.push_toArray, List.nil_append, List.cons_append]
      refine take_held 0 T0 rfl (by kernel_rfl) (by kernel_rfl) (by kernel_rfl) (fun _ _ _ h => h) (by kernel_rfl) (v := .agg #[.int .i64 x.1.1, .int .i64 x.1.2]) ?y4 ?r4
      case y4 => (intro u hu; exact run_load_op 30 _ rfl ⟨Bx, 0, none⟩ _ rfl (HX2.out u hu) (aggCell u) infoCell2)
      simp only [Act.put, List.setIfInBounds_toArray, List.set_cons_zero, List.set_cons_succ]
      refine take_held 1 T0 rfl (by kernel_rfl) (by kernel_rfl) (by kernel_rfl) (fun _ _ _ h => h) (by kernel_rfl) (v := .pointer (some ⟨yb, 0, none⟩)) ?y5 ?r5
      case y5 => (intro u hu; have zz := HY2.out u hu; go_simp; try rfl)
      simp only [Act.put, List.setIfInBounds_toArray, List.set_cons_zero, List.set_cons_succ]
      refine take_held 2 T0 rfl (by kernel_rfl) (by kernel_rfl) (by kernel_rfl) (fun _ _ _ h => h) (by kernel_rfl) (v := .agg #[.int .i64 x.1.1, .int .i64 x.1.2]) ?y6 ?r6
      case y6 => (intro u hu; exact run_load_op 30 _ rfl ⟨Bx, 0, none⟩ _ rfl (HX2.out u hu) (aggCell u) infoCell2)
      simp only [Act.put, List.setIfInBounds_toArray, List.set_cons_zero, List.set_cons_succ]
      refine take_held 4 T0 rfl (by kernel_rfl) (by kernel_rfl) (by kernel_rfl) (fun _ _ _ h => h) (by kernel_rfl) (v := ?v7) ?y7 ?r7
      case y7 => (intro u hu; go_simp; try rfl)
      simp only [Act.put, List.setIfInBounds_toArray, List.set_cons_zero, List.set_cons_succ]
      refine take_held 5 T0 rfl (by kernel_rfl) (by kernel_rfl) (by kernel_rfl) (fun _ _ _ h => h) (by kernel_rfl) (v := .int .i64 ((j + 1 : Nat) : Int)) ?y8 ?r8
      case y8 => (intro u hu; have zz := HJw.out; go_simp; try rfl)
      simp only [Act.put, List.setIfInBounds_toArray, List.set_cons_zero, List.set_cons_succ]
      refine wpAnyH_ready (rs := [3]) (by kernel_rfl) (by simp) (AllReadyH.cons ((nth_eq _ 3).trans rfl) ?_ AllReadyH.nil)
      intro K' hK
      refine call_in hK (by kernel_rfl) 41 #[.pointer (some ⟨yb, 0, none⟩), .agg #[.int .i64 x.1.1, .int .i64 x.1.2]] (by go_simp) _ (HPi.out _ (bcat S2 (Below.refl _ _).drew (Nat.le_refl _))) ?_
      rintro v3 x3 ⟨hL3, hok3, b3⟩
      have b23 : Below x2.heap.size x2 x3 := bcat (Below.refl x2.heap.size x2).drew b3 (Nat.le_refl _)
      have T1 : x3.heap[w.heap.size]? = x2.heap[w.heap.size]? ∧ x3.heap[Bx]? = x2.heap[Bx]? := ⟨b23.block _ (by omega), b23.block _ (by omega)⟩
      obtain ⟨v4, hsl, hL4⟩ := run_from_int hL3 hok3 (j + 1) HJl.out
      have B3 : Below w.heap.size w x3 := bcat (bcat HBw.out S2 (Nat.le_refl _)) b23 (Nat.le_refl _)
      have z2 := (b23.block _ (lt_of_heap HZ.out.1)).trans HZ.out.1
      have z3 := (b23.block _ (lt_of_heap HZ.out.2.1)).trans HZ.out.2.1
      have z4 := (b23.block _ (lt_of_heap HZ.out.2.2)).trans HZ.out.2.2
      refine ⟨T1, ?_⟩
      simp only [Act.put, List.setIfInBounds_toArray, List.set_cons_zero, List.set_cons_succ]
      refine take_held 6 T1 rfl (by kernel_rfl) (by kernel_rfl) (by kernel_rfl) (fun _ _ _ h => h) (by kernel_rfl) (v := v4) ?y9 ?r9
      case y9 => (intro u hu; exact run_slice_op (.tmp 25) (.tmp 27) rfl rfl rfl (hsl u))
      simp only [Act.put, List.setIfInBounds_toArray, List.set_cons_zero, List.set_cons_succ]
      obtain ⟨va4, vn4, vc4, hv4⟩ : ∃ a n c, v4 = .slice a n c := by obtain ⟨a, c, e, _⟩ := hL4.form; exact ⟨a, _, c, e⟩
      subst hv4
      obtain ⟨y3, hy3⟩ : ∃ y, y = x3.setRow (w.heap.size + 2) #[.int .i64 x.1.1, .int .i64 x.1.2] := ⟨_, rfl⟩
      have T2 : y3.heap[w.heap.size]? = x2.heap[w.heap.size]? ∧ y3.heap[Bx]? = x2.heap[Bx]? := by rw [hy3]; exact ⟨(setRow_other _ _ _ _ (by omega)).trans T1.1, (setRow_other _ _ _ _ (by omega)).trans T1.2⟩
      have zr2 : y3.heap[w.heap.size + 2]? = some (.cells #[.int .i64 x.1.1, .int .i64 x.1.2] 30 (0, 0)) := by rw [hy3]; exact setRow_heap _ _ _ _ _ _ z2
      have z3' : y3.heap[w.heap.size + 3]? = some (.cells #[.slice none 0 0] 38 (0, 0)) := by rw [hy3]; exact (setRow_other _ _ _ _ (by omega)).trans z3
      have z4' : y3.heap[w.heap.size + 4]? = some (.cells #[.bool false] 4 (0, 0)) := by rw [hy3]; exact (setRow_other _ _ _ _ (by omega)).trans z4
      have B4 : Below w.heap.size w y3 := by rw [hy3]; exact below_row B3 (by omega) _
      have E4 : y3.heap.size = x3.heap.size := by rw [hy3]; simp
      have O4 : ∀ k, w2.heap.size ≤ k → y3.heap[k]? = x3.heap[k]? := fun k hk => by rw [hy3]; exact setRow_other _ _ _ _ (by omega)
      have hst := run_storeVar_row (P := Try.prog) x3 (w.heap.size + 2) 30 30 #[.int .i64 0, .int .i64 0] #[.int .i64 x.1.1, .int .i64 x.1.2] z2 infoCell2 rfl (by simp [Value.oneCell'])
      refine store_held 7 rfl (by kernel_rfl) (by kernel_rfl) y3 (run_store_op 30 (.tmp 4) (.tmp 22) rfl (w.heap.size + 2) #[.int .i64 x.1.1, .int .i64 x.1.2] rfl rfl (by rw [hy3]; exact hst)) T2 ?_
      clear hy3 hst
      simp only [Act.put, List.setIfInBounds_toArray, List.set_cons_zero, List.set_cons_succ]
      have c3 : y3.cell? ⟨w.heap.size + 3, 0, none⟩ = some (.slice none 0 0) := (cell_of z3' 0).trans rfl
      have f3 := frozen_of z3' 0
      obtain ⟨y4, hy4⟩ : ∃ y, y = y3.setCell ⟨w.heap.size + 3, 0, none⟩ (.slice va4 vn4 vc4) := ⟨_, rfl⟩
      have T3 : y4.heap[w.heap.size]? = x2.heap[w.heap.size]? ∧ y4.heap[Bx]? = x2.heap[Bx]? := by rw [hy4]; exact ⟨(heap_setCell_other _ _ _ _ (by simp)).trans T2.1, (heap_setCell_other _ _ _ _ (by simp; omega)).trans T2.2⟩
      have zr2' : y4.heap[w.heap.size + 2]? = some (.cells #[.int .i64 x.1.1, .int .i64 x.1.2] 30 (0, 0)) := by rw [hy4]; exact (heap_setCell_other _ _ _ _ (by simp)).trans zr2
      have zr3 : y4.heap[w.heap.size + 3]? = some (.cells #[.slice va4 vn4 vc4] 38 (0, 0)) := by rw [hy4]; exact set_ptr z3'
      have z4'' : y4.heap[w.heap.size + 4]? = some (.cells #[.bool false] 4 (0, 0)) := by rw [hy4]; exact (heap_setCell_other _ _ _ _ (by simp)).trans z4'
      have B5 : Below w.heap.size w y4 := by rw [hy4]; exact below_set B4 (by omega) _ _
      have E5 : y4.heap.size = y3.heap.size := by rw [hy4]; simp
      have O5 : ∀ k, w2.heap.size ≤ k → y4.heap[k]? = y3.heap[k]? := fun k hk => by rw [hy4]; exact heap_setCell_other _ _ _ _ (by simp; omega)
      refine store_held 8 rfl (by kernel_rfl) (by kernel_rfl) y4 (by rw [hy4]; clear hy4; go_simp; try rfl) T3 ?_
      clear hy4
      simp only [Act.put, List.setIfInBounds_toArray, List.set_cons_zero, List.set_cons_succ]
      have c4 := (cell_of z4'' 0).trans rfl
      have f4 := frozen_of z4'' 0
      obtain ⟨y5, hy5⟩ : ∃ y, y = y4.setCell ⟨w.heap.size + 4, 0, none⟩ (.bool true) := ⟨_, rfl⟩
      have T4 : y5.heap[w.heap.size]? = x2.heap[w.heap.size]? ∧ y5.heap[Bx]? = x2.heap[Bx]? := by rw [hy5]; exact ⟨(heap_setCell_other _ _ _ _ (by simp)).trans T3.1, (heap_setCell_other _ _ _ _ (by simp; omega)).trans T3.2⟩
      have zr2'' : y5.heap[w.heap.size + 2]? = some (.cells #[.int .i64 x.1.1, .int .i64 x.1.2] 30 (0, 0)) := by rw [hy5]; exact (heap_setCell_other _ _ _ _ (by simp)).trans zr2'
      have zr3' : y5.heap[w.heap.size + 3]? = some (.cells #[.slice va4 vn4 vc4] 38 (0, 0)) := by rw [hy5]; exact (heap_setCell_other _ _ _ _ (by simp)).trans zr3
      have zr4 : y5.heap[w.heap.size + 4]? = some (.cells #[.bool true] 4 (0, 0)) := by rw [hy5]; exact set_ptr z4''
      have B6 : Below w.heap.size w y5 := by rw [hy5]; exact below_set B5 (by omega) _ _
      have E6 : y5.heap.size = y4.heap.size := by rw [hy5]; simp
      have O6 : ∀ k, w2.heap.size ≤ k → y5.heap[k]? = y4.heap[k]? := fun k hk => by rw [hy5]; exact heap_setCell_other _ _ _ _ (by simp; omega)
      refine store_held 9 rfl (by kernel_rfl) (by kernel_rfl) y5 (by rw [hy5]; clear hy5; go_simp; try rfl) T4 ?_
      clear hy5
      simp only [Act.put, List.setIfInBounds_toArray, List.set_cons_zero, List.set_cons_succ]
      refine done_held (by kernel_rfl) ?_ _
      gi_wp2
      have b93 : Below V'.heap.size V' x3 := bcat S2 b23 (Nat.le_refl _)
      have s93 := b93.size
      refine ⟨⟨by omega, fun k o hk ho _ => ?_⟩, rfl, B6, by omega, pre, x, j, _, rfl, HI.out.not, HJ2.out.1, HJ2.out.2, zr2'', zr3', zr4, ?_⟩
      · exact ((O6 k hk).trans ((O5 k hk).trans ((O4 k hk).trans (b93.block k (lt_of_heap ho))))).trans ho
      · exact hL4.stable heldInt fun b hb => by
          have q := HFt.out b hb
          exact (B6.block b q).trans (B3.block b q).symm
    · have hn := (idx_neg (pileOf stks x.1) bin 0).2 hin
      have HNo : Hid (bin ∉ pileOf stks x.1) := hin
      generalize idxP (pileOf stks x.1) bin 0 = ix at *
      have hd : decide ((0 : Int) ≤ ix) = false := decide_eq_false (by omega)
      gi_wp2
      refine ⟨(keeps_below S2).from _, HK3.out _ S2, fun y hy => ?_, bcat HI.out.below S2 (Nat.le_refl _)⟩
      rw [List.mem_append, List.mem_singleton] at hy
      rcases hy with hy | rfl
      · exact HI.out.not y hy
      · exact HNo.out
theorem find_any (yb pb g u : Nat) (W H height : Int) (us : List Int) (vp : Value) (F : Nat → Prop) (stks : List Stk) (bin : Int) (w : World) (hY : YardAt w yb pb g u W H height us vp F stks) (hp : ∀ x, (pileOf stks x).length ≤ 17592186044416) :
    Calls Try.prog 18 #[.pointer (some ⟨yb, 0, none⟩), .int .i64 bin] w fun e w' => ((∃ c j v, e = .returned (.tuple #[.agg #[.int .i64 c.1, .int .i64 c.2], v, .bool true]) ∧ At stks (stkUpTo W us us.length) bin c j ∧ ListAt 1 intEl F ((pileOf stks c).drop (j + 1)) v w') ∨ (e = .returned (.tuple #[.agg #[.int .i64 0, .int .i64 0], .slice none 0 0, .bool false]) ∧ ∀ x ∈ stkUpTo W us us.length, bin ∉ pileOf stks x)) ∧ Below w.heap.size w w' :=
  callsIn_wide.1 (find_in yb pb g u W H height us vp F stks bin w hY hp)
end Go.Proofs.Ytebfjldbhmmmlaa.Dig
