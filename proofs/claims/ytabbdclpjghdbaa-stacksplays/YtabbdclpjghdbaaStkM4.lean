/-
  What goes through all cells tells them, each with its bins in memory of their own: what is gathered.
  What goes through all cells: told.
  What told tells; whether two lists of stacks are the same.
  StacksKept: the walk.
  StacksBack: the walk.
  StacksFull: the walk.
  At: a cell's bins, in memory of their own.
  A stack is brought elsewhere, bin by bin: a round.
-/
import Derived.Test.YtabbdclpjghdbaaStkM3
namespace Go.Proofs.Ytabbdclpjghdbaa.Stk
set_option linter.unusedVariables false
set_option linter.unusedSimpArgs false
open Go Go.RowKit Go.Shelf Go.Proofs Go.Proofs.Ytabbdclpjghdbaa.Grid
attribute [local go_sem] Oper.semAt_some

theorem clone_ints (F : Nat → Prop) (l : List Int) (v : Value) (w : World) (hL : ListAt 1 intEl F l v w) (hF : ∀ b, F b → b < w.heap.size) (hm : l.length ≤ 8796093022208) :
    Calls Try.prog 47 #[v] w fun e w' => ∃ v', e = .returned v' ∧ w'.ownsRow w.heap.size 3 1 v' l.length (rowL intL l) ∧ Below w.heap.size w w' := by
  have hu := fun w a l c => eql_nil w 48 3 a l c Try.underlying48
  obtain ⟨a, cap, rfl, h0⟩ := hL.form
  cases a with
  | none =>
    obtain ⟨h1, rfl⟩ := h0 rfl
    obtain rfl : l = [] := List.eq_nil_of_length_eq_zero h1
    go_enter Try.func47, Try.ntmps47
    go_wp2
    go_ret
    exact ⟨_, rfl, World.ownsRow_nil _ _ _ _, Below.refl _ _⟩
  | some p =>
    have hL' := fun o => hL.go heldInt hF ((Below.refl w.heap.size w).alloc (Nat.le_refl _) o)
    generalize hn : l.length = n at *
    have HN : Hid (l.length = n) := hn
    clear hn
    go_enter Try.func47, Try.ntmps47
    go_wp2_with (at_builtin; refine wpList_app kindInt rfl _ _ rfl w.heap.size (.slice (some ⟨w.heap.size, 0, none⟩) 0 0) [] rfl (World.ownsRow_made w #[] 0 (Nat.le_refl _) (by decide) (by decide)) F _ l rfl (hL' _) (by rw [HN.out]; simp; omega) (by rw [HN.out]; unfold maxLen; simp; omega) (by simp) ?_; intro v' w1 hown hgrow hat)
    rw [List.nil_append] at hown
    go_ret
    exact ⟨v', rfl, by rw [HN.out] at hown; exact hown, ((Below.refl _ _).alloc (Nat.le_refl _) _).grown hgrow (by simp) (by intro k hk; simp [Value.ownBlock] at hk; omega)⟩
/- What was told so far: a list of its own, each with bins of their own, all from N0 on. -/
structure Told (N0 : Nat) (l : List Stk) (m : Value) (wr : World) (ys : List SV) : Prop where
  big : N0 ≤ wr.heap.size
  own : wr.ownsRow N0 59 3 m ys.length (rowL stkL ys)
  len : ys.length = l.length
  at_ : ∀ i (h : i < ys.length) (h' : i < l.length), (ys[i]'h).1 = (l[i]'h').1 ∧ ListAt 1 intEl (fun g => Since N0 wr g ∧ m.ownBlock ≠ some g) (l[i]'h').2 (slV (ys[i]'h).2) wr
theorem told_nil (N0 : Nat) (w : World) (h : N0 ≤ w.heap.size) : Told N0 [] (.slice none 0 0) w [] := ⟨h, World.ownsRow_nil _ _ _ _, rfl, fun i h => by simp at h⟩
theorem Told.keep {N0 : Nat} {l : List Stk} {m : Value} {wr : World} {ys : List SV} (h : Told N0 l m wr ys) {u : World} (hs : wr.heap.size ≤ u.heap.size) (hk : ∀ b, N0 ≤ b → b < wr.heap.size → u.heap[b]? = wr.heap[b]?) : Told N0 l m u ys :=
  ⟨Nat.le_trans h.big hs, owns_same h.own fun k q => hk k (h.own.lt k q).1 (h.own.lt k q).2, h.len, fun i q q' => by
    obtain ⟨e, hL⟩ := h.at_ i q q'
    exact ⟨e, (hL.stable heldInt fun g hg => hk g hg.1.1 hg.1.2).mono heldInt fun g hg => ⟨⟨hg.1.1, Nat.lt_of_lt_of_le hg.1.2 hs⟩, hg.2⟩⟩⟩
theorem Told.go {N0 : Nat} {l : List Stk} {m : Value} {wr : World} {ys : List SV} (h : Told N0 l m wr ys) {u : World} (hb : Below wr.heap.size wr u) : Told N0 l m u ys := h.keep hb.size fun b _ hb2 => hb.block b hb2
theorem Told.next {N0 : Nat} {l : List Stk} {m : Value} {wr : World} {ys : List SV} (C : Told N0 l m wr ys) (s : Stk) {w0 w1 w2 w3 : World} {sl : Option Addr × Nat × Nat} {v' : Value} (b0 : Below wr.heap.size wr w0)
    (ho : w1.ownsRow w0.heap.size 3 1 (slV sl) s.2.length (rowL intL s.2)) (b1 : Below w0.heap.size w0 w1) (b2 : Below w1.heap.size w1 w2)
    (own : w3.ownsRow N0 59 3 v' (ys ++ [(s.1, sl)]).length (rowL stkL (ys ++ [(s.1, sl)]))) (hg : w2.grownBy w3 m.ownBlock) (hat : v'.ownBlock = m.ownBlock ∨ v'.ownBlock = some w2.heap.size) :
    Told N0 (l ++ [s]) v' w3 (ys ++ [(s.1, sl)]) := by
  have s0 := C.big
  have s1 := b0.size
  have s2 := b1.size
  have s3 := b2.size
  have s4 := hg.size
  have hmo : ∀ g, m.ownBlock = some g → N0 ≤ g ∧ g < wr.heap.size := fun g hg => C.own.lt g hg
  refine ⟨by omega, own, by rw [List.length_append, List.length_append, C.len]; rfl, fun i h h' => ?_⟩
  by_cases hi : i < ys.length
  · have hil : i < l.length := by rw [← C.len]; exact hi
    rw [List.getElem_append_left hi, List.getElem_append_left hil]
    obtain ⟨e, hL⟩ := C.at_ i hi hil
    refine ⟨e, (hL.stable heldInt fun g hg' => ?_).mono heldInt fun g hg' => ⟨⟨hg'.1.1, by have := hg'.1.2; omega⟩, ?_⟩⟩
    · have := hg'.1.2
      rw [hg.block g (by omega) (fun e => hg'.2 e.symm), b2.block g (by omega), b1.block g (by omega), b0.block g (by omega)]
    · rcases hat with e | e
      · rw [e]; exact hg'.2
      · rw [e]
        intro q
        injection q with q
        have := hg'.1.2
        omega
  · have hi' : i = ys.length := by rw [List.length_append] at h; simp at h; omega
    subst hi'
    rw [List.getElem_append_right (by omega), List.getElem_append_right (by rw [C.len]; omega)]
    simp only [C.len, Nat.sub_self, List.getElem_cons_zero]
    refine ⟨trivial, ?_⟩
    have hL : ListAt 1 intEl (Since w0.heap.size w1) s.2 (slV sl) w1 := list_of_own kindInt.len ho
    refine (hL.stable heldInt fun g hg' => ?_).mono heldInt fun g hg' => ⟨⟨by have := hg'.1; omega, by have := hg'.2; omega⟩, ?_⟩
    · rw [hg.block g (by have := hg'.2; omega) (fun e => by have := (hmo g e.symm).2; have := hg'.1; omega), b2.block g (by have := hg'.2; omega)]
    · rcases hat with e | e
      · rw [e]
        intro q
        have := (hmo g q).2
        have := hg'.1
        omega
      · rw [e]
        intro q
        injection q with q
        have := hg'.2
        omega
theorem Told.list {N0 : Nat} {l : List Stk} {m : Value} {wr : World} {ys : List SV} (C : Told N0 l m wr ys) : ListAt 3 stackEl (Since N0 wr) l m wr := by
  have hl := C.len
  have hO : ListAt 3 (ElL stkL) (Since N0 wr) ys m wr := list_of_own kindStack.len C.own
  obtain ⟨a, cap, rfl, h0⟩ := hO.form
  refine ⟨a, cap, l.zip (ys.map fun y => (stkL y).toArray), ?_, ?_, fun y hy => ?_, fun i hi => ?_, fun h => (h0 h).2⟩
  · rw [List.map_fst_zip (by rw [List.length_map]; omega)]
  · rw [List.length_zip, List.length_map]
    congr 1
    omega
  · obtain ⟨i, hi, e⟩ := List.getElem_of_mem hy
    rw [List.length_zip, List.length_map] at hi
    rw [List.getElem_zip, List.getElem_map] at e
    subst e
    obtain ⟨e, hL⟩ := C.at_ i (by omega) (by omega)
    refine ⟨slV (ys[i]'(by omega)).2, ?_, hL.mono heldInt fun g hg => hg.1⟩
    simp only [stkL, e]
    rfl
  · rw [List.length_zip, List.length_map] at hi
    obtain ⟨p, cs, cap', hv, hF, hE, hc⟩ := hO.item (k := i) (by omega)
    cases hv
    have hE' : cs = (stkL (ys[i]'(by omega))).toArray := hE
    subst hE'
    refine ⟨p, rfl, hF, fun j u hj => ?_⟩
    rw [List.getElem_zip, List.getElem_map] at hj
    rw [← add_add]
    exact hc j u hj
end Go.Proofs.Ytabbdclpjghdbaa.Stk
namespace Go.Proofs.Ytabbdclpjghdbaa.Stk
set_option linter.unusedVariables false
set_option linter.unusedSimpArgs false
open Go Go.RowKit Go.Shelf Go.Proofs Go.Proofs.Ytabbdclpjghdbaa.Grid
attribute [local go_sem] Oper.semAt_some

/- While all are told: told's three boxes, what was gathered. -/
structure Tw (ws : World) (K : Sk) (most : Int) (l : List Stk) (m : Value) (ys : List SV) (wq : World) : Prop where
  below : Below ws.heap.size ws wq
  bm : wq.heap[ws.heap.size]? = some (.cells #[.int .i64 most] 3 (0, 0))
  bs : wq.heap[ws.heap.size + 1]? = some (.cells #[.pointer (some ⟨K.s, 0, none⟩)] 29 (0, 0))
  bl : wq.heap[ws.heap.size + 2]? = some (.cells #[m] 24 (0, 0))
  td : Told (ws.heap.size + 3) l m wq ys
theorem Tw.go {ws : World} {K : Sk} {most : Int} {l : List Stk} {m : Value} {ys : List SV} {wq u : World} (h : Tw ws K most l m ys wq) (hb : Below wq.heap.size wq u) : Tw ws K most l m ys u :=
  ⟨bcat h.below hb (Nat.le_refl _), (hb.block _ (lt_of_heap h.bm)).trans h.bm, (hb.block _ (lt_of_heap h.bs)).trans h.bs, (hb.block _ (lt_of_heap h.bl)).trans h.bl, h.td.go hb⟩
set_option maxRecDepth 100000 in
set_option maxHeartbeats 4000000 in
theorem told1_any {ws : World} {K : Sk} {most : Int} {l : List Stk} {m : Value} {ys : List SV} {wq w0 w : World} (h : Tw ws K most l m ys wq) (b0 : Below wq.heap.size wq w0) (b1 : Below w0.heap.size w0 w) (x y : Int) (bs : List Int) (sa : Option Addr) (sn sc : Nat)
    (ho : w.ownsRow w0.heap.size 3 1 (.slice sa sn sc) bs.length (rowL intL bs)) (hl : l.length ≤ 300) :
    Calls Try.prog 52 #[.agg #[.int .i64 x, .int .i64 y], .slice sa sn sc, .pointer (some ⟨ws.heap.size + 2, 0, none⟩), .pointer (some ⟨ws.heap.size, 0, none⟩)] w fun e w' => ∃ v, e = .returned v ∧ v = .bool (decide ((l.length : Int) + 1 < most)) ∧ (∃ m' ys', Tw ws K most (l ++ [((x, y), bs)]) m' ys' w') ∧ w.heap.size ≤ w'.heap.size ∧ (∀ b, wq.heap.size ≤ b → b < w.heap.size → w'.heap[b]? = w.heap[b]?) := by
  have h1 := (h.go b0).go b1
  obtain ⟨a, cap, hm, _⟩ := own_form h1.td.own
  subst hm
  have hk : ys.length = l.length := h.td.len
  obtain ⟨k, hkk⟩ : ∃ k, ys.length = k := ⟨_, rfl⟩
  have HK : Hid (ys.length = k) := hkk
  have HKl : Hid (l.length = k) := hk ▸ hkk
  rw [show l.length = k from HKl.out] at hl ⊢
  have hbig := h1.td.big
  have ylt : ∀ g, (Value.slice a ys.length cap).ownBlock = some g → ws.heap.size + 3 ≤ g ∧ g < wq.heap.size := fun g hg => h.td.own.lt g hg
  have W2 : Below w.heap.size w ((w.alloc (.cells #[.int .i64 x, .int .i64 y] 39)).alloc (.cells #[.int .i64 x, .int .i64 y, .slice sa sn sc] 59)) := below_two _ _ _
  have own2 := owns_go h1.td.own W2
  have hg2 : ((w.alloc (.cells #[.int .i64 x, .int .i64 y] 39)).alloc (.cells #[.int .i64 x, .int .i64 y, .slice sa sn sc] 59)).heap[w.heap.size + 1]? = some (.cells (stkL ((x, y), sa, sn, sc)).toArray 59 (0, 0)) := heap_new2 _ _ _
  have hl2 := list_stk hg2
  have cb : ((w.alloc (.cells #[.int .i64 x, .int .i64 y] 39))).cell? ⟨ws.heap.size + 2, 0, none⟩ = some (.slice a k cap) := cell_below (by rw [cell_of h1.bl, hkk]; rfl) (below_new (Below.refl _ _) _)
  have s2 : ((w.alloc (.cells #[.int .i64 x, .int .i64 y] 39)).alloc (.cells #[.int .i64 x, .int .i64 y, .slice sa sn sc] 59)).heap.size = w.heap.size + 2 := by simp
  have HNx : Hid (∀ {w3 : World} {v' : Value}, w3.ownsRow (ws.heap.size + 3) 59 3 v' (ys ++ [((x, y), sa, sn, sc)]).length (rowL stkL (ys ++ [((x, y), sa, sn, sc)])) → ((w.alloc (.cells #[.int .i64 x, .int .i64 y] 39)).alloc (.cells #[.int .i64 x, .int .i64 y, .slice sa sn sc] 59)).grownBy w3 (Value.slice a ys.length cap).ownBlock → (v'.ownBlock = (Value.slice a ys.length cap).ownBlock ∨ v'.ownBlock = some ((w.alloc (.cells #[.int .i64 x, .int .i64 y] 39)).alloc (.cells #[.int .i64 x, .int .i64 y, .slice sa sn sc] 59)).heap.size) → Told (ws.heap.size + 3) (l ++ [((x, y), bs)]) v' w3 (ys ++ [((x, y), sa, sn, sc)])) := fun o g at_ => h.td.next ((x, y), bs) b0 ho b1 W2 o g at_
  have HB2 : Hid (Tw ws K most l (.slice a ys.length cap) ys ((w.alloc (.cells #[.int .i64 x, .int .i64 y] 39)).alloc (.cells #[.int .i64 x, .int .i64 y, .slice sa sn sc] 59))) := h1.go W2
  have HYL : Hid (∀ g, (Value.slice a ys.length cap).ownBlock = some g → ws.heap.size + 3 ≤ g ∧ g < wq.heap.size) := ylt
  have hwq : wq.heap.size ≤ w.heap.size := Nat.le_trans b0.size b1.size
  have hws : ws.heap.size + 3 ≤ wq.heap.size := h.td.big
  rw [hkk] at own2
  clear hkk hk h h1 ylt ho
  go_enter Try.func52, Try.ntmps52
  go_wp2_with (first
    | (at_builtin; refine wpList_app kindStack rfl _ _ rfl (ws.heap.size + 3) (.slice a k cap) ys rfl (by rw [HK.out]; exact own2) (fun b => b = w.heap.size + 1) _ [((x, y), sa, sn, sc)] rfl hl2 (by rw [HK.out]; simp; omega) (by rw [HK.out]; unfold maxLen; simp; omega) (by rw [s2]; omega) ?_; intro v4 w4 own4 gr4 at4; have T4 := HNx.out own4 (by rw [HK.out]; exact gr4) (by rw [HK.out]; exact at4); obtain ⟨a4, cap4, hv4, _⟩ := own_form own4; rw [show (ys ++ [((x, y), sa, sn, sc)]).length = k + 1 by rw [List.length_append, HK.out]; rfl] at hv4; subst hv4; have hB := HB2.out; have nb : ∀ b, b < ws.heap.size + 3 → w4.heap[b]? = ((w.alloc (.cells #[.int .i64 x, .int .i64 y] 39)).alloc (.cells #[.int .i64 x, .int .i64 y, .slice sa sn sc] 59)).heap[b]? := (fun b hb => gr4.block b (by rw [s2]; omega) (fun e => by have := (HYL.out b (by rw [HK.out]; exact e.symm)).1; omega)); have L1 := (nb (ws.heap.size + 2) (by omega)).trans hB.bl; have c4 : w4.cell? ⟨ws.heap.size + 2, 0, none⟩ = some (.slice a ys.length cap) := (by rw [cell_of L1]; rfl); have f4 := frozen_of L1 0; have L2 := (nb ws.heap.size (by omega)).trans hB.bm; have c5 : (w4.setCell ⟨ws.heap.size + 2, 0, none⟩ (.slice a4 (k + 1) cap4)).cell? ⟨ws.heap.size, 0, none⟩ = some (.int .i64 most) := (cell_same (p := ⟨ws.heap.size, 0, none⟩) (heap_setCell_other _ _ _ _ (by simp))).trans (by rw [cell_of L2]; rfl); have c6 : (w4.setCell ⟨ws.heap.size + 2, 0, none⟩ (.slice a4 (k + 1) cap4)).cell? ⟨ws.heap.size + 2, 0, none⟩ = some (.slice a4 (k + 1) cap4) := (by rw [cell_of (heap_setCell_same _ _ _ _ _ _ L1)]; rfl)))
  go_ret
  have hB := HB2.out
  have s4 := gr4.size
  rw [s2] at s4
  refine ⟨_, rfl, congrArg Value.bool (by first | rfl | (congr 1)), ⟨.slice a4 (k + 1) cap4, _, ⟨?_, (heap_setCell_other _ _ _ _ (by simp)).trans L2, (heap_setCell_other _ _ _ _ (by simp)).trans ((nb (ws.heap.size + 1) (by omega)).trans hB.bs), (heap_setCell_same _ _ _ _ _ _ L1).trans rfl, T4.keep (by simp) fun b hb _ => heap_setCell_other _ _ _ _ (by simp only; omega)⟩⟩, ?_, fun b hb1 hb2 => ?_⟩
  · exact below_set (hB.below.grown gr4 (by rw [s2]; omega) (fun g hg => by have := (HYL.out g (by rw [HK.out]; exact hg)).1; omega)) (by omega) _ _
  · simp; omega
  · rw [heap_setCell_other _ _ _ _ (by simp only; omega), gr4.block b (by rw [s2]; omega) (fun e => by have := (HYL.out b (by rw [HK.out]; exact e.symm)).2; omega)]
    exact W2.block b hb2
def tellT (c : Conf) (us : List Int) (ps : List Pile) (k : Nat) : List Stk := ((ps.take k).filter (fun p => openU c.W c.H us p.1)).map (fun p => (p.1, p.2.2))
theorem tell_next (c : Conf) (us : List Int) {ps : List Pile} {k : Nat} {p : Pile} (h : ps[k]? = some p) : tellT c us ps (k + 1) = tellT c us ps k ++ if openU c.W c.H us p.1 then [(p.1, p.2.2)] else [] := by
  unfold tellT
  rw [List.take_add_one, h, List.filter_append, List.map_append]
  congr 1
  simp only [Option.toList_some, List.filter_cons, List.filter_nil]
  split <;> rfl
theorem tell_len (c : Conf) (us : List Int) (ps : List Pile) (k : Nat) : (tellT c us ps k).length ≤ k := by
  unfold tellT
  rw [List.length_map]
  exact Nat.le_trans (List.length_filter_le _ _) (by rw [List.length_take]; omega)
set_option maxRecDepth 100000 in
set_option maxHeartbeats 4000000 in
theorem all1_any {K : Sk} {c : Conf} {us : List Int} {ps : List Pile} {ls : List Int} {ws w : World} (S0 : StAt K c us ps ls ws) (most : Int) (hmost : 300 ≤ most) (hT0 : ∃ m ys, Tw ws K most [] m ys w) :
    Calls Try.prog 67 #[.func (.func 52) #[] #[.pointer (some ⟨ws.heap.size + 2, 0, none⟩), .pointer (some ⟨ws.heap.size, 0, none⟩)], .pointer (some ⟨ws.heap.size + 1, 0, none⟩)] w fun e w' => ∃ v, e = .returned v ∧ v = .tuple #[] ∧ ∃ m ys, Tw ws K most (tellT c us ps ps.length) m ys w' := by
  have hN := S0.lens
  obtain ⟨N, hNN⟩ : ∃ N, ps.length = N := ⟨_, rfl⟩
  have HN : Hid (ps.length = N) := hNN
  rw [hNN] at hN ⊢
  have HS : Hid (StAt K c us ps ls ws) := S0
  have HT : Hid (∃ m ys, Tw ws K most (tellT c us ps 0) m ys w) := hT0
  obtain ⟨m0, ys0, T0⟩ := hT0
  have y0 := cell_of T0.bs 0
  have y2 := (S0.go T0.below).c2
  rw [hNN] at y2
  have y0' : w.cell? ⟨ws.heap.size + 1, 0, none⟩ = some (.pointer (some ⟨K.s, 0, none⟩)) := y0
  clear hNN S0 T0 y0
  go_enter Try.func67, Try.ntmps67
  go_wp2
  clear y0' y2
  go_loopw [10] (fun i wq => ∃ k : Nat, k ≤ N ∧ i = .int .i64 k ∧ Hid (∃ m ys, Tw ws K most (tellT c us ps k) m ys wq)) (fun i _ => N - (intOf i).toNat)
  case atStart => exact ⟨0, Nat.zero_le _, rfl, HT⟩
  case round =>
    clear HT
    obtain ⟨k, hk, rfl, HT⟩ := hrel
    by_cases hlt : k < N
    · obtain ⟨p, hp⟩ : ∃ p, ps[k]? = some p := ⟨_, List.getElem?_eq_getElem (by rw [HN.out]; exact hlt)⟩
      obtain ⟨m, ys, T1⟩ := HT.out
      have S1 := HS.out.go T1.below
      obtain ⟨pa, pcap, ev, _, _, _⟩ := S1.form hp
      have hsm := S1.small _ _ hp
      have hrd : ∀ j z, #[Value.int .i64 p.1.1, .int .i64 p.1.2, .slice pa p.2.2.length pcap][j]? = some z → wr.cell? ((⟨K.pb, k * 3, none⟩ : Addr).add j) = some z := fun j z hj => by
        rw [Addr.add_lit]
        exact S1.pc hp j z (by rw [← ev] at hj; simpa [pileL] using hj)
      have L1 : ListAt 1 intEl (Since K.b1 wr) p.2.2 (.slice pa p.2.2.length pcap) wr := by
        have := list_of_own kindInt.len (S1.own _ _ hp)
        rw [ev] at this
        exact this
      have HL : Hid (ListAt 1 intEl (Since K.b1 wr) p.2.2 (.slice pa p.2.2.length pcap) wr) := L1
      have HNx : Hid (tellT c us ps (k + 1) = tellT c us ps k ++ if openU c.W c.H us p.1 then [(p.1, p.2.2)] else []) := tell_next c us hp
      have htl := tell_len c us ps k
      obtain ⟨⟨x, y⟩, pv, bs⟩ := p
      simp only at hrd HL HNx hsm
      obtain ⟨n, hn⟩ : ∃ n, bs.length = n := ⟨_, rfl⟩
      have Hn : Hid (bs.length = n) := hn
      rw [hn] at hrd HL hsm
      have HT1 : Hid (Tw ws K most (tellT c us ps k) m ys wr) := T1
      clear hn ev hp L1 T1 S1 HT
      obtain ⟨wb, hwb⟩ : ∃ wb, wb = wr.alloc (.cells #[.int .i64 x, .int .i64 y, .slice pa n pcap] 59) := ⟨_, rfl⟩
      have HWB : Hid (wb = wr.alloc (.cells #[.int .i64 x, .int .i64 y, .slice pa n pcap] 59)) := hwb
      have bb : Below wr.heap.size wr wb := by rw [hwb]; exact below_new (Below.refl _ _) _
      have eb : wb.heap[wr.heap.size]? = some (.cells #[.int .i64 x, .int .i64 y, .slice pa n pcap] 59 (0, 0)) := by rw [hwb]; exact heap_alloc_new wr _
      obtain ⟨bx, hbx⟩ : ∃ bx, wr.heap.size = bx := ⟨_, rfl⟩
      have HBX : Hid (wr.heap.size = bx) := hbx
      rw [hbx] at eb
      clear hwb
      go_wp2_with (first
        | (refine wpList_load_at rfl 59 (.tmp 12) rfl ⟨K.pb, k * 3, none⟩ rfl #[.int .i64 x, .int .i64 y, .slice pa n pcap] hrd (aggStack _) info_stack ?_))
      rw [← HWB.out]
      clear HWB hrd hbx
      have bd : Below wr.heap.size wr wb.drew := bcat bb (Below.refl _ _).drew (Nat.le_refl _)
      have HBD : Hid (Below wr.heap.size wr wb.drew) := bd
      have ed : wb.drew.heap[bx]? = some (.cells #[.int .i64 x, .int .i64 y, .slice pa n pcap] 59 (0, 0)) := eb
      obtain ⟨IV, hIV⟩ : ∃ I : World → Prop, I = fun u => u.cell? ⟨ws.heap.size + 1, 0, none⟩ = some (.pointer (some ⟨K.s, 0, none⟩)) ∧ u.cell? ⟨K.s, 0, none⟩ = some (.pointer (some ⟨K.g, 0, none⟩)) ∧ u.heap[bx]? = some (.cells #[.int .i64 x, .int .i64 y, .slice pa n pcap] 59 (0, 0)) := ⟨_, rfl⟩
      have q1 : ∀ u, IV u → u.cell? ⟨ws.heap.size + 1, 0, none⟩ = some (.pointer (some ⟨K.s, 0, none⟩)) := fun u hu => by rw [hIV] at hu; exact hu.1
      have q2 : ∀ u, IV u → u.cell? ⟨K.s, 0, none⟩ = some (.pointer (some ⟨K.g, 0, none⟩)) := fun u hu => by rw [hIV] at hu; exact hu.2.1
      have q4 : ∀ u, IV u → u.cell? ⟨bx, 2, none⟩ = some (.slice pa n pcap) := fun u hu => by rw [hIV] at hu; exact cell_of hu.2.2 2
      have q3 : ∀ u, IV u → ∀ jj zz, #[Value.int .i64 x, .int .i64 y][jj]? = some zz → u.cell? ((⟨bx, 0, none⟩ : Addr).add jj) = some zz := fun u hu jj zz hjj => by
        rw [hIV] at hu
        rw [Addr.add_lit, cell_of hu.2.2]
        match jj with
        | 0 => simpa using hjj
        | 1 => simpa using hjj
        | jj + 2 => simp at hjj
      have mkIV : Hid (∀ (l : List Stk) (m : Value) (ys : List SV) (u : World), Tw ws K most l m ys u → u.heap[bx]? = some (.cells #[.int .i64 x, .int .i64 y, .slice pa n pcap] 59 (0, 0)) → IV u) := fun l m ys u tw e => by
        rw [hIV]
        exact ⟨cell_of tw.bs 0, (HS.out.go tw.below).c0, e⟩
      have hV : IV wb.drew := mkIV.out _ _ _ _ (HT1.out.go bd) ed
      have cO := fun u (b : Below wr.heap.size wr u) => ret_of (open_any K.g K.u c.W c.H us K.vp x y u (HS.out.go (bcat HT1.out.below b (Nat.le_refl _))).grid)
      cases ho : openU c.W c.H us (x, y)
      · rw [ho] at cO HNx
        simp only [Bool.false_eq_true, if_false] at HNx
        refine start_held (S := IV) 17 rfl (by kernel_rfl) (hV) ?_
        simp only [Array.replicate_succ, Array.replicate_zero, List.push_toArray, List.nil_append, List.cons_append]
        generalize wb.drew = wd at *
        refine take_held 0 (by assumption) rfl (by kernel_rfl) (by kernel_rfl) (by kernel_rfl) (fun _ _ _ h => h) (by kernel_rfl) (v := ?v0) ?y0 ?r0
        case y0 => (intro u hu; have zz0 := q1 u hu; go_simp; try rfl)
        simp only [Act.put, List.setIfInBounds_toArray, List.set_cons_zero, List.set_cons_succ]
        refine take_held 1 (by assumption) rfl (by kernel_rfl) (by kernel_rfl) (by kernel_rfl) (fun _ _ _ h => h) (by kernel_rfl) (v := ?v1) ?y1 ?r1
        case y1 => (intro u hu; go_simp; try rfl)
        simp only [Act.put, List.setIfInBounds_toArray, List.set_cons_zero, List.set_cons_succ]
        refine take_held 2 (by assumption) rfl (by kernel_rfl) (by kernel_rfl) (by kernel_rfl) (fun _ _ _ h => h) (by kernel_rfl) (v := ?v2) ?y2 ?r2
        case y2 => (intro u hu; go_simp; try rfl)
        simp only [Act.put, List.setIfInBounds_toArray, List.set_cons_zero, List.set_cons_succ]
        refine take_held 3 (by assumption) rfl (by kernel_rfl) (by kernel_rfl) (by kernel_rfl) (fun _ _ _ h => h) (by kernel_rfl) (v := ?v3) ?y3 ?r3
        case y3 => (intro u hu; have zz0 := q2 u hu; go_simp; try rfl)
        simp only [Act.put, List.setIfInBounds_toArray, List.set_cons_zero, List.set_cons_succ]
        refine take_held 4 (by assumption) rfl (by kernel_rfl) (by kernel_rfl) (by kernel_rfl) (fun _ _ _ h => h) (by kernel_rfl) (v := ?v4) ?y4 ?r4
        case y4 => (intro u hu; go_simp; try rfl)
        simp only [Act.put, List.setIfInBounds_toArray, List.set_cons_zero, List.set_cons_succ]
        refine take_held 5 (by assumption) rfl (by kernel_rfl) (by kernel_rfl) (by kernel_rfl) (fun _ _ _ h => h) (by kernel_rfl) (v := .agg #[.int .i64 x, .int .i64 y]) ?y5 ?r5
        case y5 => (intro u hu; exact run_load_op 39 _ rfl ⟨bx, 0, none⟩ _ rfl (q3 u hu) (aggCell u) infoCell2)
        simp only [Act.put, List.setIfInBounds_toArray, List.set_cons_zero, List.set_cons_succ]
        refine wpAnyH_ready (rs := [6]) (by kernel_rfl) (by simp) (AllReadyH.cons ((nth_eq _ 6).trans rfl) ?_ AllReadyH.nil)
        intro K' hK
        refine call_in hK (by kernel_rfl) 43 #[.pointer (some ⟨K.g, 0, none⟩), .agg #[.int .i64 x, .int .i64 y]] (by go_simp) _ (cO _ bd) ?_
        rintro v w6 ⟨rfl, b6⟩
        have D6 := bcat bd b6 (Nat.le_refl _)
        have e6 := (b6.block _ (lt_of_heap ed)).trans ed
        have hV6 : IV w6 := mkIV.out _ _ _ _ (HT1.out.go D6) e6
        refine ⟨hV6, ?_⟩
        simp only [Act.put, List.setIfInBounds_toArray, List.set_cons_zero, List.set_cons_succ]
        refine take_held 7 (by assumption) rfl (by kernel_rfl) (by kernel_rfl) (by kernel_rfl) (fun _ _ _ h => h) (by kernel_rfl) (v := ?v6) ?y6 ?r6
        case y6 => (intro u hu; go_simp; try rfl)
        simp only [Act.put, List.setIfInBounds_toArray, List.set_cons_zero, List.set_cons_succ]
        refine skip_held 8 (by assumption) rfl (by kernel_rfl) (by kernel_rfl) (by kernel_rfl) (fun _ _ _ h => h) (by kernel_rfl) ?_
        simp only [Act.put, List.setIfInBounds_toArray, List.set_cons_zero, List.set_cons_succ]
        refine skip_held 9 (by assumption) rfl (by kernel_rfl) (by kernel_rfl) (by kernel_rfl) (fun _ _ _ h => h) (by kernel_rfl) ?_
        simp only [Act.put, List.setIfInBounds_toArray, List.set_cons_zero, List.set_cons_succ]
        refine skip_held 10 (by assumption) rfl (by kernel_rfl) (by kernel_rfl) (by kernel_rfl) (fun _ _ _ h => h) (by kernel_rfl) ?_
        simp only [Act.put, List.setIfInBounds_toArray, List.set_cons_zero, List.set_cons_succ]
        refine skip_held 11 (by assumption) rfl (by kernel_rfl) (by kernel_rfl) (by kernel_rfl) (fun _ _ _ h => h) (by kernel_rfl) ?_
        simp only [Act.put, List.setIfInBounds_toArray, List.set_cons_zero, List.set_cons_succ]
        refine skip_held 12 (by assumption) rfl (by kernel_rfl) (by kernel_rfl) (by kernel_rfl) (fun _ _ _ h => h) (by kernel_rfl) ?_
        simp only [Act.put, List.setIfInBounds_toArray, List.set_cons_zero, List.set_cons_succ]
        refine skip_held 13 (by assumption) rfl (by kernel_rfl) (by kernel_rfl) (by kernel_rfl) (fun _ _ _ h => h) (by kernel_rfl) ?_
        simp only [Act.put, List.setIfInBounds_toArray, List.set_cons_zero, List.set_cons_succ]
        refine skip_held 14 (by assumption) rfl (by kernel_rfl) (by kernel_rfl) (by kernel_rfl) (fun _ _ _ h => h) (by kernel_rfl) ?_
        simp only [Act.put, List.setIfInBounds_toArray, List.set_cons_zero, List.set_cons_succ]
        refine skip_held 15 (by assumption) rfl (by kernel_rfl) (by kernel_rfl) (by kernel_rfl) (fun _ _ _ h => h) (by kernel_rfl) ?_
        simp only [Act.put, List.setIfInBounds_toArray, List.set_cons_zero, List.set_cons_succ]
        refine take_held 16 (by assumption) rfl (by kernel_rfl) (by kernel_rfl) (by kernel_rfl) (fun _ _ _ h => h) (by kernel_rfl) (v := ?v7) ?y7 ?r7
        case y7 => (intro u hu; go_simp; try rfl)
        simp only [Act.put, List.setIfInBounds_toArray, List.set_cons_zero, List.set_cons_succ]
        refine done_held (by kernel_rfl) ?_ _
        have HT9 : Hid (∃ m ys, Tw ws K most (tellT c us ps (k + 1)) m ys w6) := by
          refine ⟨m, ys, ?_⟩
          rw [HNx.out, List.append_nil]
          exact HT1.out.go D6
        clear hV6 hV
        go_wp2
        go_roundw
        case rel => exact ⟨k + 1, by omega, by go_num, HT9⟩
        case measure => simp [intOf]; omega
      · rw [ho] at cO HNx
        simp only [if_true] at HNx
        refine start_held (S := IV) 17 rfl (by kernel_rfl) (hV) ?_
        simp only [Array.replicate_succ, Array.replicate_zero, List.push_toArray, List.nil_append, List.cons_append]
        generalize wb.drew = wd at *
        refine take_held 0 (by assumption) rfl (by kernel_rfl) (by kernel_rfl) (by kernel_rfl) (fun _ _ _ h => h) (by kernel_rfl) (v := ?v8) ?y8 ?r8
        case y8 => (intro u hu; have zz0 := q1 u hu; go_simp; try rfl)
        simp only [Act.put, List.setIfInBounds_toArray, List.set_cons_zero, List.set_cons_succ]
        refine take_held 1 (by assumption) rfl (by kernel_rfl) (by kernel_rfl) (by kernel_rfl) (fun _ _ _ h => h) (by kernel_rfl) (v := ?v9) ?y9 ?r9
        case y9 => (intro u hu; go_simp; try rfl)
        simp only [Act.put, List.setIfInBounds_toArray, List.set_cons_zero, List.set_cons_succ]
        refine take_held 2 (by assumption) rfl (by kernel_rfl) (by kernel_rfl) (by kernel_rfl) (fun _ _ _ h => h) (by kernel_rfl) (v := ?v10) ?y10 ?r10
        case y10 => (intro u hu; go_simp; try rfl)
        simp only [Act.put, List.setIfInBounds_toArray, List.set_cons_zero, List.set_cons_succ]
        refine take_held 3 (by assumption) rfl (by kernel_rfl) (by kernel_rfl) (by kernel_rfl) (fun _ _ _ h => h) (by kernel_rfl) (v := ?v11) ?y11 ?r11
        case y11 => (intro u hu; have zz0 := q2 u hu; go_simp; try rfl)
        simp only [Act.put, List.setIfInBounds_toArray, List.set_cons_zero, List.set_cons_succ]
        refine take_held 4 (by assumption) rfl (by kernel_rfl) (by kernel_rfl) (by kernel_rfl) (fun _ _ _ h => h) (by kernel_rfl) (v := ?v12) ?y12 ?r12
        case y12 => (intro u hu; go_simp; try rfl)
        simp only [Act.put, List.setIfInBounds_toArray, List.set_cons_zero, List.set_cons_succ]
        refine take_held 5 (by assumption) rfl (by kernel_rfl) (by kernel_rfl) (by kernel_rfl) (fun _ _ _ h => h) (by kernel_rfl) (v := .agg #[.int .i64 x, .int .i64 y]) ?y13 ?r13
        case y13 => (intro u hu; exact run_load_op 39 _ rfl ⟨bx, 0, none⟩ _ rfl (q3 u hu) (aggCell u) infoCell2)
        simp only [Act.put, List.setIfInBounds_toArray, List.set_cons_zero, List.set_cons_succ]
        refine wpAnyH_ready (rs := [6]) (by kernel_rfl) (by simp) (AllReadyH.cons ((nth_eq _ 6).trans rfl) ?_ AllReadyH.nil)
        intro K' hK
        refine call_in hK (by kernel_rfl) 43 #[.pointer (some ⟨K.g, 0, none⟩), .agg #[.int .i64 x, .int .i64 y]] (by go_simp) _ (cO _ bd) ?_
        rintro v w6 ⟨rfl, b6⟩
        have D6 := bcat bd b6 (Nat.le_refl _)
        have e6 := (b6.block _ (lt_of_heap ed)).trans ed
        have hV6 : IV w6 := mkIV.out _ _ _ _ (HT1.out.go D6) e6
        refine ⟨hV6, ?_⟩
        simp only [Act.put, List.setIfInBounds_toArray, List.set_cons_zero, List.set_cons_succ]
        refine take_held 7 (by assumption) rfl (by kernel_rfl) (by kernel_rfl) (by kernel_rfl) (fun _ _ _ h => h) (by kernel_rfl) (v := ?v14) ?y14 ?r14
        case y14 => (intro u hu; go_simp; try rfl)
        simp only [Act.put, List.setIfInBounds_toArray, List.set_cons_zero, List.set_cons_succ]
        refine take_held 8 (by assumption) rfl (by kernel_rfl) (by kernel_rfl) (by kernel_rfl) (fun _ _ _ h => h) (by kernel_rfl) (v := ?v15) ?y15 ?r15
        case y15 => (intro u hu; go_simp; try rfl)
        simp only [Act.put, List.setIfInBounds_toArray, List.set_cons_zero, List.set_cons_succ]
        refine take_held 9 (by assumption) rfl (by kernel_rfl) (by kernel_rfl) (by kernel_rfl) (fun _ _ _ h => h) (by kernel_rfl) (v := ?v16) ?y16 ?r16
        case y16 => (intro u hu; go_simp; try rfl)
        simp only [Act.put, List.setIfInBounds_toArray, List.set_cons_zero, List.set_cons_succ]
        refine take_held 10 (by assumption) rfl (by kernel_rfl) (by kernel_rfl) (by kernel_rfl) (fun _ _ _ h => h) (by kernel_rfl) (v := .agg #[.int .i64 x, .int .i64 y]) ?y17 ?r17
        case y17 => (intro u hu; exact run_load_op 39 _ rfl ⟨bx, 0, none⟩ _ rfl (q3 u hu) (aggCell u) infoCell2)
        simp only [Act.put, List.setIfInBounds_toArray, List.set_cons_zero, List.set_cons_succ]
        refine take_held 11 (by assumption) rfl (by kernel_rfl) (by kernel_rfl) (by kernel_rfl) (fun _ _ _ h => h) (by kernel_rfl) (v := ?v18) ?y18 ?r18
        case y18 => (intro u hu; go_simp; try rfl)
        simp only [Act.put, List.setIfInBounds_toArray, List.set_cons_zero, List.set_cons_succ]
        refine take_held 12 (by assumption) rfl (by kernel_rfl) (by kernel_rfl) (by kernel_rfl) (fun _ _ _ h => h) (by kernel_rfl) (v := ?v19) ?y19 ?r19
        case y19 => (intro u hu; have zz0 := q4 u hu; go_simp; try rfl)
        simp only [Act.put, List.setIfInBounds_toArray, List.set_cons_zero, List.set_cons_succ]
        refine wpAnyH_ready (rs := [13]) (by kernel_rfl) (by simp) (AllReadyH.cons ((nth_eq _ 13).trans rfl) ?_ AllReadyH.nil)
        intro K' hK
        refine call_in hK (by kernel_rfl) 47 #[.slice pa n pcap] (by go_simp) _ (clone_ints _ bs _ w6 (HL.out.go heldInt since_lt D6) (fun q hq => Nat.lt_of_lt_of_le (since_lt q hq) D6.size) (by rw [Hn.out]; omega)) ?_
        rintro v w13 ⟨own13, b13⟩
        obtain ⟨sa, sc, hv13, _⟩ := own_form own13
        subst hv13
        have e13 := (b13.block _ (lt_of_heap e6)).trans e6
        have hV13 : IV w13 := mkIV.out _ _ _ _ ((HT1.out.go D6).go b13) e13
        have cY := told1_any HT1.out D6 b13 x y bs sa bs.length sc own13 (by omega)
        rw [decide_eq_true (show ((tellT c us ps k).length : Int) + 1 < most by omega)] at cY
        refine ⟨hV13, ?_⟩
        simp only [Act.put, List.setIfInBounds_toArray, List.set_cons_zero, List.set_cons_succ]
        refine wpAnyH_ready (rs := [14]) (by kernel_rfl) (by simp) (AllReadyH.cons ((nth_eq _ 14).trans rfl) ?_ AllReadyH.nil)
        intro K' hK
        refine call_in hK (by kernel_rfl) 52 #[.agg #[.int .i64 x, .int .i64 y], .slice sa bs.length sc, .pointer (some ⟨ws.heap.size + 2, 0, none⟩), .pointer (some ⟨ws.heap.size, 0, none⟩)] (by go_simp) _ (cY) ?_
        rintro v w14 ⟨rfl, ⟨m', ys', T14⟩, s14, k14⟩
        have hbx2 : wr.heap.size ≤ bx := by rw [HBX.out]; exact Nat.le_refl _
        have e14 := (k14 bx hbx2 (lt_of_heap e13)).trans e13
        have hV14 : IV w14 := mkIV.out _ _ _ _ T14 e14
        have HT9 : Hid (∃ m ys, Tw ws K most (tellT c us ps (k + 1)) m ys w14) := ⟨m', ys', by rw [HNx.out]; exact T14⟩
        refine ⟨hV14, ?_⟩
        simp only [Act.put, List.setIfInBounds_toArray, List.set_cons_zero, List.set_cons_succ]
        refine take_held 15 (by assumption) rfl (by kernel_rfl) (by kernel_rfl) (by kernel_rfl) (fun _ _ _ h => h) (by kernel_rfl) (v := ?v20) ?y20 ?r20
        case y20 => (intro u hu; go_simp; try rfl)
        simp only [Act.put, List.setIfInBounds_toArray, List.set_cons_zero, List.set_cons_succ]
        refine take_held 16 (by assumption) rfl (by kernel_rfl) (by kernel_rfl) (by kernel_rfl) (fun _ _ _ h => h) (by kernel_rfl) (v := ?v21) ?y21 ?r21
        case y21 => (intro u hu; go_simp; try rfl)
        simp only [Act.put, List.setIfInBounds_toArray, List.set_cons_zero, List.set_cons_succ]
        refine done_held (by kernel_rfl) ?_ _
        clear hV6 hV hV13 hV14
        go_wp2
        go_roundw
        case rel => exact ⟨k + 1, by omega, by go_num, HT9⟩
        case measure => simp [intOf]; omega
    · obtain rfl : N = k := by omega
      go_wp2
      go_end0
      exact ⟨_, rfl, rfl, HT.out⟩
end Go.Proofs.Ytabbdclpjghdbaa.Stk
namespace Go.Proofs.Ytabbdclpjghdbaa.Stk
set_option linter.unusedVariables false
set_option linter.unusedSimpArgs false
open Go Go.RowKit Go.Shelf Go.Proofs Go.Proofs.Ytabbdclpjghdbaa.Grid
attribute [local go_sem] Oper.semAt_some

theorem allS_any (K : Sk) (w : World) : Calls Try.prog 51 #[.pointer (some ⟨K.s, 0, none⟩)] w fun e w' => e = .returned (.func (.func 67) #[] #[.pointer (some ⟨w.heap.size, 0, none⟩)]) ∧ w' = w.alloc (.cells #[.pointer (some ⟨K.s, 0, none⟩)] 29) := by
  go_enter Try.func51, Try.ntmps51
  go_wp2
  go_ret
  exact ⟨rfl, rfl⟩
theorem eql_seq (u : World) (p : Value) : (binOp .eql 82 (.func (.func 67) #[] #[p]) .nilFunc).run Try.prog u = .ok (.bool false) u := by kernel_rfl
set_option maxRecDepth 100000 in
set_option maxHeartbeats 4000000 in
theorem told_any {K : Sk} {c : Conf} {us : List Int} {ps : List Pile} {ls : List Int} {w : World} (h : StAt K c us ps ls w) (most : Int) (h1 : 300 ≤ most) (h2 : most ≤ 9223372036854775807) : Calls Try.prog 27 #[.pointer (some ⟨K.s, 0, none⟩), .int .i64 most] w fun e w' => ∃ v, e = .returned v ∧ (∃ ys, Told (w.heap.size + 3) (tellT c us ps ps.length) v w' ys) ∧ Below w.heap.size w w' := by
  have eF := eql_seq
  obtain ⟨e1, e2, e3⟩ := heap3 w (.cells #[.int .i64 most] 3) (.cells #[.pointer (some ⟨K.s, 0, none⟩)] 29) (.cells #[.slice none 0 0] 24)
  have b3 : Below w.heap.size w (((w.alloc (.cells #[.int .i64 most] 3)).alloc (.cells #[.pointer (some ⟨K.s, 0, none⟩)] 29)).alloc (.cells #[.slice none 0 0] 24)) := below_new (below_two _ _ _) _
  have T0 : Tw w K most [] (.slice none 0 0) [] (((w.alloc (.cells #[.int .i64 most] 3)).alloc (.cells #[.pointer (some ⟨K.s, 0, none⟩)] 29)).alloc (.cells #[.slice none 0 0] 24)) := ⟨b3, e1, e2, e3, told_nil _ _ (by simp)⟩
  have cA := all1_any h most h1 ⟨_, _, T0⟩
  have hlt : ¬ most < 1 := by omega
  clear h T0 e1 e2 e3 b3
  go_enter Try.func27, Try.ntmps27
  go_wp2_with (first
    | (go_at_call 51; refine (allS_any K _).mono ?_; rintro e w1 ⟨rfl, rfl⟩)
    | (go_at_call 67; refine cA.mono ?_; rintro e w2 ⟨r2, rfl, rfl, m2, ys2, T2⟩; have y2 := cell_of T2.bl 0))
  go_ret
  exact ⟨m2, rfl, ⟨ys2, T2.td⟩, T2.below⟩
theorem run_neq_cell {o : Oper} {a : Act} {w : World} (x y : Operand) (ho : o.op = .binOp .neq 39 x y 39) (p q p' q' : Int) (hx : a.eval x = .agg #[.int .i64 p, .int .i64 q]) (hy : a.eval y = .agg #[.int .i64 p', .int .i64 q']) :
    (execOp a.eval o).run Try.prog w = .ok (.value (.bool (!decide ((p, q) = (p', q'))))) w := by
  unfold execOp
  simp only [ho, hx, hy, Sem.run_bind, Sem.run_pure, Result.andThen_ok, run_eqGuard_agg _ _ _ _ _ _ _ guardCell, run_neq_struct, eqCell]
theorem stk_eq {a b : Cell} {l m : List Int} : ((a, l) = (b, m)) ↔ a = b ∧ l = m := by rw [Prod.mk.injEq]
set_option maxRecDepth 100000 in
set_option maxHeartbeats 4000000 in
theorem sameStacks_any (F1 F2 : Nat → Prop) (l m : List Stk) (v1 v2 : Value) (w : World) (hL : ListAt 3 stackEl F1 l v1 w) (hM : ListAt 3 stackEl F2 m v2 w) (hF1 : ∀ b, F1 b → b < w.heap.size) (hF2 : ∀ b, F2 b → b < w.heap.size) (hm1 : l.length ≤ 9223372036854775807) (hm2 : m.length ≤ 9223372036854775807)
    (hb1 : ∀ s ∈ l, s.2.length ≤ 9223372036854775807) (hb2 : ∀ s ∈ m, s.2.length ≤ 9223372036854775807) :
    Calls Try.prog 28 #[v1, v2] w fun e w' => ∃ r, e = .returned r ∧ r = .bool (decide (l = m)) ∧ Below w.heap.size w w' := by
  obtain ⟨a, cap, hv, h0⟩ := hL.form
  obtain ⟨a', cap', hv', h0'⟩ := hM.form
  subst hv hv'
  generalize hR : decide (l = m) = R
  have HR : Hid (decide (l = m) = R) := hR
  clear hR
  have HNe : Hid (l ≠ m → R = false) := fun h => by rw [← HR.out]; exact decide_eq_false h
  by_cases hlen : l.length = m.length
  · obtain ⟨n, hn⟩ : ∃ n, l.length = n := ⟨_, rfl⟩
    have Hn : Hid (l.length = n) := hn
    have Hn2 : Hid (m.length = n) := hlen ▸ hn
    rw [hn] at hlen hL hm1
    rw [← hlen] at hM hm2
    rw [hn, ← hlen]
    clear hn hlen h0 h0'
    have hFw : Hid (∀ wr, Below w.heap.size w wr → ListAt 3 stackEl F1 l (.slice a n cap) wr) := fun wr b => hL.go heldStack hF1 b
    have hMw : Hid (∀ wr, Below w.heap.size w wr → ListAt 3 stackEl F2 m (.slice a' n cap') wr) := fun wr b => hM.go heldStack hF2 b
    have HB1 : Hid (∀ s ∈ l, s.2.length ≤ 9223372036854775807) := hb1
    have HB2 : Hid (∀ s ∈ m, s.2.length ≤ 9223372036854775807) := hb2
    clear hL hM hb1 hb2
    go_enter Try.func28, Try.ntmps28
    go_wp2
    go_loopw [5] (fun i wr => ∃ k : Nat, k ≤ n ∧ i = .int .i64 k ∧ Below w.heap.size w wr ∧ Hid (l.take k = m.take k)) (fun i _ => n - (intOf i).toNat)
    case atStart => exact ⟨0, Nat.zero_le _, rfl, Below.refl _ _, rfl⟩
    case round =>
      obtain ⟨k, hk, rfl, B, HK⟩ := hrel
      by_cases hlt : k < n
      · have hl1 : k < l.length := by rw [Hn.out]; exact hlt
        have hl2 : k < m.length := by rw [Hn2.out]; exact hlt
        have HY : Hid (l[k]'hl1 = m[k]'hl2 → l.take (k + 1) = m.take (k + 1)) := fun e => take_next2 HK.out hl1 hl2 e
        have HX : Hid (l[k]'hl1 ≠ m[k]'hl2 → R = false) := fun e => HNe.out (fun h => e (by subst h; rfl))
        have hq1 := HB1.out _ (List.getElem_mem hl1)
        have hq2 := HB2.out _ (List.getElem_mem hl2)
        obtain ⟨p, cs, cap2, hv, _, hcs, hrd⟩ := (hFw.out wr B).item hl1
        obtain ⟨p', cs', cap2', hv', _, hcs', hrd'⟩ := (hMw.out wr B).item hl2
        generalize l[k]'hl1 = q at *
        generalize m[k]'hl2 = q' at *
        obtain ⟨⟨x, y⟩, bs⟩ := q
        obtain ⟨⟨x', y'⟩, bs'⟩ := q'
        obtain ⟨vb, hcs2, hbs⟩ := hcs
        obtain ⟨vb', hcs2', hbs'⟩ := hcs'
        subst hcs2 hcs2'
        obtain ⟨rfl, rfl⟩ : a = some p ∧ cap = cap2 := by injection hv with h1 h2 h3; exact ⟨h1, h3⟩
        obtain ⟨rfl, rfl⟩ : a' = some p' ∧ cap' = cap2' := by injection hv' with h1 h2 h3; exact ⟨h1, h3⟩
        simp only at hq1 hq2 hrd hrd' hbs hbs'
        clear hv hv'
        go_wp2
        obtain ⟨IH, hIH⟩ : ∃ I : World → Prop, I = Below wr.heap.size wr := ⟨_, rfl⟩
        have kI : ∀ u, IH u → Below wr.heap.size wr u := fun u hu => by rw [hIH] at hu; exact hu
        have hS : IH wr.drew := by rw [hIH]; exact (Below.refl _ _).drew
        have D0 : Below wr.heap.size wr wr.drew := (Below.refl _ _).drew
        have H1 : Hid (∀ u, IH u → ∀ j z, #[Value.int .i64 x, .int .i64 y][j]? = some z → u.cell? ((p.add (k * 3)).add j) = some z) := fun u hu j z hj => cell_below (hrd j z (by
          match j with
          | 0 => simpa using hj
          | 1 => simpa using hj
          | j + 2 => simp at hj)) (kI u hu)
        have H2 : Hid (∀ u, IH u → ∀ j z, #[Value.int .i64 x', .int .i64 y'][j]? = some z → u.cell? ((p'.add (k * 3)).add j) = some z) := fun u hu j z hj => cell_below (hrd' j z (by
          match j with
          | 0 => simpa using hj
          | 1 => simpa using hj
          | j + 2 => simp at hj)) (kI u hu)
        have z1 : ∀ u, IH u → u.cell? ⟨(p.add (k * 3)).block, (p.add (k * 3)).off + 2, none⟩ = some vb := fun u hu => cell_below (hrd 2 _ rfl) (kI u hu)
        have z2 : ∀ u, IH u → u.cell? ⟨(p'.add (k * 3)).block, (p'.add (k * 3)).off + 2, none⟩ = some vb' := fun u hu => cell_below (hrd' 2 _ rfl) (kI u hu)
        have cI := fun u (b : Below wr.heap.size wr u) => sameInts_any F1 F2 bs bs' vb vb' u (hbs.stable heldInt fun g hg => b.block g (Nat.lt_of_lt_of_le (hF1 g hg) B.size)) (hbs'.stable heldInt fun g hg => b.block g (Nat.lt_of_lt_of_le (hF2 g hg) B.size)) (fun g hg => Nat.lt_of_lt_of_le (hF1 g hg) (Nat.le_trans B.size b.size)) (fun g hg => Nat.lt_of_lt_of_le (hF2 g hg) (Nat.le_trans B.size b.size)) hq1 hq2
        obtain ⟨ib, hib⟩ : ∃ ib, decide (bs = bs') = ib := ⟨_, rfl⟩
        have HIB : Hid (decide (bs = bs') = ib) := hib
        rw [hib] at cI
        obtain ⟨ba, bcap, hvb, _⟩ := hbs.form
        obtain ⟨ba', bcap', hvb', _⟩ := hbs'.form
        have HV1 : Hid (vb = .slice ba bs.length bcap) := hvb
        have HV2 : Hid (vb' = .slice ba' bs'.length bcap') := hvb'
        clear hrd hrd' hib hbs hbs' hvb hvb'
        by_cases hz : (x, y) = (x', y')
        · have hzd : decide ((x, y) = (x', y')) = true := decide_eq_true hz
          cases ib
          · have HT : Hid (R = false) := HX.out (fun e => by have := (stk_eq.1 e).2; exact of_decide_eq_false HIB.out this)
            refine start_held (S := IH) 25 rfl (by kernel_rfl) (hS) ?_
            simp only [Array.replicate_succ, Array.replicate_zero, List.push_toArray, List.nil_append, List.cons_append]
            refine take_held 0 (by assumption) rfl (by kernel_rfl) (by kernel_rfl) (by kernel_rfl) (fun _ _ _ h => h) (by kernel_rfl) (v := ?v0) ?y0 ?r0
            case y0 => (intro u hu; go_simp; try rfl)
            simp only [Act.put, List.setIfInBounds_toArray, List.set_cons_zero, List.set_cons_succ]
            refine take_held 1 (by assumption) rfl (by kernel_rfl) (by kernel_rfl) (by kernel_rfl) (fun _ _ _ h => h) (by kernel_rfl) (v := ?v1) ?y1 ?r1
            case y1 => (intro u hu; go_simp; try rfl)
            simp only [Act.put, List.setIfInBounds_toArray, List.set_cons_zero, List.set_cons_succ]
            refine take_held 2 (by assumption) rfl (by kernel_rfl) (by kernel_rfl) (by kernel_rfl) (fun _ _ _ h => h) (by kernel_rfl) (v := ?v2) ?y2 ?r2
            case y2 => (intro u hu; go_simp; try rfl)
            simp only [Act.put, List.setIfInBounds_toArray, List.set_cons_zero, List.set_cons_succ]
            refine take_held 3 (by assumption) rfl (by kernel_rfl) (by kernel_rfl) (by kernel_rfl) (fun _ _ _ h => h) (by kernel_rfl) (v := ?v3) ?y3 ?r3
            case y3 => (intro u hu; go_simp; try rfl)
            simp only [Act.put, List.setIfInBounds_toArray, List.set_cons_zero, List.set_cons_succ]
            refine take_held 4 (by assumption) rfl (by kernel_rfl) (by kernel_rfl) (by kernel_rfl) (fun _ _ _ h => h) (by kernel_rfl) (v := .agg #[.int .i64 x, .int .i64 y]) ?y4 ?r4
            case y4 => (intro u hu; exact run_load_op 39 _ rfl (p.add (k * 3)) _ rfl (H1.out u hu) (aggCell u) infoCell2)
            simp only [Act.put, List.setIfInBounds_toArray, List.set_cons_zero, List.set_cons_succ]
            refine take_held 5 (by assumption) rfl (by kernel_rfl) (by kernel_rfl) (by kernel_rfl) (fun _ _ _ h => h) (by kernel_rfl) (v := ?v5) ?y5 ?r5
            case y5 => (intro u hu; go_simp; try rfl)
            simp only [Act.put, List.setIfInBounds_toArray, List.set_cons_zero, List.set_cons_succ]
            refine take_held 6 (by assumption) rfl (by kernel_rfl) (by kernel_rfl) (by kernel_rfl) (fun _ _ _ h => h) (by kernel_rfl) (v := ?v6) ?y6 ?r6
            case y6 => (intro u hu; go_simp; try rfl)
            simp only [Act.put, List.setIfInBounds_toArray, List.set_cons_zero, List.set_cons_succ]
            refine take_held 7 (by assumption) rfl (by kernel_rfl) (by kernel_rfl) (by kernel_rfl) (fun _ _ _ h => h) (by kernel_rfl) (v := ?v7) ?y7 ?r7
            case y7 => (intro u hu; go_simp; try rfl)
            simp only [Act.put, List.setIfInBounds_toArray, List.set_cons_zero, List.set_cons_succ]
            refine take_held 8 (by assumption) rfl (by kernel_rfl) (by kernel_rfl) (by kernel_rfl) (fun _ _ _ h => h) (by kernel_rfl) (v := ?v8) ?y8 ?r8
            case y8 => (intro u hu; go_simp; try rfl)
            simp only [Act.put, List.setIfInBounds_toArray, List.set_cons_zero, List.set_cons_succ]
            refine take_held 9 (by assumption) rfl (by kernel_rfl) (by kernel_rfl) (by kernel_rfl) (fun _ _ _ h => h) (by kernel_rfl) (v := .agg #[.int .i64 x', .int .i64 y']) ?y9 ?r9
            case y9 => (intro u hu; exact run_load_op 39 _ rfl (p'.add (k * 3)) _ rfl (H2.out u hu) (aggCell u) infoCell2)
            simp only [Act.put, List.setIfInBounds_toArray, List.set_cons_zero, List.set_cons_succ]
            refine take_held 10 (by assumption) rfl (by kernel_rfl) (by kernel_rfl) (by kernel_rfl) (fun _ _ _ h => h) (by kernel_rfl) (v := (.bool false)) ?y10 ?r10
            case y10 => (intro u hu; refine (run_neq_cell _ _ rfl x y x' y' rfl rfl).trans ?_; rw [hzd]; rfl)
            simp only [Act.put, List.setIfInBounds_toArray, List.set_cons_zero, List.set_cons_succ]
            refine take_held 11 (by assumption) rfl (by kernel_rfl) (by kernel_rfl) (by kernel_rfl) (fun _ _ _ h => h) (by kernel_rfl) (v := ?v11) ?y11 ?r11
            case y11 => (intro u hu; go_simp; try rfl)
            simp only [Act.put, List.setIfInBounds_toArray, List.set_cons_zero, List.set_cons_succ]
            refine take_held 12 (by assumption) rfl (by kernel_rfl) (by kernel_rfl) (by kernel_rfl) (fun _ _ _ h => h) (by kernel_rfl) (v := ?v12) ?y12 ?r12
            case y12 => (intro u hu; go_simp; try rfl)
            simp only [Act.put, List.setIfInBounds_toArray, List.set_cons_zero, List.set_cons_succ]
            refine take_held 13 (by assumption) rfl (by kernel_rfl) (by kernel_rfl) (by kernel_rfl) (fun _ _ _ h => h) (by kernel_rfl) (v := ?v13) ?y13 ?r13
            case y13 => (intro u hu; go_simp; try rfl)
            simp only [Act.put, List.setIfInBounds_toArray, List.set_cons_zero, List.set_cons_succ]
            refine take_held 14 (by assumption) rfl (by kernel_rfl) (by kernel_rfl) (by kernel_rfl) (fun _ _ _ h => h) (by kernel_rfl) (v := ?v14) ?y14 ?r14
            case y14 => (intro u hu; go_simp; try rfl)
            simp only [Act.put, List.setIfInBounds_toArray, List.set_cons_zero, List.set_cons_succ]
            refine take_held 15 (by assumption) rfl (by kernel_rfl) (by kernel_rfl) (by kernel_rfl) (fun _ _ _ h => h) (by kernel_rfl) (v := ?v15) ?y15 ?r15
            case y15 => (intro u hu; go_simp; try rfl)
            simp only [Act.put, List.setIfInBounds_toArray, List.set_cons_zero, List.set_cons_succ]
            refine take_held 16 (by assumption) rfl (by kernel_rfl) (by kernel_rfl) (by kernel_rfl) (fun _ _ _ h => h) (by kernel_rfl) (v := ?v16) ?y16 ?r16
            case y16 => (intro u hu; have zz0 := z1 u hu; go_simp; try rfl)
            simp only [Act.put, List.setIfInBounds_toArray, List.set_cons_zero, List.set_cons_succ]
            refine take_held 17 (by assumption) rfl (by kernel_rfl) (by kernel_rfl) (by kernel_rfl) (fun _ _ _ h => h) (by kernel_rfl) (v := ?v17) ?y17 ?r17
            case y17 => (intro u hu; go_simp; try rfl)
            simp only [Act.put, List.setIfInBounds_toArray, List.set_cons_zero, List.set_cons_succ]
            refine take_held 18 (by assumption) rfl (by kernel_rfl) (by kernel_rfl) (by kernel_rfl) (fun _ _ _ h => h) (by kernel_rfl) (v := ?v18) ?y18 ?r18
            case y18 => (intro u hu; go_simp; try rfl)
            simp only [Act.put, List.setIfInBounds_toArray, List.set_cons_zero, List.set_cons_succ]
            refine take_held 19 (by assumption) rfl (by kernel_rfl) (by kernel_rfl) (by kernel_rfl) (fun _ _ _ h => h) (by kernel_rfl) (v := ?v19) ?y19 ?r19
            case y19 => (intro u hu; go_simp; try rfl)
            simp only [Act.put, List.setIfInBounds_toArray, List.set_cons_zero, List.set_cons_succ]
            refine take_held 20 (by assumption) rfl (by kernel_rfl) (by kernel_rfl) (by kernel_rfl) (fun _ _ _ h => h) (by kernel_rfl) (v := ?v20) ?y20 ?r20
            case y20 => (intro u hu; go_simp; try rfl)
            simp only [Act.put, List.setIfInBounds_toArray, List.set_cons_zero, List.set_cons_succ]
            refine take_held 21 (by assumption) rfl (by kernel_rfl) (by kernel_rfl) (by kernel_rfl) (fun _ _ _ h => h) (by kernel_rfl) (v := ?v21) ?y21 ?r21
            case y21 => (intro u hu; have zz0 := z2 u hu; go_simp; try rfl)
            simp only [Act.put, List.setIfInBounds_toArray, List.set_cons_zero, List.set_cons_succ]
            refine wpAnyH_ready (rs := [22]) (by kernel_rfl) (by simp) (AllReadyH.cons ((nth_eq _ 22).trans rfl) ?_ AllReadyH.nil)
            intro K' hK
            refine call_in hK (by kernel_rfl) 21 #[vb, vb'] (by go_simp) _ (cI _ D0) ?_
            rintro v w5 ⟨rfl, b5⟩
            have D5 := bcat D0 b5 (Nat.le_refl _)
            have hS5 : IH w5 := by rw [hIH]; exact D5
            refine ⟨hS5, ?_⟩
            simp only [Act.put, List.setIfInBounds_toArray, List.set_cons_zero, List.set_cons_succ]
            refine take_held 23 (by assumption) rfl (by kernel_rfl) (by kernel_rfl) (by kernel_rfl) (fun _ _ _ h => h) (by kernel_rfl) (v := ?v22) ?y22 ?r22
            case y22 => (intro u hu; go_simp; try rfl)
            simp only [Act.put, List.setIfInBounds_toArray, List.set_cons_zero, List.set_cons_succ]
            refine take_held 24 (by assumption) rfl (by kernel_rfl) (by kernel_rfl) (by kernel_rfl) (fun _ _ _ h => h) (by kernel_rfl) (v := ?v23) ?y23 ?r23
            case y23 => (intro u hu; go_simp; try rfl)
            simp only [Act.put, List.setIfInBounds_toArray, List.set_cons_zero, List.set_cons_succ]
            refine done_held (by kernel_rfl) ?_ _
            go_wp2
            go_ret
            exact ⟨_, rfl, congrArg Value.bool HT.out.symm, bcat B D5 (Nat.le_refl _)⟩
          · have HT : Hid (l.take (k + 1) = m.take (k + 1)) := HY.out (stk_eq.2 ⟨hz, of_decide_eq_true HIB.out⟩)
            refine start_held (S := IH) 25 rfl (by kernel_rfl) (hS) ?_
            simp only [Array.replicate_succ, Array.replicate_zero, List.push_toArray, List.nil_append, List.cons_append]
            refine take_held 0 (by assumption) rfl (by kernel_rfl) (by kernel_rfl) (by kernel_rfl) (fun _ _ _ h => h) (by kernel_rfl) (v := ?v24) ?y24 ?r24
            case y24 => (intro u hu; go_simp; try rfl)
            simp only [Act.put, List.setIfInBounds_toArray, List.set_cons_zero, List.set_cons_succ]
            refine take_held 1 (by assumption) rfl (by kernel_rfl) (by kernel_rfl) (by kernel_rfl) (fun _ _ _ h => h) (by kernel_rfl) (v := ?v25) ?y25 ?r25
            case y25 => (intro u hu; go_simp; try rfl)
            simp only [Act.put, List.setIfInBounds_toArray, List.set_cons_zero, List.set_cons_succ]
            refine take_held 2 (by assumption) rfl (by kernel_rfl) (by kernel_rfl) (by kernel_rfl) (fun _ _ _ h => h) (by kernel_rfl) (v := ?v26) ?y26 ?r26
            case y26 => (intro u hu; go_simp; try rfl)
            simp only [Act.put, List.setIfInBounds_toArray, List.set_cons_zero, List.set_cons_succ]
            refine take_held 3 (by assumption) rfl (by kernel_rfl) (by kernel_rfl) (by kernel_rfl) (fun _ _ _ h => h) (by kernel_rfl) (v := ?v27) ?y27 ?r27
            case y27 => (intro u hu; go_simp; try rfl)
            simp only [Act.put, List.setIfInBounds_toArray, List.set_cons_zero, List.set_cons_succ]
            refine take_held 4 (by assumption) rfl (by kernel_rfl) (by kernel_rfl) (by kernel_rfl) (fun _ _ _ h => h) (by kernel_rfl) (v := .agg #[.int .i64 x, .int .i64 y]) ?y28 ?r28
            case y28 => (intro u hu; exact run_load_op 39 _ rfl (p.add (k * 3)) _ rfl (H1.out u hu) (aggCell u) infoCell2)
            simp only [Act.put, List.setIfInBounds_toArray, List.set_cons_zero, List.set_cons_succ]
            refine take_held 5 (by assumption) rfl (by kernel_rfl) (by kernel_rfl) (by kernel_rfl) (fun _ _ _ h => h) (by kernel_rfl) (v := ?v29) ?y29 ?r29
            case y29 => (intro u hu; go_simp; try rfl)
            simp only [Act.put, List.setIfInBounds_toArray, List.set_cons_zero, List.set_cons_succ]
            refine take_held 6 (by assumption) rfl (by kernel_rfl) (by kernel_rfl) (by kernel_rfl) (fun _ _ _ h => h) (by kernel_rfl) (v := ?v30) ?y30 ?r30
            case y30 => (intro u hu; go_simp; try rfl)
            simp only [Act.put, List.setIfInBounds_toArray, List.set_cons_zero, List.set_cons_succ]
            refine take_held 7 (by assumption) rfl (by kernel_rfl) (by kernel_rfl) (by kernel_rfl) (fun _ _ _ h => h) (by kernel_rfl) (v := ?v31) ?y31 ?r31
            case y31 => (intro u hu; go_simp; try rfl)
            simp only [Act.put, List.setIfInBounds_toArray, List.set_cons_zero, List.set_cons_succ]
            refine take_held 8 (by assumption) rfl (by kernel_rfl) (by kernel_rfl) (by kernel_rfl) (fun _ _ _ h => h) (by kernel_rfl) (v := ?v32) ?y32 ?r32
            case y32 => (intro u hu; go_simp; try rfl)
            simp only [Act.put, List.setIfInBounds_toArray, List.set_cons_zero, List.set_cons_succ]
            refine take_held 9 (by assumption) rfl (by kernel_rfl) (by kernel_rfl) (by kernel_rfl) (fun _ _ _ h => h) (by kernel_rfl) (v := .agg #[.int .i64 x', .int .i64 y']) ?y33 ?r33
            case y33 => (intro u hu; exact run_load_op 39 _ rfl (p'.add (k * 3)) _ rfl (H2.out u hu) (aggCell u) infoCell2)
            simp only [Act.put, List.setIfInBounds_toArray, List.set_cons_zero, List.set_cons_succ]
            refine take_held 10 (by assumption) rfl (by kernel_rfl) (by kernel_rfl) (by kernel_rfl) (fun _ _ _ h => h) (by kernel_rfl) (v := (.bool false)) ?y34 ?r34
            case y34 => (intro u hu; refine (run_neq_cell _ _ rfl x y x' y' rfl rfl).trans ?_; rw [hzd]; rfl)
            simp only [Act.put, List.setIfInBounds_toArray, List.set_cons_zero, List.set_cons_succ]
            refine take_held 11 (by assumption) rfl (by kernel_rfl) (by kernel_rfl) (by kernel_rfl) (fun _ _ _ h => h) (by kernel_rfl) (v := ?v35) ?y35 ?r35
            case y35 => (intro u hu; go_simp; try rfl)
            simp only [Act.put, List.setIfInBounds_toArray, List.set_cons_zero, List.set_cons_succ]
            refine take_held 12 (by assumption) rfl (by kernel_rfl) (by kernel_rfl) (by kernel_rfl) (fun _ _ _ h => h) (by kernel_rfl) (v := ?v36) ?y36 ?r36
            case y36 => (intro u hu; go_simp; try rfl)
            simp only [Act.put, List.setIfInBounds_toArray, List.set_cons_zero, List.set_cons_succ]
            refine take_held 13 (by assumption) rfl (by kernel_rfl) (by kernel_rfl) (by kernel_rfl) (fun _ _ _ h => h) (by kernel_rfl) (v := ?v37) ?y37 ?r37
            case y37 => (intro u hu; go_simp; try rfl)
            simp only [Act.put, List.setIfInBounds_toArray, List.set_cons_zero, List.set_cons_succ]
            refine take_held 14 (by assumption) rfl (by kernel_rfl) (by kernel_rfl) (by kernel_rfl) (fun _ _ _ h => h) (by kernel_rfl) (v := ?v38) ?y38 ?r38
            case y38 => (intro u hu; go_simp; try rfl)
            simp only [Act.put, List.setIfInBounds_toArray, List.set_cons_zero, List.set_cons_succ]
            refine take_held 15 (by assumption) rfl (by kernel_rfl) (by kernel_rfl) (by kernel_rfl) (fun _ _ _ h => h) (by kernel_rfl) (v := ?v39) ?y39 ?r39
            case y39 => (intro u hu; go_simp; try rfl)
            simp only [Act.put, List.setIfInBounds_toArray, List.set_cons_zero, List.set_cons_succ]
            refine take_held 16 (by assumption) rfl (by kernel_rfl) (by kernel_rfl) (by kernel_rfl) (fun _ _ _ h => h) (by kernel_rfl) (v := ?v40) ?y40 ?r40
            case y40 => (intro u hu; have zz0 := z1 u hu; go_simp; try rfl)
            simp only [Act.put, List.setIfInBounds_toArray, List.set_cons_zero, List.set_cons_succ]
            refine take_held 17 (by assumption) rfl (by kernel_rfl) (by kernel_rfl) (by kernel_rfl) (fun _ _ _ h => h) (by kernel_rfl) (v := ?v41) ?y41 ?r41
            case y41 => (intro u hu; go_simp; try rfl)
            simp only [Act.put, List.setIfInBounds_toArray, List.set_cons_zero, List.set_cons_succ]
            refine take_held 18 (by assumption) rfl (by kernel_rfl) (by kernel_rfl) (by kernel_rfl) (fun _ _ _ h => h) (by kernel_rfl) (v := ?v42) ?y42 ?r42
            case y42 => (intro u hu; go_simp; try rfl)
            simp only [Act.put, List.setIfInBounds_toArray, List.set_cons_zero, List.set_cons_succ]
            refine take_held 19 (by assumption) rfl (by kernel_rfl) (by kernel_rfl) (by kernel_rfl) (fun _ _ _ h => h) (by kernel_rfl) (v := ?v43) ?y43 ?r43
            case y43 => (intro u hu; go_simp; try rfl)
            simp only [Act.put, List.setIfInBounds_toArray, List.set_cons_zero, List.set_cons_succ]
            refine take_held 20 (by assumption) rfl (by kernel_rfl) (by kernel_rfl) (by kernel_rfl) (fun _ _ _ h => h) (by kernel_rfl) (v := ?v44) ?y44 ?r44
            case y44 => (intro u hu; go_simp; try rfl)
            simp only [Act.put, List.setIfInBounds_toArray, List.set_cons_zero, List.set_cons_succ]
            refine take_held 21 (by assumption) rfl (by kernel_rfl) (by kernel_rfl) (by kernel_rfl) (fun _ _ _ h => h) (by kernel_rfl) (v := ?v45) ?y45 ?r45
            case y45 => (intro u hu; have zz0 := z2 u hu; go_simp; try rfl)
            simp only [Act.put, List.setIfInBounds_toArray, List.set_cons_zero, List.set_cons_succ]
            refine wpAnyH_ready (rs := [22]) (by kernel_rfl) (by simp) (AllReadyH.cons ((nth_eq _ 22).trans rfl) ?_ AllReadyH.nil)
            intro K' hK
            refine call_in hK (by kernel_rfl) 21 #[vb, vb'] (by go_simp) _ (cI _ D0) ?_
            rintro v w5 ⟨rfl, b5⟩
            have D5 := bcat D0 b5 (Nat.le_refl _)
            have hS5 : IH w5 := by rw [hIH]; exact D5
            refine ⟨hS5, ?_⟩
            simp only [Act.put, List.setIfInBounds_toArray, List.set_cons_zero, List.set_cons_succ]
            refine take_held 23 (by assumption) rfl (by kernel_rfl) (by kernel_rfl) (by kernel_rfl) (fun _ _ _ h => h) (by kernel_rfl) (v := ?v46) ?y46 ?r46
            case y46 => (intro u hu; go_simp; try rfl)
            simp only [Act.put, List.setIfInBounds_toArray, List.set_cons_zero, List.set_cons_succ]
            refine take_held 24 (by assumption) rfl (by kernel_rfl) (by kernel_rfl) (by kernel_rfl) (fun _ _ _ h => h) (by kernel_rfl) (v := ?v47) ?y47 ?r47
            case y47 => (intro u hu; go_simp; try rfl)
            simp only [Act.put, List.setIfInBounds_toArray, List.set_cons_zero, List.set_cons_succ]
            refine done_held (by kernel_rfl) ?_ _
            have B7 := bcat B D5 (Nat.le_refl _)
            go_wp2
            go_roundw
            case rel => exact ⟨k + 1, by omega, by go_num, B7, HT⟩
            case measure => simp [intOf]; omega
        · have hzd : decide ((x, y) = (x', y')) = false := decide_eq_false hz
          have HT : Hid (R = false) := HX.out (fun e => hz (stk_eq.1 e).1)
          refine start_held (S := IH) 25 rfl (by kernel_rfl) (hS) ?_
          simp only [Array.replicate_succ, Array.replicate_zero, List.push_toArray, List.nil_append, List.cons_append]
          refine take_held 0 (by assumption) rfl (by kernel_rfl) (by kernel_rfl) (by kernel_rfl) (fun _ _ _ h => h) (by kernel_rfl) (v := ?v48) ?y48 ?r48
          case y48 => (intro u hu; go_simp; try rfl)
          simp only [Act.put, List.setIfInBounds_toArray, List.set_cons_zero, List.set_cons_succ]
          refine take_held 1 (by assumption) rfl (by kernel_rfl) (by kernel_rfl) (by kernel_rfl) (fun _ _ _ h => h) (by kernel_rfl) (v := ?v49) ?y49 ?r49
          case y49 => (intro u hu; go_simp; try rfl)
          simp only [Act.put, List.setIfInBounds_toArray, List.set_cons_zero, List.set_cons_succ]
          refine take_held 2 (by assumption) rfl (by kernel_rfl) (by kernel_rfl) (by kernel_rfl) (fun _ _ _ h => h) (by kernel_rfl) (v := ?v50) ?y50 ?r50
          case y50 => (intro u hu; go_simp; try rfl)
          simp only [Act.put, List.setIfInBounds_toArray, List.set_cons_zero, List.set_cons_succ]
          refine take_held 3 (by assumption) rfl (by kernel_rfl) (by kernel_rfl) (by kernel_rfl) (fun _ _ _ h => h) (by kernel_rfl) (v := ?v51) ?y51 ?r51
          case y51 => (intro u hu; go_simp; try rfl)
          simp only [Act.put, List.setIfInBounds_toArray, List.set_cons_zero, List.set_cons_succ]
          refine take_held 4 (by assumption) rfl (by kernel_rfl) (by kernel_rfl) (by kernel_rfl) (fun _ _ _ h => h) (by kernel_rfl) (v := .agg #[.int .i64 x, .int .i64 y]) ?y52 ?r52
          case y52 => (intro u hu; exact run_load_op 39 _ rfl (p.add (k * 3)) _ rfl (H1.out u hu) (aggCell u) infoCell2)
          simp only [Act.put, List.setIfInBounds_toArray, List.set_cons_zero, List.set_cons_succ]
          refine take_held 5 (by assumption) rfl (by kernel_rfl) (by kernel_rfl) (by kernel_rfl) (fun _ _ _ h => h) (by kernel_rfl) (v := ?v53) ?y53 ?r53
          case y53 => (intro u hu; go_simp; try rfl)
          simp only [Act.put, List.setIfInBounds_toArray, List.set_cons_zero, List.set_cons_succ]
          refine take_held 6 (by assumption) rfl (by kernel_rfl) (by kernel_rfl) (by kernel_rfl) (fun _ _ _ h => h) (by kernel_rfl) (v := ?v54) ?y54 ?r54
          case y54 => (intro u hu; go_simp; try rfl)
          simp only [Act.put, List.setIfInBounds_toArray, List.set_cons_zero, List.set_cons_succ]
          refine take_held 7 (by assumption) rfl (by kernel_rfl) (by kernel_rfl) (by kernel_rfl) (fun _ _ _ h => h) (by kernel_rfl) (v := ?v55) ?y55 ?r55
          case y55 => (intro u hu; go_simp; try rfl)
          simp only [Act.put, List.setIfInBounds_toArray, List.set_cons_zero, List.set_cons_succ]
          refine take_held 8 (by assumption) rfl (by kernel_rfl) (by kernel_rfl) (by kernel_rfl) (fun _ _ _ h => h) (by kernel_rfl) (v := ?v56) ?y56 ?r56
          case y56 => (intro u hu; go_simp; try rfl)
          simp only [Act.put, List.setIfInBounds_toArray, List.set_cons_zero, List.set_cons_succ]
          refine take_held 9 (by assumption) rfl (by kernel_rfl) (by kernel_rfl) (by kernel_rfl) (fun _ _ _ h => h) (by kernel_rfl) (v := .agg #[.int .i64 x', .int .i64 y']) ?y57 ?r57
          case y57 => (intro u hu; exact run_load_op 39 _ rfl (p'.add (k * 3)) _ rfl (H2.out u hu) (aggCell u) infoCell2)
          simp only [Act.put, List.setIfInBounds_toArray, List.set_cons_zero, List.set_cons_succ]
          refine take_held 10 (by assumption) rfl (by kernel_rfl) (by kernel_rfl) (by kernel_rfl) (fun _ _ _ h => h) (by kernel_rfl) (v := (.bool true)) ?y58 ?r58
          case y58 => (intro u hu; refine (run_neq_cell _ _ rfl x y x' y' rfl rfl).trans ?_; rw [hzd]; rfl)
          simp only [Act.put, List.setIfInBounds_toArray, List.set_cons_zero, List.set_cons_succ]
          refine take_held 11 (by assumption) rfl (by kernel_rfl) (by kernel_rfl) (by kernel_rfl) (fun _ _ _ h => h) (by kernel_rfl) (v := ?v59) ?y59 ?r59
          case y59 => (intro u hu; go_simp; try rfl)
          simp only [Act.put, List.setIfInBounds_toArray, List.set_cons_zero, List.set_cons_succ]
          refine skip_held 12 (by assumption) rfl (by kernel_rfl) (by kernel_rfl) (by kernel_rfl) (fun _ _ _ h => h) (by kernel_rfl) ?_
          simp only [Act.put, List.setIfInBounds_toArray, List.set_cons_zero, List.set_cons_succ]
          refine skip_held 13 (by assumption) rfl (by kernel_rfl) (by kernel_rfl) (by kernel_rfl) (fun _ _ _ h => h) (by kernel_rfl) ?_
          simp only [Act.put, List.setIfInBounds_toArray, List.set_cons_zero, List.set_cons_succ]
          refine skip_held 14 (by assumption) rfl (by kernel_rfl) (by kernel_rfl) (by kernel_rfl) (fun _ _ _ h => h) (by kernel_rfl) ?_
          simp only [Act.put, List.setIfInBounds_toArray, List.set_cons_zero, List.set_cons_succ]
          refine skip_held 15 (by assumption) rfl (by kernel_rfl) (by kernel_rfl) (by kernel_rfl) (fun _ _ _ h => h) (by kernel_rfl) ?_
          simp only [Act.put, List.setIfInBounds_toArray, List.set_cons_zero, List.set_cons_succ]
          refine skip_held 16 (by assumption) rfl (by kernel_rfl) (by kernel_rfl) (by kernel_rfl) (fun _ _ _ h => h) (by kernel_rfl) ?_
          simp only [Act.put, List.setIfInBounds_toArray, List.set_cons_zero, List.set_cons_succ]
          refine skip_held 17 (by assumption) rfl (by kernel_rfl) (by kernel_rfl) (by kernel_rfl) (fun _ _ _ h => h) (by kernel_rfl) ?_
          simp only [Act.put, List.setIfInBounds_toArray, List.set_cons_zero, List.set_cons_succ]
          refine skip_held 18 (by assumption) rfl (by kernel_rfl) (by kernel_rfl) (by kernel_rfl) (fun _ _ _ h => h) (by kernel_rfl) ?_
          simp only [Act.put, List.setIfInBounds_toArray, List.set_cons_zero, List.set_cons_succ]
          refine skip_held 19 (by assumption) rfl (by kernel_rfl) (by kernel_rfl) (by kernel_rfl) (fun _ _ _ h => h) (by kernel_rfl) ?_
          simp only [Act.put, List.setIfInBounds_toArray, List.set_cons_zero, List.set_cons_succ]
          refine skip_held 20 (by assumption) rfl (by kernel_rfl) (by kernel_rfl) (by kernel_rfl) (fun _ _ _ h => h) (by kernel_rfl) ?_
          simp only [Act.put, List.setIfInBounds_toArray, List.set_cons_zero, List.set_cons_succ]
          refine skip_held 21 (by assumption) rfl (by kernel_rfl) (by kernel_rfl) (by kernel_rfl) (fun _ _ _ h => h) (by kernel_rfl) ?_
          simp only [Act.put, List.setIfInBounds_toArray, List.set_cons_zero, List.set_cons_succ]
          refine skip_held 22 (by assumption) rfl (by kernel_rfl) (by kernel_rfl) (by kernel_rfl) (fun _ _ _ h => h) (by kernel_rfl) ?_
          simp only [Act.put, List.setIfInBounds_toArray, List.set_cons_zero, List.set_cons_succ]
          refine skip_held 23 (by assumption) rfl (by kernel_rfl) (by kernel_rfl) (by kernel_rfl) (fun _ _ _ h => h) (by kernel_rfl) ?_
          simp only [Act.put, List.setIfInBounds_toArray, List.set_cons_zero, List.set_cons_succ]
          refine take_held 24 (by assumption) rfl (by kernel_rfl) (by kernel_rfl) (by kernel_rfl) (fun _ _ _ h => h) (by kernel_rfl) (v := ?v60) ?y60 ?r60
          case y60 => (intro u hu; go_simp; try rfl)
          simp only [Act.put, List.setIfInBounds_toArray, List.set_cons_zero, List.set_cons_succ]
          refine done_held (by kernel_rfl) ?_ _
          go_wp2
          go_ret
          exact ⟨_, rfl, congrArg Value.bool HT.out.symm, bcat B D0 (Nat.le_refl _)⟩
      · obtain rfl : n = k := by omega
        have HT : Hid (R = true) := by
          show R = true
          rw [← HR.out, decide_eq_true_eq]
          have := HK.out
          rw [List.take_of_length_le (by rw [Hn.out]; omega), List.take_of_length_le (by rw [Hn2.out]; omega)] at this
          exact this
        go_wp2
        go_ret
        exact ⟨_, rfl, congrArg Value.bool HT.out.symm, B⟩
  · have HT : Hid (R = false) := HNe.out (fun h => hlen (by rw [h]))
    have hne : ((l.length : Int) != (m.length : Int)) = true := by rw [bne_iff_ne]; omega
    generalize l.length = n1 at *
    generalize m.length = n2 at *
    go_enter Try.func28, Try.ntmps28
    go_wp2
    go_ret
    exact ⟨_, rfl, congrArg Value.bool HT.out.symm, Below.refl _ _⟩
end Go.Proofs.Ytabbdclpjghdbaa.Stk
namespace Go.Proofs.Ytabbdclpjghdbaa.Stk
set_option linter.unusedVariables false
set_option linter.unusedSimpArgs false
open Go Go.RowKit Go.Shelf Go.Proofs Go.Proofs.Ytabbdclpjghdbaa.Grid
attribute [local go_sem] Oper.semAt_some

abbrev OpT := Int × Int × Cell
def opEl (F : Nat → Prop) (o : OpT) (cs : Array Value) (u : World) : Prop := cs = #[.int .i64 o.1, .int .i64 o.2.1, .int .i64 o.2.2.1, .int .i64 o.2.2.2]
theorem heldOp : Held opEl 4 := ⟨fun h => by rw [h]; rfl, fun h => by rw [h]; simp [Value.oneCell'], fun h _ => h, fun h _ => h⟩
theorem aggOp (w : World) : (isAgg 41).run Try.prog w = .ok true w := by unfold isAgg; rw [Sem.run_bind, run_underlying Try.underlying41 w]; rfl
theorem infoOp : (Try.prog.info? 41).map (·.size) = some 4 := by kernel_rfl
theorem owns_less {w : World} {base base' : Nat} {e : TypeId} {S : Nat} {v : Value} {n : Nat} {xs : List Value} (h : w.ownsRow base e S v n xs) (hb : base' ≤ base) : w.ownsRow base' e S v n xs := by
  refine ⟨h.1, ?_⟩
  rcases h.2 with q | ⟨g, cap, cur, q, h1, rest⟩
  · exact Or.inl q
  · exact Or.inr ⟨g, cap, cur, q, Nat.le_trans hb h1, rest⟩
theorem same_was {w : World} {K : Sk} {c : Conf} {us : List Int} {ps : List Pile} {ls : List Int} {v7 : Value} {B0 : List Int} {u : World} (hL : Lw w K c us ps ls v7 B0 u) {base : Nat} {v : Value} (own : u.ownsRow base 3 1 v (allB ps ls).length (rowL intL (sortedI (allB ps ls)))) (hb : (allB ps ls).length ≤ 9223372036854775807) :
    Calls Try.prog 21 #[v, v7] u fun e w' => ∃ r, e = .returned r ∧ r = .bool true ∧ Below u.heap.size u w' := by
  have o2 := hL.own
  rw [← (sorted_perm (allB ps ls)).length_eq] at own
  rw [← (sorted_perm B0).length_eq] at o2
  have := sameInts_any _ _ (sortedI (allB ps ls)) (sortedI B0) v v7 u (list_of_own kindInt.len own) (list_of_own kindInt.len o2) since_lt since_lt (by rw [(sorted_perm (allB ps ls)).length_eq]; exact hb) (by rw [(sorted_perm B0).length_eq, ← hL.perm.length_eq]; exact hb)
  rw [decide_eq_true (sorted_same hL.perm)] at this
  exact this
theorem allB_len {K : Sk} {c : Conf} {us : List Int} {ps : List Pile} {ls : List Int} {w : World} (h : StAt K c us ps ls w) : (allB ps ls).length ≤ 4096 := by
  have h1 := flatK_len h.small ps.length
  have h2 := h.lens
  have h3 := h.few
  unfold flatK at h1
  rw [List.take_length] at h1
  have h4 : (ls.filter (fun z => z != 0)).length ≤ ls.length := List.length_filter_le _ _
  unfold allB
  rw [List.length_append]
  omega
theorem mem_bins {ps : List Pile} {ls : List Int} {j : Nat} {p : Pile} (h : ps[j]? = some p) {z : Int} (hz : z ∈ p.2.2) : z ∈ allB ps ls := by
  unfold allB
  refine List.mem_append_left _ (List.mem_flatMap.2 ⟨p, List.mem_of_getElem? h, hz⟩)
theorem top_mem {bs : List Int} (h : bs ≠ []) : topP bs ∈ bs := by
  have h1 := top_last h
  have h2 : topP bs ∈ bs.dropLast ++ [topP bs] := by simp
  rw [h1] at h2
  exact h2
theorem first_bins {c : Conf} {ps : List Pile} {n : Nat} (hm : mayBeP (c.stacks.flatMap Prod.snd)) (hp : (ps.flatMap (fun p => p.2.2)).Perm (c.stacks.flatMap (fun s => s.2))) : (allB ps (List.replicate n 0)).Nodup ∧ ∀ z ∈ allB ps (List.replicate n 0), z ≠ 0 := by
  have e : allB ps (List.replicate n 0) = ps.flatMap (fun p => p.2.2) := by
    unfold allB
    rw [List.filter_eq_nil_iff.2 (fun a ha => by rw [List.eq_of_mem_replicate ha]; simp), List.append_nil]
  rw [e]
  refine ⟨hp.nodup_iff.2 hm.2.2, fun z hz => ?_⟩
  have := hm.2.1 z (hp.mem_iff.1 hz)
  omega
theorem strict {l : List Int} (h : l.Nodup) {i : Nat} (hi : i + 1 < l.length) : (sortedI l).getD i 0 < (sortedI l).getD (i + 1) 0 := by
  have hl := (sorted_perm l).length_eq
  have h1 := List.pairwise_iff_getElem.1 (sorted_pair l) i (i + 1) (by omega) (by omega) (by omega)
  have h2 := List.pairwise_iff_getElem.1 ((sorted_perm l).nodup_iff.2 h) i (i + 1) (by omega) (by omega) (by omega)
  rw [List.getD_eq_getElem?_getD, List.getD_eq_getElem?_getD, List.getElem?_eq_getElem (by omega), List.getElem?_eq_getElem (by omega)]
  simp only [Option.getD_some]
  omega
end Go.Proofs.Ytabbdclpjghdbaa.Stk
namespace Go.Proofs.Ytabbdclpjghdbaa.Stk
set_option linter.unusedVariables false
set_option linter.unusedSimpArgs false
open Go Go.RowKit Go.Shelf Go.Proofs Go.Proofs.Ytabbdclpjghdbaa.Grid
attribute [local go_sem] Oper.semAt_some

/- A config and two cells, in boxes of the call's own. -/
structure B3 (w : World) (cs as_ ts : Array Value) (W : World) : Prop where
  below : Below w.heap.size w W
  a : W.heap[w.heap.size]? = some (.cells cs 26 (0, 0))
  b : W.heap[w.heap.size + 1]? = some (.cells as_ 39 (0, 0))
  c : W.heap[w.heap.size + 1 + 1]? = some (.cells ts 39 (0, 0))
theorem B3.go {w : World} {cs as_ ts : Array Value} {W W' : World} (h : B3 w cs as_ ts W) (hb : Below W.heap.size W W') : B3 w cs as_ ts W' :=
  ⟨bcat h.below hb (Nat.le_refl _), (hb.block _ (lt_of_heap h.a)).trans h.a, (hb.block _ (lt_of_heap h.b)).trans h.b, (hb.block _ (lt_of_heap h.c)).trans h.c⟩
theorem B3.turn {w : World} {cs as_ ts : Array Value} {W W' : World} (h : B3 w cs as_ ts W) {K : Sk} {ps ps' : List Pile} (T : Turn K ps ps' W W') (hf : ∀ b, Foot K ps b → w.heap.size + 3 ≤ b) : B3 w cs as_ ts W' :=
  ⟨h.below.trans (T.below h.below.size (fun b q => by have := hf b q; omega)), (T.keep _ (lt_of_heap h.a) (fun q => by have := hf _ q; omega)).trans h.a, (T.keep _ (lt_of_heap h.b) (fun q => by have := hf _ q; omega)).trans h.b, (T.keep _ (lt_of_heap h.c) (fun q => by have := hf _ q; omega)).trans h.c⟩
theorem tell_same (c : Conf) (us : List Int) {ps ps' : List Pile} (h : ps.map (fun p => (p.1, p.2.2)) = ps'.map (fun p => (p.1, p.2.2))) : tellT c us ps ps.length = tellT c us ps' ps'.length := by
  have e : ∀ l : List Pile, tellT c us l l.length = (l.map (fun p => (p.1, p.2.2))).filter (fun s => openU c.W c.H us s.1) := fun l => by
    unfold tellT
    rw [List.take_length, List.filter_map]
    rfl
  rw [e, e, h]
theorem tell_bins {K : Sk} {c : Conf} {us : List Int} {ps : List Pile} {ls : List Int} {w : World} (h : StAt K c us ps ls w) : ∀ s ∈ tellT c us ps ps.length, s.2.length ≤ 8 := by
  intro s hs
  unfold tellT at hs
  rw [List.take_length] at hs
  obtain ⟨p, hp, rfl⟩ := List.mem_map.1 hs
  obtain ⟨i, hi, e⟩ := List.getElem_of_mem (List.mem_filter.1 hp).1
  exact h.small i p (by rw [List.getElem?_eq_getElem hi, e])
theorem same_told {K : Sk} {c : Conf} {us : List Int} {ps : List Pile} {ls : List Int} {w : World} (h : StAt K c us ps ls w) {N1 N2 : Nat} {v1 v2 : Value} {y1 y2 : List SV} {L : List Stk} {u : World} (hL : L = tellT c us ps ps.length) (T1 : Told N1 L v1 u y1) (T2 : Told N2 L v2 u y2) : Calls Try.prog 28 #[v1, v2] u fun e w' => ∃ r, e = .returned r ∧ r = .bool true ∧ Below u.heap.size u w' := by
  have hb := tell_bins h
  have hl := tell_len c us ps ps.length
  have hn := h.lens
  rw [← hL] at hb hl
  have := sameStacks_any _ _ L L v1 v2 u T1.list T2.list since_lt since_lt (by omega) (by omega) (fun s hs => by have := hb s hs; omega) (fun s hs => by have := hb s hs; omega)
  rw [decide_eq_true rfl] at this
  exact this
theorem load_zero (n : Nat) (r : Int) : loadP (List.replicate n 0) r = 0 := by
  unfold loadP
  split
  · rw [List.getD_eq_getElem?_getD, List.getElem?_replicate]
    split <;> rfl
  · rfl
theorem placed_room {c : Conf} {G : GS} (hN : newP c = some G) {x : Cell} (hz : placed c.stacks x ≠ []) : ((placed c.stacks x).length : Int) ≤ roomP c G.uses x := by
  obtain ⟨hm, _⟩ := new_some hN
  have hst := hm.2.2.2.2.2.2.2.2.2.1
  have hnd := hm.2.2.2.2.2.2.2.2.2.2.1
  obtain ⟨z, hzm⟩ := List.exists_mem_of_ne_nil _ hz
  unfold placed at hzm
  obtain ⟨s, hs, _⟩ := List.mem_flatMap.1 hzm
  obtain ⟨hs1, hs2⟩ := List.mem_filter.1 hs
  have e : s.1 = x := of_decide_eq_true hs2
  obtain ⟨q1, q2⟩ := hst s hs1
  have hone : placed c.stacks x = s.2 := by
    obtain ⟨i, hi, ei⟩ := List.getElem_of_mem hs1
    have h1 : placed (c.stacks.take (i + 1)) x = s.2 := by
      rw [placed_next _ _ hi, ei, if_pos e, ← e, ← ei, placed_none hi hnd, List.nil_append, ei]
    have h2 : ∀ k, i + 1 ≤ k → k ≤ c.stacks.length → placed (c.stacks.take k) x = s.2 := fun k hk1 hk2 => by
      induction k with
      | zero => omega
      | succ k ih =>
        by_cases q : i + 1 = k + 1
        · rw [← q]; exact h1
        · rw [placed_next _ _ (by omega), ih (by omega) (by omega), if_neg, List.append_nil]
          intro e2
          refine List.pairwise_iff_getElem.1 hnd i k (by rw [List.length_map]; exact hi) (by rw [List.length_map]; omega) (by omega) ?_
          rw [List.getElem_map, List.getElem_map, ei, e, e2]
    have := h2 c.stacks.length (by omega) (Nat.le_refl _)
    rwa [List.take_length] at this
  rw [hone]
  unfold roomP
  have hsk : stackedU c.W c.H G.uses x = true := by rw [stacked_same hN, ← e]; exact decide_eq_true q1
  rw [hsk, if_pos rfl]
  exact q2
theorem room_of {K : Sk} {c : Conf} {G : GS} (hN : newP c = some G) {ps : List Pile} {ls : List Int} {w : World} (h : StAt K c G.uses ps ls w) (hat : ∀ (i : Nat) (p : Pile), ps[i]? = some p → p.2.2 = placed c.stacks p.1) {r : Int} {x : Cell} {k : Nat} {P : Pile} (ok : OkL c G.uses ps ls r x k P) : (P.2.2.length : Int) ≤ roomP c G.uses x := by
  obtain ⟨k', p', h1, h2, h3⟩ := open_num h ok.2.1
  have e : k' = k := by have := ok.2.2.2.1; rw [h1] at this; omega
  subst e
  rw [ok.2.2.2.2.1] at h2
  cases h2
  have e2 := hat k' P ok.2.2.2.2.1
  rw [h3] at e2
  rw [e2]
  exact placed_room hN (by rw [← e2]; exact ok.2.2.2.2.2)
theorem lift_or {K : Sk} {c : Conf} {us : List Int} {ps : List Pile} {ls : List Int} {w : World} (h : StAt K c us ps ls w) (r x y : Int) : Calls Try.prog 13 #[.pointer (some ⟨K.s, 0, none⟩), .int .i64 r, .agg #[.int .i64 x, .int .i64 y]] w fun e w' => (∃ code, e = .returned (.tuple #[.int .i64 0, .int .i64 code]) ∧ code ≠ 0 ∧ Below w.heap.size w w') ∨
    (∃ k P v', OkL c us ps ls r (x, y) k P ∧ e = .returned (.tuple #[.int .i64 (topP P.2.2), .int .i64 0]) ∧ StAt K c us (ps.set k (P.1, v', P.2.2.dropLast)) (ls.set r.toNat (topP P.2.2)) w' ∧ Turn K ps (ps.set k (P.1, v', P.2.2.dropLast)) w w') := by
  by_cases hok : ∃ k P, OkL c us ps ls r (x, y) k P
  · obtain ⟨k, P, ok⟩ := hok
    exact (lift_ok h r x y ok.1 ok.2.1 ok.2.2.1 ok.2.2.2.1 ok.2.2.2.2.1 ok.2.2.2.2.2).mono fun e w' ⟨v', h1, h2, h3⟩ => Or.inr ⟨k, P, v', ok, h1, h2, h3⟩
  · exact (lift_no h r x y hok).mono fun e w' q => Or.inl q
theorem lift_again {K : Sk} {c : Conf} {us : List Int} {ps ps' : List Pile} {ls : List Int} {w : World} {r : Int} {x : Cell} {k : Nat} {P : Pile} (ok : OkL c us ps ls r x k P) (hz : topP P.2.2 ≠ 0) (h : StAt K c us ps' (ls.set r.toNat (topP P.2.2)) w) (tx ty : Int) : Calls Try.prog 13 #[.pointer (some ⟨K.s, 0, none⟩), .int .i64 r, .agg #[.int .i64 tx, .int .i64 ty]] w fun e w' => ∃ code, e = .returned (.tuple #[.int .i64 0, .int .i64 code]) ∧ code ≠ 0 ∧ Below w.heap.size w w' :=
  lift_no h r tx ty fun ⟨k', p', q⟩ => by
    have := q.2.2.1
    rw [(load_there ok.1).2.2] at this
    exact hz this
theorem drop_back {K : Sk} {c : Conf} {us : List Int} {ps : List Pile} {ls : List Int} {w : World} {r x y : Int} {k : Nat} {P : Pile} {v' : Value} (ok : OkL c us ps ls r (x, y) k P) (hz : topP P.2.2 ≠ 0) (hr : (P.2.2.length : Int) ≤ roomP c us (x, y)) (h : StAt K c us (ps.set k (P.1, v', P.2.2.dropLast)) (ls.set r.toNat (topP P.2.2)) w) :
    Calls Try.prog 15 #[.pointer (some ⟨K.s, 0, none⟩), .int .i64 r, .agg #[.int .i64 x, .int .i64 y]] w fun e w' => ∃ ps2 ls2, e = .returned (.int .i64 0) ∧ StAt K c us ps2 ls2 w' ∧ Turn K (ps.set k (P.1, v', P.2.2.dropLast)) ps2 w w' ∧ ps2.map (fun p => (p.1, p.2.2)) = ps.map (fun p => (p.1, p.2.2)) ∧ loadP ls2 r = 0 := by
  obtain ⟨g1, _, g3⟩ := load_there ok.1
  have hkl := (List.getElem?_eq_some_iff.1 ok.2.2.2.2.1).1
  have hl : loadP (ls.set r.toNat (topP P.2.2)) r = topP P.2.2 := g3 _
  have ht : thereB (ls.set r.toNat (topP P.2.2)) r = true := by have := ok.1; unfold thereB at this ⊢; rw [List.length_set]; exact this
  have hpos := List.length_pos_iff.2 ok.2.2.2.2.2
  have hp : (ps.set k (P.1, v', P.2.2.dropLast))[k]? = some (P.1, v', P.2.2.dropLast) := by rw [List.getElem?_set, if_pos rfl, if_pos hkl]
  refine (drop_ok h r x y ht ok.2.1 (by rw [hl]; exact hz) ok.2.2.2.1 hp (by simp only [List.length_dropLast]; omega)).mono fun e w' ⟨v2, h1, h2, h3⟩ => ⟨_, _, h1, h2, h3, ?_, (load_there ht).2.2 0⟩
  rw [hl]
  simp only [top_last ok.2.2.2.2.2]
  rw [List.set_set, List.map_set]
  refine List.ext_getElem? fun i => ?_
  rw [List.getElem?_set]
  by_cases e2 : k = i
  · subst e2
    rw [if_pos rfl, List.length_map, if_pos hkl, List.getElem?_map, ok.2.2.2.2.1]
    rfl
  · rw [if_neg e2]
end Go.Proofs.Ytabbdclpjghdbaa.Stk
namespace Go.Proofs.Ytabbdclpjghdbaa.Stk
set_option linter.unusedVariables false
set_option linter.unusedSimpArgs false
open Go Go.RowKit Go.Shelf Go.Proofs Go.Proofs.Ytabbdclpjghdbaa.Grid
attribute [local go_sem] Oper.semAt_some

theorem two_turn {w : World} {cs ds : Array Value} {td : TypeId} {W W' : World} (h : Two w cs ds td W) {K : Sk} {ps ps' : List Pile} (T : Turn K ps ps' W W') (hf : ∀ b, Foot K ps b → w.heap.size + 2 ≤ b) : Two w cs ds td W' :=
  ⟨h.below.trans (T.below h.below.size (fun b q => by have := hf b q; omega)), (T.keep _ (lt_of_heap h.a) (fun q => by have := hf _ q; omega)).trans h.a, (T.keep _ (lt_of_heap h.b) (fun q => by have := hf _ q; omega)).trans h.b⟩
theorem room_eq {c : Conf} {G : GS} (hN : newP c = some G) (x : Cell) : roomP c G.uses x = if portP c.ports x 0 < 0 then (if stackedR c x then c.height else 0) else 1 := by
  unfold roomP
  rw [stacked_same hN]
  by_cases hs : stackedR c x
  · rw [if_pos (decide_eq_true hs), if_pos ((portP_neg _ _ _).2 hs.2.1), if_pos hs]
  · rw [if_neg (by rw [decide_eq_true_eq]; exact hs), if_neg hs]
theorem tell_open {c : Conf} {us : List Int} {ps : List Pile} {k : Nat} {s : Stk} (h : s ∈ tellT c us ps k) : openU c.W c.H us s.1 = true := by
  unfold tellT at h
  obtain ⟨p, hp, rfl⟩ := List.mem_map.1 h
  exact (List.mem_filter.1 hp).2
/- While bins are brought to a cell. -/
structure Fu (w7 : World) (K : Sk) (c : Conf) (us : List Int) (ps0 : List Pile) (nR kA : Nat) (RM : Int) (ps : List Pile) (wq : World) : Prop where
  st : StAt K c us ps (List.replicate nR 0) wq
  tn : Turn K ps0 ps w7 wq
  nz : ∀ z ∈ allB ps (List.replicate nR 0), z ≠ 0
  le : ∀ p, ps[kA]? = some p → (p.2.2.length : Int) ≤ RM
theorem Fu.go {w7 : World} {K : Sk} {c : Conf} {us : List Int} {ps0 : List Pile} {nR kA : Nat} {RM : Int} {ps : List Pile} {wq u : World} (h : Fu w7 K c us ps0 nR kA RM ps wq) (hb : Below wq.heap.size wq u) : Fu w7 K c us ps0 nR kA RM ps u := ⟨h.st.go hb, h.tn.trans (Turn.of_below hb), h.nz, h.le⟩
def hgtW (K : Sk) (k : Nat) (w : World) : Nat := match w.cell? ⟨K.pb, k * 3 + 2, none⟩ with
  | some (.slice _ n _) => n
  | _ => 0
theorem hgt_is {K : Sk} {c : Conf} {us : List Int} {ps : List Pile} {ls : List Int} {w : World} (h : StAt K c us ps ls w) {k : Nat} {p : Pile} (hp : ps[k]? = some p) : hgtW K k w = p.2.2.length := by
  obtain ⟨a, cap, e, _⟩ := h.form hp
  unfold hgtW
  rw [h.pv hp, e]
theorem rep_back (n : Nat) (z : Int) : ((List.replicate n (0 : Int)).set (0 : Int).toNat z).set (0 : Int).toNat 0 = List.replicate n 0 := by
  rw [List.set_set]
  refine List.ext_getElem? fun i => ?_
  rw [List.getElem?_set, List.length_replicate, List.getElem?_replicate]
  by_cases e : (0 : Int).toNat = i
  · subst e
    by_cases q : (0 : Int).toNat < n <;> simp [q]
  · rw [if_neg e]
end Go.Proofs.Ytabbdclpjghdbaa.Stk
namespace Go.Proofs.Ytabbdclpjghdbaa.Stk
set_option linter.unusedVariables false
set_option linter.unusedSimpArgs false
open Go Go.RowKit Go.Shelf Go.Proofs Go.Proofs.Ytabbdclpjghdbaa.Grid
attribute [local go_sem] Oper.semAt_some

set_option maxRecDepth 100000 in
set_option maxHeartbeats 4000000 in
theorem at_no {K : Sk} {c : Conf} {us : List Int} {ps : List Pile} {ls : List Int} {w : World} (h : StAt K c us ps ls w) (x y : Int) (ho : openU c.W c.H us (x, y) = false) : Calls Try.prog 22 #[.pointer (some ⟨K.s, 0, none⟩), .agg #[.int .i64 x, .int .i64 y]] w fun e w' => e = .returned (.slice none 0 0) ∧ Below w.heap.size w w' := by
  obtain ⟨w0, hw0⟩ : ∃ w0, w0 = w.alloc (.cells #[.int .i64 x, .int .i64 y] 39) := ⟨_, rfl⟩
  have B : Below w.heap.size w w0 := by rw [hw0]; exact below_new (Below.refl _ _) _
  have eB : w0.heap[w.heap.size]? = some (.cells #[.int .i64 x, .int .i64 y] 39 (0, 0)) := by rw [hw0]; exact heap_alloc_new w _
  have S0 := h.go B
  have cO := fun u (b : Below w0.heap.size w0 u) => ret_of (open_any K.g K.u c.W c.H us K.vp x y u (S0.grid.go b))
  rw [ho] at cO
  have Sc0 := S0.c0
  clear h S0
  go_enter Try.func22, Try.ntmps22
  go_wp2
  rw [← hw0]
  obtain ⟨IH, hIH⟩ : ∃ I : World → Prop, I = Below w0.heap.size w0 := ⟨_, rfl⟩
  have kI : ∀ u, IH u → Below w0.heap.size w0 u := fun u hu => by rw [hIH] at hu; exact hu
  have hS : IH w0.drew := by rw [hIH]; exact (Below.refl _ _).drew
  have D0 : Below w0.heap.size w0 w0.drew := (Below.refl _ _).drew
  have HX : Hid (∀ u, IH u → ∀ j z, #[Value.int .i64 x, .int .i64 y][j]? = some z → u.cell? ((⟨w.heap.size, 0, none⟩ : Addr).add j) = some z) := fun u hu => row_below eB (kI u hu)
  have z0 : ∀ u, IH u → u.cell? ⟨K.s, 0, none⟩ = some (.pointer (some ⟨K.g, 0, none⟩)) := fun u hu => cell_below Sc0 (kI u hu)
  clear hw0
  refine start_held (S := IH) 7 rfl (by kernel_rfl) (hS) ?_
  simp only [Array.replicate_succ, Array.replicate_zero, List.push_toArray, List.nil_append, List.cons_append]
  refine take_held 0 (by assumption) rfl (by kernel_rfl) (by kernel_rfl) (by kernel_rfl) (fun _ _ _ h => h) (by kernel_rfl) (v := ?v0) ?y0 ?r0
  case y0 => (intro u hu; go_simp; try rfl)
  simp only [Act.put, List.setIfInBounds_toArray, List.set_cons_zero, List.set_cons_succ]
  refine take_held 1 (by assumption) rfl (by kernel_rfl) (by kernel_rfl) (by kernel_rfl) (fun _ _ _ h => h) (by kernel_rfl) (v := ?v1) ?y1 ?r1
  case y1 => (intro u hu; go_simp; try rfl)
  simp only [Act.put, List.setIfInBounds_toArray, List.set_cons_zero, List.set_cons_succ]
  refine take_held 2 (by assumption) rfl (by kernel_rfl) (by kernel_rfl) (by kernel_rfl) (fun _ _ _ h => h) (by kernel_rfl) (v := ?v2) ?y2 ?r2
  case y2 => (intro u hu; go_simp; try rfl)
  simp only [Act.put, List.setIfInBounds_toArray, List.set_cons_zero, List.set_cons_succ]
  refine take_held 3 (by assumption) rfl (by kernel_rfl) (by kernel_rfl) (by kernel_rfl) (fun _ _ _ h => h) (by kernel_rfl) (v := ?v3) ?y3 ?r3
  case y3 => (intro u hu; have zz0 := z0 u hu; go_simp; try rfl)
  simp only [Act.put, List.setIfInBounds_toArray, List.set_cons_zero, List.set_cons_succ]
  refine take_held 4 (by assumption) rfl (by kernel_rfl) (by kernel_rfl) (by kernel_rfl) (fun _ _ _ h => h) (by kernel_rfl) (v := .agg #[.int .i64 x, .int .i64 y]) ?y4 ?r4
  case y4 => (intro u hu; exact run_load_op 39 _ rfl ⟨w.heap.size, 0, none⟩ _ rfl (HX.out u hu) (aggCell u) infoCell2)
  simp only [Act.put, List.setIfInBounds_toArray, List.set_cons_zero, List.set_cons_succ]
  refine wpAnyH_ready (rs := [5]) (by kernel_rfl) (by simp) (AllReadyH.cons ((nth_eq _ 5).trans rfl) ?_ AllReadyH.nil)
  intro K' hK
  refine call_in hK (by kernel_rfl) 43 #[.pointer (some ⟨K.g, 0, none⟩), .agg #[.int .i64 x, .int .i64 y]] (by go_simp) _ (cO _ D0) ?_
  rintro v w5 ⟨rfl, b5⟩
  have D5 := bcat D0 b5 (Nat.le_refl _)
  have hS5 : IH w5 := by rw [hIH]; exact D5
  refine ⟨hS5, ?_⟩
  simp only [Act.put, List.setIfInBounds_toArray, List.set_cons_zero, List.set_cons_succ]
  refine take_held 6 (by assumption) rfl (by kernel_rfl) (by kernel_rfl) (by kernel_rfl) (fun _ _ _ h => h) (by kernel_rfl) (v := ?v5) ?y5 ?r5
  case y5 => (intro u hu; go_simp; try rfl)
  simp only [Act.put, List.setIfInBounds_toArray, List.set_cons_zero, List.set_cons_succ]
  refine done_held (by kernel_rfl) ?_ _
  go_wp2
  go_ret
  exact ⟨rfl, bcat B D5 (Nat.le_refl _)⟩
set_option maxRecDepth 100000 in
set_option maxHeartbeats 4000000 in
theorem at_yes {K : Sk} {c : Conf} {us : List Int} {ps : List Pile} {ls : List Int} {w : World} (h : StAt K c us ps ls w) (x y : Int) (ho : openU c.W c.H us (x, y) = true) {k : Nat} {p : Pile} (hk : number c.W c.H (x, y) = (k : Nat)) (hp : ps[k]? = some p) : Calls Try.prog 22 #[.pointer (some ⟨K.s, 0, none⟩), .agg #[.int .i64 x, .int .i64 y]] w fun e w' => ∃ v, e = .returned v ∧ w'.ownsRow w.heap.size 3 1 v p.2.2.length (rowL intL p.2.2) ∧ Below w.heap.size w w' := by
  obtain ⟨w0, hw0⟩ : ∃ w0, w0 = w.alloc (.cells #[.int .i64 x, .int .i64 y] 39) := ⟨_, rfl⟩
  have B : Below w.heap.size w w0 := by rw [hw0]; exact below_new (Below.refl _ _) _
  have eB : w0.heap[w.heap.size]? = some (.cells #[.int .i64 x, .int .i64 y] 39 (0, 0)) := by rw [hw0]; exact heap_alloc_new w _
  have S0 := h.go B
  have cO := fun u (b : Below w0.heap.size w0 u) => ret_of (open_any K.g K.u c.W c.H us K.vp x y u (S0.grid.go b))
  rw [ho] at cO
  have hlt := (List.getElem?_eq_some_iff.1 hp).1
  have cP := fun u (b : Below w0.heap.size w0 u) => pile_any (S0.go b) x y hk hlt
  have zv := fun u (b : Below w0.heap.size w0 u) => (S0.go b).pv hp
  have hsm := h.small _ _ hp
  have L1 := list_of_own kindInt.len (S0.own _ _ hp)
  obtain ⟨a, cap, ev, _⟩ := h.form hp
  rw [ev] at zv L1
  have HL : Hid (ListAt 1 intEl (Since K.b1 w0) p.2.2 (.slice a p.2.2.length cap) w0) := L1
  clear ev L1
  obtain ⟨n, hn⟩ : ∃ n, p.2.2.length = n := ⟨_, rfl⟩
  have Hn : Hid (p.2.2.length = n) := hn
  rw [hn] at zv HL hsm
  rw [hn]
  clear hp hn
  have Sc0 := S0.c0
  clear h S0
  go_enter Try.func22, Try.ntmps22
  go_wp2
  rw [← hw0]
  obtain ⟨IH, hIH⟩ : ∃ I : World → Prop, I = Below w0.heap.size w0 := ⟨_, rfl⟩
  have kI : ∀ u, IH u → Below w0.heap.size w0 u := fun u hu => by rw [hIH] at hu; exact hu
  have hS : IH w0.drew := by rw [hIH]; exact (Below.refl _ _).drew
  have D0 : Below w0.heap.size w0 w0.drew := (Below.refl _ _).drew
  have HX : Hid (∀ u, IH u → ∀ j z, #[Value.int .i64 x, .int .i64 y][j]? = some z → u.cell? ((⟨w.heap.size, 0, none⟩ : Addr).add j) = some z) := fun u hu => row_below eB (kI u hu)
  have z0 : ∀ u, IH u → u.cell? ⟨K.s, 0, none⟩ = some (.pointer (some ⟨K.g, 0, none⟩)) := fun u hu => cell_below Sc0 (kI u hu)
  clear hw0
  refine start_held (S := IH) 7 rfl (by kernel_rfl) (hS) ?_
  simp only [Array.replicate_succ, Array.replicate_zero, List.push_toArray, List.nil_append, List.cons_append]
  refine take_held 0 (by assumption) rfl (by kernel_rfl) (by kernel_rfl) (by kernel_rfl) (fun _ _ _ h => h) (by kernel_rfl) (v := ?v6) ?y6 ?r6
  case y6 => (intro u hu; go_simp; try rfl)
  simp only [Act.put, List.setIfInBounds_toArray, List.set_cons_zero, List.set_cons_succ]
  refine take_held 1 (by assumption) rfl (by kernel_rfl) (by kernel_rfl) (by kernel_rfl) (fun _ _ _ h => h) (by kernel_rfl) (v := ?v7) ?y7 ?r7
  case y7 => (intro u hu; go_simp; try rfl)
  simp only [Act.put, List.setIfInBounds_toArray, List.set_cons_zero, List.set_cons_succ]
  refine take_held 2 (by assumption) rfl (by kernel_rfl) (by kernel_rfl) (by kernel_rfl) (fun _ _ _ h => h) (by kernel_rfl) (v := ?v8) ?y8 ?r8
  case y8 => (intro u hu; go_simp; try rfl)
  simp only [Act.put, List.setIfInBounds_toArray, List.set_cons_zero, List.set_cons_succ]
  refine take_held 3 (by assumption) rfl (by kernel_rfl) (by kernel_rfl) (by kernel_rfl) (fun _ _ _ h => h) (by kernel_rfl) (v := ?v9) ?y9 ?r9
  case y9 => (intro u hu; have zz0 := z0 u hu; go_simp; try rfl)
  simp only [Act.put, List.setIfInBounds_toArray, List.set_cons_zero, List.set_cons_succ]
  refine take_held 4 (by assumption) rfl (by kernel_rfl) (by kernel_rfl) (by kernel_rfl) (fun _ _ _ h => h) (by kernel_rfl) (v := .agg #[.int .i64 x, .int .i64 y]) ?y10 ?r10
  case y10 => (intro u hu; exact run_load_op 39 _ rfl ⟨w.heap.size, 0, none⟩ _ rfl (HX.out u hu) (aggCell u) infoCell2)
  simp only [Act.put, List.setIfInBounds_toArray, List.set_cons_zero, List.set_cons_succ]
  refine wpAnyH_ready (rs := [5]) (by kernel_rfl) (by simp) (AllReadyH.cons ((nth_eq _ 5).trans rfl) ?_ AllReadyH.nil)
  intro K' hK
  refine call_in hK (by kernel_rfl) 43 #[.pointer (some ⟨K.g, 0, none⟩), .agg #[.int .i64 x, .int .i64 y]] (by go_simp) _ (cO _ D0) ?_
  rintro v w5 ⟨rfl, b5⟩
  have D5 := bcat D0 b5 (Nat.le_refl _)
  have hS5 : IH w5 := by rw [hIH]; exact D5
  refine ⟨hS5, ?_⟩
  simp only [Act.put, List.setIfInBounds_toArray, List.set_cons_zero, List.set_cons_succ]
  refine take_held 6 (by assumption) rfl (by kernel_rfl) (by kernel_rfl) (by kernel_rfl) (fun _ _ _ h => h) (by kernel_rfl) (v := ?v11) ?y11 ?r11
  case y11 => (intro u hu; go_simp; try rfl)
  simp only [Act.put, List.setIfInBounds_toArray, List.set_cons_zero, List.set_cons_succ]
  refine done_held (by kernel_rfl) ?_ _
  have e5 := (D5.block _ (lt_of_heap eB)).trans eB
  go_wp2_with (first
    | (refine wpList_load_row rfl 39 (.tmp 3) rfl w.heap.size rfl 39 #[.int .i64 x, .int .i64 y] (0, 0) _ e5 Try.underlying39 rfl infoCell2 ?_)
    | (go_at_call 31; refine (cP _ D5).mono ?_; rintro e w6 ⟨r6, rfl, rfl, b6⟩; have D6 := bcat D5 b6 (Nat.le_refl _); have yv := zv _ D6)
    | (go_at_call 47; refine (clone_ints _ p.2.2 _ _ (HL.out.go heldInt since_lt D6) (fun q hq => Nat.lt_of_lt_of_le (since_lt q hq) D6.size) (by rw [Hn.out]; omega)).mono ?_; rintro e w7 ⟨v7, rfl, own7, b7⟩))
  go_ret
  have B6 := bcat B D6 (Nat.le_refl _)
  exact ⟨_, rfl, by rw [Hn.out] at own7; exact owns_less own7 B6.size, bcat B6 b7 (Nat.le_refl _)⟩
/- A bin that stands once is found where it stands. -/
theorem found_one {ps : List Pile} {ls : List Int} (hd : (allB ps ls).Nodup) {bin : Int} {x : Cell} {up : Int} (h : Found ps bin x up) {i j : Nat} {p : Pile} (hp : ps[i]? = some p) (hj : p.2.2[j]? = some bin) : x = p.1 ∧ up = (p.2.2.length : Int) - 1 - (j : Nat) := by
  obtain ⟨i', j', p', hp', rfl, hj', rfl, _, _⟩ := h
  have hf : (ps.flatMap (fun p => p.2.2)).Nodup := by unfold allB at hd; exact (List.nodup_append.1 hd).1
  obtain ⟨h1, h2⟩ := List.getElem?_eq_some_iff.1 hp
  obtain ⟨h1', h2'⟩ := List.getElem?_eq_some_iff.1 hp'
  have hf := List.pairwise_flatMap.1 hf
  by_cases e : i' = i
  · subst e
    rw [hp] at hp'
    cases hp'
    have hnd := hf.1 p (List.mem_of_getElem? hp)
    obtain ⟨a1, a2⟩ := List.getElem?_eq_some_iff.1 hj
    obtain ⟨b1, b2⟩ := List.getElem?_eq_some_iff.1 hj'
    have : j' = j := by
      rcases Nat.lt_trichotomy j' j with q | q | q
      · exact absurd (b2.trans a2.symm) (List.pairwise_iff_getElem.1 hnd j' j b1 a1 q)
      · exact q
      · exact absurd (a2.trans b2.symm) (List.pairwise_iff_getElem.1 hnd j j' a1 b1 q)
    subst this
    exact ⟨rfl, rfl⟩
  · exfalso
    have hpw := List.pairwise_iff_getElem.1 hf.2
    rcases Nat.lt_or_gt_of_ne e with q | q
    · have := hpw i' i h1' h1 q
      rw [h2, h2'] at this
      exact this _ (List.mem_of_getElem? hj') _ (List.mem_of_getElem? hj) rfl
    · have := hpw i i' h1 h1' q
      rw [h2, h2'] at this
      exact this _ (List.mem_of_getElem? hj) _ (List.mem_of_getElem? hj') rfl
/- A stack that was handed in: its cell is a stack's, its bins are all that were placed there, and they are no more than may stand there. -/
theorem placed_one {c : Conf} {G : GS} (hN : newP c = some G) {s : Stk} (hs : s ∈ c.stacks) : placed c.stacks s.1 = s.2 ∧ stackedR c s.1 ∧ (s.2.length : Int) ≤ c.height := by
  obtain ⟨hm, _⟩ := new_some hN
  have hst := hm.2.2.2.2.2.2.2.2.2.1
  have hnd := hm.2.2.2.2.2.2.2.2.2.2.1
  obtain ⟨q1, q2⟩ := hst s hs
  refine ⟨?_, q1, q2⟩
  obtain ⟨i, hi, ei⟩ := List.getElem_of_mem hs
  have h1 : placed (c.stacks.take (i + 1)) s.1 = s.2 := by
    rw [placed_next _ _ hi, ei, if_pos rfl, ← ei, placed_none hi hnd, List.nil_append]
  have h2 : ∀ k, i + 1 ≤ k → k ≤ c.stacks.length → placed (c.stacks.take k) s.1 = s.2 := fun k hk1 hk2 => by
    induction k with
    | zero => omega
    | succ k ih =>
      by_cases q : i + 1 = k + 1
      · rw [← q]; exact h1
      · rw [placed_next _ _ (by omega), ih (by omega) (by omega), if_neg, List.append_nil]
        intro e2
        refine List.pairwise_iff_getElem.1 hnd i k (by rw [List.length_map]; exact hi) (by rw [List.length_map]; omega) (by omega) ?_
        rw [List.getElem_map, List.getElem_map, ei, e2]
  have := h2 c.stacks.length (by omega) (Nat.le_refl _)
  rwa [List.take_length] at this
end Go.Proofs.Ytabbdclpjghdbaa.Stk
namespace Go.Proofs.Ytabbdclpjghdbaa.Stk
set_option linter.unusedVariables false
set_option linter.unusedSimpArgs false
open Go Go.RowKit Go.Shelf Go.Proofs Go.Proofs.Ytabbdclpjghdbaa.Grid
attribute [local go_sem] Oper.semAt_some

theorem take_back (Bs : List Int) {i : Nat} (hi : i < Bs.length) : (Bs.take (Bs.length - i)).dropLast = Bs.take (Bs.length - (i + 1)) ∧ topP (Bs.take (Bs.length - i)) = Bs.getD (Bs.length - 1 - i) 0 ∧ (Bs.drop (Bs.length - i)).reverse ++ [Bs.getD (Bs.length - 1 - i) 0] = (Bs.drop (Bs.length - (i + 1))).reverse ∧ Bs.take (Bs.length - i) ≠ [] := by
  obtain ⟨m, hm⟩ : ∃ m, Bs.length = m + 1 + i := ⟨Bs.length - 1 - i, by omega⟩
  have e1 : Bs.length - i = m + 1 := by omega
  have e2 : Bs.length - (i + 1) = m := by omega
  have e3 : Bs.length - 1 - i = m := by omega
  have hml : m < Bs.length := by omega
  have hg : Bs.getD m 0 = Bs[m]'hml := by rw [List.getD_eq_getElem?_getD, List.getElem?_eq_getElem hml]; rfl
  rw [e1, e2, e3, hg]
  refine ⟨?_, ?_, ?_, ?_⟩
  · rw [List.dropLast_eq_take, List.length_take, List.take_take]
    congr 1
    omega
  · unfold topP
    rw [List.length_take, List.getD_eq_getElem?_getD, List.getElem?_take, if_pos (by omega), show min (m + 1) Bs.length - 1 = m by omega, List.getElem?_eq_getElem hml]
    rfl
  · rw [List.drop_eq_getElem_cons hml, List.reverse_cons]
  · intro e
    have := congrArg List.length e
    rw [List.length_take, List.length_nil] at this
    omega
/- Behind i rounds. -/
structure Tu (w4 : World) (K : Sk) (c : Conf) (us : List Int) (ps0 : List Pile) (nR kA kT : Nat) (Bs : List Int) (i : Nat) (ps : List Pile) (wq : World) : Prop where
  st : StAt K c us ps (List.replicate nR 0) wq
  tn : Turn K ps0 ps w4 wq
  pm : (allB ps (List.replicate nR 0)).Perm (allB ps0 (List.replicate nR 0))
  a : ∃ p, ps[kA]? = some p ∧ p.2.2 = Bs.take (Bs.length - i)
  t : ∃ p, ps[kT]? = some p ∧ p.2.2 = (Bs.drop (Bs.length - i)).reverse
theorem Tu.go {w4 : World} {K : Sk} {c : Conf} {us : List Int} {ps0 : List Pile} {nR kA kT : Nat} {Bs : List Int} {i : Nat} {ps : List Pile} {wq u : World} (h : Tu w4 K c us ps0 nR kA kT Bs i ps wq) (hb : Below wq.heap.size wq u) : Tu w4 K c us ps0 nR kA kT Bs i ps u := ⟨h.st.go hb, h.tn.trans (Turn.of_below hb), h.pm, h.a, h.t⟩
/- What Drop does between the lift and the next round. -/
structure TuMid (w4 : World) (K : Sk) (c : Conf) (us : List Int) (ps0 : List Pile) (nR kA kT : Nat) (Bs : List Int) (i : Nat) (xt yt : Int) (wq : World) : Prop where
  tn : ∃ ps, Turn K ps0 ps w4 wq
  drop : ∀ u, Below wq.heap.size wq u → Calls Try.prog 15 #[.pointer (some ⟨K.s, 0, none⟩), .int .i64 0, .agg #[.int .i64 xt, .int .i64 yt]] u fun e w' => ∃ v, e = .returned v ∧ v = .int .i64 0 ∧ ∃ ps', Tu w4 K c us ps0 nR kA kT Bs (i + 1) ps' w'
theorem turn_lift {w4 : World} {K : Sk} {c : Conf} {us : List Int} {ps0 : List Pile} {nR kA kT : Nat} {Bs : List Int} {i : Nat} {ps : List Pile} {wq : World} (h : Tu w4 K c us ps0 nR kA kT Bs i ps wq) (hi : i < Bs.length) (nz : ∀ z ∈ allB ps0 (List.replicate nR 0), z ≠ 0) (ne : kA ≠ kT) (h0 : 0 < nR)
    {xa ya xt yt : Int} (oA : openU c.W c.H us (xa, ya) = true) (nA : number c.W c.H (xa, ya) = (kA : Nat)) (oT : openU c.W c.H us (xt, yt) = true) (nT : number c.W c.H (xt, yt) = (kT : Nat)) (hr : (Bs.length : Int) ≤ roomP c us (xt, yt)) :
    Calls Try.prog 13 #[.pointer (some ⟨K.s, 0, none⟩), .int .i64 0, .agg #[.int .i64 xa, .int .i64 ya]] wq fun e w' => ∃ v, e = .returned v ∧ v = .tuple #[.int .i64 (Bs.getD (Bs.length - 1 - i) 0), .int .i64 0] ∧ TuMid w4 K c us ps0 nR kA kT Bs i xt yt w' := by
  obtain ⟨PA, hpA, eA⟩ := h.a
  obtain ⟨PT, hpT, eT⟩ := h.t
  obtain ⟨t1, t2, t3, t4⟩ := take_back Bs hi
  have hth : thereB (List.replicate nR 0) 0 = true := by unfold thereB; rw [List.length_replicate]; simp; omega
  have okl : OkL c us ps (List.replicate nR 0) 0 (xa, ya) kA PA := ⟨hth, oA, load_zero _ _, nA, hpA, by rw [eA]; exact t4⟩
  have hzt : topP PA.2.2 ≠ 0 := nz _ (h.pm.mem_iff.1 (mem_bins hpA (top_mem okl.2.2.2.2.2)))
  refine (lift_ok h.st 0 xa ya okl.1 okl.2.1 okl.2.2.1 okl.2.2.2.1 okl.2.2.2.2.1 okl.2.2.2.2.2).mono ?_
  rintro e w1 ⟨v1, rfl, S1, T1⟩
  have hth1 : thereB ((List.replicate nR 0).set (0 : Int).toNat (topP PA.2.2)) 0 = true := by unfold thereB at hth ⊢; rw [List.length_set]; exact hth
  have hl1 : loadP ((List.replicate nR 0).set (0 : Int).toNat (topP PA.2.2)) 0 = topP PA.2.2 := (load_there hth).2.2 _
  have hpT1 : (ps.set kA (PA.1, v1, PA.2.2.dropLast))[kT]? = some PT := by rw [List.getElem?_set, if_neg ne]; exact hpT
  have hAl : kA < ps.length := (List.getElem?_eq_some_iff.1 hpA).1
  have hTl : kT < ps.length := (List.getElem?_eq_some_iff.1 hpT).1
  refine ⟨_, rfl, by rw [eA, t2], ⟨⟨_, h.tn.trans T1⟩, fun u hb => ?_⟩⟩
  have okd : OkD c us (ps.set kA (PA.1, v1, PA.2.2.dropLast)) ((List.replicate nR 0).set (0 : Int).toNat (topP PA.2.2)) 0 (xt, yt) kT PT := ⟨hth1, oT, by rw [hl1]; exact hzt, nT, hpT1, by
    rw [eT, List.length_reverse, List.length_drop]
    omega⟩
  refine (drop_ok (S1.go hb) 0 xt yt okd.1 okd.2.1 okd.2.2.1 okd.2.2.2.1 okd.2.2.2.2.1 okd.2.2.2.2.2).mono ?_
  rintro e w2 ⟨v2, rfl, S2, T2⟩
  have pm2 := drop_perm okd v2
  rw [hl1] at S2 T2 pm2
  rw [rep_back] at S2 pm2
  refine ⟨_, rfl, rfl, _, S2, ((h.tn.trans T1).trans (Turn.of_below hb)).trans T2, (pm2.trans (lift_perm okl hzt v1)).trans h.pm, ?_, ?_⟩
  · refine ⟨(PA.1, v1, PA.2.2.dropLast), ?_, ?_⟩
    · rw [List.getElem?_set, if_neg (fun e => ne e.symm), List.getElem?_set, if_pos rfl, if_pos hAl]
    · show PA.2.2.dropLast = _
      rw [eA, t1]
  · refine ⟨(PT.1, v2, PT.2.2 ++ [topP PA.2.2]), ?_, ?_⟩
    · rw [List.getElem?_set, if_pos rfl, if_pos (by rw [List.length_set]; exact hTl)]
    · show PT.2.2 ++ [topP PA.2.2] = _
      rw [eT, eA, t2, t3]
/- An operation that is wanted and only reads, by what it yields. -/
theorem wpList_val_want {ops : Array Oper} {rest : List Oper} {o : Oper} {a : Act} {w : World} {Q : Exit → Act → World → Prop} (hw : Region.wanted o (yielded ops a.tmps) = true) (v : Value) (hr : (execOp a.eval o).run Try.prog w = .ok (.value v) w)
    (h : wpList Try.prog ops Q rest (a.put o.dst v) w) : wpList Try.prog ops Q (o :: rest) a w :=
  BigFrame.wpList_want hw fun _ hK => by
    unfold Oper.wp
    simp only [hr]
    exact hK _ _ h
theorem find_here {K : Sk} {c : Conf} {us : List Int} {ps : List Pile} {ls : List Int} {w : World} (h : StAt K c us ps ls w) (hd : (allB ps ls).Nodup) {k j : Nat} {p : Pile} {bin : Int} (hp : ps[k]? = some p) (hj : p.2.2[j]? = some bin) : Calls Try.prog 25 #[.pointer (some ⟨K.s, 0, none⟩), .int .i64 bin] w fun e w' => ∃ v, e = .returned v ∧ v = .tuple #[.agg #[.int .i64 p.1.1, .int .i64 p.1.2], .int .i64 ((p.2.2.length : Int) - 1 - (j : Nat)), .bool true] ∧ Below w.heap.size w w' :=
  (find_any h bin).mono fun e w' ⟨b, q⟩ => by
    rcases q with ⟨x, up, rfl, hF⟩ | ⟨_, hN⟩
    · obtain ⟨rfl, rfl⟩ := found_one hd hF hp hj
      exact ⟨_, rfl, rfl, b⟩
    · exact absurd (List.mem_of_getElem? hj) (hN _ _ hp)
end Go.Proofs.Ytabbdclpjghdbaa.Stk
