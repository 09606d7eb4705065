/-
  Stacks in memory: which blocks are theirs; what turns when a bin is lifted or dropped.
  Stacks: whether there is such a robot, its load, a cell's pile, how high it is, its highest bin, how much room there is.
  Lift: each refusal, and what a lift turns.
  Drop: each refusal, and what a drop turns.
-/
import Derived.Test.YtabbdclpjghdbaaRgI
import Derived.Test.YtabbdclpjghdbaaRgN
namespace Go.Proofs.Ytabbdclpjghdbaa.Stk
set_option linter.unusedVariables false
set_option linter.unusedSimpArgs false
open Go Go.RowKit Go.Shelf Go.Proofs Go.Proofs.Ytabbdclpjghdbaa.Grid

/- A pile: its cell, its list in memory, its bins. -/
abbrev Pile := Cell × Value × List Int
def pileL (x : Pile) : List Value := [.int .i64 x.1.1, .int .i64 x.1.2, x.2.1]
theorem pileL_len (x : Pile) : (pileL x).length = 3 := rfl
theorem row_set : ∀ (ps : List Pile) (i : Nat) (p : Pile) (v : Value) (bs : List Int), ps[i]? = some p → rowL pileL (ps.set i (p.1, v, bs)) = (rowL pileL ps).set (i * 3 + 2) v
  | [], i, p, v, bs, h => by simp at h
  | q :: l, 0, p, v, bs, h => by
    simp at h
    subst h
    rfl
  | q :: l, i + 1, p, v, bs, h => by
    have := row_set l i p v bs (by simpa using h)
    rw [List.set_cons_succ, show rowL pileL (q :: l.set i (p.1, v, bs)) = pileL q ++ rowL pileL (l.set i (p.1, v, bs)) from rfl, this, show rowL pileL (q :: l) = pileL q ++ rowL pileL l from rfl]
    rw [List.set_append_right _ _ (by rw [pileL_len]; omega), pileL_len, show (i + 1) * 3 + 2 - 3 = i * 3 + 2 by omega]
theorem row_at {ps : List Pile} {i : Nat} {p : Pile} (h : ps[i]? = some p) (j : Nat) (u : Value) (hj : (pileL p)[j]? = some u) : (rowL pileL ps)[i * 3 + j]? = some u := by
  obtain ⟨hi, e⟩ := List.getElem?_eq_some_iff.1 h
  exact rowL_at pileL_len ps i hi j u (by rw [e]; exact hj)
/- Where all lies: the struct, the grid, the piles, the loads; blocks below b0 are the grid's, from b1 on the bins'. -/
structure Sk where
  s : Nat
  g : Nat
  u : Nat
  pb : Nat
  lb : Nat
  b0 : Nat
  b1 : Nat
  vp : Value
structure StAt (K : Sk) (c : Conf) (us : List Int) (ps : List Pile) (ls : List Int) (w : World) : Prop where
  hd : w.heap[K.s]? = some (.cells #[.pointer (some ⟨K.g, 0, none⟩), .int .i64 c.height, .slice (some ⟨K.pb, 0, none⟩) ps.length ps.length, .slice (some ⟨K.lb, 0, none⟩) ls.length ls.length] 65 (0, 0))
  grid : GridAt w K.g K.u c.W c.H us K.vp
  ports : ListAt 2 cellEl (fun b => b < K.b0) c.ports K.vp w
  pil : w.heap[K.pb]? = some (.cells (rowL pileL ps).toArray 59 (0, 0))
  lds : w.heap[K.lb]? = some (.cells (ls.map (Value.int .i64)).toArray 3 (0, 0))
  at_ : ∀ (i : Nat) (p : Pile), ps[i]? = some p → p.1 = cellAt c.W i
  len : (ps.length : Int) = c.W * c.H
  own : ∀ (i : Nat) (p : Pile), ps[i]? = some p → w.ownsRow K.b1 3 1 p.2.1 p.2.2.length (rowL intL p.2.2)
  small : ∀ (i : Nat) (p : Pile), ps[i]? = some p → p.2.2.length ≤ 8
  sep : ∀ (i j : Nat) (p q : Pile), ps[i]? = some p → ps[j]? = some q → i ≠ j → ∀ b, p.2.1.ownBlock = some b → q.2.1.ownBlock ≠ some b
  few : ls.length ≤ 8
  pfew : c.ports.length ≤ 8
  g0 : K.g < K.b0
  u0 : K.u < K.b0
  s0 : K.b0 ≤ K.s
  s1 : K.s < K.b1
  p0 : K.b0 ≤ K.pb
  p1 : K.pb < K.b1
  l0 : K.b0 ≤ K.lb
  l1 : K.lb < K.b1
  sp : K.s ≠ K.pb
  sl : K.s ≠ K.lb
  pl : K.pb ≠ K.lb
  hi : c.height ≤ 8
  big : K.b1 ≤ w.heap.size
def Foot (K : Sk) (ps : List Pile) (b : Nat) : Prop := b = K.pb ∨ b = K.lb ∨ ∃ (i : Nat) (p : Pile), ps[i]? = some p ∧ p.2.1.ownBlock = some b
/- What a call turns: the piles, the loads, the bins' own rows, nothing else. -/
structure Turn (K : Sk) (ps ps' : List Pile) (w w' : World) : Prop where
  os : w'.os = w.os
  tape : w'.tape = w.tape
  output : w'.output = w.output
  size : w.heap.size ≤ w'.heap.size
  keep : ∀ b, b < w.heap.size → ¬ Foot K ps b → w'.heap[b]? = w.heap[b]?
  foot : ∀ b, Foot K ps' b → Foot K ps b ∨ w.heap.size ≤ b
theorem Turn.of_below {K : Sk} {ps : List Pile} {w w' : World} (h : Below w.heap.size w w') : Turn K ps ps w w' := ⟨h.os, h.tape, h.output, h.size, fun b hb _ => h.block b hb, fun b hb => Or.inl hb⟩
theorem Turn.refl (K : Sk) (ps : List Pile) (w : World) : Turn K ps ps w w := Turn.of_below (Below.refl _ _)
theorem Turn.trans {K : Sk} {ps ps1 ps2 : List Pile} {w w1 w2 : World} (h : Turn K ps ps1 w w1) (k : Turn K ps1 ps2 w1 w2) : Turn K ps ps2 w w2 :=
  ⟨k.os.trans h.os, k.tape.trans h.tape, k.output.trans h.output, Nat.le_trans h.size k.size,
    fun b hb hn => (k.keep b (Nat.lt_of_lt_of_le hb h.size) (fun q => (h.foot b q).elim hn (by omega))).trans (h.keep b hb hn),
    fun b hb => (k.foot b hb).elim (fun q => h.foot b q) (fun q => Or.inr (Nat.le_trans h.size q))⟩
theorem Turn.below {K : Sk} {ps ps' : List Pile} {w w' : World} (h : Turn K ps ps' w w') {B : Nat} (hB : B ≤ w.heap.size) (hf : ∀ b, Foot K ps b → B ≤ b) : Below B w w' :=
  ⟨h.os, h.tape, h.output, h.size, fun b hb => h.keep b (by omega) (fun q => by have := hf b q; omega)⟩
section
variable {K : Sk} {c : Conf} {us : List Int} {ps : List Pile} {ls : List Int} {w : World}
theorem StAt.foot_ge (h : StAt K c us ps ls w) : ∀ b, Foot K ps b → K.b0 ≤ b := by
  rintro b (rfl | rfl | ⟨i, p, hp, hb⟩)
  · exact h.p0
  · exact h.l0
  · have := ((h.own i p hp).lt b hb).1
    have := h.p0
    have := h.p1
    omega
theorem StAt.b0_lt (h : StAt K c us ps ls w) : K.b0 ≤ w.heap.size := by have := lt_of_heap h.hd; have := h.s0; omega
theorem StAt.go (h : StAt K c us ps ls w) {w' : World} (hb : Below w.heap.size w w') : StAt K c us ps ls w' :=
  { h with
    hd := (hb.block _ (lt_of_heap h.hd)).trans h.hd
    grid := h.grid.go hb
    ports := h.ports.go heldCell (fun g hg => by have := h.b0_lt; omega) hb
    pil := (hb.block _ (lt_of_heap h.pil)).trans h.pil
    lds := (hb.block _ (lt_of_heap h.lds)).trans h.lds
    own := fun i p hp => owns_go (h.own i p hp) hb
    big := Nat.le_trans h.big hb.size }
theorem StAt.put (h : StAt K c us ps ls w) {i : Nat} {p : Pile} (hp : ps[i]? = some p) {w1 : World} (gr : w.grownBy w1 p.2.1.ownBlock) {v' : Value} {bs' : List Int} (ho : w1.ownsRow K.b1 3 1 v' bs'.length (rowL intL bs'))
    (hat : v'.ownBlock = p.2.1.ownBlock ∨ v'.ownBlock = some w.heap.size) (hl : bs'.length ≤ 8) :
    StAt K c us (ps.set i (p.1, v', bs')) ls (w1.setCell ⟨K.pb, i * 3 + 2, none⟩ v') ∧ Turn K ps (ps.set i (p.1, v', bs')) w (w1.setCell ⟨K.pb, i * 3 + 2, none⟩ v') := by
  have hlt := (h.own i p hp).lt
  have hi := (List.getElem?_eq_some_iff.1 hp).1
  have hs := lt_of_heap h.hd
  have hpb := lt_of_heap h.pil
  have e0 : ∀ b, b < w.heap.size → b ≠ K.pb → p.2.1.ownBlock ≠ some b → (w1.setCell ⟨K.pb, i * 3 + 2, none⟩ v').heap[b]? = w.heap[b]? := fun b hb h1 h2 => (heap_setCell_other _ _ _ _ h1).trans (gr.block b hb (fun e => h2 e.symm))
  have nlow : ∀ b, b < K.b1 → p.2.1.ownBlock ≠ some b := fun b hb e => by have := (hlt b e).1; omega
  have hs1 := h.s1
  have hp1 := h.p1
  have hl1 := h.l1
  have hs0 := h.s0
  have hp0 := h.p0
  have hl0 := h.l0
  have hg0 := h.g0
  have hu0 := h.u0
  have hsp := h.sp
  have hpl := h.pl
  have hb1 : K.b1 ≤ w1.heap.size ∨ True := Or.inr trivial
  have hget : ∀ (j : Nat) (q : Pile), (ps.set i (p.1, v', bs'))[j]? = some q → (j = i ∧ q = (p.1, v', bs')) ∨ (j ≠ i ∧ ps[j]? = some q) := fun j q hq => by
    rw [List.getElem?_set] at hq
    by_cases e : i = j
    · subst e
      rw [if_pos rfl, if_pos hi] at hq
      exact Or.inl ⟨rfl, (Option.some.inj hq).symm⟩
    · rw [if_neg e] at hq
      exact Or.inr ⟨fun e2 => e e2.symm, hq⟩
  have hown' : (w1.setCell ⟨K.pb, i * 3 + 2, none⟩ v').ownsRow K.b1 3 1 v' bs'.length (rowL intL bs') := owns_same ho fun k hk => heap_setCell_other _ _ _ _ (by have := (ho.lt k hk).1; simp; omega)
  refine ⟨{ h with
    hd := by rw [List.length_set]; exact (e0 _ hs (by omega) (nlow _ (by omega))).trans h.hd
    grid := h.grid.same (e0 _ h.grid.ltg (by omega) (nlow _ (by omega))) (e0 _ h.grid.ltu (by omega) (nlow _ (by omega)))
    ports := h.ports.stable heldCell fun b hb => e0 b (by omega) (by omega) (nlow _ (by omega))
    pil := ?_
    lds := (e0 _ (lt_of_heap h.lds) (by omega) (nlow _ (by omega))).trans h.lds
    at_ := fun j q hq => ?_
    len := by rw [List.length_set]; exact h.len
    own := fun j q hq => ?_
    small := fun j q hq => ?_
    big := by simp; exact Nat.le_trans h.big gr.size
    sep := fun j k q r hq hr hjk b hb hb2 => ?_ }, ?_⟩
  · rw [heap_setCell_same _ _ _ _ _ _ ((gr.block K.pb hpb (fun e => nlow _ hp1 e.symm)).trans h.pil), row_set ps i p v' bs' hp]
    simp
  · rcases hget j q hq with ⟨rfl, rfl⟩ | ⟨_, q1⟩
    · exact h.at_ j p hp
    · exact h.at_ j q q1
  · rcases hget j q hq with ⟨rfl, rfl⟩ | ⟨hne, q1⟩
    · exact hown'
    · refine owns_same (h.own j q q1) fun k hk => e0 k ((h.own j q q1).lt k hk).2 (by have := ((h.own j q q1).lt k hk).1; omega) (fun e => h.sep i j p q hp q1 (fun e2 => hne e2.symm) k e hk)
  · rcases hget j q hq with ⟨rfl, rfl⟩ | ⟨_, q1⟩
    · exact hl
    · exact h.small j q q1
  · rcases hget j q hq with ⟨rfl, rfl⟩ | ⟨h1, q1⟩
    · rcases hget k r hr with ⟨rfl, rfl⟩ | ⟨h2, r1⟩
      · exact hjk rfl
      · rcases hat with e | e
        · exact h.sep j k p r hp r1 hjk b (by rw [← e]; exact hb) hb2
        · have hb' : v'.ownBlock = some b := hb
          rw [e] at hb'
          have hlt2 := ((h.own k r r1).lt b hb2).2
          have := Option.some.inj hb'
          omega
    · rcases hget k r hr with ⟨rfl, rfl⟩ | ⟨h2, r1⟩
      · have hb2' : v'.ownBlock = some b := hb2
        rcases hat with e | e
        · exact h.sep j k q p q1 hp hjk b hb (by rw [← e]; exact hb2')
        · rw [e] at hb2'
          have hlt2 := ((h.own j q q1).lt b hb).2
          have := Option.some.inj hb2'
          omega
      · exact h.sep j k q r q1 r1 hjk b hb hb2
  · refine ⟨gr.os, gr.tape, gr.output, by simp; exact gr.size, fun b hb hn => e0 b hb (fun e => hn (Or.inl e)) (fun e => hn (Or.inr (Or.inr ⟨i, p, hp, e⟩))), fun b hb => ?_⟩
    rcases hb with rfl | rfl | ⟨j, q, hq, e⟩
    · exact Or.inl (Or.inl rfl)
    · exact Or.inl (Or.inr (Or.inl rfl))
    · rcases hget j q hq with ⟨rfl, rfl⟩ | ⟨_, q1⟩
      · rcases hat with e1 | e1
        · exact Or.inl (Or.inr (Or.inr ⟨j, p, hp, by rw [← e1]; exact e⟩))
        · have e' : v'.ownBlock = some b := e
          rw [e1] at e'
          have := Option.some.inj e'
          exact Or.inr (by omega)
      · exact Or.inl (Or.inr (Or.inr ⟨j, q, q1, e⟩))
theorem StAt.load (h : StAt K c us ps ls w) (r : Nat) (x : Int) : StAt K c us ps (ls.set r x) (w.setCell ⟨K.lb, r, none⟩ (.int .i64 x)) ∧ Turn K ps ps w (w.setCell ⟨K.lb, r, none⟩ (.int .i64 x)) := by
  have e0 : ∀ b, b ≠ K.lb → (w.setCell ⟨K.lb, r, none⟩ (.int .i64 x)).heap[b]? = w.heap[b]? := fun b h1 => heap_setCell_other _ _ _ _ h1
  have hs0 := h.s0
  have hl0 := h.l0
  have hl1 := h.l1
  have hg0 := h.g0
  have hu0 := h.u0
  refine ⟨{ h with
    hd := by rw [List.length_set]; exact (e0 _ h.sl).trans h.hd
    grid := h.grid.same (e0 _ (by omega)) (e0 _ (by omega))
    ports := h.ports.stable heldCell fun b hb => e0 b (by omega)
    pil := (e0 _ h.pl).trans h.pil
    lds := ?_
    own := fun i p hp => owns_same (h.own i p hp) fun k hk => e0 k (by have := ((h.own i p hp).lt k hk).1; omega)
    big := by simp; exact h.big
    few := by rw [List.length_set]; exact h.few }, ⟨rfl, rfl, rfl, by simp, fun b hb hn => e0 b (fun e => hn (Or.inr (Or.inl e))), fun b hb => Or.inl hb⟩⟩
  rw [heap_setCell_same _ _ _ _ _ _ h.lds, List.map_set]
  simp
theorem StAt.c0 (h : StAt K c us ps ls w) : w.cell? ⟨K.s, 0, none⟩ = some (.pointer (some ⟨K.g, 0, none⟩)) := by rw [cell_of h.hd]; rfl
theorem StAt.c1 (h : StAt K c us ps ls w) : w.cell? ⟨K.s, 1, none⟩ = some (.int .i64 c.height) := by rw [cell_of h.hd]; rfl
theorem StAt.c2 (h : StAt K c us ps ls w) : w.cell? ⟨K.s, 2, none⟩ = some (.slice (some ⟨K.pb, 0, none⟩) ps.length ps.length) := by rw [cell_of h.hd]; rfl
theorem StAt.c3 (h : StAt K c us ps ls w) : w.cell? ⟨K.s, 3, none⟩ = some (.slice (some ⟨K.lb, 0, none⟩) ls.length ls.length) := by rw [cell_of h.hd]; rfl
theorem StAt.pc (h : StAt K c us ps ls w) {i : Nat} {p : Pile} (hp : ps[i]? = some p) (j : Nat) (u : Value) (hj : (pileL p)[j]? = some u) : w.cell? ⟨K.pb, i * 3 + j, none⟩ = some u := by
  rw [cell_of h.pil, List.getElem?_toArray]
  exact row_at hp j u hj
theorem StAt.pv (h : StAt K c us ps ls w) {i : Nat} {p : Pile} (hp : ps[i]? = some p) : w.cell? ⟨K.pb, i * 3 + 2, none⟩ = some p.2.1 := h.pc hp 2 _ rfl
theorem StAt.lc (h : StAt K c us ps ls w) {r : Nat} (hr : r < ls.length) : w.cell? ⟨K.lb, r, none⟩ = some (.int .i64 (ls.getD r 0)) := by
  rw [cell_of h.lds, List.getElem?_toArray, List.getElem?_map, List.getElem?_eq_getElem hr, List.getD_eq_getElem?_getD, List.getElem?_eq_getElem hr]
  rfl
theorem StAt.lens (h : StAt K c us ps ls w) : ps.length ≤ 256 := by
  have h1 := h.len
  have h2 := h.grid.len
  have h3 := h.grid.le
  omega
theorem StAt.num (h : StAt K c us ps ls w) {x : Cell} (hx : In c.W c.H x) : ∃ k p, number c.W c.H x = (k : Nat) ∧ k = (x.2 * c.W + x.1).toNat ∧ k < ps.length ∧ ps[k]? = some p ∧ p.1 = x := by
  have h1 := num_lt hx
  have h2 := h.len
  have hk : (x.2 * c.W + x.1).toNat < ps.length := by omega
  refine ⟨(x.2 * c.W + x.1).toNat, ps[(x.2 * c.W + x.1).toNat]'hk, ?_, rfl, hk, List.getElem?_eq_getElem hk, ?_⟩
  · unfold number
    rw [if_pos hx]
    omega
  · rw [h.at_ _ _ (List.getElem?_eq_getElem hk)]
    obtain ⟨q1, q2, q3, q4⟩ := hx
    unfold cellAt
    rw [show (((x.2 * c.W + x.1).toNat : Nat) : Int) = x.2 * c.W + x.1 by omega]
    refine Prod.ext ?_ ?_
    · simp only
      rw [Int.add_comm, Int.add_mul_emod_self_right, Int.emod_eq_of_lt q1 q2]
    · simp only
      rw [Int.add_comm, Int.add_mul_ediv_right _ _ (by omega), Int.ediv_eq_zero_of_lt q1 q2]
      omega
/- The bins of a pile, cell by cell. -/
theorem StAt.form (h : StAt K c us ps ls w) {i : Nat} {p : Pile} (hp : ps[i]? = some p) : ∃ a cap, p.2.1 = .slice a p.2.2.length cap ∧ p.2.2.length ≤ cap ∧ cap ≤ maxLen ∧ (∀ j, j < p.2.2.length → ∃ gb, a = some ⟨gb, 0, none⟩ ∧ w.cell? ⟨gb, j, none⟩ = some (.int .i64 (p.2.2.getD j 0))) := by
  have ho := h.own i p hp
  obtain ⟨a, cap, e, _, h1, h2⟩ := own_form ho
  refine ⟨a, cap, e, h1, h2, fun j hj => ?_⟩
  rw [e] at ho
  obtain ⟨gb, q1, q2⟩ := own_ints ho (by omega) rfl
  exact ⟨gb, q1, q2 j hj⟩
end
end Go.Proofs.Ytabbdclpjghdbaa.Stk
namespace Go.Proofs.Ytabbdclpjghdbaa.Stk
set_option linter.unusedVariables false
set_option linter.unusedSimpArgs false
open Go Go.RowKit Go.Shelf Go.Proofs Go.Proofs.Ytabbdclpjghdbaa.Grid
attribute [local go_sem] Oper.semAt_some

def thereB (ls : List Int) (r : Int) : Bool := decide (0 ≤ r) && decide (r < ls.length)
set_option maxRecDepth 100000 in
set_option maxHeartbeats 4000000 in
theorem there_any {K : Sk} {c : Conf} {us : List Int} {ps : List Pile} {ls : List Int} {w : World} (h : StAt K c us ps ls w) (r : Int) : Calls Try.prog 42 #[.pointer (some ⟨K.s, 0, none⟩), .int .i64 r] w fun e w' => ∃ v, e = .returned v ∧ v = .bool (thereB ls r) ∧ Below w.heap.size w w' := by
  have z3 := h.c3
  have hm := h.few
  unfold thereB
  generalize ls.length = M at *
  clear h
  by_cases h1 : 0 ≤ r
  · have h1' : ¬ r < 0 := by omega
    go_enter Try.func42, Try.ntmps42
    go_wp2
    go_ret
    exact ⟨_, rfl, congrArg Value.bool (by simp [h1]), Below.refl _ _⟩
  · go_enter Try.func42, Try.ntmps42
    go_wp2
    go_ret
    exact ⟨_, rfl, congrArg Value.bool (by rw [decide_eq_false (by omega : ¬ 0 ≤ r)]; rfl), Below.refl _ _⟩
def loadP (ls : List Int) (r : Int) : Int := if thereB ls r then ls.getD r.toNat 0 else 0
set_option maxRecDepth 100000 in
set_option maxHeartbeats 4000000 in
theorem load_any {K : Sk} {c : Conf} {us : List Int} {ps : List Pile} {ls : List Int} {w : World} (h : StAt K c us ps ls w) (r : Int) : Calls Try.prog 40 #[.pointer (some ⟨K.s, 0, none⟩), .int .i64 r] w fun e w' => ∃ v, e = .returned v ∧ v = .int .i64 (loadP ls r) ∧ Below w.heap.size w w' := by
  have cT := fun u (b : Below w.heap.size w u) => there_any (h.go b) r
  have z3 := fun u (b : Below w.heap.size w u) => (h.go b).c3
  have zl := fun u (b : Below w.heap.size w u) k (hk : k < ls.length) => (h.go b).lc hk
  have hm := h.few
  unfold loadP
  cases ht : thereB ls r
  · rw [ht] at cT
    clear h zl ht
    go_enter Try.func40, Try.ntmps40
    go_wp2_with (go_at_call 42; refine (cT _ (Below.refl _ _)).mono ?_; rintro e w1 ⟨r1, rfl, rfl, b1⟩)
    go_ret
    exact ⟨_, rfl, rfl, b1⟩
  · rw [ht] at cT
    have ht2 := ht
    unfold thereB at ht2
    simp only [Bool.and_eq_true, decide_eq_true_eq] at ht2
    obtain ⟨k, rfl⟩ : ∃ k : Nat, r = k := ⟨r.toNat, by omega⟩
    have hk : k < ls.length := by omega
    have zk := fun u (b : Below w.heap.size w u) => zl u b k hk
    simp only [Int.toNat_natCast, if_true]
    generalize ls.getD k 0 = x at *
    generalize ls.length = M at *
    clear h zl ht ht2
    go_enter Try.func40, Try.ntmps40
    go_wp2_with (go_at_call 42; refine (cT _ (Below.refl _ _)).mono ?_; rintro e w1 ⟨r1, rfl, rfl, b1⟩; have y3 := z3 w1 b1; have y4 := zk w1 b1)
    go_ret
    exact ⟨_, rfl, rfl, b1⟩
set_option maxRecDepth 100000 in
set_option maxHeartbeats 4000000 in
theorem pile_any {K : Sk} {c : Conf} {us : List Int} {ps : List Pile} {ls : List Int} {w : World} (h : StAt K c us ps ls w) (x y : Int) {k : Nat} (hk : number c.W c.H (x, y) = (k : Nat)) (hlt : k < ps.length) : Calls Try.prog 31 #[.pointer (some ⟨K.s, 0, none⟩), .agg #[.int .i64 x, .int .i64 y]] w fun e w' => ∃ v, e = .returned v ∧ v = .pointer (some ⟨K.pb, k * 3, none⟩) ∧ Below w.heap.size w w' := by
  obtain ⟨w0, hw0⟩ : ∃ w0, w0 = w.alloc (.cells #[.int .i64 x, .int .i64 y] 39) := ⟨_, rfl⟩
  have B : Below w.heap.size w w0 := by rw [hw0]; exact below_new (Below.refl _ _) _
  have eB : w0.heap[w.heap.size]? = some (.cells #[.int .i64 x, .int .i64 y] 39 (0, 0)) := by rw [hw0]; exact heap_alloc_new w _
  have S0 := h.go B
  have cN := fun u (b : Below w0.heap.size w0 u) => ret_of (number_any K.g K.u c.W c.H us K.vp x y u (S0.grid.go b))
  rw [hk] at cN
  have hN := h.lens
  have Sc0 := S0.c0
  have Sc2 := S0.c2
  generalize ps.length = N at *
  clear h S0
  go_enter Try.func31, Try.ntmps31
  go_wp2
  rw [← hw0]
  obtain ⟨IH, hIH⟩ : ∃ I : World → Prop, I = Below w0.heap.size w0 := ⟨_, rfl⟩
  have kI : ∀ u, IH u → Below w0.heap.size w0 u := fun u hu => by rw [hIH] at hu; exact hu
  have hS : IH w0.drew := by rw [hIH]; exact (Below.refl _ _).drew
  have D0 : Below w0.heap.size w0 w0.drew := (Below.refl _ _).drew
  have HX : Hid (∀ u, IH u → ∀ j z, #[Value.int .i64 x, .int .i64 y][j]? = some z → u.cell? ((⟨w.heap.size, 0, none⟩ : Addr).add j) = some z) := fun u hu => row_below eB (kI u hu)
  have z0 : ∀ u, IH u → u.cell? ⟨K.s, 0, none⟩ = some (.pointer (some ⟨K.g, 0, none⟩)) := fun u hu => cell_below Sc0 (kI u hu)
  have z2 : ∀ u, IH u → u.cell? ⟨K.s, 2, none⟩ = some (.slice (some ⟨K.pb, 0, none⟩) N N) := fun u hu => cell_below Sc2 (kI u hu)
  clear eB hw0
  refine start_held (S := IH) 12 rfl (by kernel_rfl) (hS) ?_
  simp only [Array.replicate_succ, Array.replicate_zero, List.push_toArray, List.nil_append, List.cons_append]
  refine take_held 0 (by assumption) rfl (by kernel_rfl) (by kernel_rfl) (by kernel_rfl) (fun _ _ _ h => h) (by kernel_rfl) (v := ?v0) ?y0 ?r0
  case y0 => (intro u hu; go_simp; try rfl)
  simp only [Act.put, List.setIfInBounds_toArray, List.set_cons_zero, List.set_cons_succ]
  refine take_held 1 (by assumption) rfl (by kernel_rfl) (by kernel_rfl) (by kernel_rfl) (fun _ _ _ h => h) (by kernel_rfl) (v := ?v1) ?y1 ?r1
  case y1 => (intro u hu; go_simp; try rfl)
  simp only [Act.put, List.setIfInBounds_toArray, List.set_cons_zero, List.set_cons_succ]
  refine take_held 2 (by assumption) rfl (by kernel_rfl) (by kernel_rfl) (by kernel_rfl) (fun _ _ _ h => h) (by kernel_rfl) (v := ?v2) ?y2 ?r2
  case y2 => (intro u hu; go_simp; try rfl)
  simp only [Act.put, List.setIfInBounds_toArray, List.set_cons_zero, List.set_cons_succ]
  refine take_held 3 (by assumption) rfl (by kernel_rfl) (by kernel_rfl) (by kernel_rfl) (fun _ _ _ h => h) (by kernel_rfl) (v := ?v3) ?y3 ?r3
  case y3 => (intro u hu; have zz0 := z2 u hu; go_simp; try rfl)
  simp only [Act.put, List.setIfInBounds_toArray, List.set_cons_zero, List.set_cons_succ]
  refine take_held 4 (by assumption) rfl (by kernel_rfl) (by kernel_rfl) (by kernel_rfl) (fun _ _ _ h => h) (by kernel_rfl) (v := ?v4) ?y4 ?r4
  case y4 => (intro u hu; go_simp; try rfl)
  simp only [Act.put, List.setIfInBounds_toArray, List.set_cons_zero, List.set_cons_succ]
  refine take_held 5 (by assumption) rfl (by kernel_rfl) (by kernel_rfl) (by kernel_rfl) (fun _ _ _ h => h) (by kernel_rfl) (v := ?v5) ?y5 ?r5
  case y5 => (intro u hu; go_simp; try rfl)
  simp only [Act.put, List.setIfInBounds_toArray, List.set_cons_zero, List.set_cons_succ]
  refine take_held 6 (by assumption) rfl (by kernel_rfl) (by kernel_rfl) (by kernel_rfl) (fun _ _ _ h => h) (by kernel_rfl) (v := ?v6) ?y6 ?r6
  case y6 => (intro u hu; go_simp; try rfl)
  simp only [Act.put, List.setIfInBounds_toArray, List.set_cons_zero, List.set_cons_succ]
  refine take_held 7 (by assumption) rfl (by kernel_rfl) (by kernel_rfl) (by kernel_rfl) (fun _ _ _ h => h) (by kernel_rfl) (v := ?v7) ?y7 ?r7
  case y7 => (intro u hu; have zz0 := z0 u hu; go_simp; try rfl)
  simp only [Act.put, List.setIfInBounds_toArray, List.set_cons_zero, List.set_cons_succ]
  refine take_held 8 (by assumption) rfl (by kernel_rfl) (by kernel_rfl) (by kernel_rfl) (fun _ _ _ h => h) (by kernel_rfl) (v := .agg #[.int .i64 x, .int .i64 y]) ?y8 ?r8
  case y8 => (intro u hu; exact run_load_op 39 _ rfl ⟨w.heap.size, 0, none⟩ _ rfl (HX.out u hu) (aggCell u) infoCell2)
  simp only [Act.put, List.setIfInBounds_toArray, List.set_cons_zero, List.set_cons_succ]
  refine wpAnyH_ready (rs := [9]) (by kernel_rfl) (by simp) (AllReadyH.cons ((nth_eq _ 9).trans rfl) ?_ AllReadyH.nil)
  intro K' hK
  refine call_in hK (by kernel_rfl) 60 #[.pointer (some ⟨K.g, 0, none⟩), .agg #[.int .i64 x, .int .i64 y]] (by go_simp) _ (cN _ D0) ?_
  rintro v w5 ⟨rfl, b5⟩
  have D5 := bcat D0 b5 (Nat.le_refl _)
  have hS5 : IH w5 := by rw [hIH]; exact D5
  refine ⟨hS5, ?_⟩
  simp only [Act.put, List.setIfInBounds_toArray, List.set_cons_zero, List.set_cons_succ]
  refine take_held 10 (by assumption) rfl (by kernel_rfl) (by kernel_rfl) (by kernel_rfl) (fun _ _ _ h => h) (by kernel_rfl) (v := ?v9) ?y9 ?r9
  case y9 => (intro u hu; go_simp; try rfl)
  simp only [Act.put, List.setIfInBounds_toArray, List.set_cons_zero, List.set_cons_succ]
  refine take_held 11 (by assumption) rfl (by kernel_rfl) (by kernel_rfl) (by kernel_rfl) (fun _ _ _ h => h) (by kernel_rfl) (v := ?v10) ?y10 ?r10
  case y10 => (intro u hu; go_simp; try rfl)
  simp only [Act.put, List.setIfInBounds_toArray, List.set_cons_zero, List.set_cons_succ]
  refine done_held (by kernel_rfl) ?_ _
  go_wp2
  go_ret
  exact ⟨_, rfl, by simp [Addr.add_lit], bcat B D5 (Nat.le_refl _)⟩
set_option maxRecDepth 100000 in
set_option maxHeartbeats 4000000 in
theorem height_no {K : Sk} {c : Conf} {us : List Int} {ps : List Pile} {ls : List Int} {w : World} (h : StAt K c us ps ls w) (x y : Int) (ho : openU c.W c.H us (x, y) = false) : Calls Try.prog 17 #[.pointer (some ⟨K.s, 0, none⟩), .agg #[.int .i64 x, .int .i64 y]] w fun e w' => ∃ v, e = .returned v ∧ v = .int .i64 (-1) ∧ Below w.heap.size w w' := by
  obtain ⟨w0, hw0⟩ : ∃ w0, w0 = w.alloc (.cells #[.int .i64 x, .int .i64 y] 39) := ⟨_, rfl⟩
  have B : Below w.heap.size w w0 := by rw [hw0]; exact below_new (Below.refl _ _) _
  have eB : w0.heap[w.heap.size]? = some (.cells #[.int .i64 x, .int .i64 y] 39 (0, 0)) := by rw [hw0]; exact heap_alloc_new w _
  have S0 := h.go B
  have cO := fun u (b : Below w0.heap.size w0 u) => ret_of (open_any K.g K.u c.W c.H us K.vp x y u (S0.grid.go b))
  rw [ho] at cO
  have Sc0 := S0.c0
  clear h S0
  go_enter Try.func17, Try.ntmps17
  go_wp2
  rw [← hw0]
  obtain ⟨IH, hIH⟩ : ∃ I : World → Prop, I = Below w0.heap.size w0 := ⟨_, rfl⟩
  have kI : ∀ u, IH u → Below w0.heap.size w0 u := fun u hu => by rw [hIH] at hu; exact hu
  have hS : IH w0.drew := by rw [hIH]; exact (Below.refl _ _).drew
  have D0 : Below w0.heap.size w0 w0.drew := (Below.refl _ _).drew
  have HX : Hid (∀ u, IH u → ∀ j z, #[Value.int .i64 x, .int .i64 y][j]? = some z → u.cell? ((⟨w.heap.size, 0, none⟩ : Addr).add j) = some z) := fun u hu => row_below eB (kI u hu)
  have z0 : ∀ u, IH u → u.cell? ⟨K.s, 0, none⟩ = some (.pointer (some ⟨K.g, 0, none⟩)) := fun u hu => cell_below Sc0 (kI u hu)
  clear hw0
  refine start_held (S := IH) 7 rfl (by kernel_rfl) (hS) ?_
  simp only [Array.replicate_succ, Array.replicate_zero, List.push_toArray, List.nil_append, List.cons_append]
  refine take_held 0 (by assumption) rfl (by kernel_rfl) (by kernel_rfl) (by kernel_rfl) (fun _ _ _ h => h) (by kernel_rfl) (v := ?v11) ?y11 ?r11
  case y11 => (intro u hu; go_simp; try rfl)
  simp only [Act.put, List.setIfInBounds_toArray, List.set_cons_zero, List.set_cons_succ]
  refine take_held 1 (by assumption) rfl (by kernel_rfl) (by kernel_rfl) (by kernel_rfl) (fun _ _ _ h => h) (by kernel_rfl) (v := ?v12) ?y12 ?r12
  case y12 => (intro u hu; go_simp; try rfl)
  simp only [Act.put, List.setIfInBounds_toArray, List.set_cons_zero, List.set_cons_succ]
  refine take_held 2 (by assumption) rfl (by kernel_rfl) (by kernel_rfl) (by kernel_rfl) (fun _ _ _ h => h) (by kernel_rfl) (v := ?v13) ?y13 ?r13
  case y13 => (intro u hu; go_simp; try rfl)
  simp only [Act.put, List.setIfInBounds_toArray, List.set_cons_zero, List.set_cons_succ]
  refine take_held 3 (by assumption) rfl (by kernel_rfl) (by kernel_rfl) (by kernel_rfl) (fun _ _ _ h => h) (by kernel_rfl) (v := ?v14) ?y14 ?r14
  case y14 => (intro u hu; have zz0 := z0 u hu; go_simp; try rfl)
  simp only [Act.put, List.setIfInBounds_toArray, List.set_cons_zero, List.set_cons_succ]
  refine take_held 4 (by assumption) rfl (by kernel_rfl) (by kernel_rfl) (by kernel_rfl) (fun _ _ _ h => h) (by kernel_rfl) (v := .agg #[.int .i64 x, .int .i64 y]) ?y15 ?r15
  case y15 => (intro u hu; exact run_load_op 39 _ rfl ⟨w.heap.size, 0, none⟩ _ rfl (HX.out u hu) (aggCell u) infoCell2)
  simp only [Act.put, List.setIfInBounds_toArray, List.set_cons_zero, List.set_cons_succ]
  refine wpAnyH_ready (rs := [5]) (by kernel_rfl) (by simp) (AllReadyH.cons ((nth_eq _ 5).trans rfl) ?_ AllReadyH.nil)
  intro K' hK
  refine call_in hK (by kernel_rfl) 43 #[.pointer (some ⟨K.g, 0, none⟩), .agg #[.int .i64 x, .int .i64 y]] (by go_simp) _ (cO _ D0) ?_
  rintro v w5 ⟨rfl, b5⟩
  have D5 := bcat D0 b5 (Nat.le_refl _)
  have hS5 : IH w5 := by rw [hIH]; exact D5
  refine ⟨hS5, ?_⟩
  simp only [Act.put, List.setIfInBounds_toArray, List.set_cons_zero, List.set_cons_succ]
  refine take_held 6 (by assumption) rfl (by kernel_rfl) (by kernel_rfl) (by kernel_rfl) (fun _ _ _ h => h) (by kernel_rfl) (v := ?v16) ?y16 ?r16
  case y16 => (intro u hu; go_simp; try rfl)
  simp only [Act.put, List.setIfInBounds_toArray, List.set_cons_zero, List.set_cons_succ]
  refine done_held (by kernel_rfl) ?_ _
  go_wp2
  go_ret
  exact ⟨_, rfl, rfl, bcat B D5 (Nat.le_refl _)⟩
set_option maxRecDepth 100000 in
set_option maxHeartbeats 4000000 in
theorem height_yes {K : Sk} {c : Conf} {us : List Int} {ps : List Pile} {ls : List Int} {w : World} (h : StAt K c us ps ls w) (x y : Int) (ho : openU c.W c.H us (x, y) = true) {k : Nat} {p : Pile} (hk : number c.W c.H (x, y) = (k : Nat)) (hp : ps[k]? = some p) : Calls Try.prog 17 #[.pointer (some ⟨K.s, 0, none⟩), .agg #[.int .i64 x, .int .i64 y]] w fun e w' => ∃ v, e = .returned v ∧ v = .int .i64 (p.2.2.length : Nat) ∧ Below w.heap.size w w' := by
  obtain ⟨w0, hw0⟩ : ∃ w0, w0 = w.alloc (.cells #[.int .i64 x, .int .i64 y] 39) := ⟨_, rfl⟩
  have B : Below w.heap.size w w0 := by rw [hw0]; exact below_new (Below.refl _ _) _
  have eB : w0.heap[w.heap.size]? = some (.cells #[.int .i64 x, .int .i64 y] 39 (0, 0)) := by rw [hw0]; exact heap_alloc_new w _
  have S0 := h.go B
  have cO := fun u (b : Below w0.heap.size w0 u) => ret_of (open_any K.g K.u c.W c.H us K.vp x y u (S0.grid.go b))
  rw [ho] at cO
  have hlt := (List.getElem?_eq_some_iff.1 hp).1
  have cP := fun u (b : Below w0.heap.size w0 u) => pile_any (S0.go b) x y hk hlt
  have zv := fun u (b : Below w0.heap.size w0 u) => (S0.go b).pv hp
  obtain ⟨a, cap, ev, _⟩ := h.form hp
  rw [ev] at zv
  clear ev
  generalize p.2.2.length = n at *
  clear hp
  have Sc0 := S0.c0
  clear h S0
  go_enter Try.func17, Try.ntmps17
  go_wp2
  rw [← hw0]
  obtain ⟨IH, hIH⟩ : ∃ I : World → Prop, I = Below w0.heap.size w0 := ⟨_, rfl⟩
  have kI : ∀ u, IH u → Below w0.heap.size w0 u := fun u hu => by rw [hIH] at hu; exact hu
  have hS : IH w0.drew := by rw [hIH]; exact (Below.refl _ _).drew
  have D0 : Below w0.heap.size w0 w0.drew := (Below.refl _ _).drew
  have HX : Hid (∀ u, IH u → ∀ j z, #[Value.int .i64 x, .int .i64 y][j]? = some z → u.cell? ((⟨w.heap.size, 0, none⟩ : Addr).add j) = some z) := fun u hu => row_below eB (kI u hu)
  have z0 : ∀ u, IH u → u.cell? ⟨K.s, 0, none⟩ = some (.pointer (some ⟨K.g, 0, none⟩)) := fun u hu => cell_below Sc0 (kI u hu)
  clear hw0
  refine start_held (S := IH) 7 rfl (by kernel_rfl) (hS) ?_
  simp only [Array.replicate_succ, Array.replicate_zero, List.push_toArray, List.nil_append, List.cons_append]
  refine take_held 0 (by assumption) rfl (by kernel_rfl) (by kernel_rfl) (by kernel_rfl) (fun _ _ _ h => h) (by kernel_rfl) (v := ?v17) ?y17 ?r17
  case y17 => (intro u hu; go_simp; try rfl)
  simp only [Act.put, List.setIfInBounds_toArray, List.set_cons_zero, List.set_cons_succ]
  refine take_held 1 (by assumption) rfl (by kernel_rfl) (by kernel_rfl) (by kernel_rfl) (fun _ _ _ h => h) (by kernel_rfl) (v := ?v18) ?y18 ?r18
  case y18 => (intro u hu; go_simp; try rfl)
  simp only [Act.put, List.setIfInBounds_toArray, List.set_cons_zero, List.set_cons_succ]
  refine take_held 2 (by assumption) rfl (by kernel_rfl) (by kernel_rfl) (by kernel_rfl) (fun _ _ _ h => h) (by kernel_rfl) (v := ?v19) ?y19 ?r19
  case y19 => (intro u hu; go_simp; try rfl)
  simp only [Act.put, List.setIfInBounds_toArray, List.set_cons_zero, List.set_cons_succ]
  refine take_held 3 (by assumption) rfl (by kernel_rfl) (by kernel_rfl) (by kernel_rfl) (fun _ _ _ h => h) (by kernel_rfl) (v := ?v20) ?y20 ?r20
  case y20 => (intro u hu; have zz0 := z0 u hu; go_simp; try rfl)
  simp only [Act.put, List.setIfInBounds_toArray, List.set_cons_zero, List.set_cons_succ]
  refine take_held 4 (by assumption) rfl (by kernel_rfl) (by kernel_rfl) (by kernel_rfl) (fun _ _ _ h => h) (by kernel_rfl) (v := .agg #[.int .i64 x, .int .i64 y]) ?y21 ?r21
  case y21 => (intro u hu; exact run_load_op 39 _ rfl ⟨w.heap.size, 0, none⟩ _ rfl (HX.out u hu) (aggCell u) infoCell2)
  simp only [Act.put, List.setIfInBounds_toArray, List.set_cons_zero, List.set_cons_succ]
  refine wpAnyH_ready (rs := [5]) (by kernel_rfl) (by simp) (AllReadyH.cons ((nth_eq _ 5).trans rfl) ?_ AllReadyH.nil)
  intro K' hK
  refine call_in hK (by kernel_rfl) 43 #[.pointer (some ⟨K.g, 0, none⟩), .agg #[.int .i64 x, .int .i64 y]] (by go_simp) _ (cO _ D0) ?_
  rintro v w5 ⟨rfl, b5⟩
  have D5 := bcat D0 b5 (Nat.le_refl _)
  have hS5 : IH w5 := by rw [hIH]; exact D5
  refine ⟨hS5, ?_⟩
  simp only [Act.put, List.setIfInBounds_toArray, List.set_cons_zero, List.set_cons_succ]
  refine take_held 6 (by assumption) rfl (by kernel_rfl) (by kernel_rfl) (by kernel_rfl) (fun _ _ _ h => h) (by kernel_rfl) (v := ?v22) ?y22 ?r22
  case y22 => (intro u hu; go_simp; try rfl)
  simp only [Act.put, List.setIfInBounds_toArray, List.set_cons_zero, List.set_cons_succ]
  refine done_held (by kernel_rfl) ?_ _
  have e5 := (D5.block _ (lt_of_heap eB)).trans eB
  go_wp2_with (first
    | (refine wpList_load_row rfl 39 (.tmp 3) rfl w.heap.size rfl 39 #[.int .i64 x, .int .i64 y] (0, 0) _ e5 Try.underlying39 rfl infoCell2 ?_)
    | (go_at_call 31; refine (cP _ D5).mono ?_; rintro e w6 ⟨r6, rfl, rfl, b6⟩; have D6 := bcat D5 b6 (Nat.le_refl _); have yv := zv _ D6))
  go_ret
  exact ⟨_, rfl, rfl, bcat B D6 (Nat.le_refl _)⟩
def topP (bs : List Int) : Int := bs.getD (bs.length - 1) 0
set_option maxRecDepth 100000 in
set_option maxHeartbeats 4000000 in
theorem top_no {K : Sk} {c : Conf} {us : List Int} {ps : List Pile} {ls : List Int} {w : World} (h : StAt K c us ps ls w) (x y : Int) (ho : openU c.W c.H us (x, y) = false) : Calls Try.prog 19 #[.pointer (some ⟨K.s, 0, none⟩), .agg #[.int .i64 x, .int .i64 y]] w fun e w' => ∃ v, e = .returned v ∧ v = .int .i64 0 ∧ Below w.heap.size w w' := by
  have b0 : Below w.heap.size w (w.alloc (.cells #[.int .i64 x, .int .i64 y] 39)) := below_new (Below.refl _ _) _
  have eB := heap_alloc_new w (.cells #[.int .i64 x, .int .i64 y] 39)
  have cH := fun u (b : Below w.heap.size w u) => height_no (h.go b) x y ho
  clear h
  go_enter Try.func19, Try.ntmps19
  go_wp2_with (first
    | (refine wpList_load_row rfl 39 (.tmp 3) rfl w.heap.size rfl 39 #[.int .i64 x, .int .i64 y] (0, 0) _ eB Try.underlying39 rfl infoCell2 ?_)
    | (go_at_call 17; refine (cH _ b0).mono ?_; rintro e w1 ⟨r1, rfl, rfl, b1⟩))
  go_ret
  exact ⟨_, rfl, rfl, bcat b0 b1 (Nat.le_refl _)⟩
set_option maxRecDepth 100000 in
set_option maxHeartbeats 4000000 in
theorem top_yes {K : Sk} {c : Conf} {us : List Int} {ps : List Pile} {ls : List Int} {w : World} (h : StAt K c us ps ls w) (x y : Int) (ho : openU c.W c.H us (x, y) = true) {k : Nat} {p : Pile} (hk : number c.W c.H (x, y) = (k : Nat)) (hp : ps[k]? = some p) : Calls Try.prog 19 #[.pointer (some ⟨K.s, 0, none⟩), .agg #[.int .i64 x, .int .i64 y]] w fun e w' => ∃ v, e = .returned v ∧ v = .int .i64 (topP p.2.2) ∧ Below w.heap.size w w' := by
  have b0 : Below w.heap.size w (w.alloc (.cells #[.int .i64 x, .int .i64 y] 39)) := below_new (Below.refl _ _) _
  have eB := heap_alloc_new w (.cells #[.int .i64 x, .int .i64 y] 39)
  have hlt := (List.getElem?_eq_some_iff.1 hp).1
  have cH := fun u (b : Below w.heap.size w u) => height_yes (h.go b) x y ho hk hp
  have cP := fun u (b : Below w.heap.size w u) => pile_any (h.go b) x y hk hlt
  have zv := fun u (b : Below w.heap.size w u) => (h.go b).pv hp
  have hsm := h.small _ _ hp
  by_cases hz : p.2.2.length = 0
  · have HT : Hid (topP p.2.2 = 0) := by show topP p.2.2 = 0; rw [List.eq_nil_of_length_eq_zero hz]; rfl
    rw [hz] at cH
    rw [HT.out]
    clear h zv cP hsm
    go_enter Try.func19, Try.ntmps19
    go_wp2_with (first
      | (refine wpList_load_row rfl 39 (.tmp 3) rfl w.heap.size rfl 39 #[.int .i64 x, .int .i64 y] (0, 0) _ eB Try.underlying39 rfl infoCell2 ?_)
      | (go_at_call 17; refine (cH _ b0).mono ?_; rintro e w1 ⟨r1, rfl, rfl, b1⟩))
    go_ret
    exact ⟨_, rfl, rfl, bcat b0 b1 (Nat.le_refl _)⟩
  · obtain ⟨n, hn⟩ : ∃ n, p.2.2.length = n + 1 := ⟨p.2.2.length - 1, by omega⟩
    have hform := fun u (b : Below w.heap.size w u) => (h.go b).form hp
    obtain ⟨a, cap, ev, hcap, _, hc⟩ := h.form hp
    obtain ⟨gb, rfl, hcell⟩ := hc n (by omega)
    have zc := fun u (b : Below w.heap.size w u) => cell_below hcell b
    have HT : Hid (topP p.2.2 = p.2.2.getD n 0) := by show topP p.2.2 = _; unfold topP; rw [hn]; rfl
    rw [HT.out]
    rw [hn] at cH hsm ev hcap
    rw [ev] at zv
    generalize p.2.2.getD n 0 = tx at *
    clear h hform hc hcell ev hn hz hp
    go_enter Try.func19, Try.ntmps19
    go_wp2_with (first
      | (have X' := b1; refine wpList_load_row rfl 39 (.tmp 3) rfl w.heap.size rfl 39 #[.int .i64 x, .int .i64 y] (0, 0) _ e1 Try.underlying39 rfl infoCell2 ?_)
      | (refine wpList_load_row rfl 39 (.tmp 3) rfl w.heap.size rfl 39 #[.int .i64 x, .int .i64 y] (0, 0) _ eB Try.underlying39 rfl infoCell2 ?_)
      | (go_at_call 17; refine (cH _ b0).mono ?_; rintro e w1 ⟨r1, rfl, rfl, b1⟩; have e1 := (b1.block _ (lt_of_heap eB)).trans eB; have B1 := bcat b0 b1 (Nat.le_refl _))
      | (go_at_call 31; refine (cP _ B1).mono ?_; rintro e w6 ⟨r6, rfl, rfl, b6⟩; have D6 := bcat B1 b6 (Nat.le_refl _); have yv := zv _ D6; have yc := zc _ D6))
    go_ret
    exact ⟨_, rfl, rfl, D6⟩
def roomP (c : Conf) (us : List Int) (x : Cell) : Int := if stackedU c.W c.H us x then c.height else if portP c.ports x 0 < 0 then 0 else 1
set_option maxRecDepth 100000 in
set_option maxHeartbeats 4000000 in
theorem room_s {K : Sk} {c : Conf} {us : List Int} {ps : List Pile} {ls : List Int} {w : World} (h : StAt K c us ps ls w) (x y : Int) (hs : stackedU c.W c.H us (x, y) = true) : Calls Try.prog 45 #[.pointer (some ⟨K.s, 0, none⟩), .agg #[.int .i64 x, .int .i64 y]] w fun e w' => ∃ v, e = .returned v ∧ v = .int .i64 (roomP c us (x, y)) ∧ Below w.heap.size w w' := by
  obtain ⟨w0, hw0⟩ : ∃ w0, w0 = w.alloc (.cells #[.int .i64 x, .int .i64 y] 39) := ⟨_, rfl⟩
  have B : Below w.heap.size w w0 := by rw [hw0]; exact below_new (Below.refl _ _) _
  have eB : w0.heap[w.heap.size]? = some (.cells #[.int .i64 x, .int .i64 y] 39 (0, 0)) := by rw [hw0]; exact heap_alloc_new w _
  have S0 := h.go B
  have cS := fun u (b : Below w0.heap.size w0 u) => ret_of (stacked_any K.g K.u c.W c.H us K.vp x y u (S0.grid.go b))
  have cP := fun u (b : Below w0.heap.size w0 u) => port_any K.g K.u c.W c.H us K.vp (fun b => b < K.b0) c.ports x y u (S0.go b).grid (S0.go b).ports (fun q hq => by have := (S0.go b).b0_lt; omega) (by have := S0.pfew; omega)
  have HR : Hid (roomP c us (x, y) = c.height) := by show roomP c us (x, y) = _; unfold roomP; rw [hs]; rfl
  rw [HR.out]
  clear HR
  rw [hs] at cS
  have Sc0 := S0.c0
  have Sc1 := S0.c1
  generalize portP c.ports (x, y) 0 = P at *
  skip
  skip
  skip
  skip
  clear h S0
  go_enter Try.func45, Try.ntmps45
  go_wp2
  rw [← hw0]
  obtain ⟨IH, hIH⟩ : ∃ I : World → Prop, I = Below w0.heap.size w0 := ⟨_, rfl⟩
  have kI : ∀ u, IH u → Below w0.heap.size w0 u := fun u hu => by rw [hIH] at hu; exact hu
  have hS : IH w0.drew := by rw [hIH]; exact (Below.refl _ _).drew
  have D0 : Below w0.heap.size w0 w0.drew := (Below.refl _ _).drew
  have HX : Hid (∀ u, IH u → ∀ j z, #[Value.int .i64 x, .int .i64 y][j]? = some z → u.cell? ((⟨w.heap.size, 0, none⟩ : Addr).add j) = some z) := fun u hu => row_below eB (kI u hu)
  have z0 : ∀ u, IH u → u.cell? ⟨K.s, 0, none⟩ = some (.pointer (some ⟨K.g, 0, none⟩)) := fun u hu => cell_below Sc0 (kI u hu)
  have z1 : ∀ u, IH u → u.cell? ⟨K.s, 1, none⟩ = some (.int .i64 c.height) := fun u hu => cell_below Sc1 (kI u hu)
  clear eB hw0
  refine start_held (S := IH) 7 rfl (by kernel_rfl) (hS) ?_
  simp only [Array.replicate_succ, Array.replicate_zero, List.push_toArray, List.nil_append, List.cons_append]
  refine take_held 0 (by assumption) rfl (by kernel_rfl) (by kernel_rfl) (by kernel_rfl) (fun _ _ _ h => h) (by kernel_rfl) (v := ?v23) ?y23 ?r23
  case y23 => (intro u hu; go_simp; try rfl)
  simp only [Act.put, List.setIfInBounds_toArray, List.set_cons_zero, List.set_cons_succ]
  refine take_held 1 (by assumption) rfl (by kernel_rfl) (by kernel_rfl) (by kernel_rfl) (fun _ _ _ h => h) (by kernel_rfl) (v := ?v24) ?y24 ?r24
  case y24 => (intro u hu; go_simp; try rfl)
  simp only [Act.put, List.setIfInBounds_toArray, List.set_cons_zero, List.set_cons_succ]
  refine take_held 2 (by assumption) rfl (by kernel_rfl) (by kernel_rfl) (by kernel_rfl) (fun _ _ _ h => h) (by kernel_rfl) (v := ?v25) ?y25 ?r25
  case y25 => (intro u hu; go_simp; try rfl)
  simp only [Act.put, List.setIfInBounds_toArray, List.set_cons_zero, List.set_cons_succ]
  refine take_held 3 (by assumption) rfl (by kernel_rfl) (by kernel_rfl) (by kernel_rfl) (fun _ _ _ h => h) (by kernel_rfl) (v := ?v26) ?y26 ?r26
  case y26 => (intro u hu; have zz0 := z0 u hu; go_simp; try rfl)
  simp only [Act.put, List.setIfInBounds_toArray, List.set_cons_zero, List.set_cons_succ]
  refine take_held 4 (by assumption) rfl (by kernel_rfl) (by kernel_rfl) (by kernel_rfl) (fun _ _ _ h => h) (by kernel_rfl) (v := .agg #[.int .i64 x, .int .i64 y]) ?y27 ?r27
  case y27 => (intro u hu; exact run_load_op 39 _ rfl ⟨w.heap.size, 0, none⟩ _ rfl (HX.out u hu) (aggCell u) infoCell2)
  simp only [Act.put, List.setIfInBounds_toArray, List.set_cons_zero, List.set_cons_succ]
  refine wpAnyH_ready (rs := [5]) (by kernel_rfl) (by simp) (AllReadyH.cons ((nth_eq _ 5).trans rfl) ?_ AllReadyH.nil)
  intro K' hK
  refine call_in hK (by kernel_rfl) 63 #[.pointer (some ⟨K.g, 0, none⟩), .agg #[.int .i64 x, .int .i64 y]] (by go_simp) _ (cS _ D0) ?_
  rintro v w5 ⟨rfl, b5⟩
  have D5 := bcat D0 b5 (Nat.le_refl _)
  have hS5 : IH w5 := by rw [hIH]; exact D5
  refine ⟨hS5, ?_⟩
  simp only [Act.put, List.setIfInBounds_toArray, List.set_cons_zero, List.set_cons_succ]
  refine take_held 6 (by assumption) rfl (by kernel_rfl) (by kernel_rfl) (by kernel_rfl) (fun _ _ _ h => h) (by kernel_rfl) (v := ?v28) ?y28 ?r28
  case y28 => (intro u hu; go_simp; try rfl)
  simp only [Act.put, List.setIfInBounds_toArray, List.set_cons_zero, List.set_cons_succ]
  refine done_held (by kernel_rfl) ?_ _
  have y1 := z1 _ hS5
  go_wp2
  go_ret
  exact ⟨_, rfl, rfl, bcat B D5 (Nat.le_refl _)⟩
set_option maxRecDepth 100000 in
set_option maxHeartbeats 4000000 in
theorem room_n {K : Sk} {c : Conf} {us : List Int} {ps : List Pile} {ls : List Int} {w : World} (h : StAt K c us ps ls w) (x y : Int) (hs : stackedU c.W c.H us (x, y) = false) : Calls Try.prog 45 #[.pointer (some ⟨K.s, 0, none⟩), .agg #[.int .i64 x, .int .i64 y]] w fun e w' => ∃ v, e = .returned v ∧ v = .int .i64 (roomP c us (x, y)) ∧ Below w.heap.size w w' := by
  obtain ⟨w0, hw0⟩ : ∃ w0, w0 = w.alloc (.cells #[.int .i64 x, .int .i64 y] 39) := ⟨_, rfl⟩
  have B : Below w.heap.size w w0 := by rw [hw0]; exact below_new (Below.refl _ _) _
  have eB : w0.heap[w.heap.size]? = some (.cells #[.int .i64 x, .int .i64 y] 39 (0, 0)) := by rw [hw0]; exact heap_alloc_new w _
  have S0 := h.go B
  have cS := fun u (b : Below w0.heap.size w0 u) => ret_of (stacked_any K.g K.u c.W c.H us K.vp x y u (S0.grid.go b))
  have cP := fun u (b : Below w0.heap.size w0 u) => port_any K.g K.u c.W c.H us K.vp (fun b => b < K.b0) c.ports x y u (S0.go b).grid (S0.go b).ports (fun q hq => by have := (S0.go b).b0_lt; omega) (by have := S0.pfew; omega)
  have HR : Hid (roomP c us (x, y) = if portP c.ports (x, y) 0 < 0 then 0 else 1) := by show roomP c us (x, y) = _; unfold roomP; rw [hs]; rfl
  rw [HR.out]
  clear HR
  rw [hs] at cS
  have Sc0 := S0.c0
  have Sc1 := S0.c1
  generalize portP c.ports (x, y) 0 = P at *
  obtain ⟨RV, hRV⟩ : ∃ RV, (if P < 0 then (0 : Int) else 1) = RV := ⟨_, rfl⟩
  have HRV : Hid ((if P < 0 then (0 : Int) else 1) = RV) := hRV
  rw [hRV]
  clear hRV
  clear h S0
  go_enter Try.func45, Try.ntmps45
  go_wp2
  rw [← hw0]
  obtain ⟨IH, hIH⟩ : ∃ I : World → Prop, I = Below w0.heap.size w0 := ⟨_, rfl⟩
  have kI : ∀ u, IH u → Below w0.heap.size w0 u := fun u hu => by rw [hIH] at hu; exact hu
  have hS : IH w0.drew := by rw [hIH]; exact (Below.refl _ _).drew
  have D0 : Below w0.heap.size w0 w0.drew := (Below.refl _ _).drew
  have HX : Hid (∀ u, IH u → ∀ j z, #[Value.int .i64 x, .int .i64 y][j]? = some z → u.cell? ((⟨w.heap.size, 0, none⟩ : Addr).add j) = some z) := fun u hu => row_below eB (kI u hu)
  have z0 : ∀ u, IH u → u.cell? ⟨K.s, 0, none⟩ = some (.pointer (some ⟨K.g, 0, none⟩)) := fun u hu => cell_below Sc0 (kI u hu)
  have z1 : ∀ u, IH u → u.cell? ⟨K.s, 1, none⟩ = some (.int .i64 c.height) := fun u hu => cell_below Sc1 (kI u hu)
  clear eB hw0
  refine start_held (S := IH) 7 rfl (by kernel_rfl) (hS) ?_
  simp only [Array.replicate_succ, Array.replicate_zero, List.push_toArray, List.nil_append, List.cons_append]
  refine take_held 0 (by assumption) rfl (by kernel_rfl) (by kernel_rfl) (by kernel_rfl) (fun _ _ _ h => h) (by kernel_rfl) (v := ?v29) ?y29 ?r29
  case y29 => (intro u hu; go_simp; try rfl)
  simp only [Act.put, List.setIfInBounds_toArray, List.set_cons_zero, List.set_cons_succ]
  refine take_held 1 (by assumption) rfl (by kernel_rfl) (by kernel_rfl) (by kernel_rfl) (fun _ _ _ h => h) (by kernel_rfl) (v := ?v30) ?y30 ?r30
  case y30 => (intro u hu; go_simp; try rfl)
  simp only [Act.put, List.setIfInBounds_toArray, List.set_cons_zero, List.set_cons_succ]
  refine take_held 2 (by assumption) rfl (by kernel_rfl) (by kernel_rfl) (by kernel_rfl) (fun _ _ _ h => h) (by kernel_rfl) (v := ?v31) ?y31 ?r31
  case y31 => (intro u hu; go_simp; try rfl)
  simp only [Act.put, List.setIfInBounds_toArray, List.set_cons_zero, List.set_cons_succ]
  refine take_held 3 (by assumption) rfl (by kernel_rfl) (by kernel_rfl) (by kernel_rfl) (fun _ _ _ h => h) (by kernel_rfl) (v := ?v32) ?y32 ?r32
  case y32 => (intro u hu; have zz0 := z0 u hu; go_simp; try rfl)
  simp only [Act.put, List.setIfInBounds_toArray, List.set_cons_zero, List.set_cons_succ]
  refine take_held 4 (by assumption) rfl (by kernel_rfl) (by kernel_rfl) (by kernel_rfl) (fun _ _ _ h => h) (by kernel_rfl) (v := .agg #[.int .i64 x, .int .i64 y]) ?y33 ?r33
  case y33 => (intro u hu; exact run_load_op 39 _ rfl ⟨w.heap.size, 0, none⟩ _ rfl (HX.out u hu) (aggCell u) infoCell2)
  simp only [Act.put, List.setIfInBounds_toArray, List.set_cons_zero, List.set_cons_succ]
  refine wpAnyH_ready (rs := [5]) (by kernel_rfl) (by simp) (AllReadyH.cons ((nth_eq _ 5).trans rfl) ?_ AllReadyH.nil)
  intro K' hK
  refine call_in hK (by kernel_rfl) 63 #[.pointer (some ⟨K.g, 0, none⟩), .agg #[.int .i64 x, .int .i64 y]] (by go_simp) _ (cS _ D0) ?_
  rintro v w5 ⟨rfl, b5⟩
  have D5 := bcat D0 b5 (Nat.le_refl _)
  have hS5 : IH w5 := by rw [hIH]; exact D5
  refine ⟨hS5, ?_⟩
  simp only [Act.put, List.setIfInBounds_toArray, List.set_cons_zero, List.set_cons_succ]
  refine take_held 6 (by assumption) rfl (by kernel_rfl) (by kernel_rfl) (by kernel_rfl) (fun _ _ _ h => h) (by kernel_rfl) (v := ?v34) ?y34 ?r34
  case y34 => (intro u hu; go_simp; try rfl)
  simp only [Act.put, List.setIfInBounds_toArray, List.set_cons_zero, List.set_cons_succ]
  refine done_held (by kernel_rfl) ?_ _
  by_cases hp : P < 0
  · have HT : Hid (RV = 0) := by show RV = 0; rw [← HRV.out, if_pos hp]
    have hp' : ¬ 0 ≤ P := by omega
    go_wp2
    have hS6 : IH w5.drew := by rw [hIH]; exact bcat D5 (Below.refl _ _).drew (Nat.le_refl _)
    have D6 := kI _ hS6
    refine start_held (S := IH) 8 rfl (by kernel_rfl) (hS6) ?_
    simp only [Array.replicate_succ, Array.replicate_zero, List.push_toArray, List.nil_append, List.cons_append]
    refine take_held 0 (by assumption) rfl (by kernel_rfl) (by kernel_rfl) (by kernel_rfl) (fun _ _ _ h => h) (by kernel_rfl) (v := ?v35) ?y35 ?r35
    case y35 => (intro u hu; go_simp; try rfl)
    simp only [Act.put, List.setIfInBounds_toArray, List.set_cons_zero, List.set_cons_succ]
    refine take_held 1 (by assumption) rfl (by kernel_rfl) (by kernel_rfl) (by kernel_rfl) (fun _ _ _ h => h) (by kernel_rfl) (v := ?v36) ?y36 ?r36
    case y36 => (intro u hu; go_simp; try rfl)
    simp only [Act.put, List.setIfInBounds_toArray, List.set_cons_zero, List.set_cons_succ]
    refine take_held 2 (by assumption) rfl (by kernel_rfl) (by kernel_rfl) (by kernel_rfl) (fun _ _ _ h => h) (by kernel_rfl) (v := ?v37) ?y37 ?r37
    case y37 => (intro u hu; go_simp; try rfl)
    simp only [Act.put, List.setIfInBounds_toArray, List.set_cons_zero, List.set_cons_succ]
    refine take_held 3 (by assumption) rfl (by kernel_rfl) (by kernel_rfl) (by kernel_rfl) (fun _ _ _ h => h) (by kernel_rfl) (v := ?v38) ?y38 ?r38
    case y38 => (intro u hu; have zz0 := z0 u hu; go_simp; try rfl)
    simp only [Act.put, List.setIfInBounds_toArray, List.set_cons_zero, List.set_cons_succ]
    refine take_held 4 (by assumption) rfl (by kernel_rfl) (by kernel_rfl) (by kernel_rfl) (fun _ _ _ h => h) (by kernel_rfl) (v := .agg #[.int .i64 x, .int .i64 y]) ?y39 ?r39
    case y39 => (intro u hu; exact run_load_op 39 _ rfl ⟨w.heap.size, 0, none⟩ _ rfl (HX.out u hu) (aggCell u) infoCell2)
    simp only [Act.put, List.setIfInBounds_toArray, List.set_cons_zero, List.set_cons_succ]
    refine wpAnyH_ready (rs := [5]) (by kernel_rfl) (by simp) (AllReadyH.cons ((nth_eq _ 5).trans rfl) ?_ AllReadyH.nil)
    intro K' hK
    refine call_in hK (by kernel_rfl) 64 #[.pointer (some ⟨K.g, 0, none⟩), .agg #[.int .i64 x, .int .i64 y]] (by go_simp) _ (cP _ D6) ?_
    rintro v w7 ⟨rfl, b7⟩
    have D7 := bcat D6 b7 (Nat.le_refl _)
    have hS7 : IH w7 := by rw [hIH]; exact D7
    refine ⟨hS7, ?_⟩
    simp only [Act.put, List.setIfInBounds_toArray, List.set_cons_zero, List.set_cons_succ]
    refine take_held 6 (by assumption) rfl (by kernel_rfl) (by kernel_rfl) (by kernel_rfl) (fun _ _ _ h => h) (by kernel_rfl) (v := .bool false) ?y40 ?r40
    case y40 => (intro u hu; go_simp; try simp [hp']; try omega)
    simp only [Act.put, List.setIfInBounds_toArray, List.set_cons_zero, List.set_cons_succ]
    refine take_held 7 (by assumption) rfl (by kernel_rfl) (by kernel_rfl) (by kernel_rfl) (fun _ _ _ h => h) (by kernel_rfl) (v := ?v41) ?y41 ?r41
    case y41 => (intro u hu; go_simp; try rfl)
    simp only [Act.put, List.setIfInBounds_toArray, List.set_cons_zero, List.set_cons_succ]
    refine done_held (by kernel_rfl) ?_ _
    go_wp2
    go_ret
    exact ⟨_, rfl, by rw [HT.out]; rfl, bcat B D7 (Nat.le_refl _)⟩
  · have HT : Hid (RV = 1) := by show RV = 1; rw [← HRV.out, if_neg hp]
    have hp' : 0 ≤ P := by omega
    go_wp2
    have hS6 : IH w5.drew := by rw [hIH]; exact bcat D5 (Below.refl _ _).drew (Nat.le_refl _)
    have D6 := kI _ hS6
    refine start_held (S := IH) 8 rfl (by kernel_rfl) (hS6) ?_
    simp only [Array.replicate_succ, Array.replicate_zero, List.push_toArray, List.nil_append, List.cons_append]
    refine take_held 0 (by assumption) rfl (by kernel_rfl) (by kernel_rfl) (by kernel_rfl) (fun _ _ _ h => h) (by kernel_rfl) (v := ?v42) ?y42 ?r42
    case y42 => (intro u hu; go_simp; try rfl)
    simp only [Act.put, List.setIfInBounds_toArray, List.set_cons_zero, List.set_cons_succ]
    refine take_held 1 (by assumption) rfl (by kernel_rfl) (by kernel_rfl) (by kernel_rfl) (fun _ _ _ h => h) (by kernel_rfl) (v := ?v43) ?y43 ?r43
    case y43 => (intro u hu; go_simp; try rfl)
    simp only [Act.put, List.setIfInBounds_toArray, List.set_cons_zero, List.set_cons_succ]
    refine take_held 2 (by assumption) rfl (by kernel_rfl) (by kernel_rfl) (by kernel_rfl) (fun _ _ _ h => h) (by kernel_rfl) (v := ?v44) ?y44 ?r44
    case y44 => (intro u hu; go_simp; try rfl)
    simp only [Act.put, List.setIfInBounds_toArray, List.set_cons_zero, List.set_cons_succ]
    refine take_held 3 (by assumption) rfl (by kernel_rfl) (by kernel_rfl) (by kernel_rfl) (fun _ _ _ h => h) (by kernel_rfl) (v := ?v45) ?y45 ?r45
    case y45 => (intro u hu; have zz0 := z0 u hu; go_simp; try rfl)
    simp only [Act.put, List.setIfInBounds_toArray, List.set_cons_zero, List.set_cons_succ]
    refine take_held 4 (by assumption) rfl (by kernel_rfl) (by kernel_rfl) (by kernel_rfl) (fun _ _ _ h => h) (by kernel_rfl) (v := .agg #[.int .i64 x, .int .i64 y]) ?y46 ?r46
    case y46 => (intro u hu; exact run_load_op 39 _ rfl ⟨w.heap.size, 0, none⟩ _ rfl (HX.out u hu) (aggCell u) infoCell2)
    simp only [Act.put, List.setIfInBounds_toArray, List.set_cons_zero, List.set_cons_succ]
    refine wpAnyH_ready (rs := [5]) (by kernel_rfl) (by simp) (AllReadyH.cons ((nth_eq _ 5).trans rfl) ?_ AllReadyH.nil)
    intro K' hK
    refine call_in hK (by kernel_rfl) 64 #[.pointer (some ⟨K.g, 0, none⟩), .agg #[.int .i64 x, .int .i64 y]] (by go_simp) _ (cP _ D6) ?_
    rintro v w7 ⟨rfl, b7⟩
    have D7 := bcat D6 b7 (Nat.le_refl _)
    have hS7 : IH w7 := by rw [hIH]; exact D7
    refine ⟨hS7, ?_⟩
    simp only [Act.put, List.setIfInBounds_toArray, List.set_cons_zero, List.set_cons_succ]
    refine take_held 6 (by assumption) rfl (by kernel_rfl) (by kernel_rfl) (by kernel_rfl) (fun _ _ _ h => h) (by kernel_rfl) (v := .bool true) ?y47 ?r47
    case y47 => (intro u hu; go_simp; try simp [hp']; try omega)
    simp only [Act.put, List.setIfInBounds_toArray, List.set_cons_zero, List.set_cons_succ]
    refine take_held 7 (by assumption) rfl (by kernel_rfl) (by kernel_rfl) (by kernel_rfl) (fun _ _ _ h => h) (by kernel_rfl) (v := ?v48) ?y48 ?r48
    case y48 => (intro u hu; go_simp; try rfl)
    simp only [Act.put, List.setIfInBounds_toArray, List.set_cons_zero, List.set_cons_succ]
    refine done_held (by kernel_rfl) ?_ _
    go_wp2
    go_ret
    exact ⟨_, rfl, by rw [HT.out]; rfl, bcat B D7 (Nat.le_refl _)⟩
end Go.Proofs.Ytabbdclpjghdbaa.Stk
namespace Go.Proofs.Ytabbdclpjghdbaa.Stk
set_option linter.unusedVariables false
set_option linter.unusedSimpArgs false
open Go Go.RowKit Go.Shelf Go.Proofs Go.Proofs.Ytabbdclpjghdbaa.Grid
attribute [local go_sem] Oper.semAt_some

set_option maxRecDepth 100000 in
set_option maxHeartbeats 4000000 in
theorem lift_there {K : Sk} {c : Conf} {us : List Int} {ps : List Pile} {ls : List Int} {w : World} (h : StAt K c us ps ls w) (r x y : Int) (ht : thereB ls r = false) : Calls Try.prog 13 #[.pointer (some ⟨K.s, 0, none⟩), .int .i64 r, .agg #[.int .i64 x, .int .i64 y]] w fun e w' => ∃ v, e = .returned v ∧ v = .tuple #[.int .i64 0, .int .i64 1] ∧ Below w.heap.size w w' := by
  obtain ⟨w0, hw0⟩ : ∃ w0, w0 = w.alloc (.cells #[.int .i64 x, .int .i64 y] 39) := ⟨_, rfl⟩
  have B : Below w.heap.size w w0 := by rw [hw0]; exact below_new (Below.refl _ _) _
  have eB : w0.heap[w.heap.size]? = some (.cells #[.int .i64 x, .int .i64 y] 39 (0, 0)) := by rw [hw0]; exact heap_alloc_new w _
  have S0 := h.go B
  have cT := fun u (b : Below w0.heap.size w0 u) => there_any (S0.go b) r
  have cO := fun u (b : Below w0.heap.size w0 u) => ret_of (open_any K.g K.u c.W c.H us K.vp x y u (S0.grid.go b))
  have Sc0 := S0.c0
  rw [ht] at cT
  clear h S0
  go_enter Try.func13, Try.ntmps13
  go_wp2
  rw [← hw0]
  obtain ⟨IH, hIH⟩ : ∃ I : World → Prop, I = Below w0.heap.size w0 := ⟨_, rfl⟩
  have kI : ∀ u, IH u → Below w0.heap.size w0 u := fun u hu => by rw [hIH] at hu; exact hu
  have hS : IH w0.drew := by rw [hIH]; exact (Below.refl _ _).drew
  have D0 : Below w0.heap.size w0 w0.drew := (Below.refl _ _).drew
  have HX : Hid (∀ u, IH u → ∀ j z, #[Value.int .i64 x, .int .i64 y][j]? = some z → u.cell? ((⟨w.heap.size, 0, none⟩ : Addr).add j) = some z) := fun u hu => row_below eB (kI u hu)
  have z0 : ∀ u, IH u → u.cell? ⟨K.s, 0, none⟩ = some (.pointer (some ⟨K.g, 0, none⟩)) := fun u hu => cell_below Sc0 (kI u hu)
  refine start_held (S := IH) 14 rfl (by kernel_rfl) (hS) ?_
  simp only [Array.replicate_succ, Array.replicate_zero, List.push_toArray, List.nil_append, List.cons_append]
  refine take_held 0 (by assumption) rfl (by kernel_rfl) (by kernel_rfl) (by kernel_rfl) (fun _ _ _ h => h) (by kernel_rfl) (v := ?v0) ?y0 ?r0
  case y0 => (intro u hu; go_simp; try rfl)
  simp only [Act.put, List.setIfInBounds_toArray, List.set_cons_zero, List.set_cons_succ]
  refine take_held 1 (by assumption) rfl (by kernel_rfl) (by kernel_rfl) (by kernel_rfl) (fun _ _ _ h => h) (by kernel_rfl) (v := ?v1) ?y1 ?r1
  case y1 => (intro u hu; go_simp; try rfl)
  simp only [Act.put, List.setIfInBounds_toArray, List.set_cons_zero, List.set_cons_succ]
  refine wpAnyH_ready (rs := [2]) (by kernel_rfl) (by simp) (AllReadyH.cons ((nth_eq _ 2).trans rfl) ?_ AllReadyH.nil)
  intro K' hK
  refine call_in hK (by kernel_rfl) 42 #[.pointer (some ⟨K.s, 0, none⟩), .int .i64 r] (by go_simp) _ (cT _ D0) ?_
  rintro v w5 ⟨rfl, b5⟩
  have D5 := bcat D0 b5 (Nat.le_refl _)
  have hS5 : IH w5 := by rw [hIH]; exact D5
  refine ⟨hS5, ?_⟩
  simp only [Act.put, List.setIfInBounds_toArray, List.set_cons_zero, List.set_cons_succ]
  refine take_held 3 (by assumption) rfl (by kernel_rfl) (by kernel_rfl) (by kernel_rfl) (fun _ _ _ h => h) (by kernel_rfl) (v := ?v2) ?y2 ?r2
  case y2 => (intro u hu; go_simp; try rfl)
  simp only [Act.put, List.setIfInBounds_toArray, List.set_cons_zero, List.set_cons_succ]
  refine take_held 4 (by assumption) rfl (by kernel_rfl) (by kernel_rfl) (by kernel_rfl) (fun _ _ _ h => h) (by kernel_rfl) (v := ?v3) ?y3 ?r3
  case y3 => (intro u hu; go_simp; try rfl)
  simp only [Act.put, List.setIfInBounds_toArray, List.set_cons_zero, List.set_cons_succ]
  refine skip_held 5 (by assumption) rfl (by kernel_rfl) (by kernel_rfl) (by kernel_rfl) (fun _ _ _ h => h) (by kernel_rfl) ?_
  simp only [Act.put, List.setIfInBounds_toArray, List.set_cons_zero, List.set_cons_succ]
  refine skip_held 6 (by assumption) rfl (by kernel_rfl) (by kernel_rfl) (by kernel_rfl) (fun _ _ _ h => h) (by kernel_rfl) ?_
  simp only [Act.put, List.setIfInBounds_toArray, List.set_cons_zero, List.set_cons_succ]
  refine skip_held 7 (by assumption) rfl (by kernel_rfl) (by kernel_rfl) (by kernel_rfl) (fun _ _ _ h => h) (by kernel_rfl) ?_
  simp only [Act.put, List.setIfInBounds_toArray, List.set_cons_zero, List.set_cons_succ]
  refine skip_held 8 (by assumption) rfl (by kernel_rfl) (by kernel_rfl) (by kernel_rfl) (fun _ _ _ h => h) (by kernel_rfl) ?_
  simp only [Act.put, List.setIfInBounds_toArray, List.set_cons_zero, List.set_cons_succ]
  refine skip_held 9 (by assumption) rfl (by kernel_rfl) (by kernel_rfl) (by kernel_rfl) (fun _ _ _ h => h) (by kernel_rfl) ?_
  simp only [Act.put, List.setIfInBounds_toArray, List.set_cons_zero, List.set_cons_succ]
  refine skip_held 10 (by assumption) rfl (by kernel_rfl) (by kernel_rfl) (by kernel_rfl) (fun _ _ _ h => h) (by kernel_rfl) ?_
  simp only [Act.put, List.setIfInBounds_toArray, List.set_cons_zero, List.set_cons_succ]
  refine skip_held 11 (by assumption) rfl (by kernel_rfl) (by kernel_rfl) (by kernel_rfl) (fun _ _ _ h => h) (by kernel_rfl) ?_
  simp only [Act.put, List.setIfInBounds_toArray, List.set_cons_zero, List.set_cons_succ]
  refine take_held 12 (by assumption) rfl (by kernel_rfl) (by kernel_rfl) (by kernel_rfl) (fun _ _ _ h => h) (by kernel_rfl) (v := ?v4) ?y4 ?r4
  case y4 => (intro u hu; go_simp; try rfl)
  simp only [Act.put, List.setIfInBounds_toArray, List.set_cons_zero, List.set_cons_succ]
  refine take_held 13 (by assumption) rfl (by kernel_rfl) (by kernel_rfl) (by kernel_rfl) (fun _ _ _ h => h) (by kernel_rfl) (v := ?v5) ?y5 ?r5
  case y5 => (intro u hu; go_simp; try rfl)
  simp only [Act.put, List.setIfInBounds_toArray, List.set_cons_zero, List.set_cons_succ]
  refine done_held (by kernel_rfl) ?_ _
  go_wp2
  exact bodyPost_ret (v := .tuple #[.int .i64 0, .int .i64 1]) (by simp [results, Try.results13, go_sem]) rfl ⟨_, rfl, rfl, bcat B D5 (Nat.le_refl _)⟩
set_option maxRecDepth 100000 in
set_option maxHeartbeats 4000000 in
theorem lift_open {K : Sk} {c : Conf} {us : List Int} {ps : List Pile} {ls : List Int} {w : World} (h : StAt K c us ps ls w) (r x y : Int) (ht : thereB ls r = true) (ho : openU c.W c.H us (x, y) = false) : Calls Try.prog 13 #[.pointer (some ⟨K.s, 0, none⟩), .int .i64 r, .agg #[.int .i64 x, .int .i64 y]] w fun e w' => ∃ v, e = .returned v ∧ v = .tuple #[.int .i64 0, .int .i64 1] ∧ Below w.heap.size w w' := by
  obtain ⟨w0, hw0⟩ : ∃ w0, w0 = w.alloc (.cells #[.int .i64 x, .int .i64 y] 39) := ⟨_, rfl⟩
  have B : Below w.heap.size w w0 := by rw [hw0]; exact below_new (Below.refl _ _) _
  have eB : w0.heap[w.heap.size]? = some (.cells #[.int .i64 x, .int .i64 y] 39 (0, 0)) := by rw [hw0]; exact heap_alloc_new w _
  have S0 := h.go B
  have cT := fun u (b : Below w0.heap.size w0 u) => there_any (S0.go b) r
  have cO := fun u (b : Below w0.heap.size w0 u) => ret_of (open_any K.g K.u c.W c.H us K.vp x y u (S0.grid.go b))
  have Sc0 := S0.c0
  rw [ht] at cT
  rw [ho] at cO
  clear h S0
  go_enter Try.func13, Try.ntmps13
  go_wp2
  rw [← hw0]
  obtain ⟨IH, hIH⟩ : ∃ I : World → Prop, I = Below w0.heap.size w0 := ⟨_, rfl⟩
  have kI : ∀ u, IH u → Below w0.heap.size w0 u := fun u hu => by rw [hIH] at hu; exact hu
  have hS : IH w0.drew := by rw [hIH]; exact (Below.refl _ _).drew
  have D0 : Below w0.heap.size w0 w0.drew := (Below.refl _ _).drew
  have HX : Hid (∀ u, IH u → ∀ j z, #[Value.int .i64 x, .int .i64 y][j]? = some z → u.cell? ((⟨w.heap.size, 0, none⟩ : Addr).add j) = some z) := fun u hu => row_below eB (kI u hu)
  have z0 : ∀ u, IH u → u.cell? ⟨K.s, 0, none⟩ = some (.pointer (some ⟨K.g, 0, none⟩)) := fun u hu => cell_below Sc0 (kI u hu)
  refine start_held (S := IH) 14 rfl (by kernel_rfl) (hS) ?_
  simp only [Array.replicate_succ, Array.replicate_zero, List.push_toArray, List.nil_append, List.cons_append]
  refine take_held 0 (by assumption) rfl (by kernel_rfl) (by kernel_rfl) (by kernel_rfl) (fun _ _ _ h => h) (by kernel_rfl) (v := ?v6) ?y6 ?r6
  case y6 => (intro u hu; go_simp; try rfl)
  simp only [Act.put, List.setIfInBounds_toArray, List.set_cons_zero, List.set_cons_succ]
  refine take_held 1 (by assumption) rfl (by kernel_rfl) (by kernel_rfl) (by kernel_rfl) (fun _ _ _ h => h) (by kernel_rfl) (v := ?v7) ?y7 ?r7
  case y7 => (intro u hu; go_simp; try rfl)
  simp only [Act.put, List.setIfInBounds_toArray, List.set_cons_zero, List.set_cons_succ]
  refine wpAnyH_ready (rs := [2]) (by kernel_rfl) (by simp) (AllReadyH.cons ((nth_eq _ 2).trans rfl) ?_ AllReadyH.nil)
  intro K' hK
  refine call_in hK (by kernel_rfl) 42 #[.pointer (some ⟨K.s, 0, none⟩), .int .i64 r] (by go_simp) _ (cT _ D0) ?_
  rintro v w5 ⟨rfl, b5⟩
  have D5 := bcat D0 b5 (Nat.le_refl _)
  have hS5 : IH w5 := by rw [hIH]; exact D5
  refine ⟨hS5, ?_⟩
  simp only [Act.put, List.setIfInBounds_toArray, List.set_cons_zero, List.set_cons_succ]
  refine take_held 3 (by assumption) rfl (by kernel_rfl) (by kernel_rfl) (by kernel_rfl) (fun _ _ _ h => h) (by kernel_rfl) (v := ?v8) ?y8 ?r8
  case y8 => (intro u hu; go_simp; try rfl)
  simp only [Act.put, List.setIfInBounds_toArray, List.set_cons_zero, List.set_cons_succ]
  refine take_held 4 (by assumption) rfl (by kernel_rfl) (by kernel_rfl) (by kernel_rfl) (fun _ _ _ h => h) (by kernel_rfl) (v := ?v9) ?y9 ?r9
  case y9 => (intro u hu; go_simp; try rfl)
  simp only [Act.put, List.setIfInBounds_toArray, List.set_cons_zero, List.set_cons_succ]
  refine take_held 5 (by assumption) rfl (by kernel_rfl) (by kernel_rfl) (by kernel_rfl) (fun _ _ _ h => h) (by kernel_rfl) (v := ?v10) ?y10 ?r10
  case y10 => (intro u hu; go_simp; try rfl)
  simp only [Act.put, List.setIfInBounds_toArray, List.set_cons_zero, List.set_cons_succ]
  refine take_held 6 (by assumption) rfl (by kernel_rfl) (by kernel_rfl) (by kernel_rfl) (fun _ _ _ h => h) (by kernel_rfl) (v := ?v11) ?y11 ?r11
  case y11 => (intro u hu; go_simp; try rfl)
  simp only [Act.put, List.setIfInBounds_toArray, List.set_cons_zero, List.set_cons_succ]
  refine take_held 7 (by assumption) rfl (by kernel_rfl) (by kernel_rfl) (by kernel_rfl) (fun _ _ _ h => h) (by kernel_rfl) (v := ?v12) ?y12 ?r12
  case y12 => (intro u hu; go_simp; try rfl)
  simp only [Act.put, List.setIfInBounds_toArray, List.set_cons_zero, List.set_cons_succ]
  refine take_held 8 (by assumption) rfl (by kernel_rfl) (by kernel_rfl) (by kernel_rfl) (fun _ _ _ h => h) (by kernel_rfl) (v := ?v13) ?y13 ?r13
  case y13 => (intro u hu; have zz0 := z0 u hu; go_simp; try rfl)
  simp only [Act.put, List.setIfInBounds_toArray, List.set_cons_zero, List.set_cons_succ]
  refine take_held 9 (by assumption) rfl (by kernel_rfl) (by kernel_rfl) (by kernel_rfl) (fun _ _ _ h => h) (by kernel_rfl) (v := .agg #[.int .i64 x, .int .i64 y]) ?y14 ?r14
  case y14 => (intro u hu; exact run_load_op 39 _ rfl ⟨w.heap.size, 0, none⟩ _ rfl (HX.out u hu) (aggCell u) infoCell2)
  simp only [Act.put, List.setIfInBounds_toArray, List.set_cons_zero, List.set_cons_succ]
  refine wpAnyH_ready (rs := [10]) (by kernel_rfl) (by simp) (AllReadyH.cons ((nth_eq _ 10).trans rfl) ?_ AllReadyH.nil)
  intro K' hK
  refine call_in hK (by kernel_rfl) 43 #[.pointer (some ⟨K.g, 0, none⟩), .agg #[.int .i64 x, .int .i64 y]] (by go_simp) _ (cO _ D5) ?_
  rintro v w6 ⟨rfl, b6⟩
  have D6 := bcat D5 b6 (Nat.le_refl _)
  have hS6 : IH w6 := by rw [hIH]; exact D6
  refine ⟨hS6, ?_⟩
  simp only [Act.put, List.setIfInBounds_toArray, List.set_cons_zero, List.set_cons_succ]
  refine take_held 11 (by assumption) rfl (by kernel_rfl) (by kernel_rfl) (by kernel_rfl) (fun _ _ _ h => h) (by kernel_rfl) (v := ?v15) ?y15 ?r15
  case y15 => (intro u hu; go_simp; try rfl)
  simp only [Act.put, List.setIfInBounds_toArray, List.set_cons_zero, List.set_cons_succ]
  refine take_held 12 (by assumption) rfl (by kernel_rfl) (by kernel_rfl) (by kernel_rfl) (fun _ _ _ h => h) (by kernel_rfl) (v := ?v16) ?y16 ?r16
  case y16 => (intro u hu; go_simp; try rfl)
  simp only [Act.put, List.setIfInBounds_toArray, List.set_cons_zero, List.set_cons_succ]
  refine take_held 13 (by assumption) rfl (by kernel_rfl) (by kernel_rfl) (by kernel_rfl) (fun _ _ _ h => h) (by kernel_rfl) (v := ?v17) ?y17 ?r17
  case y17 => (intro u hu; go_simp; try rfl)
  simp only [Act.put, List.setIfInBounds_toArray, List.set_cons_zero, List.set_cons_succ]
  refine done_held (by kernel_rfl) ?_ _
  go_wp2
  exact bodyPost_ret (v := .tuple #[.int .i64 0, .int .i64 1]) (by simp [results, Try.results13, go_sem]) rfl ⟨_, rfl, rfl, bcat B D6 (Nat.le_refl _)⟩
set_option maxRecDepth 100000 in
set_option maxHeartbeats 4000000 in
theorem lift_state {K : Sk} {c : Conf} {us : List Int} {ps : List Pile} {ls : List Int} {w : World} (h : StAt K c us ps ls w) (r x y : Int) (ht : thereB ls r = true) (ho : openU c.W c.H us (x, y) = true) (hl : loadP ls r ≠ 0) : Calls Try.prog 13 #[.pointer (some ⟨K.s, 0, none⟩), .int .i64 r, .agg #[.int .i64 x, .int .i64 y]] w fun e w' => ∃ v, e = .returned v ∧ v = .tuple #[.int .i64 0, .int .i64 8] ∧ Below w.heap.size w w' := by
  obtain ⟨w0, hw0⟩ : ∃ w0, w0 = w.alloc (.cells #[.int .i64 x, .int .i64 y] 39) := ⟨_, rfl⟩
  have B : Below w.heap.size w w0 := by rw [hw0]; exact below_new (Below.refl _ _) _
  have eB : w0.heap[w.heap.size]? = some (.cells #[.int .i64 x, .int .i64 y] 39 (0, 0)) := by rw [hw0]; exact heap_alloc_new w _
  have S0 := h.go B
  have cT := fun u (b : Below w0.heap.size w0 u) => there_any (S0.go b) r
  have cO := fun u (b : Below w0.heap.size w0 u) => ret_of (open_any K.g K.u c.W c.H us K.vp x y u (S0.grid.go b))
  have Sc0 := S0.c0
  have ht2 := ht
  unfold thereB at ht2
  simp only [Bool.and_eq_true, decide_eq_true_eq] at ht2
  obtain ⟨i, rfl⟩ : ∃ i : Nat, r = i := ⟨r.toNat, by omega⟩
  have hil : i < ls.length := by omega
  have zl3 := fun u (b : Below w0.heap.size w0 u) => (S0.go b).c3
  have zli := fun u (b : Below w0.heap.size w0 u) => (S0.go b).lc hil
  have hm := h.few
  rw [ht] at cT
  rw [ho] at cO
  unfold loadP at hl
  rw [ht] at hl
  simp only [Int.toNat_natCast, if_true] at hl
  have hl2 : (ls.getD i 0 != 0) = true := by rw [bne_iff_ne]; exact hl
  generalize ls.getD i 0 = lv at *
  generalize ls.length = M at *
  clear h S0 hl ht ht2
  go_enter Try.func13, Try.ntmps13
  go_wp2
  rw [← hw0]
  obtain ⟨IH, hIH⟩ : ∃ I : World → Prop, I = Below w0.heap.size w0 := ⟨_, rfl⟩
  have kI : ∀ u, IH u → Below w0.heap.size w0 u := fun u hu => by rw [hIH] at hu; exact hu
  have hS : IH w0.drew := by rw [hIH]; exact (Below.refl _ _).drew
  have D0 : Below w0.heap.size w0 w0.drew := (Below.refl _ _).drew
  have HX : Hid (∀ u, IH u → ∀ j z, #[Value.int .i64 x, .int .i64 y][j]? = some z → u.cell? ((⟨w.heap.size, 0, none⟩ : Addr).add j) = some z) := fun u hu => row_below eB (kI u hu)
  have z0 : ∀ u, IH u → u.cell? ⟨K.s, 0, none⟩ = some (.pointer (some ⟨K.g, 0, none⟩)) := fun u hu => cell_below Sc0 (kI u hu)
  refine start_held (S := IH) 14 rfl (by kernel_rfl) (hS) ?_
  simp only [Array.replicate_succ, Array.replicate_zero, List.push_toArray, List.nil_append, List.cons_append]
  refine take_held 0 (by assumption) rfl (by kernel_rfl) (by kernel_rfl) (by kernel_rfl) (fun _ _ _ h => h) (by kernel_rfl) (v := ?v18) ?y18 ?r18
  case y18 => (intro u hu; go_simp; try rfl)
  simp only [Act.put, List.setIfInBounds_toArray, List.set_cons_zero, List.set_cons_succ]
  refine take_held 1 (by assumption) rfl (by kernel_rfl) (by kernel_rfl) (by kernel_rfl) (fun _ _ _ h => h) (by kernel_rfl) (v := ?v19) ?y19 ?r19
  case y19 => (intro u hu; go_simp; try rfl)
  simp only [Act.put, List.setIfInBounds_toArray, List.set_cons_zero, List.set_cons_succ]
  refine wpAnyH_ready (rs := [2]) (by kernel_rfl) (by simp) (AllReadyH.cons ((nth_eq _ 2).trans rfl) ?_ AllReadyH.nil)
  intro K' hK
  refine call_in hK (by kernel_rfl) 42 #[.pointer (some ⟨K.s, 0, none⟩), .int .i64 (i : Int)] (by go_simp) _ (cT _ D0) ?_
  rintro v w5 ⟨rfl, b5⟩
  have D5 := bcat D0 b5 (Nat.le_refl _)
  have hS5 : IH w5 := by rw [hIH]; exact D5
  refine ⟨hS5, ?_⟩
  simp only [Act.put, List.setIfInBounds_toArray, List.set_cons_zero, List.set_cons_succ]
  refine take_held 3 (by assumption) rfl (by kernel_rfl) (by kernel_rfl) (by kernel_rfl) (fun _ _ _ h => h) (by kernel_rfl) (v := ?v20) ?y20 ?r20
  case y20 => (intro u hu; go_simp; try rfl)
  simp only [Act.put, List.setIfInBounds_toArray, List.set_cons_zero, List.set_cons_succ]
  refine take_held 4 (by assumption) rfl (by kernel_rfl) (by kernel_rfl) (by kernel_rfl) (fun _ _ _ h => h) (by kernel_rfl) (v := ?v21) ?y21 ?r21
  case y21 => (intro u hu; go_simp; try rfl)
  simp only [Act.put, List.setIfInBounds_toArray, List.set_cons_zero, List.set_cons_succ]
  refine take_held 5 (by assumption) rfl (by kernel_rfl) (by kernel_rfl) (by kernel_rfl) (fun _ _ _ h => h) (by kernel_rfl) (v := ?v22) ?y22 ?r22
  case y22 => (intro u hu; go_simp; try rfl)
  simp only [Act.put, List.setIfInBounds_toArray, List.set_cons_zero, List.set_cons_succ]
  refine take_held 6 (by assumption) rfl (by kernel_rfl) (by kernel_rfl) (by kernel_rfl) (fun _ _ _ h => h) (by kernel_rfl) (v := ?v23) ?y23 ?r23
  case y23 => (intro u hu; go_simp; try rfl)
  simp only [Act.put, List.setIfInBounds_toArray, List.set_cons_zero, List.set_cons_succ]
  refine take_held 7 (by assumption) rfl (by kernel_rfl) (by kernel_rfl) (by kernel_rfl) (fun _ _ _ h => h) (by kernel_rfl) (v := ?v24) ?y24 ?r24
  case y24 => (intro u hu; go_simp; try rfl)
  simp only [Act.put, List.setIfInBounds_toArray, List.set_cons_zero, List.set_cons_succ]
  refine take_held 8 (by assumption) rfl (by kernel_rfl) (by kernel_rfl) (by kernel_rfl) (fun _ _ _ h => h) (by kernel_rfl) (v := ?v25) ?y25 ?r25
  case y25 => (intro u hu; have zz0 := z0 u hu; go_simp; try rfl)
  simp only [Act.put, List.setIfInBounds_toArray, List.set_cons_zero, List.set_cons_succ]
  refine take_held 9 (by assumption) rfl (by kernel_rfl) (by kernel_rfl) (by kernel_rfl) (fun _ _ _ h => h) (by kernel_rfl) (v := .agg #[.int .i64 x, .int .i64 y]) ?y26 ?r26
  case y26 => (intro u hu; exact run_load_op 39 _ rfl ⟨w.heap.size, 0, none⟩ _ rfl (HX.out u hu) (aggCell u) infoCell2)
  simp only [Act.put, List.setIfInBounds_toArray, List.set_cons_zero, List.set_cons_succ]
  refine wpAnyH_ready (rs := [10]) (by kernel_rfl) (by simp) (AllReadyH.cons ((nth_eq _ 10).trans rfl) ?_ AllReadyH.nil)
  intro K' hK
  refine call_in hK (by kernel_rfl) 43 #[.pointer (some ⟨K.g, 0, none⟩), .agg #[.int .i64 x, .int .i64 y]] (by go_simp) _ (cO _ D5) ?_
  rintro v w6 ⟨rfl, b6⟩
  have D6 := bcat D5 b6 (Nat.le_refl _)
  have hS6 : IH w6 := by rw [hIH]; exact D6
  refine ⟨hS6, ?_⟩
  simp only [Act.put, List.setIfInBounds_toArray, List.set_cons_zero, List.set_cons_succ]
  refine take_held 11 (by assumption) rfl (by kernel_rfl) (by kernel_rfl) (by kernel_rfl) (fun _ _ _ h => h) (by kernel_rfl) (v := ?v27) ?y27 ?r27
  case y27 => (intro u hu; go_simp; try rfl)
  simp only [Act.put, List.setIfInBounds_toArray, List.set_cons_zero, List.set_cons_succ]
  refine take_held 12 (by assumption) rfl (by kernel_rfl) (by kernel_rfl) (by kernel_rfl) (fun _ _ _ h => h) (by kernel_rfl) (v := ?v28) ?y28 ?r28
  case y28 => (intro u hu; go_simp; try rfl)
  simp only [Act.put, List.setIfInBounds_toArray, List.set_cons_zero, List.set_cons_succ]
  refine take_held 13 (by assumption) rfl (by kernel_rfl) (by kernel_rfl) (by kernel_rfl) (fun _ _ _ h => h) (by kernel_rfl) (v := ?v29) ?y29 ?r29
  case y29 => (intro u hu; go_simp; try rfl)
  simp only [Act.put, List.setIfInBounds_toArray, List.set_cons_zero, List.set_cons_succ]
  refine done_held (by kernel_rfl) ?_ _
  have y3 := zl3 _ D6
  have yl := zli _ D6
  go_wp2
  exact bodyPost_ret (v := .tuple #[.int .i64 0, .int .i64 8]) (by simp [results, Try.results13, go_sem]) rfl ⟨_, rfl, rfl, bcat B D6 (Nat.le_refl _)⟩
set_option maxRecDepth 100000 in
set_option maxHeartbeats 4000000 in
theorem lift_none {K : Sk} {c : Conf} {us : List Int} {ps : List Pile} {ls : List Int} {w : World} (h : StAt K c us ps ls w) (r x y : Int) (ht : thereB ls r = true) (ho : openU c.W c.H us (x, y) = true) (hl : loadP ls r = 0) {k : Nat} {p : Pile} (hk : number c.W c.H (x, y) = (k : Nat)) (hp : ps[k]? = some p) (hz : p.2.2 = []) : Calls Try.prog 13 #[.pointer (some ⟨K.s, 0, none⟩), .int .i64 r, .agg #[.int .i64 x, .int .i64 y]] w fun e w' => ∃ v, e = .returned v ∧ v = .tuple #[.int .i64 0, .int .i64 3] ∧ Below w.heap.size w w' := by
  obtain ⟨w0, hw0⟩ : ∃ w0, w0 = w.alloc (.cells #[.int .i64 x, .int .i64 y] 39) := ⟨_, rfl⟩
  have B : Below w.heap.size w w0 := by rw [hw0]; exact below_new (Below.refl _ _) _
  have eB : w0.heap[w.heap.size]? = some (.cells #[.int .i64 x, .int .i64 y] 39 (0, 0)) := by rw [hw0]; exact heap_alloc_new w _
  have S0 := h.go B
  have cT := fun u (b : Below w0.heap.size w0 u) => there_any (S0.go b) r
  have cO := fun u (b : Below w0.heap.size w0 u) => ret_of (open_any K.g K.u c.W c.H us K.vp x y u (S0.grid.go b))
  have Sc0 := S0.c0
  have ht2 := ht
  unfold thereB at ht2
  simp only [Bool.and_eq_true, decide_eq_true_eq] at ht2
  obtain ⟨i, rfl⟩ : ∃ i : Nat, r = i := ⟨r.toNat, by omega⟩
  have hil : i < ls.length := by omega
  have zl3 := fun u (b : Below w0.heap.size w0 u) => (S0.go b).c3
  have zli := fun u (b : Below w0.heap.size w0 u) => (S0.go b).lc hil
  have hm := h.few
  have cH := fun u (b : Below w0.heap.size w0 u) => height_yes (S0.go b) x y ho hk hp
  rw [hz] at cH
  rw [ht] at cT
  rw [ho] at cO
  unfold loadP at hl
  rw [ht] at hl
  simp only [Int.toNat_natCast, if_true] at hl
  rw [hl] at zli
  generalize ls.length = M at *
  clear h S0 hl ht ht2
  go_enter Try.func13, Try.ntmps13
  go_wp2
  rw [← hw0]
  obtain ⟨IH, hIH⟩ : ∃ I : World → Prop, I = Below w0.heap.size w0 := ⟨_, rfl⟩
  have kI : ∀ u, IH u → Below w0.heap.size w0 u := fun u hu => by rw [hIH] at hu; exact hu
  have hS : IH w0.drew := by rw [hIH]; exact (Below.refl _ _).drew
  have D0 : Below w0.heap.size w0 w0.drew := (Below.refl _ _).drew
  have HX : Hid (∀ u, IH u → ∀ j z, #[Value.int .i64 x, .int .i64 y][j]? = some z → u.cell? ((⟨w.heap.size, 0, none⟩ : Addr).add j) = some z) := fun u hu => row_below eB (kI u hu)
  have z0 : ∀ u, IH u → u.cell? ⟨K.s, 0, none⟩ = some (.pointer (some ⟨K.g, 0, none⟩)) := fun u hu => cell_below Sc0 (kI u hu)
  refine start_held (S := IH) 14 rfl (by kernel_rfl) (hS) ?_
  simp only [Array.replicate_succ, Array.replicate_zero, List.push_toArray, List.nil_append, List.cons_append]
  refine take_held 0 (by assumption) rfl (by kernel_rfl) (by kernel_rfl) (by kernel_rfl) (fun _ _ _ h => h) (by kernel_rfl) (v := ?v18) ?y18 ?r18
  case y18 => (intro u hu; go_simp; try rfl)
  simp only [Act.put, List.setIfInBounds_toArray, List.set_cons_zero, List.set_cons_succ]
  refine take_held 1 (by assumption) rfl (by kernel_rfl) (by kernel_rfl) (by kernel_rfl) (fun _ _ _ h => h) (by kernel_rfl) (v := ?v19) ?y19 ?r19
  case y19 => (intro u hu; go_simp; try rfl)
  simp only [Act.put, List.setIfInBounds_toArray, List.set_cons_zero, List.set_cons_succ]
  refine wpAnyH_ready (rs := [2]) (by kernel_rfl) (by simp) (AllReadyH.cons ((nth_eq _ 2).trans rfl) ?_ AllReadyH.nil)
  intro K' hK
  refine call_in hK (by kernel_rfl) 42 #[.pointer (some ⟨K.s, 0, none⟩), .int .i64 (i : Int)] (by go_simp) _ (cT _ D0) ?_
  rintro v w5 ⟨rfl, b5⟩
  have D5 := bcat D0 b5 (Nat.le_refl _)
  have hS5 : IH w5 := by rw [hIH]; exact D5
  refine ⟨hS5, ?_⟩
  simp only [Act.put, List.setIfInBounds_toArray, List.set_cons_zero, List.set_cons_succ]
  refine take_held 3 (by assumption) rfl (by kernel_rfl) (by kernel_rfl) (by kernel_rfl) (fun _ _ _ h => h) (by kernel_rfl) (v := ?v20) ?y20 ?r20
  case y20 => (intro u hu; go_simp; try rfl)
  simp only [Act.put, List.setIfInBounds_toArray, List.set_cons_zero, List.set_cons_succ]
  refine take_held 4 (by assumption) rfl (by kernel_rfl) (by kernel_rfl) (by kernel_rfl) (fun _ _ _ h => h) (by kernel_rfl) (v := ?v21) ?y21 ?r21
  case y21 => (intro u hu; go_simp; try rfl)
  simp only [Act.put, List.setIfInBounds_toArray, List.set_cons_zero, List.set_cons_succ]
  refine take_held 5 (by assumption) rfl (by kernel_rfl) (by kernel_rfl) (by kernel_rfl) (fun _ _ _ h => h) (by kernel_rfl) (v := ?v22) ?y22 ?r22
  case y22 => (intro u hu; go_simp; try rfl)
  simp only [Act.put, List.setIfInBounds_toArray, List.set_cons_zero, List.set_cons_succ]
  refine take_held 6 (by assumption) rfl (by kernel_rfl) (by kernel_rfl) (by kernel_rfl) (fun _ _ _ h => h) (by kernel_rfl) (v := ?v23) ?y23 ?r23
  case y23 => (intro u hu; go_simp; try rfl)
  simp only [Act.put, List.setIfInBounds_toArray, List.set_cons_zero, List.set_cons_succ]
  refine take_held 7 (by assumption) rfl (by kernel_rfl) (by kernel_rfl) (by kernel_rfl) (fun _ _ _ h => h) (by kernel_rfl) (v := ?v24) ?y24 ?r24
  case y24 => (intro u hu; go_simp; try rfl)
  simp only [Act.put, List.setIfInBounds_toArray, List.set_cons_zero, List.set_cons_succ]
  refine take_held 8 (by assumption) rfl (by kernel_rfl) (by kernel_rfl) (by kernel_rfl) (fun _ _ _ h => h) (by kernel_rfl) (v := ?v25) ?y25 ?r25
  case y25 => (intro u hu; have zz0 := z0 u hu; go_simp; try rfl)
  simp only [Act.put, List.setIfInBounds_toArray, List.set_cons_zero, List.set_cons_succ]
  refine take_held 9 (by assumption) rfl (by kernel_rfl) (by kernel_rfl) (by kernel_rfl) (fun _ _ _ h => h) (by kernel_rfl) (v := .agg #[.int .i64 x, .int .i64 y]) ?y26 ?r26
  case y26 => (intro u hu; exact run_load_op 39 _ rfl ⟨w.heap.size, 0, none⟩ _ rfl (HX.out u hu) (aggCell u) infoCell2)
  simp only [Act.put, List.setIfInBounds_toArray, List.set_cons_zero, List.set_cons_succ]
  refine wpAnyH_ready (rs := [10]) (by kernel_rfl) (by simp) (AllReadyH.cons ((nth_eq _ 10).trans rfl) ?_ AllReadyH.nil)
  intro K' hK
  refine call_in hK (by kernel_rfl) 43 #[.pointer (some ⟨K.g, 0, none⟩), .agg #[.int .i64 x, .int .i64 y]] (by go_simp) _ (cO _ D5) ?_
  rintro v w6 ⟨rfl, b6⟩
  have D6 := bcat D5 b6 (Nat.le_refl _)
  have hS6 : IH w6 := by rw [hIH]; exact D6
  refine ⟨hS6, ?_⟩
  simp only [Act.put, List.setIfInBounds_toArray, List.set_cons_zero, List.set_cons_succ]
  refine take_held 11 (by assumption) rfl (by kernel_rfl) (by kernel_rfl) (by kernel_rfl) (fun _ _ _ h => h) (by kernel_rfl) (v := ?v27) ?y27 ?r27
  case y27 => (intro u hu; go_simp; try rfl)
  simp only [Act.put, List.setIfInBounds_toArray, List.set_cons_zero, List.set_cons_succ]
  refine take_held 12 (by assumption) rfl (by kernel_rfl) (by kernel_rfl) (by kernel_rfl) (fun _ _ _ h => h) (by kernel_rfl) (v := ?v28) ?y28 ?r28
  case y28 => (intro u hu; go_simp; try rfl)
  simp only [Act.put, List.setIfInBounds_toArray, List.set_cons_zero, List.set_cons_succ]
  refine take_held 13 (by assumption) rfl (by kernel_rfl) (by kernel_rfl) (by kernel_rfl) (fun _ _ _ h => h) (by kernel_rfl) (v := ?v29) ?y29 ?r29
  case y29 => (intro u hu; go_simp; try rfl)
  simp only [Act.put, List.setIfInBounds_toArray, List.set_cons_zero, List.set_cons_succ]
  refine done_held (by kernel_rfl) ?_ _
  have y3 := zl3 _ D6
  have yl := zli _ D6
  have e5 := (D6.block _ (lt_of_heap eB)).trans eB
  go_wp2_with (first
    | (refine wpList_load_row rfl 39 (.tmp 5) rfl w.heap.size rfl 39 #[.int .i64 x, .int .i64 y] (0, 0) _ e5 Try.underlying39 rfl infoCell2 ?_)
    | (go_at_call 17; refine (cH _ D6).mono ?_; rintro e w7 ⟨r7, rfl, rfl, b7⟩))
  exact bodyPost_ret (v := .tuple #[.int .i64 0, .int .i64 3]) (by simp [results, Try.results13, go_sem]) rfl ⟨_, rfl, rfl, bcat B (bcat D6 b7 (Nat.le_refl _)) (Nat.le_refl _)⟩
theorem own_less {w : World} {base : Nat} {a : Option Addr} {n cap : Nat} {bs : List Int} (h : w.ownsRow base 3 1 (.slice a (n + 1) cap) (n + 1) (rowL intL bs)) (hb : bs.length = n + 1) : w.ownsRow base 3 1 (.slice a n cap) n (rowL intL bs.dropLast) := by
  have hr : ∀ l : List Int, rowL intL l = l.map (Value.int .i64) := fun l => by induction l with
    | nil => rfl
    | cons x l ih => rw [show rowL intL (x :: l) = intL x ++ rowL intL l from rfl, ih]; rfl
  have e : rowL intL bs.dropLast = (rowL intL bs).take n := by
    rw [hr, hr, List.dropLast_eq_take, List.map_take, hb]
    rfl
  refine ⟨?_, ?_⟩
  · rw [e, List.length_take, h.1]; omega
  · rcases h.2 with ⟨q, q0⟩ | ⟨g, cap', cur, q, h1, h2, h3, h4, h5, h6⟩
    · cases q0
    · cases q
      refine Or.inr ⟨g, cap, cur, rfl, h1, h2, by omega, h4, h5, ?_⟩
      rw [e, ← h6, List.take_take]
      congr 1
      omega
set_option maxRecDepth 100000 in
set_option maxHeartbeats 4000000 in
theorem lift_ok {K : Sk} {c : Conf} {us : List Int} {ps : List Pile} {ls : List Int} {w : World} (h : StAt K c us ps ls w) (r x y : Int) (ht : thereB ls r = true) (ho : openU c.W c.H us (x, y) = true) (hl : loadP ls r = 0) {k : Nat} {p : Pile} (hk : number c.W c.H (x, y) = (k : Nat)) (hp : ps[k]? = some p) (hz : p.2.2 ≠ []) :
    Calls Try.prog 13 #[.pointer (some ⟨K.s, 0, none⟩), .int .i64 r, .agg #[.int .i64 x, .int .i64 y]] w fun e w' => ∃ v', e = .returned (.tuple #[.int .i64 (topP p.2.2), .int .i64 0]) ∧ StAt K c us (ps.set k (p.1, v', p.2.2.dropLast)) (ls.set r.toNat (topP p.2.2)) w' ∧ Turn K ps (ps.set k (p.1, v', p.2.2.dropLast)) w w' := by
  obtain ⟨w0, hw0⟩ : ∃ w0, w0 = w.alloc (.cells #[.int .i64 x, .int .i64 y] 39) := ⟨_, rfl⟩
  have B : Below w.heap.size w w0 := by rw [hw0]; exact below_new (Below.refl _ _) _
  have eB : w0.heap[w.heap.size]? = some (.cells #[.int .i64 x, .int .i64 y] 39 (0, 0)) := by rw [hw0]; exact heap_alloc_new w _
  have S0 := h.go B
  have cT := fun u (b : Below w0.heap.size w0 u) => there_any (S0.go b) r
  have cO := fun u (b : Below w0.heap.size w0 u) => ret_of (open_any K.g K.u c.W c.H us K.vp x y u (S0.grid.go b))
  have Sc0 := S0.c0
  have ht2 := ht
  unfold thereB at ht2
  simp only [Bool.and_eq_true, decide_eq_true_eq] at ht2
  obtain ⟨i, rfl⟩ : ∃ i : Nat, r = i := ⟨r.toNat, by omega⟩
  have hil : i < ls.length := by omega
  have zl3 := fun u (b : Below w0.heap.size w0 u) => (S0.go b).c3
  have zli := fun u (b : Below w0.heap.size w0 u) => (S0.go b).lc hil
  have hm := h.few
  have hlt := (List.getElem?_eq_some_iff.1 hp).1
  have hN := h.lens
  have cH := fun u (b : Below w0.heap.size w0 u) => height_yes (S0.go b) x y ho hk hp
  have cP := fun u (b : Below w0.heap.size w0 u) => pile_any (S0.go b) x y hk hlt
  have cQ := fun u (b : Below w0.heap.size w0 u) => top_yes (S0.go b) x y ho hk hp
  obtain ⟨n, hn⟩ : ∃ n, p.2.2.length = n + 1 := ⟨p.2.2.length - 1, by have : p.2.2.length ≠ 0 := fun e => hz (List.eq_nil_of_length_eq_zero e); omega⟩
  have zv := fun u (b : Below w0.heap.size w0 u) => (S0.go b).pv hp
  have hsm := h.small _ _ hp
  obtain ⟨a, cap, ev, hcap, hmx, _⟩ := h.form hp
  rw [hn] at cH hsm ev hcap
  rw [ev] at zv
  have HS0 : Hid (StAt K c us ps ls w0) := S0
  have HTB : Hid (Turn K ps ps w w0) := Turn.of_below B
  have HPut : Hid (∀ u, StAt K c us ps ls u → StAt K c us (ps.set k (p.1, .slice a n cap, p.2.2.dropLast)) ls (u.setCell ⟨K.pb, k * 3 + 2, none⟩ (.slice a n cap)) ∧ Turn K ps (ps.set k (p.1, .slice a n cap, p.2.2.dropLast)) u (u.setCell ⟨K.pb, k * 3 + 2, none⟩ (.slice a n cap))) := fun u su => by
    have o := su.own _ _ hp
    rw [ev, hn] at o
    refine su.put hp (by rw [ev]; exact World.grownBy.refl _ _) ?_ (Or.inl (by rw [ev]; cases a <;> rfl)) (by rw [List.length_dropLast, hn]; omega)
    rw [List.length_dropLast, hn]
    exact own_less o hn
  rw [ht] at cT
  rw [ho] at cO
  unfold loadP at hl
  rw [ht] at hl
  simp only [Int.toNat_natCast, if_true] at hl
  rw [hl] at zli
  simp only [Int.toNat_natCast]
  generalize topP p.2.2 = tp at *
  have HM : Hid (ls.length = ls.length) := rfl
  generalize hML : ls.length = M at *
  have HML : Hid (ls.length = M) := hML
  generalize hNN : ps.length = N at *
  clear S0 hl ht ht2 hML hNN HM hz h ev
  go_enter Try.func13, Try.ntmps13
  go_wp2
  rw [← hw0]
  obtain ⟨IH, hIH⟩ : ∃ I : World → Prop, I = Below w0.heap.size w0 := ⟨_, rfl⟩
  have kI : ∀ u, IH u → Below w0.heap.size w0 u := fun u hu => by rw [hIH] at hu; exact hu
  have hS : IH w0.drew := by rw [hIH]; exact (Below.refl _ _).drew
  have D0 : Below w0.heap.size w0 w0.drew := (Below.refl _ _).drew
  have HX : Hid (∀ u, IH u → ∀ j z, #[Value.int .i64 x, .int .i64 y][j]? = some z → u.cell? ((⟨w.heap.size, 0, none⟩ : Addr).add j) = some z) := fun u hu => row_below eB (kI u hu)
  have z0 : ∀ u, IH u → u.cell? ⟨K.s, 0, none⟩ = some (.pointer (some ⟨K.g, 0, none⟩)) := fun u hu => cell_below Sc0 (kI u hu)
  refine start_held (S := IH) 14 rfl (by kernel_rfl) (hS) ?_
  simp only [Array.replicate_succ, Array.replicate_zero, List.push_toArray, List.nil_append, List.cons_append]
  refine take_held 0 (by assumption) rfl (by kernel_rfl) (by kernel_rfl) (by kernel_rfl) (fun _ _ _ h => h) (by kernel_rfl) (v := ?v30) ?y30 ?r30
  case y30 => (intro u hu; go_simp; try rfl)
  simp only [Act.put, List.setIfInBounds_toArray, List.set_cons_zero, List.set_cons_succ]
  refine take_held 1 (by assumption) rfl (by kernel_rfl) (by kernel_rfl) (by kernel_rfl) (fun _ _ _ h => h) (by kernel_rfl) (v := ?v31) ?y31 ?r31
  case y31 => (intro u hu; go_simp; try rfl)
  simp only [Act.put, List.setIfInBounds_toArray, List.set_cons_zero, List.set_cons_succ]
  refine wpAnyH_ready (rs := [2]) (by kernel_rfl) (by simp) (AllReadyH.cons ((nth_eq _ 2).trans rfl) ?_ AllReadyH.nil)
  intro K' hK
  refine call_in hK (by kernel_rfl) 42 #[.pointer (some ⟨K.s, 0, none⟩), .int .i64 (i : Int)] (by go_simp) _ (cT _ D0) ?_
  rintro v w5 ⟨rfl, b5⟩
  have D5 := bcat D0 b5 (Nat.le_refl _)
  have hS5 : IH w5 := by rw [hIH]; exact D5
  refine ⟨hS5, ?_⟩
  simp only [Act.put, List.setIfInBounds_toArray, List.set_cons_zero, List.set_cons_succ]
  refine take_held 3 (by assumption) rfl (by kernel_rfl) (by kernel_rfl) (by kernel_rfl) (fun _ _ _ h => h) (by kernel_rfl) (v := ?v32) ?y32 ?r32
  case y32 => (intro u hu; go_simp; try rfl)
  simp only [Act.put, List.setIfInBounds_toArray, List.set_cons_zero, List.set_cons_succ]
  refine take_held 4 (by assumption) rfl (by kernel_rfl) (by kernel_rfl) (by kernel_rfl) (fun _ _ _ h => h) (by kernel_rfl) (v := ?v33) ?y33 ?r33
  case y33 => (intro u hu; go_simp; try rfl)
  simp only [Act.put, List.setIfInBounds_toArray, List.set_cons_zero, List.set_cons_succ]
  refine take_held 5 (by assumption) rfl (by kernel_rfl) (by kernel_rfl) (by kernel_rfl) (fun _ _ _ h => h) (by kernel_rfl) (v := ?v34) ?y34 ?r34
  case y34 => (intro u hu; go_simp; try rfl)
  simp only [Act.put, List.setIfInBounds_toArray, List.set_cons_zero, List.set_cons_succ]
  refine take_held 6 (by assumption) rfl (by kernel_rfl) (by kernel_rfl) (by kernel_rfl) (fun _ _ _ h => h) (by kernel_rfl) (v := ?v35) ?y35 ?r35
  case y35 => (intro u hu; go_simp; try rfl)
  simp only [Act.put, List.setIfInBounds_toArray, List.set_cons_zero, List.set_cons_succ]
  refine take_held 7 (by assumption) rfl (by kernel_rfl) (by kernel_rfl) (by kernel_rfl) (fun _ _ _ h => h) (by kernel_rfl) (v := ?v36) ?y36 ?r36
  case y36 => (intro u hu; go_simp; try rfl)
  simp only [Act.put, List.setIfInBounds_toArray, List.set_cons_zero, List.set_cons_succ]
  refine take_held 8 (by assumption) rfl (by kernel_rfl) (by kernel_rfl) (by kernel_rfl) (fun _ _ _ h => h) (by kernel_rfl) (v := ?v37) ?y37 ?r37
  case y37 => (intro u hu; have zz0 := z0 u hu; go_simp; try rfl)
  simp only [Act.put, List.setIfInBounds_toArray, List.set_cons_zero, List.set_cons_succ]
  refine take_held 9 (by assumption) rfl (by kernel_rfl) (by kernel_rfl) (by kernel_rfl) (fun _ _ _ h => h) (by kernel_rfl) (v := .agg #[.int .i64 x, .int .i64 y]) ?y38 ?r38
  case y38 => (intro u hu; exact run_load_op 39 _ rfl ⟨w.heap.size, 0, none⟩ _ rfl (HX.out u hu) (aggCell u) infoCell2)
  simp only [Act.put, List.setIfInBounds_toArray, List.set_cons_zero, List.set_cons_succ]
  refine wpAnyH_ready (rs := [10]) (by kernel_rfl) (by simp) (AllReadyH.cons ((nth_eq _ 10).trans rfl) ?_ AllReadyH.nil)
  intro K' hK
  refine call_in hK (by kernel_rfl) 43 #[.pointer (some ⟨K.g, 0, none⟩), .agg #[.int .i64 x, .int .i64 y]] (by go_simp) _ (cO _ D5) ?_
  rintro v w6 ⟨rfl, b6⟩
  have D6 := bcat D5 b6 (Nat.le_refl _)
  have hS6 : IH w6 := by rw [hIH]; exact D6
  refine ⟨hS6, ?_⟩
  simp only [Act.put, List.setIfInBounds_toArray, List.set_cons_zero, List.set_cons_succ]
  refine take_held 11 (by assumption) rfl (by kernel_rfl) (by kernel_rfl) (by kernel_rfl) (fun _ _ _ h => h) (by kernel_rfl) (v := ?v39) ?y39 ?r39
  case y39 => (intro u hu; go_simp; try rfl)
  simp only [Act.put, List.setIfInBounds_toArray, List.set_cons_zero, List.set_cons_succ]
  refine take_held 12 (by assumption) rfl (by kernel_rfl) (by kernel_rfl) (by kernel_rfl) (fun _ _ _ h => h) (by kernel_rfl) (v := ?v40) ?y40 ?r40
  case y40 => (intro u hu; go_simp; try rfl)
  simp only [Act.put, List.setIfInBounds_toArray, List.set_cons_zero, List.set_cons_succ]
  refine take_held 13 (by assumption) rfl (by kernel_rfl) (by kernel_rfl) (by kernel_rfl) (fun _ _ _ h => h) (by kernel_rfl) (v := ?v41) ?y41 ?r41
  case y41 => (intro u hu; go_simp; try rfl)
  simp only [Act.put, List.setIfInBounds_toArray, List.set_cons_zero, List.set_cons_succ]
  refine done_held (by kernel_rfl) ?_ _
  have y3 := zl3 _ D6
  have yl := zli _ D6
  have e5 := (D6.block _ (lt_of_heap eB)).trans eB
  go_wp2_with (first
    | (refine wpList_load_row rfl 39 (.tmp 5) rfl w.heap.size rfl 39 #[.int .i64 x, .int .i64 y] (0, 0) _ e5 Try.underlying39 rfl infoCell2 ?_)
    | (go_at_call 17; refine (cH _ D6).mono ?_; rintro e w7 ⟨r7, rfl, rfl, b7⟩))
  have E7 := bcat D6 b7 (Nat.le_refl _)
  have hS7 : IH w7.drew := by rw [hIH]; exact bcat E7 (Below.refl _ _).drew (Nat.le_refl _)
  have E8 := kI _ hS7
  refine start_held (S := IH) 8 rfl (by kernel_rfl) (hS7) ?_
  simp only [Array.replicate_succ, Array.replicate_zero, List.push_toArray, List.nil_append, List.cons_append]
  refine take_held 0 (by assumption) rfl (by kernel_rfl) (by kernel_rfl) (by kernel_rfl) (fun _ _ _ h => h) (by kernel_rfl) (v := ?v42) ?y42 ?r42
  case y42 => (intro u hu; go_simp; try rfl)
  simp only [Act.put, List.setIfInBounds_toArray, List.set_cons_zero, List.set_cons_succ]
  refine take_held 1 (by assumption) rfl (by kernel_rfl) (by kernel_rfl) (by kernel_rfl) (fun _ _ _ h => h) (by kernel_rfl) (v := .agg #[.int .i64 x, .int .i64 y]) ?y43 ?r43
  case y43 => (intro u hu; exact run_load_op 39 _ rfl ⟨w.heap.size, 0, none⟩ _ rfl (HX.out u hu) (aggCell u) infoCell2)
  simp only [Act.put, List.setIfInBounds_toArray, List.set_cons_zero, List.set_cons_succ]
  refine take_held 3 (by assumption) rfl (by kernel_rfl) (by kernel_rfl) (by kernel_rfl) (fun _ _ _ h => h) (by kernel_rfl) (v := ?v44) ?y44 ?r44
  case y44 => (intro u hu; go_simp; try rfl)
  simp only [Act.put, List.setIfInBounds_toArray, List.set_cons_zero, List.set_cons_succ]
  refine take_held 4 (by assumption) rfl (by kernel_rfl) (by kernel_rfl) (by kernel_rfl) (fun _ _ _ h => h) (by kernel_rfl) (v := .agg #[.int .i64 x, .int .i64 y]) ?y45 ?r45
  case y45 => (intro u hu; exact run_load_op 39 _ rfl ⟨w.heap.size, 0, none⟩ _ rfl (HX.out u hu) (aggCell u) infoCell2)
  simp only [Act.put, List.setIfInBounds_toArray, List.set_cons_zero, List.set_cons_succ]
  refine wpAnyH_ready (rs := [2]) (by kernel_rfl) (by simp) (AllReadyH.cons ((nth_eq _ 2).trans rfl) ?_ AllReadyH.nil)
  intro K' hK
  refine call_in hK (by kernel_rfl) 31 #[.pointer (some ⟨K.s, 0, none⟩), .agg #[.int .i64 x, .int .i64 y]] (by go_simp) _ (cP _ E8) ?_
  rintro v w8 ⟨rfl, b8⟩
  have D8 := bcat E8 b8 (Nat.le_refl _)
  have hS8 : IH w8 := by rw [hIH]; exact D8
  refine ⟨hS8, ?_⟩
  simp only [Act.put, List.setIfInBounds_toArray, List.set_cons_zero, List.set_cons_succ]
  refine wpAnyH_ready (rs := [5]) (by kernel_rfl) (by simp) (AllReadyH.cons ((nth_eq _ 5).trans rfl) ?_ AllReadyH.nil)
  intro K' hK
  refine call_in hK (by kernel_rfl) 19 #[.pointer (some ⟨K.s, 0, none⟩), .agg #[.int .i64 x, .int .i64 y]] (by go_simp) _ (cQ _ D8) ?_
  rintro v w9 ⟨rfl, b9⟩
  have D9 := bcat D8 b9 (Nat.le_refl _)
  have hS9 : IH w9 := by rw [hIH]; exact D9
  refine ⟨hS9, ?_⟩
  simp only [Act.put, List.setIfInBounds_toArray, List.set_cons_zero, List.set_cons_succ]
  refine take_held 6 (by assumption) rfl (by kernel_rfl) (by kernel_rfl) (by kernel_rfl) (fun _ _ _ h => h) (by kernel_rfl) (v := ?v46) ?y46 ?r46
  case y46 => (intro u hu; go_simp; try rfl)
  simp only [Act.put, List.setIfInBounds_toArray, List.set_cons_zero, List.set_cons_succ]
  refine take_held 7 (by assumption) rfl (by kernel_rfl) (by kernel_rfl) (by kernel_rfl) (fun _ _ _ h => h) (by kernel_rfl) (v := ?v47) ?y47 ?r47
  case y47 => (intro u hu; go_simp; try rfl)
  simp only [Act.put, List.setIfInBounds_toArray, List.set_cons_zero, List.set_cons_succ]
  refine done_held (by kernel_rfl) ?_ _
  go_wp2
  have S10 := HS0.out.go D9
  have vv := zv _ D9
  have fv := frozen_of S10.pil (k * 3 + 2)
  have HW : Hid (∃ wf, wf = (w9.drew).setCell ⟨K.pb, k * 3 + 2, none⟩ (.slice a n cap)) := ⟨_, rfl⟩
  obtain ⟨wf, hwf⟩ := HW.out
  have S11 := S10.go (Below.refl w9.heap.size w9).drew
  obtain ⟨S12, T12⟩ := HPut.out _ S11
  rw [← hwf] at S12 T12
  have T9 : Turn K ps ps w w9.drew := (HTB.out.trans (Turn.of_below D9)).trans (Turn.of_below (Below.refl _ _).drew)
  have T13 := T9.trans T12
  have vd : w9.drew.cell? ⟨K.pb, k * 3 + 2, none⟩ = some (.slice a (n + 1) cap) := vv
  have fd : w9.drew.frozen? ⟨K.pb, k * 3 + 2, none⟩ = false := fv
  have HST : Hid (((w9.drew).setCell ⟨K.pb, k * 3 + 2, none⟩ (.slice a n cap)) = wf) := hwf.symm
  have HF : Hid (StAt K c us (ps.set k (p.1, .slice a n cap, p.2.2.dropLast)) ls wf) := S12
  have HF2 : Hid (Turn K ps (ps.set k (p.1, .slice a n cap, p.2.2.dropLast)) w wf) := T13
  clear S10 S11 S12 T12 T9 T13 hwf HPut
  have HWN : Hid (IntKind.i64.wrap (n : Int) = n) := by show IntKind.i64.wrap (n : Int) = n; rw [IntKind.wrap_i64]; omega
  have hST : (fun _ : World => True) w9.drew := trivial
  refine start_held (S := (fun _ => True)) 15 rfl (by kernel_rfl) (trivial) ?_
  simp only [Array.replicate_succ, Array.replicate_zero, List.push_toArray, List.nil_append, List.cons_append]
  refine take_held 0 (by assumption) rfl (by kernel_rfl) (by kernel_rfl) (by kernel_rfl) (fun _ _ _ h => h) (by kernel_rfl) (v := ?v48) ?y48 ?r48
  case y48 => (intro u hu; go_simp; try rfl)
  simp only [Act.put, List.setIfInBounds_toArray, List.set_cons_zero, List.set_cons_succ]
  refine take_held 1 (by assumption) rfl (by kernel_rfl) (by kernel_rfl) (by kernel_rfl) (fun _ _ _ h => h) (by kernel_rfl) (v := ?v49) ?y49 ?r49
  case y49 => (intro u hu; go_simp; try rfl)
  simp only [Act.put, List.setIfInBounds_toArray, List.set_cons_zero, List.set_cons_succ]
  refine take_held 2 (by assumption) rfl (by kernel_rfl) (by kernel_rfl) (by kernel_rfl) (fun _ _ _ h => h) (by kernel_rfl) (v := ?v50) ?y50 ?r50
  case y50 => (intro u hu; go_simp; try rfl)
  simp only [Act.put, List.setIfInBounds_toArray, List.set_cons_zero, List.set_cons_succ]
  refine take_held 3 (by assumption) rfl (by kernel_rfl) (by kernel_rfl) (by kernel_rfl) (fun _ _ _ h => h) (by kernel_rfl) (v := ?v51) ?y51 ?r51
  case y51 => (intro u hu; go_simp; try rfl)
  simp only [Act.put, List.setIfInBounds_toArray, List.set_cons_zero, List.set_cons_succ]
  refine take_held 5 (by assumption) rfl (by kernel_rfl) (by kernel_rfl) (by kernel_rfl) (fun _ _ _ h => h) (by kernel_rfl) (v := ?v52) ?y52 ?r52
  case y52 => (intro u hu; go_simp; try rfl)
  simp only [Act.put, List.setIfInBounds_toArray, List.set_cons_zero, List.set_cons_succ]
  refine take_held 6 (by assumption) rfl (by kernel_rfl) (by kernel_rfl) (by kernel_rfl) (fun _ _ _ h => h) (by kernel_rfl) (v := ?v53) ?y53 ?r53
  case y53 => (intro u hu; go_simp; try rfl)
  simp only [Act.put, List.setIfInBounds_toArray, List.set_cons_zero, List.set_cons_succ]
  refine take_held 7 (by assumption) rfl (by kernel_rfl) (by kernel_rfl) (by kernel_rfl) (fun _ _ _ h => h) (by kernel_rfl) (v := ?v54) ?y54 ?r54
  case y54 => (intro u hu; go_simp; try rfl)
  simp only [Act.put, List.setIfInBounds_toArray, List.set_cons_zero, List.set_cons_succ]
  refine wpAnyH_ready (rs := [4, 8]) (by kernel_rfl) (by simp) (AllReadyH.cons ((nth_eq _ 4).trans rfl) ?_ (AllReadyH.cons ((nth_eq _ 8).trans rfl) ?_ AllReadyH.nil))
  · intro K' hK
    refine value_in hK (by kernel_rfl) (.slice a (n + 1) cap) (w9.drew) (by go_simp) (trivial) ?_
    simp only [Act.put, List.setIfInBounds_toArray, List.set_cons_zero, List.set_cons_succ]
    refine wpAnyH_ready (rs := [8]) (by kernel_rfl) (by simp) (AllReadyH.cons ((nth_eq _ 8).trans rfl) ?_ AllReadyH.nil)
    intro K' hK
    refine value_in hK (by kernel_rfl) (.slice a (n + 1) cap) (w9.drew) (by go_simp) (trivial) ?_
    simp only [Act.put, List.setIfInBounds_toArray, List.set_cons_zero, List.set_cons_succ]
    refine take_held 9 (by assumption) rfl (by kernel_rfl) (by kernel_rfl) (by kernel_rfl) (fun _ _ _ h => h) (by kernel_rfl) (v := ?v55) ?y55 ?r55
    case y55 => (intro u hu; go_simp; try rfl)
    simp only [Act.put, List.setIfInBounds_toArray, List.set_cons_zero, List.set_cons_succ]
    refine take_held 10 (by assumption) rfl (by kernel_rfl) (by kernel_rfl) (by kernel_rfl) (fun _ _ _ h => h) (by kernel_rfl) (v := ?v56) ?y56 ?r56
    case y56 => (intro u hu; go_simp; try rfl)
    simp only [Act.put, List.setIfInBounds_toArray, List.set_cons_zero, List.set_cons_succ]
    refine take_held 11 (by assumption) rfl (by kernel_rfl) (by kernel_rfl) (by kernel_rfl) (fun _ _ _ h => h) (by kernel_rfl) (v := .slice a n cap) ?y57 ?r57
    case y57 => (intro u hu; go_simp; rw [HWN.out, if_pos (And.intro (by omega) (by omega))]; simp)
    simp only [Act.put, List.setIfInBounds_toArray, List.set_cons_zero, List.set_cons_succ]
    refine take_held 12 (by assumption) rfl (by kernel_rfl) (by kernel_rfl) (by kernel_rfl) (fun _ _ _ h => h) (by kernel_rfl) (v := ?v58) ?y58 ?r58
    case y58 => (intro u hu; go_simp; try rfl)
    simp only [Act.put, List.setIfInBounds_toArray, List.set_cons_zero, List.set_cons_succ]
    refine take_held 13 (by assumption) rfl (by kernel_rfl) (by kernel_rfl) (by kernel_rfl) (fun _ _ _ h => h) (by kernel_rfl) (v := ?v59) ?y59 ?r59
    case y59 => (intro u hu; go_simp; try rfl)
    simp only [Act.put, List.setIfInBounds_toArray, List.set_cons_zero, List.set_cons_succ]
    refine wpAnyH_ready (rs := [14]) (by kernel_rfl) (by simp) (AllReadyH.cons ((nth_eq _ 14).trans rfl) ?_ AllReadyH.nil)
    intro K' hK
    refine skip_in hK (by kernel_rfl) ((w9.drew).setCell ⟨K.pb, k * 3 + 2, none⟩ (.slice a n cap)) (by go_simp) (trivial) ?_
    simp only [Act.put, List.setIfInBounds_toArray, List.set_cons_zero, List.set_cons_succ]
    refine done_held (by kernel_rfl) ?_ _
    rw [HST.out]
    have x3 := HF.out.c3
    have xl := HF.out.lc (r := i) (by rw [HML.out]; exact hil)
    have fl := frozen_of HF.out.lds i
    obtain ⟨S20, T20⟩ := HF.out.load i tp
    have T21 := HF2.out.trans T20
    rw [HML.out] at x3
    clear HF HF2
    go_wp2
    exact bodyPost_ret (v := .tuple #[.int .i64 tp, .int .i64 0]) (by simp [results, Try.results13, go_sem]) rfl ⟨rfl, .slice a n cap, S20, T21⟩
  · intro K' hK
    refine value_in hK (by kernel_rfl) (.slice a (n + 1) cap) (w9.drew) (by go_simp) (trivial) ?_
    simp only [Act.put, List.setIfInBounds_toArray, List.set_cons_zero, List.set_cons_succ]
    refine take_held 9 (by assumption) rfl (by kernel_rfl) (by kernel_rfl) (by kernel_rfl) (fun _ _ _ h => h) (by kernel_rfl) (v := ?v60) ?y60 ?r60
    case y60 => (intro u hu; go_simp; try rfl)
    simp only [Act.put, List.setIfInBounds_toArray, List.set_cons_zero, List.set_cons_succ]
    refine take_held 10 (by assumption) rfl (by kernel_rfl) (by kernel_rfl) (by kernel_rfl) (fun _ _ _ h => h) (by kernel_rfl) (v := ?v61) ?y61 ?r61
    case y61 => (intro u hu; go_simp; try rfl)
    simp only [Act.put, List.setIfInBounds_toArray, List.set_cons_zero, List.set_cons_succ]
    refine wpAnyH_ready (rs := [4]) (by kernel_rfl) (by simp) (AllReadyH.cons ((nth_eq _ 4).trans rfl) ?_ AllReadyH.nil)
    intro K' hK
    refine value_in hK (by kernel_rfl) (.slice a (n + 1) cap) (w9.drew) (by go_simp) (trivial) ?_
    simp only [Act.put, List.setIfInBounds_toArray, List.set_cons_zero, List.set_cons_succ]
    refine take_held 11 (by assumption) rfl (by kernel_rfl) (by kernel_rfl) (by kernel_rfl) (fun _ _ _ h => h) (by kernel_rfl) (v := .slice a n cap) ?y62 ?r62
    case y62 => (intro u hu; go_simp; rw [HWN.out, if_pos (And.intro (by omega) (by omega))]; simp)
    simp only [Act.put, List.setIfInBounds_toArray, List.set_cons_zero, List.set_cons_succ]
    refine take_held 12 (by assumption) rfl (by kernel_rfl) (by kernel_rfl) (by kernel_rfl) (fun _ _ _ h => h) (by kernel_rfl) (v := ?v63) ?y63 ?r63
    case y63 => (intro u hu; go_simp; try rfl)
    simp only [Act.put, List.setIfInBounds_toArray, List.set_cons_zero, List.set_cons_succ]
    refine take_held 13 (by assumption) rfl (by kernel_rfl) (by kernel_rfl) (by kernel_rfl) (fun _ _ _ h => h) (by kernel_rfl) (v := ?v64) ?y64 ?r64
    case y64 => (intro u hu; go_simp; try rfl)
    simp only [Act.put, List.setIfInBounds_toArray, List.set_cons_zero, List.set_cons_succ]
    refine wpAnyH_ready (rs := [14]) (by kernel_rfl) (by simp) (AllReadyH.cons ((nth_eq _ 14).trans rfl) ?_ AllReadyH.nil)
    intro K' hK
    refine skip_in hK (by kernel_rfl) ((w9.drew).setCell ⟨K.pb, k * 3 + 2, none⟩ (.slice a n cap)) (by go_simp) (trivial) ?_
    simp only [Act.put, List.setIfInBounds_toArray, List.set_cons_zero, List.set_cons_succ]
    refine done_held (by kernel_rfl) ?_ _
    rw [HST.out]
    have x3 := HF.out.c3
    have xl := HF.out.lc (r := i) (by rw [HML.out]; exact hil)
    have fl := frozen_of HF.out.lds i
    obtain ⟨S20, T20⟩ := HF.out.load i tp
    have T21 := HF2.out.trans T20
    rw [HML.out] at x3
    clear HF HF2
    go_wp2
    exact bodyPost_ret (v := .tuple #[.int .i64 tp, .int .i64 0]) (by simp [results, Try.results13, go_sem]) rfl ⟨rfl, .slice a n cap, S20, T21⟩
end Go.Proofs.Ytabbdclpjghdbaa.Stk
namespace Go.Proofs.Ytabbdclpjghdbaa.Stk
set_option linter.unusedVariables false
set_option linter.unusedSimpArgs false
open Go Go.RowKit Go.Shelf Go.Proofs Go.Proofs.Ytabbdclpjghdbaa.Grid
attribute [local go_sem] Oper.semAt_some

set_option maxRecDepth 100000 in
set_option maxHeartbeats 4000000 in
theorem drop_there {K : Sk} {c : Conf} {us : List Int} {ps : List Pile} {ls : List Int} {w : World} (h : StAt K c us ps ls w) (r x y : Int) (ht : thereB ls r = false) : Calls Try.prog 15 #[.pointer (some ⟨K.s, 0, none⟩), .int .i64 r, .agg #[.int .i64 x, .int .i64 y]] w fun e w' => ∃ v, e = .returned v ∧ v = .int .i64 1 ∧ Below w.heap.size w w' := by
  obtain ⟨w0, hw0⟩ : ∃ w0, w0 = w.alloc (.cells #[.int .i64 x, .int .i64 y] 39) := ⟨_, rfl⟩
  have B : Below w.heap.size w w0 := by rw [hw0]; exact below_new (Below.refl _ _) _
  have eB : w0.heap[w.heap.size]? = some (.cells #[.int .i64 x, .int .i64 y] 39 (0, 0)) := by rw [hw0]; exact heap_alloc_new w _
  have S0 := h.go B
  have cT := fun u (b : Below w0.heap.size w0 u) => there_any (S0.go b) r
  have cO := fun u (b : Below w0.heap.size w0 u) => ret_of (open_any K.g K.u c.W c.H us K.vp x y u (S0.grid.go b))
  have Sc0 := S0.c0
  rw [ht] at cT
  clear h S0
  go_enter Try.func15, Try.ntmps15
  go_wp2
  rw [← hw0]
  obtain ⟨IH, hIH⟩ : ∃ I : World → Prop, I = Below w0.heap.size w0 := ⟨_, rfl⟩
  have kI : ∀ u, IH u → Below w0.heap.size w0 u := fun u hu => by rw [hIH] at hu; exact hu
  have hS : IH w0.drew := by rw [hIH]; exact (Below.refl _ _).drew
  have D0 : Below w0.heap.size w0 w0.drew := (Below.refl _ _).drew
  have HX : Hid (∀ u, IH u → ∀ j z, #[Value.int .i64 x, .int .i64 y][j]? = some z → u.cell? ((⟨w.heap.size, 0, none⟩ : Addr).add j) = some z) := fun u hu => row_below eB (kI u hu)
  have z0 : ∀ u, IH u → u.cell? ⟨K.s, 0, none⟩ = some (.pointer (some ⟨K.g, 0, none⟩)) := fun u hu => cell_below Sc0 (kI u hu)
  refine start_held (S := IH) 14 rfl (by kernel_rfl) (hS) ?_
  simp only [Array.replicate_succ, Array.replicate_zero, List.push_toArray, List.nil_append, List.cons_append]
  refine take_held 0 (by assumption) rfl (by kernel_rfl) (by kernel_rfl) (by kernel_rfl) (fun _ _ _ h => h) (by kernel_rfl) (v := ?v0) ?y0 ?r0
  case y0 => (intro u hu; go_simp; try rfl)
  simp only [Act.put, List.setIfInBounds_toArray, List.set_cons_zero, List.set_cons_succ]
  refine take_held 1 (by assumption) rfl (by kernel_rfl) (by kernel_rfl) (by kernel_rfl) (fun _ _ _ h => h) (by kernel_rfl) (v := ?v1) ?y1 ?r1
  case y1 => (intro u hu; go_simp; try rfl)
  simp only [Act.put, List.setIfInBounds_toArray, List.set_cons_zero, List.set_cons_succ]
  refine wpAnyH_ready (rs := [2]) (by kernel_rfl) (by simp) (AllReadyH.cons ((nth_eq _ 2).trans rfl) ?_ AllReadyH.nil)
  intro K' hK
  refine call_in hK (by kernel_rfl) 42 #[.pointer (some ⟨K.s, 0, none⟩), .int .i64 r] (by go_simp) _ (cT _ D0) ?_
  rintro v w5 ⟨rfl, b5⟩
  have D5 := bcat D0 b5 (Nat.le_refl _)
  have hS5 : IH w5 := by rw [hIH]; exact D5
  refine ⟨hS5, ?_⟩
  simp only [Act.put, List.setIfInBounds_toArray, List.set_cons_zero, List.set_cons_succ]
  refine take_held 3 (by assumption) rfl (by kernel_rfl) (by kernel_rfl) (by kernel_rfl) (fun _ _ _ h => h) (by kernel_rfl) (v := ?v2) ?y2 ?r2
  case y2 => (intro u hu; go_simp; try rfl)
  simp only [Act.put, List.setIfInBounds_toArray, List.set_cons_zero, List.set_cons_succ]
  refine take_held 4 (by assumption) rfl (by kernel_rfl) (by kernel_rfl) (by kernel_rfl) (fun _ _ _ h => h) (by kernel_rfl) (v := ?v3) ?y3 ?r3
  case y3 => (intro u hu; go_simp; try rfl)
  simp only [Act.put, List.setIfInBounds_toArray, List.set_cons_zero, List.set_cons_succ]
  refine skip_held 5 (by assumption) rfl (by kernel_rfl) (by kernel_rfl) (by kernel_rfl) (fun _ _ _ h => h) (by kernel_rfl) ?_
  simp only [Act.put, List.setIfInBounds_toArray, List.set_cons_zero, List.set_cons_succ]
  refine skip_held 6 (by assumption) rfl (by kernel_rfl) (by kernel_rfl) (by kernel_rfl) (fun _ _ _ h => h) (by kernel_rfl) ?_
  simp only [Act.put, List.setIfInBounds_toArray, List.set_cons_zero, List.set_cons_succ]
  refine skip_held 7 (by assumption) rfl (by kernel_rfl) (by kernel_rfl) (by kernel_rfl) (fun _ _ _ h => h) (by kernel_rfl) ?_
  simp only [Act.put, List.setIfInBounds_toArray, List.set_cons_zero, List.set_cons_succ]
  refine skip_held 8 (by assumption) rfl (by kernel_rfl) (by kernel_rfl) (by kernel_rfl) (fun _ _ _ h => h) (by kernel_rfl) ?_
  simp only [Act.put, List.setIfInBounds_toArray, List.set_cons_zero, List.set_cons_succ]
  refine skip_held 9 (by assumption) rfl (by kernel_rfl) (by kernel_rfl) (by kernel_rfl) (fun _ _ _ h => h) (by kernel_rfl) ?_
  simp only [Act.put, List.setIfInBounds_toArray, List.set_cons_zero, List.set_cons_succ]
  refine skip_held 10 (by assumption) rfl (by kernel_rfl) (by kernel_rfl) (by kernel_rfl) (fun _ _ _ h => h) (by kernel_rfl) ?_
  simp only [Act.put, List.setIfInBounds_toArray, List.set_cons_zero, List.set_cons_succ]
  refine skip_held 11 (by assumption) rfl (by kernel_rfl) (by kernel_rfl) (by kernel_rfl) (fun _ _ _ h => h) (by kernel_rfl) ?_
  simp only [Act.put, List.setIfInBounds_toArray, List.set_cons_zero, List.set_cons_succ]
  refine take_held 12 (by assumption) rfl (by kernel_rfl) (by kernel_rfl) (by kernel_rfl) (fun _ _ _ h => h) (by kernel_rfl) (v := ?v4) ?y4 ?r4
  case y4 => (intro u hu; go_simp; try rfl)
  simp only [Act.put, List.setIfInBounds_toArray, List.set_cons_zero, List.set_cons_succ]
  refine take_held 13 (by assumption) rfl (by kernel_rfl) (by kernel_rfl) (by kernel_rfl) (fun _ _ _ h => h) (by kernel_rfl) (v := ?v5) ?y5 ?r5
  case y5 => (intro u hu; go_simp; try rfl)
  simp only [Act.put, List.setIfInBounds_toArray, List.set_cons_zero, List.set_cons_succ]
  refine done_held (by kernel_rfl) ?_ _
  go_wp2
  go_ret
  exact ⟨_, rfl, rfl, bcat B D5 (Nat.le_refl _)⟩
set_option maxRecDepth 100000 in
set_option maxHeartbeats 4000000 in
theorem drop_open {K : Sk} {c : Conf} {us : List Int} {ps : List Pile} {ls : List Int} {w : World} (h : StAt K c us ps ls w) (r x y : Int) (ht : thereB ls r = true) (ho : openU c.W c.H us (x, y) = false) : Calls Try.prog 15 #[.pointer (some ⟨K.s, 0, none⟩), .int .i64 r, .agg #[.int .i64 x, .int .i64 y]] w fun e w' => ∃ v, e = .returned v ∧ v = .int .i64 1 ∧ Below w.heap.size w w' := by
  obtain ⟨w0, hw0⟩ : ∃ w0, w0 = w.alloc (.cells #[.int .i64 x, .int .i64 y] 39) := ⟨_, rfl⟩
  have B : Below w.heap.size w w0 := by rw [hw0]; exact below_new (Below.refl _ _) _
  have eB : w0.heap[w.heap.size]? = some (.cells #[.int .i64 x, .int .i64 y] 39 (0, 0)) := by rw [hw0]; exact heap_alloc_new w _
  have S0 := h.go B
  have cT := fun u (b : Below w0.heap.size w0 u) => there_any (S0.go b) r
  have cO := fun u (b : Below w0.heap.size w0 u) => ret_of (open_any K.g K.u c.W c.H us K.vp x y u (S0.grid.go b))
  have Sc0 := S0.c0
  rw [ht] at cT
  rw [ho] at cO
  clear h S0
  go_enter Try.func15, Try.ntmps15
  go_wp2
  rw [← hw0]
  obtain ⟨IH, hIH⟩ : ∃ I : World → Prop, I = Below w0.heap.size w0 := ⟨_, rfl⟩
  have kI : ∀ u, IH u → Below w0.heap.size w0 u := fun u hu => by rw [hIH] at hu; exact hu
  have hS : IH w0.drew := by rw [hIH]; exact (Below.refl _ _).drew
  have D0 : Below w0.heap.size w0 w0.drew := (Below.refl _ _).drew
  have HX : Hid (∀ u, IH u → ∀ j z, #[Value.int .i64 x, .int .i64 y][j]? = some z → u.cell? ((⟨w.heap.size, 0, none⟩ : Addr).add j) = some z) := fun u hu => row_below eB (kI u hu)
  have z0 : ∀ u, IH u → u.cell? ⟨K.s, 0, none⟩ = some (.pointer (some ⟨K.g, 0, none⟩)) := fun u hu => cell_below Sc0 (kI u hu)
  refine start_held (S := IH) 14 rfl (by kernel_rfl) (hS) ?_
  simp only [Array.replicate_succ, Array.replicate_zero, List.push_toArray, List.nil_append, List.cons_append]
  refine take_held 0 (by assumption) rfl (by kernel_rfl) (by kernel_rfl) (by kernel_rfl) (fun _ _ _ h => h) (by kernel_rfl) (v := ?v6) ?y6 ?r6
  case y6 => (intro u hu; go_simp; try rfl)
  simp only [Act.put, List.setIfInBounds_toArray, List.set_cons_zero, List.set_cons_succ]
  refine take_held 1 (by assumption) rfl (by kernel_rfl) (by kernel_rfl) (by kernel_rfl) (fun _ _ _ h => h) (by kernel_rfl) (v := ?v7) ?y7 ?r7
  case y7 => (intro u hu; go_simp; try rfl)
  simp only [Act.put, List.setIfInBounds_toArray, List.set_cons_zero, List.set_cons_succ]
  refine wpAnyH_ready (rs := [2]) (by kernel_rfl) (by simp) (AllReadyH.cons ((nth_eq _ 2).trans rfl) ?_ AllReadyH.nil)
  intro K' hK
  refine call_in hK (by kernel_rfl) 42 #[.pointer (some ⟨K.s, 0, none⟩), .int .i64 r] (by go_simp) _ (cT _ D0) ?_
  rintro v w5 ⟨rfl, b5⟩
  have D5 := bcat D0 b5 (Nat.le_refl _)
  have hS5 : IH w5 := by rw [hIH]; exact D5
  refine ⟨hS5, ?_⟩
  simp only [Act.put, List.setIfInBounds_toArray, List.set_cons_zero, List.set_cons_succ]
  refine take_held 3 (by assumption) rfl (by kernel_rfl) (by kernel_rfl) (by kernel_rfl) (fun _ _ _ h => h) (by kernel_rfl) (v := ?v8) ?y8 ?r8
  case y8 => (intro u hu; go_simp; try rfl)
  simp only [Act.put, List.setIfInBounds_toArray, List.set_cons_zero, List.set_cons_succ]
  refine take_held 4 (by assumption) rfl (by kernel_rfl) (by kernel_rfl) (by kernel_rfl) (fun _ _ _ h => h) (by kernel_rfl) (v := ?v9) ?y9 ?r9
  case y9 => (intro u hu; go_simp; try rfl)
  simp only [Act.put, List.setIfInBounds_toArray, List.set_cons_zero, List.set_cons_succ]
  refine take_held 5 (by assumption) rfl (by kernel_rfl) (by kernel_rfl) (by kernel_rfl) (fun _ _ _ h => h) (by kernel_rfl) (v := ?v10) ?y10 ?r10
  case y10 => (intro u hu; go_simp; try rfl)
  simp only [Act.put, List.setIfInBounds_toArray, List.set_cons_zero, List.set_cons_succ]
  refine take_held 6 (by assumption) rfl (by kernel_rfl) (by kernel_rfl) (by kernel_rfl) (fun _ _ _ h => h) (by kernel_rfl) (v := ?v11) ?y11 ?r11
  case y11 => (intro u hu; go_simp; try rfl)
  simp only [Act.put, List.setIfInBounds_toArray, List.set_cons_zero, List.set_cons_succ]
  refine take_held 7 (by assumption) rfl (by kernel_rfl) (by kernel_rfl) (by kernel_rfl) (fun _ _ _ h => h) (by kernel_rfl) (v := ?v12) ?y12 ?r12
  case y12 => (intro u hu; go_simp; try rfl)
  simp only [Act.put, List.setIfInBounds_toArray, List.set_cons_zero, List.set_cons_succ]
  refine take_held 8 (by assumption) rfl (by kernel_rfl) (by kernel_rfl) (by kernel_rfl) (fun _ _ _ h => h) (by kernel_rfl) (v := ?v13) ?y13 ?r13
  case y13 => (intro u hu; have zz0 := z0 u hu; go_simp; try rfl)
  simp only [Act.put, List.setIfInBounds_toArray, List.set_cons_zero, List.set_cons_succ]
  refine take_held 9 (by assumption) rfl (by kernel_rfl) (by kernel_rfl) (by kernel_rfl) (fun _ _ _ h => h) (by kernel_rfl) (v := .agg #[.int .i64 x, .int .i64 y]) ?y14 ?r14
  case y14 => (intro u hu; exact run_load_op 39 _ rfl ⟨w.heap.size, 0, none⟩ _ rfl (HX.out u hu) (aggCell u) infoCell2)
  simp only [Act.put, List.setIfInBounds_toArray, List.set_cons_zero, List.set_cons_succ]
  refine wpAnyH_ready (rs := [10]) (by kernel_rfl) (by simp) (AllReadyH.cons ((nth_eq _ 10).trans rfl) ?_ AllReadyH.nil)
  intro K' hK
  refine call_in hK (by kernel_rfl) 43 #[.pointer (some ⟨K.g, 0, none⟩), .agg #[.int .i64 x, .int .i64 y]] (by go_simp) _ (cO _ D5) ?_
  rintro v w6 ⟨rfl, b6⟩
  have D6 := bcat D5 b6 (Nat.le_refl _)
  have hS6 : IH w6 := by rw [hIH]; exact D6
  refine ⟨hS6, ?_⟩
  simp only [Act.put, List.setIfInBounds_toArray, List.set_cons_zero, List.set_cons_succ]
  refine take_held 11 (by assumption) rfl (by kernel_rfl) (by kernel_rfl) (by kernel_rfl) (fun _ _ _ h => h) (by kernel_rfl) (v := ?v15) ?y15 ?r15
  case y15 => (intro u hu; go_simp; try rfl)
  simp only [Act.put, List.setIfInBounds_toArray, List.set_cons_zero, List.set_cons_succ]
  refine take_held 12 (by assumption) rfl (by kernel_rfl) (by kernel_rfl) (by kernel_rfl) (fun _ _ _ h => h) (by kernel_rfl) (v := ?v16) ?y16 ?r16
  case y16 => (intro u hu; go_simp; try rfl)
  simp only [Act.put, List.setIfInBounds_toArray, List.set_cons_zero, List.set_cons_succ]
  refine take_held 13 (by assumption) rfl (by kernel_rfl) (by kernel_rfl) (by kernel_rfl) (fun _ _ _ h => h) (by kernel_rfl) (v := ?v17) ?y17 ?r17
  case y17 => (intro u hu; go_simp; try rfl)
  simp only [Act.put, List.setIfInBounds_toArray, List.set_cons_zero, List.set_cons_succ]
  refine done_held (by kernel_rfl) ?_ _
  go_wp2
  go_ret
  exact ⟨_, rfl, rfl, bcat B D6 (Nat.le_refl _)⟩
set_option maxRecDepth 100000 in
set_option maxHeartbeats 4000000 in
theorem drop_state {K : Sk} {c : Conf} {us : List Int} {ps : List Pile} {ls : List Int} {w : World} (h : StAt K c us ps ls w) (r x y : Int) (ht : thereB ls r = true) (ho : openU c.W c.H us (x, y) = true) (hl : loadP ls r = 0) : Calls Try.prog 15 #[.pointer (some ⟨K.s, 0, none⟩), .int .i64 r, .agg #[.int .i64 x, .int .i64 y]] w fun e w' => ∃ v, e = .returned v ∧ v = .int .i64 8 ∧ Below w.heap.size w w' := by
  obtain ⟨w0, hw0⟩ : ∃ w0, w0 = w.alloc (.cells #[.int .i64 x, .int .i64 y] 39) := ⟨_, rfl⟩
  have B : Below w.heap.size w w0 := by rw [hw0]; exact below_new (Below.refl _ _) _
  have eB : w0.heap[w.heap.size]? = some (.cells #[.int .i64 x, .int .i64 y] 39 (0, 0)) := by rw [hw0]; exact heap_alloc_new w _
  have S0 := h.go B
  have cT := fun u (b : Below w0.heap.size w0 u) => there_any (S0.go b) r
  have cO := fun u (b : Below w0.heap.size w0 u) => ret_of (open_any K.g K.u c.W c.H us K.vp x y u (S0.grid.go b))
  have Sc0 := S0.c0
  have ht2 := ht
  unfold thereB at ht2
  simp only [Bool.and_eq_true, decide_eq_true_eq] at ht2
  obtain ⟨i, rfl⟩ : ∃ i : Nat, r = i := ⟨r.toNat, by omega⟩
  have hil : i < ls.length := by omega
  have zl3 := fun u (b : Below w0.heap.size w0 u) => (S0.go b).c3
  have zli := fun u (b : Below w0.heap.size w0 u) => (S0.go b).lc hil
  have hm := h.few
  rw [ht] at cT
  rw [ho] at cO
  unfold loadP at hl
  rw [ht] at hl
  simp only [Int.toNat_natCast, if_true] at hl
  rw [hl] at zli
  generalize ls.length = M at *
  clear h S0 hl ht ht2
  go_enter Try.func15, Try.ntmps15
  go_wp2
  rw [← hw0]
  obtain ⟨IH, hIH⟩ : ∃ I : World → Prop, I = Below w0.heap.size w0 := ⟨_, rfl⟩
  have kI : ∀ u, IH u → Below w0.heap.size w0 u := fun u hu => by rw [hIH] at hu; exact hu
  have hS : IH w0.drew := by rw [hIH]; exact (Below.refl _ _).drew
  have D0 : Below w0.heap.size w0 w0.drew := (Below.refl _ _).drew
  have HX : Hid (∀ u, IH u → ∀ j z, #[Value.int .i64 x, .int .i64 y][j]? = some z → u.cell? ((⟨w.heap.size, 0, none⟩ : Addr).add j) = some z) := fun u hu => row_below eB (kI u hu)
  have z0 : ∀ u, IH u → u.cell? ⟨K.s, 0, none⟩ = some (.pointer (some ⟨K.g, 0, none⟩)) := fun u hu => cell_below Sc0 (kI u hu)
  refine start_held (S := IH) 14 rfl (by kernel_rfl) (hS) ?_
  simp only [Array.replicate_succ, Array.replicate_zero, List.push_toArray, List.nil_append, List.cons_append]
  refine take_held 0 (by assumption) rfl (by kernel_rfl) (by kernel_rfl) (by kernel_rfl) (fun _ _ _ h => h) (by kernel_rfl) (v := ?v18) ?y18 ?r18
  case y18 => (intro u hu; go_simp; try rfl)
  simp only [Act.put, List.setIfInBounds_toArray, List.set_cons_zero, List.set_cons_succ]
  refine take_held 1 (by assumption) rfl (by kernel_rfl) (by kernel_rfl) (by kernel_rfl) (fun _ _ _ h => h) (by kernel_rfl) (v := ?v19) ?y19 ?r19
  case y19 => (intro u hu; go_simp; try rfl)
  simp only [Act.put, List.setIfInBounds_toArray, List.set_cons_zero, List.set_cons_succ]
  refine wpAnyH_ready (rs := [2]) (by kernel_rfl) (by simp) (AllReadyH.cons ((nth_eq _ 2).trans rfl) ?_ AllReadyH.nil)
  intro K' hK
  refine call_in hK (by kernel_rfl) 42 #[.pointer (some ⟨K.s, 0, none⟩), .int .i64 (i : Int)] (by go_simp) _ (cT _ D0) ?_
  rintro v w5 ⟨rfl, b5⟩
  have D5 := bcat D0 b5 (Nat.le_refl _)
  have hS5 : IH w5 := by rw [hIH]; exact D5
  refine ⟨hS5, ?_⟩
  simp only [Act.put, List.setIfInBounds_toArray, List.set_cons_zero, List.set_cons_succ]
  refine take_held 3 (by assumption) rfl (by kernel_rfl) (by kernel_rfl) (by kernel_rfl) (fun _ _ _ h => h) (by kernel_rfl) (v := ?v20) ?y20 ?r20
  case y20 => (intro u hu; go_simp; try rfl)
  simp only [Act.put, List.setIfInBounds_toArray, List.set_cons_zero, List.set_cons_succ]
  refine take_held 4 (by assumption) rfl (by kernel_rfl) (by kernel_rfl) (by kernel_rfl) (fun _ _ _ h => h) (by kernel_rfl) (v := ?v21) ?y21 ?r21
  case y21 => (intro u hu; go_simp; try rfl)
  simp only [Act.put, List.setIfInBounds_toArray, List.set_cons_zero, List.set_cons_succ]
  refine take_held 5 (by assumption) rfl (by kernel_rfl) (by kernel_rfl) (by kernel_rfl) (fun _ _ _ h => h) (by kernel_rfl) (v := ?v22) ?y22 ?r22
  case y22 => (intro u hu; go_simp; try rfl)
  simp only [Act.put, List.setIfInBounds_toArray, List.set_cons_zero, List.set_cons_succ]
  refine take_held 6 (by assumption) rfl (by kernel_rfl) (by kernel_rfl) (by kernel_rfl) (fun _ _ _ h => h) (by kernel_rfl) (v := ?v23) ?y23 ?r23
  case y23 => (intro u hu; go_simp; try rfl)
  simp only [Act.put, List.setIfInBounds_toArray, List.set_cons_zero, List.set_cons_succ]
  refine take_held 7 (by assumption) rfl (by kernel_rfl) (by kernel_rfl) (by kernel_rfl) (fun _ _ _ h => h) (by kernel_rfl) (v := ?v24) ?y24 ?r24
  case y24 => (intro u hu; go_simp; try rfl)
  simp only [Act.put, List.setIfInBounds_toArray, List.set_cons_zero, List.set_cons_succ]
  refine take_held 8 (by assumption) rfl (by kernel_rfl) (by kernel_rfl) (by kernel_rfl) (fun _ _ _ h => h) (by kernel_rfl) (v := ?v25) ?y25 ?r25
  case y25 => (intro u hu; have zz0 := z0 u hu; go_simp; try rfl)
  simp only [Act.put, List.setIfInBounds_toArray, List.set_cons_zero, List.set_cons_succ]
  refine take_held 9 (by assumption) rfl (by kernel_rfl) (by kernel_rfl) (by kernel_rfl) (fun _ _ _ h => h) (by kernel_rfl) (v := .agg #[.int .i64 x, .int .i64 y]) ?y26 ?r26
  case y26 => (intro u hu; exact run_load_op 39 _ rfl ⟨w.heap.size, 0, none⟩ _ rfl (HX.out u hu) (aggCell u) infoCell2)
  simp only [Act.put, List.setIfInBounds_toArray, List.set_cons_zero, List.set_cons_succ]
  refine wpAnyH_ready (rs := [10]) (by kernel_rfl) (by simp) (AllReadyH.cons ((nth_eq _ 10).trans rfl) ?_ AllReadyH.nil)
  intro K' hK
  refine call_in hK (by kernel_rfl) 43 #[.pointer (some ⟨K.g, 0, none⟩), .agg #[.int .i64 x, .int .i64 y]] (by go_simp) _ (cO _ D5) ?_
  rintro v w6 ⟨rfl, b6⟩
  have D6 := bcat D5 b6 (Nat.le_refl _)
  have hS6 : IH w6 := by rw [hIH]; exact D6
  refine ⟨hS6, ?_⟩
  simp only [Act.put, List.setIfInBounds_toArray, List.set_cons_zero, List.set_cons_succ]
  refine take_held 11 (by assumption) rfl (by kernel_rfl) (by kernel_rfl) (by kernel_rfl) (fun _ _ _ h => h) (by kernel_rfl) (v := ?v27) ?y27 ?r27
  case y27 => (intro u hu; go_simp; try rfl)
  simp only [Act.put, List.setIfInBounds_toArray, List.set_cons_zero, List.set_cons_succ]
  refine take_held 12 (by assumption) rfl (by kernel_rfl) (by kernel_rfl) (by kernel_rfl) (fun _ _ _ h => h) (by kernel_rfl) (v := ?v28) ?y28 ?r28
  case y28 => (intro u hu; go_simp; try rfl)
  simp only [Act.put, List.setIfInBounds_toArray, List.set_cons_zero, List.set_cons_succ]
  refine take_held 13 (by assumption) rfl (by kernel_rfl) (by kernel_rfl) (by kernel_rfl) (fun _ _ _ h => h) (by kernel_rfl) (v := ?v29) ?y29 ?r29
  case y29 => (intro u hu; go_simp; try rfl)
  simp only [Act.put, List.setIfInBounds_toArray, List.set_cons_zero, List.set_cons_succ]
  refine done_held (by kernel_rfl) ?_ _
  have y3 := zl3 _ D6
  have yl := zli _ D6
  go_wp2
  go_ret
  exact ⟨_, rfl, rfl, bcat B D6 (Nat.le_refl _)⟩
theorem room_any {K : Sk} {c : Conf} {us : List Int} {ps : List Pile} {ls : List Int} {w : World} (h : StAt K c us ps ls w) (x y : Int) : Calls Try.prog 45 #[.pointer (some ⟨K.s, 0, none⟩), .agg #[.int .i64 x, .int .i64 y]] w fun e w' => ∃ v, e = .returned v ∧ v = .int .i64 (roomP c us (x, y)) ∧ Below w.heap.size w w' := by
  cases hs : stackedU c.W c.H us (x, y)
  · exact room_n h x y hs
  · exact room_s h x y hs
theorem room_le {K : Sk} {c : Conf} {us : List Int} {ps : List Pile} {ls : List Int} {w : World} (h : StAt K c us ps ls w) (x : Cell) : roomP c us x ≤ 8 := by
  have := h.hi
  unfold roomP
  split
  · exact this
  · split <;> omega
set_option maxRecDepth 100000 in
set_option maxHeartbeats 4000000 in
theorem drop_full {K : Sk} {c : Conf} {us : List Int} {ps : List Pile} {ls : List Int} {w : World} (h : StAt K c us ps ls w) (r x y : Int) (ht : thereB ls r = true) (ho : openU c.W c.H us (x, y) = true) (hl : loadP ls r ≠ 0) {k : Nat} {p : Pile} (hk : number c.W c.H (x, y) = (k : Nat)) (hp : ps[k]? = some p) (hf : roomP c us (x, y) ≤ (p.2.2.length : Int)) : Calls Try.prog 15 #[.pointer (some ⟨K.s, 0, none⟩), .int .i64 r, .agg #[.int .i64 x, .int .i64 y]] w fun e w' => ∃ v, e = .returned v ∧ v = .int .i64 2 ∧ Below w.heap.size w w' := by
  obtain ⟨w0, hw0⟩ : ∃ w0, w0 = w.alloc (.cells #[.int .i64 x, .int .i64 y] 39) := ⟨_, rfl⟩
  have B : Below w.heap.size w w0 := by rw [hw0]; exact below_new (Below.refl _ _) _
  have eB : w0.heap[w.heap.size]? = some (.cells #[.int .i64 x, .int .i64 y] 39 (0, 0)) := by rw [hw0]; exact heap_alloc_new w _
  have S0 := h.go B
  have cT := fun u (b : Below w0.heap.size w0 u) => there_any (S0.go b) r
  have cO := fun u (b : Below w0.heap.size w0 u) => ret_of (open_any K.g K.u c.W c.H us K.vp x y u (S0.grid.go b))
  have Sc0 := S0.c0
  have ht2 := ht
  unfold thereB at ht2
  simp only [Bool.and_eq_true, decide_eq_true_eq] at ht2
  obtain ⟨i, rfl⟩ : ∃ i : Nat, r = i := ⟨r.toNat, by omega⟩
  have hil : i < ls.length := by omega
  have zl3 := fun u (b : Below w0.heap.size w0 u) => (S0.go b).c3
  have zli := fun u (b : Below w0.heap.size w0 u) => (S0.go b).lc hil
  have hm := h.few
  have cH := fun u (b : Below w0.heap.size w0 u) => height_yes (S0.go b) x y ho hk hp
  have cR := fun u (b : Below w0.heap.size w0 u) => room_any (S0.go b) x y
  have hrl := room_le h (x, y)
  have hsm := h.small _ _ hp
  rw [ht] at cT
  rw [ho] at cO
  unfold loadP at hl
  rw [ht] at hl
  simp only [Int.toNat_natCast, if_true] at hl
  have hl2 : (ls.getD i 0 == 0) = false := by rw [beq_eq_false_iff_ne]; exact hl
  generalize ls.getD i 0 = lv at *
  generalize ls.length = M at *
  generalize roomP c us (x, y) = RM at *
  generalize p.2.2.length = n at *
  clear h S0 hl ht ht2
  go_enter Try.func15, Try.ntmps15
  go_wp2
  rw [← hw0]
  obtain ⟨IH, hIH⟩ : ∃ I : World → Prop, I = Below w0.heap.size w0 := ⟨_, rfl⟩
  have kI : ∀ u, IH u → Below w0.heap.size w0 u := fun u hu => by rw [hIH] at hu; exact hu
  have hS : IH w0.drew := by rw [hIH]; exact (Below.refl _ _).drew
  have D0 : Below w0.heap.size w0 w0.drew := (Below.refl _ _).drew
  have HX : Hid (∀ u, IH u → ∀ j z, #[Value.int .i64 x, .int .i64 y][j]? = some z → u.cell? ((⟨w.heap.size, 0, none⟩ : Addr).add j) = some z) := fun u hu => row_below eB (kI u hu)
  have z0 : ∀ u, IH u → u.cell? ⟨K.s, 0, none⟩ = some (.pointer (some ⟨K.g, 0, none⟩)) := fun u hu => cell_below Sc0 (kI u hu)
  refine start_held (S := IH) 14 rfl (by kernel_rfl) (hS) ?_
  simp only [Array.replicate_succ, Array.replicate_zero, List.push_toArray, List.nil_append, List.cons_append]
  refine take_held 0 (by assumption) rfl (by kernel_rfl) (by kernel_rfl) (by kernel_rfl) (fun _ _ _ h => h) (by kernel_rfl) (v := ?v18) ?y18 ?r18
  case y18 => (intro u hu; go_simp; try rfl)
  simp only [Act.put, List.setIfInBounds_toArray, List.set_cons_zero, List.set_cons_succ]
  refine take_held 1 (by assumption) rfl (by kernel_rfl) (by kernel_rfl) (by kernel_rfl) (fun _ _ _ h => h) (by kernel_rfl) (v := ?v19) ?y19 ?r19
  case y19 => (intro u hu; go_simp; try rfl)
  simp only [Act.put, List.setIfInBounds_toArray, List.set_cons_zero, List.set_cons_succ]
  refine wpAnyH_ready (rs := [2]) (by kernel_rfl) (by simp) (AllReadyH.cons ((nth_eq _ 2).trans rfl) ?_ AllReadyH.nil)
  intro K' hK
  refine call_in hK (by kernel_rfl) 42 #[.pointer (some ⟨K.s, 0, none⟩), .int .i64 (i : Int)] (by go_simp) _ (cT _ D0) ?_
  rintro v w5 ⟨rfl, b5⟩
  have D5 := bcat D0 b5 (Nat.le_refl _)
  have hS5 : IH w5 := by rw [hIH]; exact D5
  refine ⟨hS5, ?_⟩
  simp only [Act.put, List.setIfInBounds_toArray, List.set_cons_zero, List.set_cons_succ]
  refine take_held 3 (by assumption) rfl (by kernel_rfl) (by kernel_rfl) (by kernel_rfl) (fun _ _ _ h => h) (by kernel_rfl) (v := ?v20) ?y20 ?r20
  case y20 => (intro u hu; go_simp; try rfl)
  simp only [Act.put, List.setIfInBounds_toArray, List.set_cons_zero, List.set_cons_succ]
  refine take_held 4 (by assumption) rfl (by kernel_rfl) (by kernel_rfl) (by kernel_rfl) (fun _ _ _ h => h) (by kernel_rfl) (v := ?v21) ?y21 ?r21
  case y21 => (intro u hu; go_simp; try rfl)
  simp only [Act.put, List.setIfInBounds_toArray, List.set_cons_zero, List.set_cons_succ]
  refine take_held 5 (by assumption) rfl (by kernel_rfl) (by kernel_rfl) (by kernel_rfl) (fun _ _ _ h => h) (by kernel_rfl) (v := ?v22) ?y22 ?r22
  case y22 => (intro u hu; go_simp; try rfl)
  simp only [Act.put, List.setIfInBounds_toArray, List.set_cons_zero, List.set_cons_succ]
  refine take_held 6 (by assumption) rfl (by kernel_rfl) (by kernel_rfl) (by kernel_rfl) (fun _ _ _ h => h) (by kernel_rfl) (v := ?v23) ?y23 ?r23
  case y23 => (intro u hu; go_simp; try rfl)
  simp only [Act.put, List.setIfInBounds_toArray, List.set_cons_zero, List.set_cons_succ]
  refine take_held 7 (by assumption) rfl (by kernel_rfl) (by kernel_rfl) (by kernel_rfl) (fun _ _ _ h => h) (by kernel_rfl) (v := ?v24) ?y24 ?r24
  case y24 => (intro u hu; go_simp; try rfl)
  simp only [Act.put, List.setIfInBounds_toArray, List.set_cons_zero, List.set_cons_succ]
  refine take_held 8 (by assumption) rfl (by kernel_rfl) (by kernel_rfl) (by kernel_rfl) (fun _ _ _ h => h) (by kernel_rfl) (v := ?v25) ?y25 ?r25
  case y25 => (intro u hu; have zz0 := z0 u hu; go_simp; try rfl)
  simp only [Act.put, List.setIfInBounds_toArray, List.set_cons_zero, List.set_cons_succ]
  refine take_held 9 (by assumption) rfl (by kernel_rfl) (by kernel_rfl) (by kernel_rfl) (fun _ _ _ h => h) (by kernel_rfl) (v := .agg #[.int .i64 x, .int .i64 y]) ?y26 ?r26
  case y26 => (intro u hu; exact run_load_op 39 _ rfl ⟨w.heap.size, 0, none⟩ _ rfl (HX.out u hu) (aggCell u) infoCell2)
  simp only [Act.put, List.setIfInBounds_toArray, List.set_cons_zero, List.set_cons_succ]
  refine wpAnyH_ready (rs := [10]) (by kernel_rfl) (by simp) (AllReadyH.cons ((nth_eq _ 10).trans rfl) ?_ AllReadyH.nil)
  intro K' hK
  refine call_in hK (by kernel_rfl) 43 #[.pointer (some ⟨K.g, 0, none⟩), .agg #[.int .i64 x, .int .i64 y]] (by go_simp) _ (cO _ D5) ?_
  rintro v w6 ⟨rfl, b6⟩
  have D6 := bcat D5 b6 (Nat.le_refl _)
  have hS6 : IH w6 := by rw [hIH]; exact D6
  refine ⟨hS6, ?_⟩
  simp only [Act.put, List.setIfInBounds_toArray, List.set_cons_zero, List.set_cons_succ]
  refine take_held 11 (by assumption) rfl (by kernel_rfl) (by kernel_rfl) (by kernel_rfl) (fun _ _ _ h => h) (by kernel_rfl) (v := ?v27) ?y27 ?r27
  case y27 => (intro u hu; go_simp; try rfl)
  simp only [Act.put, List.setIfInBounds_toArray, List.set_cons_zero, List.set_cons_succ]
  refine take_held 12 (by assumption) rfl (by kernel_rfl) (by kernel_rfl) (by kernel_rfl) (fun _ _ _ h => h) (by kernel_rfl) (v := ?v28) ?y28 ?r28
  case y28 => (intro u hu; go_simp; try rfl)
  simp only [Act.put, List.setIfInBounds_toArray, List.set_cons_zero, List.set_cons_succ]
  refine take_held 13 (by assumption) rfl (by kernel_rfl) (by kernel_rfl) (by kernel_rfl) (fun _ _ _ h => h) (by kernel_rfl) (v := ?v29) ?y29 ?r29
  case y29 => (intro u hu; go_simp; try rfl)
  simp only [Act.put, List.setIfInBounds_toArray, List.set_cons_zero, List.set_cons_succ]
  refine done_held (by kernel_rfl) ?_ _
  have y3 := zl3 _ D6
  have yl := zli _ D6
  go_wp2
  have hS7 : IH w6.drew := by rw [hIH]; exact bcat D6 (Below.refl _ _).drew (Nat.le_refl _)
  have E8 := kI _ hS7
  refine start_held (S := IH) 8 rfl (by kernel_rfl) (hS7) ?_
  simp only [Array.replicate_succ, Array.replicate_zero, List.push_toArray, List.nil_append, List.cons_append]
  refine take_held 0 (by assumption) rfl (by kernel_rfl) (by kernel_rfl) (by kernel_rfl) (fun _ _ _ h => h) (by kernel_rfl) (v := ?v30) ?y30 ?r30
  case y30 => (intro u hu; go_simp; try rfl)
  simp only [Act.put, List.setIfInBounds_toArray, List.set_cons_zero, List.set_cons_succ]
  refine take_held 1 (by assumption) rfl (by kernel_rfl) (by kernel_rfl) (by kernel_rfl) (fun _ _ _ h => h) (by kernel_rfl) (v := .agg #[.int .i64 x, .int .i64 y]) ?y31 ?r31
  case y31 => (intro u hu; exact run_load_op 39 _ rfl ⟨w.heap.size, 0, none⟩ _ rfl (HX.out u hu) (aggCell u) infoCell2)
  simp only [Act.put, List.setIfInBounds_toArray, List.set_cons_zero, List.set_cons_succ]
  refine take_held 3 (by assumption) rfl (by kernel_rfl) (by kernel_rfl) (by kernel_rfl) (fun _ _ _ h => h) (by kernel_rfl) (v := ?v32) ?y32 ?r32
  case y32 => (intro u hu; go_simp; try rfl)
  simp only [Act.put, List.setIfInBounds_toArray, List.set_cons_zero, List.set_cons_succ]
  refine take_held 4 (by assumption) rfl (by kernel_rfl) (by kernel_rfl) (by kernel_rfl) (fun _ _ _ h => h) (by kernel_rfl) (v := .agg #[.int .i64 x, .int .i64 y]) ?y33 ?r33
  case y33 => (intro u hu; exact run_load_op 39 _ rfl ⟨w.heap.size, 0, none⟩ _ rfl (HX.out u hu) (aggCell u) infoCell2)
  simp only [Act.put, List.setIfInBounds_toArray, List.set_cons_zero, List.set_cons_succ]
  refine wpAnyH_ready (rs := [2]) (by kernel_rfl) (by simp) (AllReadyH.cons ((nth_eq _ 2).trans rfl) ?_ AllReadyH.nil)
  intro K' hK
  refine call_in hK (by kernel_rfl) 17 #[.pointer (some ⟨K.s, 0, none⟩), .agg #[.int .i64 x, .int .i64 y]] (by go_simp) _ (cH _ E8) ?_
  rintro v w8 ⟨rfl, b8⟩
  have D8 := bcat E8 b8 (Nat.le_refl _)
  have hS8 : IH w8 := by rw [hIH]; exact D8
  refine ⟨hS8, ?_⟩
  simp only [Act.put, List.setIfInBounds_toArray, List.set_cons_zero, List.set_cons_succ]
  refine wpAnyH_ready (rs := [5]) (by kernel_rfl) (by simp) (AllReadyH.cons ((nth_eq _ 5).trans rfl) ?_ AllReadyH.nil)
  intro K' hK
  refine call_in hK (by kernel_rfl) 45 #[.pointer (some ⟨K.s, 0, none⟩), .agg #[.int .i64 x, .int .i64 y]] (by go_simp) _ (cR _ D8) ?_
  rintro v w9 ⟨rfl, b9⟩
  have D9 := bcat D8 b9 (Nat.le_refl _)
  have hS9 : IH w9 := by rw [hIH]; exact D9
  refine ⟨hS9, ?_⟩
  simp only [Act.put, List.setIfInBounds_toArray, List.set_cons_zero, List.set_cons_succ]
  refine take_held 6 (by assumption) rfl (by kernel_rfl) (by kernel_rfl) (by kernel_rfl) (fun _ _ _ h => h) (by kernel_rfl) (v := .bool true) ?y34 ?r34
  case y34 => (intro u hu; go_simp; try simp [hf]; try omega)
  simp only [Act.put, List.setIfInBounds_toArray, List.set_cons_zero, List.set_cons_succ]
  refine take_held 7 (by assumption) rfl (by kernel_rfl) (by kernel_rfl) (by kernel_rfl) (fun _ _ _ h => h) (by kernel_rfl) (v := ?v35) ?y35 ?r35
  case y35 => (intro u hu; go_simp; try rfl)
  simp only [Act.put, List.setIfInBounds_toArray, List.set_cons_zero, List.set_cons_succ]
  refine done_held (by kernel_rfl) ?_ _
  go_wp2
  go_ret
  exact ⟨_, rfl, rfl, bcat B D9 (Nat.le_refl _)⟩
theorem run_append_op {o : Oper} {a : Act} {w w' : World} {tt : TypeId} (s x : Operand) (ho : o.op = .call { callee := .builtin .append, args := #[s, x], argTypes := #[tt, tt] }) (v v2 v' : Value) (hs : a.eval s = v) (hx : a.eval x = v2)
    (h : (Builtin.append_ #[tt, tt] o.type #[v, v2]).run Try.prog w = .ok v' w') : (execOp a.eval o).run Try.prog w = .ok (.value v') w' := by
  unfold execOp
  simp only [ho, resolve, invoke, builtin, Sem.run_bind, Sem.run_pure, Result.andThen_ok, List.map_toArray, List.map_cons, List.map_nil, hs, hx, h]
set_option maxRecDepth 100000 in
set_option maxHeartbeats 4000000 in
theorem drop_ok {K : Sk} {c : Conf} {us : List Int} {ps : List Pile} {ls : List Int} {w : World} (h : StAt K c us ps ls w) (r x y : Int) (ht : thereB ls r = true) (ho : openU c.W c.H us (x, y) = true) (hl : loadP ls r ≠ 0) {k : Nat} {p : Pile} (hk : number c.W c.H (x, y) = (k : Nat)) (hp : ps[k]? = some p) (hf : (p.2.2.length : Int) < roomP c us (x, y)) :
    Calls Try.prog 15 #[.pointer (some ⟨K.s, 0, none⟩), .int .i64 r, .agg #[.int .i64 x, .int .i64 y]] w fun e w' => ∃ v', e = .returned (.int .i64 0) ∧ StAt K c us (ps.set k (p.1, v', p.2.2 ++ [loadP ls r])) (ls.set r.toNat 0) w' ∧ Turn K ps (ps.set k (p.1, v', p.2.2 ++ [loadP ls r])) w w' := by
  obtain ⟨w0, hw0⟩ : ∃ w0, w0 = w.alloc (.cells #[.int .i64 x, .int .i64 y] 39) := ⟨_, rfl⟩
  have B : Below w.heap.size w w0 := by rw [hw0]; exact below_new (Below.refl _ _) _
  have eB : w0.heap[w.heap.size]? = some (.cells #[.int .i64 x, .int .i64 y] 39 (0, 0)) := by rw [hw0]; exact heap_alloc_new w _
  have S0 := h.go B
  have cT := fun u (b : Below w0.heap.size w0 u) => there_any (S0.go b) r
  have cO := fun u (b : Below w0.heap.size w0 u) => ret_of (open_any K.g K.u c.W c.H us K.vp x y u (S0.grid.go b))
  have Sc0 := S0.c0
  have ht2 := ht
  unfold thereB at ht2
  simp only [Bool.and_eq_true, decide_eq_true_eq] at ht2
  obtain ⟨i, rfl⟩ : ∃ i : Nat, r = i := ⟨r.toNat, by omega⟩
  have hil : i < ls.length := by omega
  have zl3 := fun u (b : Below w0.heap.size w0 u) => (S0.go b).c3
  have zli := fun u (b : Below w0.heap.size w0 u) => (S0.go b).lc hil
  have hm := h.few
  have cH := fun u (b : Below w0.heap.size w0 u) => height_yes (S0.go b) x y ho hk hp
  have cR := fun u (b : Below w0.heap.size w0 u) => room_any (S0.go b) x y
  have hrl := room_le h (x, y)
  have hsm := h.small _ _ hp
  rw [ht] at cT
  rw [ho] at cO
  unfold loadP at hl
  rw [ht] at hl
  simp only [Int.toNat_natCast, if_true] at hl
  have hl2 : (ls.getD i 0 == 0) = false := by rw [beq_eq_false_iff_ne]; exact hl
  have hlt := (List.getElem?_eq_some_iff.1 hp).1
  have hN := h.lens
  have hlp : loadP ls (i : Int) = ls.getD i 0 := by unfold loadP; rw [ht]; simp
  rw [hlp]
  have cP := fun u (b : Below w0.heap.size w0 u) => pile_any (S0.go b) x y hk hlt
  have zv := fun u (b : Below w0.heap.size w0 u) => (S0.go b).pv hp
  have HS0 : Hid (StAt K c us ps ls w0) := S0
  have HTB : Hid (Turn K ps ps w w0) := Turn.of_below B
  obtain ⟨a, cap, ev, hcap, hmx, _⟩ := h.form hp
  have HEV : Hid (p.2.1 = .slice a p.2.2.length cap) := ev
  rw [ev] at zv
  simp only [Int.toNat_natCast]
  generalize hlv : ls.getD i 0 = lv at *
  have HLV : Hid (ls.getD i 0 = lv) := hlv
  generalize hML : ls.length = M at *
  have HML : Hid (ls.length = M) := hML
  generalize roomP c us (x, y) = RM at *
  generalize hnn : p.2.2.length = n at *
  have Hnn : Hid (p.2.2.length = n) := hnn
  generalize hNN : ps.length = N at *
  clear S0 hl ht ht2 hML hNN h ev hlv hnn hlp
  go_enter Try.func15, Try.ntmps15
  go_wp2
  rw [← hw0]
  obtain ⟨IH, hIH⟩ : ∃ I : World → Prop, I = Below w0.heap.size w0 := ⟨_, rfl⟩
  have kI : ∀ u, IH u → Below w0.heap.size w0 u := fun u hu => by rw [hIH] at hu; exact hu
  have hS : IH w0.drew := by rw [hIH]; exact (Below.refl _ _).drew
  have D0 : Below w0.heap.size w0 w0.drew := (Below.refl _ _).drew
  have HX : Hid (∀ u, IH u → ∀ j z, #[Value.int .i64 x, .int .i64 y][j]? = some z → u.cell? ((⟨w.heap.size, 0, none⟩ : Addr).add j) = some z) := fun u hu => row_below eB (kI u hu)
  have z0 : ∀ u, IH u → u.cell? ⟨K.s, 0, none⟩ = some (.pointer (some ⟨K.g, 0, none⟩)) := fun u hu => cell_below Sc0 (kI u hu)
  refine start_held (S := IH) 14 rfl (by kernel_rfl) (hS) ?_
  simp only [Array.replicate_succ, Array.replicate_zero, List.push_toArray, List.nil_append, List.cons_append]
  refine take_held 0 (by assumption) rfl (by kernel_rfl) (by kernel_rfl) (by kernel_rfl) (fun _ _ _ h => h) (by kernel_rfl) (v := ?v18) ?y18 ?r18
  case y18 => (intro u hu; go_simp; try rfl)
  simp only [Act.put, List.setIfInBounds_toArray, List.set_cons_zero, List.set_cons_succ]
  refine take_held 1 (by assumption) rfl (by kernel_rfl) (by kernel_rfl) (by kernel_rfl) (fun _ _ _ h => h) (by kernel_rfl) (v := ?v19) ?y19 ?r19
  case y19 => (intro u hu; go_simp; try rfl)
  simp only [Act.put, List.setIfInBounds_toArray, List.set_cons_zero, List.set_cons_succ]
  refine wpAnyH_ready (rs := [2]) (by kernel_rfl) (by simp) (AllReadyH.cons ((nth_eq _ 2).trans rfl) ?_ AllReadyH.nil)
  intro K' hK
  refine call_in hK (by kernel_rfl) 42 #[.pointer (some ⟨K.s, 0, none⟩), .int .i64 (i : Int)] (by go_simp) _ (cT _ D0) ?_
  rintro v w5 ⟨rfl, b5⟩
  have D5 := bcat D0 b5 (Nat.le_refl _)
  have hS5 : IH w5 := by rw [hIH]; exact D5
  refine ⟨hS5, ?_⟩
  simp only [Act.put, List.setIfInBounds_toArray, List.set_cons_zero, List.set_cons_succ]
  refine take_held 3 (by assumption) rfl (by kernel_rfl) (by kernel_rfl) (by kernel_rfl) (fun _ _ _ h => h) (by kernel_rfl) (v := ?v20) ?y20 ?r20
  case y20 => (intro u hu; go_simp; try rfl)
  simp only [Act.put, List.setIfInBounds_toArray, List.set_cons_zero, List.set_cons_succ]
  refine take_held 4 (by assumption) rfl (by kernel_rfl) (by kernel_rfl) (by kernel_rfl) (fun _ _ _ h => h) (by kernel_rfl) (v := ?v21) ?y21 ?r21
  case y21 => (intro u hu; go_simp; try rfl)
  simp only [Act.put, List.setIfInBounds_toArray, List.set_cons_zero, List.set_cons_succ]
  refine take_held 5 (by assumption) rfl (by kernel_rfl) (by kernel_rfl) (by kernel_rfl) (fun _ _ _ h => h) (by kernel_rfl) (v := ?v22) ?y22 ?r22
  case y22 => (intro u hu; go_simp; try rfl)
  simp only [Act.put, List.setIfInBounds_toArray, List.set_cons_zero, List.set_cons_succ]
  refine take_held 6 (by assumption) rfl (by kernel_rfl) (by kernel_rfl) (by kernel_rfl) (fun _ _ _ h => h) (by kernel_rfl) (v := ?v23) ?y23 ?r23
  case y23 => (intro u hu; go_simp; try rfl)
  simp only [Act.put, List.setIfInBounds_toArray, List.set_cons_zero, List.set_cons_succ]
  refine take_held 7 (by assumption) rfl (by kernel_rfl) (by kernel_rfl) (by kernel_rfl) (fun _ _ _ h => h) (by kernel_rfl) (v := ?v24) ?y24 ?r24
  case y24 => (intro u hu; go_simp; try rfl)
  simp only [Act.put, List.setIfInBounds_toArray, List.set_cons_zero, List.set_cons_succ]
  refine take_held 8 (by assumption) rfl (by kernel_rfl) (by kernel_rfl) (by kernel_rfl) (fun _ _ _ h => h) (by kernel_rfl) (v := ?v25) ?y25 ?r25
  case y25 => (intro u hu; have zz0 := z0 u hu; go_simp; try rfl)
  simp only [Act.put, List.setIfInBounds_toArray, List.set_cons_zero, List.set_cons_succ]
  refine take_held 9 (by assumption) rfl (by kernel_rfl) (by kernel_rfl) (by kernel_rfl) (fun _ _ _ h => h) (by kernel_rfl) (v := .agg #[.int .i64 x, .int .i64 y]) ?y26 ?r26
  case y26 => (intro u hu; exact run_load_op 39 _ rfl ⟨w.heap.size, 0, none⟩ _ rfl (HX.out u hu) (aggCell u) infoCell2)
  simp only [Act.put, List.setIfInBounds_toArray, List.set_cons_zero, List.set_cons_succ]
  refine wpAnyH_ready (rs := [10]) (by kernel_rfl) (by simp) (AllReadyH.cons ((nth_eq _ 10).trans rfl) ?_ AllReadyH.nil)
  intro K' hK
  refine call_in hK (by kernel_rfl) 43 #[.pointer (some ⟨K.g, 0, none⟩), .agg #[.int .i64 x, .int .i64 y]] (by go_simp) _ (cO _ D5) ?_
  rintro v w6 ⟨rfl, b6⟩
  have D6 := bcat D5 b6 (Nat.le_refl _)
  have hS6 : IH w6 := by rw [hIH]; exact D6
  refine ⟨hS6, ?_⟩
  simp only [Act.put, List.setIfInBounds_toArray, List.set_cons_zero, List.set_cons_succ]
  refine take_held 11 (by assumption) rfl (by kernel_rfl) (by kernel_rfl) (by kernel_rfl) (fun _ _ _ h => h) (by kernel_rfl) (v := ?v27) ?y27 ?r27
  case y27 => (intro u hu; go_simp; try rfl)
  simp only [Act.put, List.setIfInBounds_toArray, List.set_cons_zero, List.set_cons_succ]
  refine take_held 12 (by assumption) rfl (by kernel_rfl) (by kernel_rfl) (by kernel_rfl) (fun _ _ _ h => h) (by kernel_rfl) (v := ?v28) ?y28 ?r28
  case y28 => (intro u hu; go_simp; try rfl)
  simp only [Act.put, List.setIfInBounds_toArray, List.set_cons_zero, List.set_cons_succ]
  refine take_held 13 (by assumption) rfl (by kernel_rfl) (by kernel_rfl) (by kernel_rfl) (fun _ _ _ h => h) (by kernel_rfl) (v := ?v29) ?y29 ?r29
  case y29 => (intro u hu; go_simp; try rfl)
  simp only [Act.put, List.setIfInBounds_toArray, List.set_cons_zero, List.set_cons_succ]
  refine done_held (by kernel_rfl) ?_ _
  have y3 := zl3 _ D6
  have yl := zli _ D6
  go_wp2
  have hS7 : IH w6.drew := by rw [hIH]; exact bcat D6 (Below.refl _ _).drew (Nat.le_refl _)
  have E8 := kI _ hS7
  refine start_held (S := IH) 8 rfl (by kernel_rfl) (hS7) ?_
  simp only [Array.replicate_succ, Array.replicate_zero, List.push_toArray, List.nil_append, List.cons_append]
  refine take_held 0 (by assumption) rfl (by kernel_rfl) (by kernel_rfl) (by kernel_rfl) (fun _ _ _ h => h) (by kernel_rfl) (v := ?v36) ?y36 ?r36
  case y36 => (intro u hu; go_simp; try rfl)
  simp only [Act.put, List.setIfInBounds_toArray, List.set_cons_zero, List.set_cons_succ]
  refine take_held 1 (by assumption) rfl (by kernel_rfl) (by kernel_rfl) (by kernel_rfl) (fun _ _ _ h => h) (by kernel_rfl) (v := .agg #[.int .i64 x, .int .i64 y]) ?y37 ?r37
  case y37 => (intro u hu; exact run_load_op 39 _ rfl ⟨w.heap.size, 0, none⟩ _ rfl (HX.out u hu) (aggCell u) infoCell2)
  simp only [Act.put, List.setIfInBounds_toArray, List.set_cons_zero, List.set_cons_succ]
  refine take_held 3 (by assumption) rfl (by kernel_rfl) (by kernel_rfl) (by kernel_rfl) (fun _ _ _ h => h) (by kernel_rfl) (v := ?v38) ?y38 ?r38
  case y38 => (intro u hu; go_simp; try rfl)
  simp only [Act.put, List.setIfInBounds_toArray, List.set_cons_zero, List.set_cons_succ]
  refine take_held 4 (by assumption) rfl (by kernel_rfl) (by kernel_rfl) (by kernel_rfl) (fun _ _ _ h => h) (by kernel_rfl) (v := .agg #[.int .i64 x, .int .i64 y]) ?y39 ?r39
  case y39 => (intro u hu; exact run_load_op 39 _ rfl ⟨w.heap.size, 0, none⟩ _ rfl (HX.out u hu) (aggCell u) infoCell2)
  simp only [Act.put, List.setIfInBounds_toArray, List.set_cons_zero, List.set_cons_succ]
  refine wpAnyH_ready (rs := [2]) (by kernel_rfl) (by simp) (AllReadyH.cons ((nth_eq _ 2).trans rfl) ?_ AllReadyH.nil)
  intro K' hK
  refine call_in hK (by kernel_rfl) 17 #[.pointer (some ⟨K.s, 0, none⟩), .agg #[.int .i64 x, .int .i64 y]] (by go_simp) _ (cH _ E8) ?_
  rintro v w8 ⟨rfl, b8⟩
  have D8 := bcat E8 b8 (Nat.le_refl _)
  have hS8 : IH w8 := by rw [hIH]; exact D8
  refine ⟨hS8, ?_⟩
  simp only [Act.put, List.setIfInBounds_toArray, List.set_cons_zero, List.set_cons_succ]
  refine wpAnyH_ready (rs := [5]) (by kernel_rfl) (by simp) (AllReadyH.cons ((nth_eq _ 5).trans rfl) ?_ AllReadyH.nil)
  intro K' hK
  refine call_in hK (by kernel_rfl) 45 #[.pointer (some ⟨K.s, 0, none⟩), .agg #[.int .i64 x, .int .i64 y]] (by go_simp) _ (cR _ D8) ?_
  rintro v w9 ⟨rfl, b9⟩
  have D9 := bcat D8 b9 (Nat.le_refl _)
  have hS9 : IH w9 := by rw [hIH]; exact D9
  refine ⟨hS9, ?_⟩
  simp only [Act.put, List.setIfInBounds_toArray, List.set_cons_zero, List.set_cons_succ]
  refine take_held 6 (by assumption) rfl (by kernel_rfl) (by kernel_rfl) (by kernel_rfl) (fun _ _ _ h => h) (by kernel_rfl) (v := .bool false) ?y40 ?r40
  case y40 => (intro u hu; go_simp; try simp; try omega)
  simp only [Act.put, List.setIfInBounds_toArray, List.set_cons_zero, List.set_cons_succ]
  refine take_held 7 (by assumption) rfl (by kernel_rfl) (by kernel_rfl) (by kernel_rfl) (fun _ _ _ h => h) (by kernel_rfl) (v := ?v41) ?y41 ?r41
  case y41 => (intro u hu; go_simp; try rfl)
  simp only [Act.put, List.setIfInBounds_toArray, List.set_cons_zero, List.set_cons_succ]
  refine done_held (by kernel_rfl) ?_ _
  have e9 := (D9.block _ (lt_of_heap eB)).trans eB
  go_wp2_with (first
    | (refine wpList_load_row rfl 39 (.tmp 5) rfl w.heap.size rfl 39 #[.int .i64 x, .int .i64 y] (0, 0) _ e9 Try.underlying39 rfl infoCell2 ?_)
    | (go_at_call 31; refine (cP _ D9).mono ?_; rintro e w11 ⟨r11, rfl, rfl, b11⟩))
  have E11 := bcat D9 b11 (Nat.le_refl _)
  have hS12 : IH w11.drew := by rw [hIH]; exact bcat E11 (Below.refl _ _).drew (Nat.le_refl _)
  have E12 := kI _ hS12
  have S12 := HS0.out.go E12
  obtain ⟨IV, hIV⟩ : ∃ I : World → Prop, I = fun u => u.cell? ⟨K.s, 3, none⟩ = some (.slice (some ⟨K.lb, 0, none⟩) M M) ∧ u.cell? ⟨K.lb, i, none⟩ = some (.int .i64 lv) := ⟨_, rfl⟩
  have q3 : ∀ u, IV u → u.cell? ⟨K.s, 3, none⟩ = some (.slice (some ⟨K.lb, 0, none⟩) M M) := fun u hu => by rw [hIV] at hu; exact hu.1
  have q4 : ∀ u, IV u → u.cell? ⟨K.lb, i, none⟩ = some (.int .i64 lv) := fun u hu => by rw [hIV] at hu; exact hu.2
  have hVw : ∀ u, StAt K c us ps ls u → u.cell? ⟨K.lb, i, none⟩ = some (.int .i64 lv) → IV u := fun u su hq => by
    rw [hIV]
    refine ⟨?_, hq⟩
    have := su.c3
    rw [HML.out] at this
    exact this
  have hV : IV w11.drew := hVw _ S12 (zli _ E12)
  have HV : Hid (∀ u, StAt K c us ps ls u → u.cell? ⟨K.lb, i, none⟩ = some (.int .i64 lv) → IV u) := hVw
  have vd := zv _ E12
  have HS12 : Hid (StAt K c us ps ls w11.drew) := S12
  have HT12 : Hid (Turn K ps ps w w11.drew) := HTB.out.trans (Turn.of_below E12)
  have HL12 : Hid (w11.drew.cell? ⟨K.lb, i, none⟩ = some (.int .i64 lv)) := zli _ E12
  clear S12 hVw
  refine start_held (S := IV) 17 rfl (by kernel_rfl) (hV) ?_
  simp only [Array.replicate_succ, Array.replicate_zero, List.push_toArray, List.nil_append, List.cons_append]
  generalize w11.drew = wd at *
  refine take_held 0 (by assumption) rfl (by kernel_rfl) (by kernel_rfl) (by kernel_rfl) (fun _ _ _ h => h) (by kernel_rfl) (v := ?v42) ?y42 ?r42
  case y42 => (intro u hu; go_simp; try rfl)
  simp only [Act.put, List.setIfInBounds_toArray, List.set_cons_zero, List.set_cons_succ]
  refine take_held 1 (by assumption) rfl (by kernel_rfl) (by kernel_rfl) (by kernel_rfl) (fun _ _ _ h => h) (by kernel_rfl) (v := ?v43) ?y43 ?r43
  case y43 => (intro u hu; go_simp; try rfl)
  simp only [Act.put, List.setIfInBounds_toArray, List.set_cons_zero, List.set_cons_succ]
  refine take_held 2 (by assumption) rfl (by kernel_rfl) (by kernel_rfl) (by kernel_rfl) (fun _ _ _ h => h) (by kernel_rfl) (v := ?v44) ?y44 ?r44
  case y44 => (intro u hu; go_simp; try rfl)
  simp only [Act.put, List.setIfInBounds_toArray, List.set_cons_zero, List.set_cons_succ]
  refine take_held 3 (by assumption) rfl (by kernel_rfl) (by kernel_rfl) (by kernel_rfl) (fun _ _ _ h => h) (by kernel_rfl) (v := ?v45) ?y45 ?r45
  case y45 => (intro u hu; go_simp; try rfl)
  simp only [Act.put, List.setIfInBounds_toArray, List.set_cons_zero, List.set_cons_succ]
  refine take_held 5 (by assumption) rfl (by kernel_rfl) (by kernel_rfl) (by kernel_rfl) (fun _ _ _ h => h) (by kernel_rfl) (v := ?v46) ?y46 ?r46
  case y46 => (intro u hu; go_simp; try rfl)
  simp only [Act.put, List.setIfInBounds_toArray, List.set_cons_zero, List.set_cons_succ]
  refine take_held 6 (by assumption) rfl (by kernel_rfl) (by kernel_rfl) (by kernel_rfl) (fun _ _ _ h => h) (by kernel_rfl) (v := ?v47) ?y47 ?r47
  case y47 => (intro u hu; go_simp; try rfl)
  simp only [Act.put, List.setIfInBounds_toArray, List.set_cons_zero, List.set_cons_succ]
  refine take_held 7 (by assumption) rfl (by kernel_rfl) (by kernel_rfl) (by kernel_rfl) (fun _ _ _ h => h) (by kernel_rfl) (v := ?v48) ?y48 ?r48
  case y48 => (intro u hu; go_simp; try rfl)
  simp only [Act.put, List.setIfInBounds_toArray, List.set_cons_zero, List.set_cons_succ]
  refine take_held 8 (by assumption) rfl (by kernel_rfl) (by kernel_rfl) (by kernel_rfl) (fun _ _ _ h => h) (by kernel_rfl) (v := ?v49) ?y49 ?r49
  case y49 => (intro u hu; have zz0 := q3 u hu; go_simp; try rfl)
  simp only [Act.put, List.setIfInBounds_toArray, List.set_cons_zero, List.set_cons_succ]
  refine take_held 9 (by assumption) rfl (by kernel_rfl) (by kernel_rfl) (by kernel_rfl) (fun _ _ _ h => h) (by kernel_rfl) (v := ?v50) ?y50 ?r50
  case y50 => (intro u hu; go_simp; try rfl)
  simp only [Act.put, List.setIfInBounds_toArray, List.set_cons_zero, List.set_cons_succ]
  refine take_held 10 (by assumption) rfl (by kernel_rfl) (by kernel_rfl) (by kernel_rfl) (fun _ _ _ h => h) (by kernel_rfl) (v := ?v51) ?y51 ?r51
  case y51 => (intro u hu; go_simp; try rfl)
  simp only [Act.put, List.setIfInBounds_toArray, List.set_cons_zero, List.set_cons_succ]
  refine take_held 11 (by assumption) rfl (by kernel_rfl) (by kernel_rfl) (by kernel_rfl) (fun _ _ _ h => h) (by kernel_rfl) (v := ?v52) ?y52 ?r52
  case y52 => (intro u hu; have zz0 := q4 u hu; go_simp; try rfl)
  simp only [Act.put, List.setIfInBounds_toArray, List.set_cons_zero, List.set_cons_succ]
  refine wpAnyH_ready (rs := [4, 12]) (by kernel_rfl) (by simp) (AllReadyH.cons ((nth_eq _ 4).trans rfl) ?_ (AllReadyH.cons ((nth_eq _ 12).trans rfl) ?_ AllReadyH.nil))
  · intro K' hK
    refine value_in hK (by kernel_rfl) (.slice a n cap) (wd) (by go_simp) (by assumption) ?_
    simp only [Act.put, List.setIfInBounds_toArray, List.set_cons_zero, List.set_cons_succ]
    refine wpAnyH_ready (rs := [12]) (by kernel_rfl) (by simp) (AllReadyH.cons ((nth_eq _ 12).trans rfl) ?_ AllReadyH.nil)
    intro K' hK
    have hVa : IV (wd.alloc (.cells #[.int .i64 lv] 3)) := HV.out _ (HS12.out.go (below_new (Below.refl _ _) _)) (cell_below HL12.out (below_new (Below.refl _ _) _))
    refine value_in hK (by kernel_rfl) (.slice (some ⟨wd.heap.size, 0, none⟩) 1 1) (wd.alloc (.cells #[.int .i64 lv] 3)) (by go_simp) (hVa) ?_
    simp only [Act.put, List.setIfInBounds_toArray, List.set_cons_zero, List.set_cons_succ]
    refine wpAnyH_ready (rs := [13]) (by kernel_rfl) (by simp) (AllReadyH.cons ((nth_eq _ 13).trans rfl) ?_ AllReadyH.nil)
    intro K' hK
    have S13 := HS12.out.go (below_new (Below.refl wd.heap.size wd) (.cells #[.int .i64 lv] 3))
    have o13 := S13.own k p hp
    rw [HEV.out] at o13
    obtain ⟨v9, w9_, hrun9, own9, g9, at9⟩ := run_app kindInt o13 (list_one (f := intL) (S := 1) wd lv 3 rfl) (by rw [Hnn.out]; simp; omega) (by rw [Hnn.out]; unfold maxLen; simp; omega) S13.big 48
    obtain ⟨a9, cap9, hv9, _⟩ := own_form own9
    subst hv9
    obtain ⟨S14, T14⟩ := S13.put hp (by rw [HEV.out]; exact g9) own9 (by rw [HEV.out]; exact at9) (by rw [List.length_append, Hnn.out]; simp; omega)
    have hs1 := S13.s1
    have hl1 := S13.l1
    have hp1 := S13.p1
    have hV9 : IV w9_ := by
      rw [hIV]
      exact ⟨(cell_same (p := ⟨K.s, 3, none⟩) (g9.block K.s (lt_of_heap S13.hd) (fun e => by have := (o13.lt K.s e.symm).1; omega))).trans (q3 _ hVa), (cell_same (p := ⟨K.lb, i, none⟩) (g9.block K.lb (lt_of_heap S13.lds) (fun e => by have := (o13.lt K.lb e.symm).1; omega))).trans (q4 _ hVa)⟩
    have gp := g9.block K.pb (lt_of_heap S13.pil) (fun e => by have := (o13.lt K.pb e.symm).1; omega)
    have pv9 := S13.pv hp
    have vd9 : w9_.cell? ⟨K.pb, k * 3 + 2, none⟩ = some (.slice a n cap) := (cell_same (p := ⟨K.pb, k * 3 + 2, none⟩) gp).trans (by rw [HEV.out] at pv9; exact pv9)
    have fd9 : w9_.frozen? ⟨K.pb, k * 3 + 2, none⟩ = false := (froz_same (p := ⟨K.pb, k * 3 + 2, none⟩) gp).trans (frozen_of S13.pil _)
    have T15 := (HT12.out.trans (Turn.of_below (below_new (Below.refl wd.heap.size wd) (.cells #[.int .i64 lv] 3)))).trans T14
    have hVf : IV (w9_.setCell ⟨K.pb, k * 3 + 2, none⟩ (.slice a9 (p.2.2 ++ [lv]).length cap9)) := by
      rw [hIV]
      have x3 := S14.c3
      rw [HML.out] at x3
      have xl := S14.lc (r := i) (by rw [HML.out]; exact hil)
      rw [HLV.out] at xl
      exact ⟨x3, xl⟩
    have HF : Hid (StAt K c us (ps.set k (p.1, (.slice a9 (p.2.2 ++ [lv]).length cap9), p.2.2 ++ [lv])) ls (w9_.setCell ⟨K.pb, k * 3 + 2, none⟩ (.slice a9 (p.2.2 ++ [lv]).length cap9))) := S14
    have HF2 : Hid (Turn K ps (ps.set k (p.1, (.slice a9 (p.2.2 ++ [lv]).length cap9), p.2.2 ++ [lv])) w (w9_.setCell ⟨K.pb, k * 3 + 2, none⟩ (.slice a9 (p.2.2 ++ [lv]).length cap9))) := T15
    clear S13 o13 own9 g9 at9 S14 T14 gp pv9 T15
    refine value_in hK (by kernel_rfl) ((.slice a9 (p.2.2 ++ [lv]).length cap9)) (w9_) (run_append_op _ _ rfl _ _ _ rfl rfl hrun9) (hV9) ?_
    simp only [Act.put, List.setIfInBounds_toArray, List.set_cons_zero, List.set_cons_succ]
    refine take_held 14 (by assumption) rfl (by kernel_rfl) (by kernel_rfl) (by kernel_rfl) (fun _ _ _ h => h) (by kernel_rfl) (v := ?v53) ?y53 ?r53
    case y53 => (intro u hu; go_simp; try rfl)
    simp only [Act.put, List.setIfInBounds_toArray, List.set_cons_zero, List.set_cons_succ]
    refine take_held 15 (by assumption) rfl (by kernel_rfl) (by kernel_rfl) (by kernel_rfl) (fun _ _ _ h => h) (by kernel_rfl) (v := ?v54) ?y54 ?r54
    case y54 => (intro u hu; go_simp; try rfl)
    simp only [Act.put, List.setIfInBounds_toArray, List.set_cons_zero, List.set_cons_succ]
    refine wpAnyH_ready (rs := [16]) (by kernel_rfl) (by simp) (AllReadyH.cons ((nth_eq _ 16).trans rfl) ?_ AllReadyH.nil)
    intro K' hK
    refine skip_in hK (by kernel_rfl) (w9_.setCell ⟨K.pb, k * 3 + 2, none⟩ (.slice a9 (p.2.2 ++ [lv]).length cap9)) (by go_simp) (hVf) ?_
    simp only [Act.put, List.setIfInBounds_toArray, List.set_cons_zero, List.set_cons_succ]
    refine done_held (by kernel_rfl) ?_ _
    have x3 := HF.out.c3
    have xl := HF.out.lc (r := i) (by rw [HML.out]; exact hil)
    have fl := frozen_of HF.out.lds i
    obtain ⟨S20, T20⟩ := HF.out.load i 0
    have T21 := HF2.out.trans T20
    rw [HML.out] at x3
    obtain ⟨wf, hwf⟩ : ∃ wf, wf = w9_.setCell ⟨K.pb, k * 3 + 2, none⟩ (.slice a9 (p.2.2 ++ [lv]).length cap9) := ⟨_, rfl⟩
    rw [← hwf] at x3 xl fl S20 T21
    rw [← hwf]
    clear HF HF2 hwf T20
    go_wp2
    go_ret
    first | exact ⟨rfl, _, S20, T21⟩ | exact ⟨_, rfl, S20, T21⟩ | exact ⟨_, S20, T21⟩
  · intro K' hK
    have hVa : IV (wd.alloc (.cells #[.int .i64 lv] 3)) := HV.out _ (HS12.out.go (below_new (Below.refl _ _) _)) (cell_below HL12.out (below_new (Below.refl _ _) _))
    refine value_in hK (by kernel_rfl) (.slice (some ⟨wd.heap.size, 0, none⟩) 1 1) (wd.alloc (.cells #[.int .i64 lv] 3)) (by go_simp) (hVa) ?_
    simp only [Act.put, List.setIfInBounds_toArray, List.set_cons_zero, List.set_cons_succ]
    refine wpAnyH_ready (rs := [4]) (by kernel_rfl) (by simp) (AllReadyH.cons ((nth_eq _ 4).trans rfl) ?_ AllReadyH.nil)
    intro K' hK
    have vd2 : (wd.alloc (.cells #[.int .i64 lv] 3)).cell? ⟨K.pb, k * 3 + 2, none⟩ = some (.slice a n cap) := cell_below vd (below_new (Below.refl _ _) _)
    refine value_in hK (by kernel_rfl) (.slice a n cap) (wd.alloc (.cells #[.int .i64 lv] 3)) (by go_simp) (by assumption) ?_
    simp only [Act.put, List.setIfInBounds_toArray, List.set_cons_zero, List.set_cons_succ]
    refine wpAnyH_ready (rs := [13]) (by kernel_rfl) (by simp) (AllReadyH.cons ((nth_eq _ 13).trans rfl) ?_ AllReadyH.nil)
    intro K' hK
    have S13 := HS12.out.go (below_new (Below.refl wd.heap.size wd) (.cells #[.int .i64 lv] 3))
    have o13 := S13.own k p hp
    rw [HEV.out] at o13
    obtain ⟨v9, w9_, hrun9, own9, g9, at9⟩ := run_app kindInt o13 (list_one (f := intL) (S := 1) wd lv 3 rfl) (by rw [Hnn.out]; simp; omega) (by rw [Hnn.out]; unfold maxLen; simp; omega) S13.big 48
    obtain ⟨a9, cap9, hv9, _⟩ := own_form own9
    subst hv9
    obtain ⟨S14, T14⟩ := S13.put hp (by rw [HEV.out]; exact g9) own9 (by rw [HEV.out]; exact at9) (by rw [List.length_append, Hnn.out]; simp; omega)
    have hs1 := S13.s1
    have hl1 := S13.l1
    have hp1 := S13.p1
    have hV9 : IV w9_ := by
      rw [hIV]
      exact ⟨(cell_same (p := ⟨K.s, 3, none⟩) (g9.block K.s (lt_of_heap S13.hd) (fun e => by have := (o13.lt K.s e.symm).1; omega))).trans (q3 _ hVa), (cell_same (p := ⟨K.lb, i, none⟩) (g9.block K.lb (lt_of_heap S13.lds) (fun e => by have := (o13.lt K.lb e.symm).1; omega))).trans (q4 _ hVa)⟩
    have gp := g9.block K.pb (lt_of_heap S13.pil) (fun e => by have := (o13.lt K.pb e.symm).1; omega)
    have pv9 := S13.pv hp
    have vd9 : w9_.cell? ⟨K.pb, k * 3 + 2, none⟩ = some (.slice a n cap) := (cell_same (p := ⟨K.pb, k * 3 + 2, none⟩) gp).trans (by rw [HEV.out] at pv9; exact pv9)
    have fd9 : w9_.frozen? ⟨K.pb, k * 3 + 2, none⟩ = false := (froz_same (p := ⟨K.pb, k * 3 + 2, none⟩) gp).trans (frozen_of S13.pil _)
    have T15 := (HT12.out.trans (Turn.of_below (below_new (Below.refl wd.heap.size wd) (.cells #[.int .i64 lv] 3)))).trans T14
    have hVf : IV (w9_.setCell ⟨K.pb, k * 3 + 2, none⟩ (.slice a9 (p.2.2 ++ [lv]).length cap9)) := by
      rw [hIV]
      have x3 := S14.c3
      rw [HML.out] at x3
      have xl := S14.lc (r := i) (by rw [HML.out]; exact hil)
      rw [HLV.out] at xl
      exact ⟨x3, xl⟩
    have HF : Hid (StAt K c us (ps.set k (p.1, (.slice a9 (p.2.2 ++ [lv]).length cap9), p.2.2 ++ [lv])) ls (w9_.setCell ⟨K.pb, k * 3 + 2, none⟩ (.slice a9 (p.2.2 ++ [lv]).length cap9))) := S14
    have HF2 : Hid (Turn K ps (ps.set k (p.1, (.slice a9 (p.2.2 ++ [lv]).length cap9), p.2.2 ++ [lv])) w (w9_.setCell ⟨K.pb, k * 3 + 2, none⟩ (.slice a9 (p.2.2 ++ [lv]).length cap9))) := T15
    clear S13 o13 own9 g9 at9 S14 T14 gp pv9 T15
    refine value_in hK (by kernel_rfl) ((.slice a9 (p.2.2 ++ [lv]).length cap9)) (w9_) (run_append_op _ _ rfl _ _ _ rfl rfl hrun9) (hV9) ?_
    simp only [Act.put, List.setIfInBounds_toArray, List.set_cons_zero, List.set_cons_succ]
    refine take_held 14 (by assumption) rfl (by kernel_rfl) (by kernel_rfl) (by kernel_rfl) (fun _ _ _ h => h) (by kernel_rfl) (v := ?v55) ?y55 ?r55
    case y55 => (intro u hu; go_simp; try rfl)
    simp only [Act.put, List.setIfInBounds_toArray, List.set_cons_zero, List.set_cons_succ]
    refine take_held 15 (by assumption) rfl (by kernel_rfl) (by kernel_rfl) (by kernel_rfl) (fun _ _ _ h => h) (by kernel_rfl) (v := ?v56) ?y56 ?r56
    case y56 => (intro u hu; go_simp; try rfl)
    simp only [Act.put, List.setIfInBounds_toArray, List.set_cons_zero, List.set_cons_succ]
    refine wpAnyH_ready (rs := [16]) (by kernel_rfl) (by simp) (AllReadyH.cons ((nth_eq _ 16).trans rfl) ?_ AllReadyH.nil)
    intro K' hK
    refine skip_in hK (by kernel_rfl) (w9_.setCell ⟨K.pb, k * 3 + 2, none⟩ (.slice a9 (p.2.2 ++ [lv]).length cap9)) (by go_simp) (hVf) ?_
    simp only [Act.put, List.setIfInBounds_toArray, List.set_cons_zero, List.set_cons_succ]
    refine done_held (by kernel_rfl) ?_ _
    have x3 := HF.out.c3
    have xl := HF.out.lc (r := i) (by rw [HML.out]; exact hil)
    have fl := frozen_of HF.out.lds i
    obtain ⟨S20, T20⟩ := HF.out.load i 0
    have T21 := HF2.out.trans T20
    rw [HML.out] at x3
    obtain ⟨wf, hwf⟩ : ∃ wf, wf = w9_.setCell ⟨K.pb, k * 3 + 2, none⟩ (.slice a9 (p.2.2 ++ [lv]).length cap9) := ⟨_, rfl⟩
    rw [← hwf] at x3 xl fl S20 T21
    rw [← hwf]
    clear HF HF2 hwf T20
    go_wp2
    go_ret
    first | exact ⟨rfl, _, S20, T21⟩ | exact ⟨_, rfl, S20, T21⟩ | exact ⟨_, S20, T21⟩
end Go.Proofs.Ytabbdclpjghdbaa.Stk
