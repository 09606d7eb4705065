/-
  A list of stacks under stores into its bins: what of it stays; the stacks themselves where their own blocks stay.
-/
import Derived.Test.YtabbdclpjghdbaaStkONew
namespace Go.Proofs.Ytabbdclpjghdbaa.Stk
set_option linter.unusedVariables false
set_option linter.unusedSimpArgs false
open Go Go.RowKit Go.Shelf Go.Proofs Go.Proofs.Ytabbdclpjghdbaa.Grid

theorem rowIO (zs : List Int) : rowL intL zs = zs.map (Value.int .i64) := by
  induction zs with
  | nil => rfl
  | cons a l ih => rw [List.map_cons, ← ih]; rfl
/- The row of a list of stacks, and that each one's bins may be written. -/
structure Hdr (N0 : Nat) (m : Value) (wr : World) (ys : List SV) : Prop where
  own : wr.ownsRow N0 59 3 m ys.length (rowL stkL ys)
  bk : ∀ (i : Nat) (x : Cell) (ba : Option Addr) (bn bc : Nat), ys[i]? = some (x, ba, bn, bc) → ∃ zs : List Int, wr.ownsRow N0 3 1 (.slice ba bn bc) bn (rowL intL zs) ∧ zs.length = bn ∧ ∀ g, (Value.slice ba bn bc).ownBlock = some g → m.ownBlock ≠ some g
theorem Told.hdr {N0 : Nat} {l : List Stk} {m : Value} {wr : World} {ys : List SV} (h : Told N0 l m wr ys) : Hdr N0 m wr ys :=
  ⟨h.own, fun i x ba bn bc e => by
    obtain ⟨hi, e2⟩ := List.getElem?_eq_some_iff.1 e
    obtain ⟨e3, o, d⟩ := h.bk i hi (by rw [← h.len]; exact hi)
    rw [e2] at o d
    have hn : bn = (l[i]'(by rw [← h.len]; exact hi)).2.length := by
      obtain ⟨a, cap, hv, _⟩ := own_form o
      unfold slV at hv
      injection hv
    have o' : wr.ownsRow N0 3 1 (.slice ba bn bc) (l[i]'(by rw [← h.len]; exact hi)).2.length (rowL intL (l[i]'(by rw [← h.len]; exact hi)).2) := o
    exact ⟨_, by rw [← hn] at o'; exact o', hn.symm, d⟩⟩
theorem Told.nums {N0 : Nat} {l : List Stk} {m : Value} {wr : World} {ys : List SV} (h : Told N0 l m wr ys) {i : Nat} (hi : i < l.length) : ∃ ba bn bc, ys[i]? = some ((l[i]'hi).1, ba, bn, bc) ∧ bn = (l[i]'hi).2.length := by
  have hy : i < ys.length := by rw [h.len]; exact hi
  obtain ⟨e3, o, d⟩ := h.bk i hy hi
  refine ⟨(ys[i]'hy).2.1, (ys[i]'hy).2.2.1, (ys[i]'hy).2.2.2, ?_, ?_⟩
  · rw [List.getElem?_eq_getElem hy, ← e3]
  · obtain ⟨a, cap, hv, _⟩ := own_form o
    unfold slV at hv
    injection hv
section
variable {N0 : Nat} {m : Value} {wr u : World} {ys : List SV}
theorem Hdr.keep (h : Hdr N0 m wr ys) (hk : ∀ b, N0 ≤ b → b < wr.heap.size → u.heap[b]? = wr.heap[b]?) : Hdr N0 m u ys :=
  ⟨owns_same h.own fun k q => hk k (h.own.lt k q).1 (h.own.lt k q).2, fun i x ba bn bc e => by
    obtain ⟨zs, o, hl, d⟩ := h.bk i x ba bn bc e
    exact ⟨zs, owns_same o fun k q => hk k (o.lt k q).1 (o.lt k q).2, hl, d⟩⟩
theorem Hdr.go (h : Hdr N0 m wr ys) (b : Below wr.heap.size wr u) : Hdr N0 m u ys := h.keep fun k _ q => b.block k q
theorem Hdr.row (h : Hdr N0 m wr ys) {g n cap : Nat} (hm : m = .slice (some ⟨g, 0, none⟩) n cap) {k : Nat} {x : Cell} {ba : Option Addr} {bn bc : Nat} (e : ys[k]? = some (x, ba, bn, bc)) : wr.cell? ⟨g, k * 3, none⟩ = some (.int .i64 x.1) ∧ wr.cell? ⟨g, k * 3 + 1, none⟩ = some (.int .i64 x.2) ∧ wr.cell? ⟨g, k * 3 + 2, none⟩ = some (.slice ba bn bc) ∧ N0 ≤ g ∧ g < wr.heap.size := by
  obtain ⟨hi, e2⟩ := List.getElem?_eq_some_iff.1 e
  have o := h.own
  rw [hm] at o
  have hn : n = ys.length := by
    obtain ⟨a, c, hv, _⟩ := own_form o
    injection hv
  rw [hn] at o
  have hc : ∀ (j : Nat) (v : Value), (stkL (ys[k]'hi))[j]? = some v → wr.cell? ⟨g, k * 3 + j, none⟩ = some v := fun j v hj => by
    have hlt : j < 3 := by
      have := (List.getElem?_eq_some_iff.1 hj).1
      simpa [stkL] using this
    rw [o.cellAt (k * 3 + j) (by omega)]
    exact rowL_at kindStack.len ys k hi j v hj
  have hb := o.lt g rfl
  rw [e2] at hc
  exact ⟨hc 0 _ rfl, hc 1 _ rfl, hc 2 _ rfl, hb.1, hb.2⟩
theorem Hdr.form (h : Hdr N0 m wr ys) {a : Option Addr} {n cap : Nat} (hm : m = .slice a n cap) (hk : 0 < n) : ∃ g, a = some ⟨g, 0, none⟩ := by
  rcases h.own.2 with ⟨hv, h0⟩ | ⟨g, cap', cur, hv, _⟩
  · rw [hm] at hv
    injection hv with h1 h2 h3
    omega
  · rw [hm] at hv
    injection hv with h1 h2 h3
    exact ⟨g, h1⟩
theorem Hdr.bin (h : Hdr N0 m wr ys) {k : Nat} {x : Cell} {ba : Option Addr} {bn bc : Nat} (e : ys[k]? = some (x, ba, bn, bc)) {j : Nat} (hj : j < bn) : ∃ gb, ba = some ⟨gb, 0, none⟩ ∧ N0 ≤ gb ∧ gb < wr.heap.size ∧ m.ownBlock ≠ some gb ∧ (∃ z, wr.cell? ⟨gb, j, none⟩ = some (.int .i64 z)) ∧ wr.frozen? ⟨gb, j, none⟩ = false := by
  obtain ⟨zs, o, hl, d⟩ := h.bk k x ba bn bc e
  rcases o.2 with ⟨hv, h0⟩ | ⟨g, cap', cur, hv, h1, h2, _⟩
  · omega
  · injection hv with q1 q2 q3
    subst q1
    have hlt := (o.lt g rfl).2
    refine ⟨g, rfl, h1, hlt, d g rfl, ?_, by simp [World.frozen?, h2]⟩
    rw [o.cellAt j (by omega)]
    obtain ⟨z, hz⟩ : ∃ z, zs[j]? = some z := ⟨_, List.getElem?_eq_getElem (by rw [hl]; exact hj)⟩
    exact ⟨z, by rw [rowIO, List.getElem?_map, hz]; rfl⟩
theorem own_putI {base : Nat} {e : TypeId} {size n : Nat} {v : Value} {xs : List Value} (h : wr.ownsRow base e size v n xs) (g j : Nat) (z : Value) : ∃ ys : List Value, (wr.setCell ⟨g, j, none⟩ z).ownsRow base e size v n ys ∧ (ys = xs ∨ ys = xs.set j z) := by
  by_cases hg : v.ownBlock = some g
  · refine ⟨xs.set j z, ⟨by rw [List.length_set]; exact h.1, ?_⟩, Or.inr rfl⟩
    rcases h.2 with ⟨hv, _⟩ | ⟨g', cap', cur, hv, hb, h2, h3, h4, h5, h6⟩
    · rw [hv] at hg; cases hg
    · rw [hv] at hg
      injection hg with hg
      simp only at hg
      subst hg
      refine .inr ⟨g', cap', cur.setIfInBounds j z, hv, hb, heap_setCell_same wr g' j cur e z h2, h3, h4, by simp [h5], ?_⟩
      rw [Array.toList_setIfInBounds, List.take_set, h6]
  · exact ⟨xs, owns_same h fun k hk => heap_setCell_other _ _ _ _ (fun e => hg (by rw [hk, e])), Or.inl rfl⟩
theorem Hdr.set (h : Hdr N0 m wr ys) {gb : Nat} (hne : m.ownBlock ≠ some gb) (j : Nat) (z : Int) : Hdr N0 m (wr.setCell ⟨gb, j, none⟩ (.int .i64 z)) ys :=
  ⟨owns_same h.own fun k hk => heap_setCell_other _ _ _ _ (fun e => hne (by rw [hk, e])), fun i x ba bn bc e => by
    obtain ⟨zs, o, hl, d⟩ := h.bk i x ba bn bc e
    obtain ⟨xs, o2, q⟩ := own_putI o gb j (.int .i64 z)
    rcases q with rfl | rfl
    · exact ⟨zs, o2, hl, d⟩
    · refine ⟨zs.set j z, ?_, by rw [List.length_set]; exact hl, d⟩
      rw [rowIO, ← List.map_set] at o2
      rw [rowIO]
      exact o2⟩
end
/- The stacks where the blocks from N on stay. -/
theorem StAt.sameO {K : Sk} {c : Conf} {us : List Int} {ps : List Pile} {ls : List Int} {w w' : World} (h : StAt K c us ps ls w) {N : Nat} (hN : N ≤ K.b0) (hv : N ≤ K.g ∧ N ≤ K.u ∧ ∀ k, K.vp.ownBlock = some k → N ≤ k) (hz : w.heap.size ≤ w'.heap.size) (e : ∀ b, N ≤ b → b < w.heap.size → w'.heap[b]? = w.heap[b]?) : StAt K c us ps ls w' := by
  have hs0 := h.s0
  have hs1 := h.s1
  have hg0 := h.g0
  have hu0 := h.u0
  have hbig := h.big
  have hp0 := h.p0
  have hp1 := h.p1
  have hl0 := h.l0
  have hl1 := h.l1
  exact { h with
    hd := (e _ (by omega) (by omega)).trans h.hd
    grid := h.grid.same (e _ hv.1 (by omega)) (e _ hv.2.1 (by omega))
    ports := by
      have hp := h.ports
      obtain ⟨a, cap, zs, q1, q2, q3, q4, q5⟩ := hp
      have r : ListAt 2 cellEl (fun b => b < K.b0 ∧ K.vp.ownBlock = some b) c.ports K.vp w := ⟨a, cap, zs, q1, q2, q3, fun i hi => by
        obtain ⟨p, r1, r2, r3⟩ := q4 i hi
        exact ⟨p, r1, ⟨r2, by rw [q2, r1]; rfl⟩, r3⟩, q5⟩
      exact (r.stable heldCell fun b hb => e b (hv.2.2 b hb.2) (by omega)).mono heldCell fun b hb => hb.1
    pil := (e _ (by omega) (by omega)).trans h.pil
    lds := (e _ (by omega) (by omega)).trans h.lds
    own := fun i p hp => owns_same (h.own i p hp) fun k hk => e k (by have := ((h.own i p hp).lt k hk).1; omega) ((h.own i p hp).lt k hk).2
    big := Nat.le_trans h.big hz }
/- The beginning of a list of stacks. -/
theorem list_takeS {F : Nat → Prop} {l : List Stk} {a : Option Addr} {n cap : Nat} {w : World} (h : ListAt 3 stackEl F l (.slice a n cap) w) (k cap' : Nat) (hk : k ≤ l.length) (hc : a = none → cap' = 0) : ListAt 3 stackEl F (l.take k) (.slice a k cap') w := by
  obtain ⟨a', c', ys, h1, h2, h3, h4, h5⟩ := h
  injection h2 with e1 e2 e3
  subst e1 e2 e3
  subst h1
  rw [List.length_map] at hk
  refine ⟨a, cap', ys.take k, by rw [List.map_take], by rw [List.length_take, Nat.min_eq_left hk], fun y hy => h3 y (List.mem_of_mem_take hy), fun i hi => ?_, hc⟩
  · have hi' : i < ys.length := by rw [List.length_take] at hi; omega
    obtain ⟨p, q1, q2, q3⟩ := h4 i hi'
    refine ⟨p, q1, q2, fun j u hj => q3 j u ?_⟩
    rw [List.getElem_take] at hj
    exact hj
theorem run_take2 (a : Option Addr) (n cap k : Nat) (hk : k ≤ cap) (h0 : a = none → n = 0 ∧ cap = 0) (u : World) : (Instr.sliceAt 24 (.slice a n cap) none (some (.int .i64 k)) none).run Try.prog u = .ok (.slice a k cap) u := by
  cases a with
  | none =>
    obtain ⟨rfl, rfl⟩ := h0 rfl
    obtain rfl : k = 0 := by omega
    clear hk h0
    go_simp
  | some p =>
    have a2 : (k : Int) ≤ (cap : Int) := by omega
    clear hk h0
    go_simp
theorem run_take2_op {o : Oper} {a : Act} {u : World} (px pk : Operand) (ho : o.op = .slice 24 px none (some pk) none) (x k v : Value) (hx : a.eval px = x) (hk : a.eval pk = k) (h : (Instr.sliceAt 24 x none (some k) none).run Try.prog u = .ok v u) : (execOp a.eval o).run Try.prog u = .ok (.value v) u := by
  unfold execOp
  simp only [ho, Option.map_some, Option.map_none, hx, hk, Sem.run_bind, Sem.run_pure, Result.andThen_ok, h]
theorem wpList_val_wantO {ops : Array Oper} {rest : List Oper} {o : Oper} {a : Act} {w : World} {Q : Exit → Act → World → Prop} (hw : Region.wanted o (yielded ops a.tmps) = true) (v : Value) (hr : (execOp a.eval o).run Try.prog w = .ok (.value v) w)
    (h : wpList Try.prog ops Q rest (a.put o.dst v) w) : wpList Try.prog ops Q (o :: rest) a w :=
  BigFrame.wpList_want hw fun _ hK => by
    unfold Oper.wp
    simp only [hr]
    exact hK _ _ h
theorem own_form3 {w : World} {N0 n : Nat} {v : Value} {xs : List Value} (h : w.ownsRow N0 59 3 v n xs) : ∃ a cap, v = .slice a n cap ∧ n ≤ cap ∧ (a = none → n = 0 ∧ cap = 0) := by
  rcases h.2 with ⟨rfl, rfl⟩ | ⟨g, cap, cur, rfl, _, _, hc, _⟩
  · exact ⟨none, 0, rfl, Nat.le_refl _, fun _ => ⟨rfl, rfl⟩⟩
  · exact ⟨_, cap, rfl, hc, fun e => by cases e⟩
theorem conf_ones {F : Nat → Prop} {c : Conf} {v1 v2 v3 v4 : Value} {u : World} (h : ConfAt F c v1 v2 v3 v4 u) : ((#[.int .i64 c.W, .int .i64 c.H, .int .i64 c.height, v1, v2, v3, v4, .int .i64 c.unit, .int .i64 c.accel, .int .i64 c.speed, .int .i64 c.turn, .int .i64 c.hoist, .int .i64 c.queue, .int .i64 c.resend, .int .i64 c.budget, .bool c.back] : Array Value).all fun x => x.oneCell') = true := by
  obtain ⟨_, _, e1, _⟩ := h.b.form
  obtain ⟨_, _, e2, _⟩ := h.p.form
  obtain ⟨_, _, e3, _⟩ := h.r.form
  obtain ⟨_, _, e4, _⟩ := h.s.form
  subst e1 e2 e3 e4
  simp [Value.oneCell']
/- Where what was told is being turned. -/
structure La (w2 w7 : World) (N6 N5 : Nat) (vL : Value) (ysL : List SV) (wq : World) : Prop where
  low : Below w2.heap.size w2 wq
  mid : ∀ b, N6 ≤ b → b < w7.heap.size → wq.heap[b]? = w7.heap[b]?
  big : w7.heap.size ≤ wq.heap.size
  hdr : Hdr N5 vL wq ysL
section
variable {w2 w7 wq u : World} {N6 N5 : Nat} {vL : Value} {ysL : List SV}
theorem La.go (h : La w2 w7 N6 N5 vL ysL wq) (b : Below wq.heap.size wq u) : La w2 w7 N6 N5 vL ysL u :=
  ⟨bcat h.low b (Nat.le_refl _), fun k h1 h2 => (b.block k (Nat.lt_of_lt_of_le h2 h.big)).trans (h.mid k h1 h2), Nat.le_trans h.big b.size, h.hdr.go b⟩
theorem La.set (h : La w2 w7 N6 N5 vL ysL wq) {gb : Nat} (h1 : w2.heap.size ≤ gb) (h2 : gb < N6 ∨ w7.heap.size ≤ gb) (hne : vL.ownBlock ≠ some gb) (j : Nat) (z : Int) : La w2 w7 N6 N5 vL ysL (wq.setCell ⟨gb, j, none⟩ (.int .i64 z)) :=
  ⟨h.low.setCell (p := ⟨gb, j, none⟩) h1 _, fun k q1 q2 => (heap_setCell_other _ _ _ _ (by simp only; omega)).trans (h.mid k q1 q2), by rw [World.size_setCell]; exact h.big, h.hdr.set hne j z⟩
end
/- Where the config's copy is being turned. -/
structure Lb (w w1 w2 w7 : World) (N6 Nd : Nat) (v4 : Value) (ys4 : List SV) (wq : World) : Prop where
  bel : Below w.heap.size w wq
  low : ∀ b, w1.heap.size ≤ b → b < w2.heap.size → wq.heap[b]? = w2.heap[b]?
  mid : ∀ b, N6 ≤ b → b < w7.heap.size → wq.heap[b]? = w7.heap[b]?
  big : w7.heap.size ≤ wq.heap.size
  hdr : Hdr Nd v4 wq ys4
section
variable {w w1 w2 w7 wq u : World} {N6 Nd : Nat} {v4 : Value} {ys4 : List SV}
theorem Lb.set (h : Lb w w1 w2 w7 N6 Nd v4 ys4 wq) {gb : Nat} (h1 : w.heap.size ≤ gb) (h2 : gb < w1.heap.size) (h3 : w1.heap.size ≤ N6) (hne : v4.ownBlock ≠ some gb) (j : Nat) (z : Int) : Lb w w1 w2 w7 N6 Nd v4 ys4 (wq.setCell ⟨gb, j, none⟩ (.int .i64 z)) :=
  ⟨h.bel.setCell (p := ⟨gb, j, none⟩) h1 _, fun k q1 q2 => (heap_setCell_other _ _ _ _ (by simp only; omega)).trans (h.low k q1 q2), fun k q1 q2 => (heap_setCell_other _ _ _ _ (by simp only; omega)).trans (h.mid k q1 q2), by rw [World.size_setCell]; exact h.big, h.hdr.set hne j z⟩
end
theorem tell_open {c : Conf} {us : List Int} {ps : List Pile} {k : Nat} {s : Stk} (h : s ∈ tellT c us ps k) : openU c.W c.H us s.1 = true := by
  unfold tellT at h
  obtain ⟨p, hp, rfl⟩ := List.mem_map.1 h
  exact (List.mem_filter.1 hp).2
theorem open_inO {c : Conf} {us : List Int} {x : Cell} (h : openU c.W c.H us x = true) : In c.W c.H x := by
  unfold openU at h
  rw [Bool.and_eq_true] at h
  exact of_decide_eq_true h.1
theorem place_bd (v n : Int) (h : 0 < n) : 0 ≤ place v n ∧ place v n < n := by
  have h2 := Int.tmod_lt_of_pos v h
  have h3 := tmod_low v n h
  unfold place
  split <;> omega
theorem run_min_op {o : Oper} {a : Act} {u : World} (x y : Operand) (ho : o.op = .call { callee := .builtin .min, args := #[x, y], argTypes := #[3, 3] }) (ht : o.type = 3) (p q : Int) (hx : a.eval x = .int .i64 p) (hy : a.eval y = .int .i64 q) (r : Int) (hr : min p q = r) : (execOp a.eval o).run Try.prog u = .ok (.value (.int .i64 r)) u := by
  subst hr
  unfold execOp
  simp only [ho, ht, resolve, invoke, builtin, Sem.run_bind, Sem.run_pure, Result.andThen_ok, List.map_toArray, List.map_cons, List.map_nil, hx, hy]
  by_cases hq : q < p
  · have e1 : min p q = q := by omega
    rw [e1]
    have hq2 : ¬ p < q := by omega
    have hq3 : ¬ p ≤ q := by omega
    go_simp
    try rfl
  · have e1 : min p q = p := by omega
    rw [e1]
    have hq3 : p ≤ q := by omega
    go_simp
    try rfl
end Go.Proofs.Ytabbdclpjghdbaa.Stk
