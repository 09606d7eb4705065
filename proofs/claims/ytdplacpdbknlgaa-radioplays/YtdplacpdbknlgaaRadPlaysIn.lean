/-
  Calls that came in; two radios that are asked the same.
-/
import Derived.Test.YtdplacpdbknlgaaRadRef
namespace Go.Proofs.Ytdplacpdbknlgaa.Lk
set_option linter.unusedVariables false
set_option linter.unusedSimpArgs false
open Go Go.ChangeShapes Go.WideShapes Go.RowKit Go.Shelf Go.Proofs
attribute [local go_sem] Oper.semAt_some

structure Rop where
  kd : Int
  i : Int
  a : Option Addr
  cap : Nat
  zs : List Tl
def opL (x : Rop) : List Value := [.int .i64 x.kd, .int .i64 x.i, .slice x.a x.zs.length x.cap]
def opA (x : Rop) : Array Value := (opL x).toArray
def op0 : Rop := ⟨0, 0, none, 0, []⟩
theorem infoOp : (Try.prog.info? 31).map (·.size) = some 3 := by kernel_rfl
theorem aggOp (w : World) : (isAgg 31).run Try.prog w = .ok true w := by unfold isAgg; rw [Sem.run_bind, run_underlying Try.underlying31 w]; rfl
theorem zeroOp (w : World) : (zeroValue 31).run Try.prog w = .ok (.agg (opA op0)) w := by kernel_rfl
theorem opA_one (x : Rop) : (opA x).all (·.oneCell') = true := by unfold opA opL; kernel_rfl
set_option maxRecDepth 100000 in
theorem in_op {H : Type} {enc : TypeId × Value → H} {W : World} {n : Nat} {cs : List Value} {d : DataW H × List MemPlace} (h : DataW.trod enc Try.prog W 0 (fun _ => true) true n 31 cs = some d) : ∃ x : Rop, cs = opL x ∧ Lies W (.slice x.a x.zs.length x.cap) x.zs := by
  obtain ⟨xs, k, hk, hxy, hlen, hxl, hf⟩ := DataW.trod_struct Try.underlying31 h
  rw [show Try.prog.cellsOf 31 = 3 by kernel_rfl] at hlen
  match cs, hlen with
  | [v0, v1, v2], _ =>
    match xs, hxl with
    | [y0, y1, y2], _ =>
      have g0 : DataW.trod enc Try.prog W 0 (fun _ => true) true k 3 [v0] = some y0 := by
        have q := hf 0 _ rfl
        simp only [show Try.prog.cellsOf 3 = 1 by kernel_rfl, List.drop_zero, List.drop_succ_cons, List.take_succ_cons, List.take_zero, List.getElem?_cons_zero, List.getElem?_cons_succ] at q
        exact q
      have g1 : DataW.trod enc Try.prog W 0 (fun _ => true) true k 3 [v1] = some y1 := by
        have q := hf 1 _ rfl
        simp only [show Try.prog.cellsOf 3 = 1 by kernel_rfl, List.drop_zero, List.drop_succ_cons, List.take_succ_cons, List.take_zero, List.getElem?_cons_zero, List.getElem?_cons_succ] at q
        exact q
      have g2 : DataW.trod enc Try.prog W 0 (fun _ => true) true k 27 [v2] = some y2 := by
        have q := hf 2 _ rfl
        simp only [show Try.prog.cellsOf 27 = 1 by kernel_rfl, List.drop_zero, List.drop_succ_cons, List.take_succ_cons, List.take_zero, List.getElem?_cons_zero, List.getElem?_cons_succ] at q
        exact q
      obtain ⟨kd, q0⟩ := in_int g0
      simp only [List.cons.injEq, and_true] at q0
      obtain rfl := q0
      obtain ⟨i, q1⟩ := in_int g1
      simp only [List.cons.injEq, and_true] at q1
      obtain rfl := q1
      obtain ⟨v, zs, q2, hL⟩ := lies_in g2
      simp only [List.cons.injEq, and_true] at q2
      obtain rfl := q2
      obtain ⟨a, cap, rfl⟩ := hL.len
      exact ⟨⟨kd, i, a, cap, zs⟩, rfl, hL⟩
def InO (w : World) (a : Option Addr) (n : Nat) (ts : Nat → Rop) : Prop := ∀ i, i < n → ∃ x : Addr, a = some x ∧ (∀ j u, (opL (ts i))[j]? = some u → w.cell? ((x.add (i * 3)).add j) = some u) ∧ Lies w (.slice (ts i).a (ts i).zs.length (ts i).cap) (ts i).zs
theorem InO.go {w w' : World} {a : Option Addr} {n : Nat} {ts : Nat → Rop} (h : InO w a n ts) (hb : Below w.heap.size w w') : InO w' a n ts := fun i hi => by
  obtain ⟨x, hx, h1, h2⟩ := h i hi
  exact ⟨x, hx, fun j u hj => (hb.cell (World.block_lt_of_cell? w _ (h1 j u hj))).trans (h1 j u hj), h2.go hb⟩
theorem InO.load {w : World} {a : Option Addr} {n : Nat} {ts : Nat → Rop} (h : InO w a n ts) {i : Nat} (hi : i < n) : ∃ x : Addr, a = some x ∧ (loadVar 31 (x.add (i * 3))).run Try.prog w = .ok (.agg (opA (ts i))) w := by
  obtain ⟨x, hx, h1, h2⟩ := h i hi
  exact ⟨x, hx, run_loadVar_at w _ _ _ (fun j v hv => h1 j v (by unfold opA at hv; simpa using hv)) (aggOp _) infoOp⟩
theorem in_script20 {H : Type} {enc : TypeId × Value → H} {W : World} {n : Nat} {cs : List Value} {d : DataW H × List MemPlace} (h : DataW.trod enc Try.prog W 0 (fun _ => true) true n 22 cs = some d) : ∃ a n cap ts, cs = [.slice a n cap] ∧ InO W a n ts := by
  rcases Go.Deep.open_slice Try.underlying22 h with ⟨hcs, hd⟩ | ⟨x, l, cp, mm, k, D, Pl, hcs, _, hl, hm, hmm, hd, hx⟩
  · exact ⟨none, 0, 0, fun _ => op0, hcs, fun i hi => by omega⟩
  · refine ⟨some x, l, cp, ?_⟩
    have each : ∀ i, i < l → ∃ z : Rop, (∀ j u, (opL z)[j]? = some u → W.cell? ((x.add (i * 3)).add j) = some u) ∧ Lies W (.slice z.a z.zs.length z.cap) z.zs := fun i hi => by
      obtain ⟨cs', k1, k2⟩ := hx i (by simp at hmm; omega)
      rw [show Try.prog.cellsOf 31 = 3 by kernel_rfl] at k1
      obtain ⟨z, rfl, wz⟩ := in_op k2
      obtain ⟨_, hlen, hc⟩ := World.cells?_some k1
      refine ⟨z, fun j u hj => ?_, wz⟩
      obtain ⟨hj1, hj2⟩ := List.getElem?_eq_some_iff.1 hj
      exact (hc j (by first | exact hj1 | (simpa using hj1))).trans hj
    have hin : Inhabited Rop := ⟨op0⟩
    obtain ⟨z, hz⟩ := Go.Deep.choose_lt each
    exact ⟨z, hcs, fun i hi => ⟨x, rfl, hz i hi⟩⟩
/- Both radios, apart. -/
structure Two (B : Nat) (W0 w : World) (p q : Nat) (v v' : Value) (la lb : List Tl) : Prop where
  a : RdAt 57 B w p v la
  b : RdAt 29 B w q v' lb
  pq : p ≠ q
  vq : v.ownBlock ≠ some q
  vp : v'.ownBlock ≠ some p
  vv : ∀ k, v.ownBlock = some k → v'.ownBlock ≠ some k
  bel : Below B W0 w
structure Box (w : World) (p q : Nat) (v v' : Value) (b : Nat) (cs : Array Value) (T : TypeId) : Prop where
  at_ : w.heap[b]? = some (.cells cs T (0, 0))
  xp : b ≠ p
  xq : b ≠ q
  xv : v.ownBlock ≠ some b
  xw : v'.ownBlock ≠ some b
section
variable {B : Nat} {W0 w w1 : World} {p q : Nat} {v v' v1 : Value} {la lb l1 : List Tl} {b : Nat} {cs : Array Value} {T : TypeId}
theorem Box.lt (h : Box w p q v v' b cs T) : b < w.heap.size := (Array.getElem?_eq_some_iff.1 h.at_).1
theorem Two.left (h : Two B W0 w p q v v' la lb) (G : RdAt 57 B w1 p v1 l1) (t : Tn w w1 p v v1) : Two B W0 w1 p q v1 v' l1 lb := by
  refine ⟨G, ⟨(t.block q h.b.lt (Ne.symm h.pq) h.vq).trans h.b.at_, owns_same h.b.own fun k hk => t.block k (h.b.own.lt k hk).2 (fun e => h.vp (e ▸ hk)) (fun e => h.vv k e hk), h.b.ne, h.b.big, h.b.len⟩, h.pq, fun e => ?_, h.vp, fun k e e2 => ?_, t.below h.a h.bel⟩
  · rcases t.row q e with z | z
    · exact h.vq z
    · have := h.b.lt; omega
  · rcases t.row k e with z | z
    · exact h.vv k z e2
    · have := (h.b.own.lt k e2).2; omega
theorem Two.right (h : Two B W0 w p q v v' la lb) (G : RdAt 29 B w1 q v1 l1) (t : Tn w w1 q v' v1) : Two B W0 w1 p q v v1 la l1 := by
  refine ⟨⟨(t.block p h.a.lt h.pq h.vp).trans h.a.at_, owns_same h.a.own fun k hk => t.block k (h.a.own.lt k hk).2 (fun e => h.vq (e ▸ hk)) (fun e => h.vv k hk e), h.a.ne, h.a.big, h.a.len⟩, G, h.pq, h.vq, fun e => ?_, fun k e2 e => ?_, t.below h.b h.bel⟩
  · rcases t.row p e with z | z
    · exact h.vp z
    · have := h.a.lt; omega
  · rcases t.row k e with z | z
    · exact h.vv k e2 z
    · have := (h.a.own.lt k e2).2; omega
theorem Two.go (h : Two B W0 w p q v v' la lb) (hb : Below w.heap.size w w1) : Two B W0 w1 p q v v' la lb :=
  ⟨h.a.go hb, h.b.go hb, h.pq, h.vq, h.vp, h.vv, h.bel.trans (hb.mono (by have := h.a.big; have := h.a.lt; omega))⟩
theorem Box.left (h : Box w p q v v' b cs T) (t : Tn w w1 p v v1) : Box w1 p q v1 v' b cs T :=
  ⟨(t.block b h.lt h.xp h.xv).trans h.at_, h.xp, h.xq, fun e => (t.row b e).elim h.xv (fun z => by have := h.lt; omega), h.xw⟩
theorem Box.right (h : Box w p q v v' b cs T) (t : Tn w w1 q v' v1) : Box w1 p q v v1 b cs T :=
  ⟨(t.block b h.lt h.xq h.xw).trans h.at_, h.xp, h.xq, h.xv, fun e => (t.row b e).elim h.xw (fun z => by have := h.lt; omega)⟩
theorem Box.go (h : Box w p q v v' b cs T) (hb : Below w.heap.size w w1) : Box w1 p q v v' b cs T := ⟨(hb.block b h.lt).trans h.at_, h.xp, h.xq, h.xv, h.xw⟩
theorem Box.new (h : Two B W0 w p q v v' la lb) (hw : w.alloc (.cells cs T) = w1) : Below w.heap.size w w1 ∧ Box w1 p q v v' w.heap.size cs T :=
  ⟨by rw [← hw]; exact (Below.refl _ _).alloc (Nat.le_refl _) _, by rw [← hw]; exact World.alloc_heap_new _ _, by have := h.a.lt; omega, by have := h.b.lt; omega, fun e => by have := (h.a.own.lt _ e).2; omega, fun e => by have := (h.b.own.lt _ e).2; omega⟩
end
theorem op_c0 {w : World} {b : Nat} {x : Rop} {T : TypeId} (h : w.heap[b]? = some (.cells (opA x) T (0, 0))) : w.cell? ⟨b, 0, none⟩ = some (.int .i64 x.kd) := by simp [World.cell?, h, opA, opL]
theorem op_c1 {w : World} {b : Nat} {x : Rop} {T : TypeId} (h : w.heap[b]? = some (.cells (opA x) T (0, 0))) : w.cell? ⟨b, 1, none⟩ = some (.int .i64 x.i) := by simp [World.cell?, h, opA, opL]
theorem op_c2 {w : World} {b : Nat} {x : Rop} {T : TypeId} (h : w.heap[b]? = some (.cells (opA x) T (0, 0))) : w.cell? ⟨b, 2, none⟩ = some (.slice x.a x.zs.length x.cap) := by simp [World.cell?, h, opA, opL]
theorem as_retQ {P : Program} {f : FuncId} {args : Array Value} {w : World} {v : Value} {R : Value → World → Prop} (h : Calls P f args w fun e w' => e = .returned v ∧ ∃ v', R v' w') : Calls P f args w fun e w' => ∃ u, e = .returned u ∧ (u = v ∧ ∃ v', R v' w') :=
  h.mono fun e w' ⟨h1, h2⟩ => ⟨v, h1, rfl, h2⟩
/- What is heard, what is left. -/
def hearV (l : List Tl) (i : Int) : Tl := (l[plN i l.length]?).getD tl0
def hearD (l : List Tl) (i : Int) (keep : Bool) : List Tl := if l = [] then [] else if keep then l else cutP l (plN i l.length)
theorem hear_some {l : List Tl} (h : l ≠ []) (i : Int) : l[plN i l.length]? = some (hearV l i) := by
  have h0 : 0 < l.length := List.length_pos_iff.2 h
  unfold hearV
  rw [List.getElem?_eq_getElem (plN_lt i h0)]
  rfl
theorem rad_hear {B : Nat} {w : World} {p : Nat} {v : Value} {l : List Tl} (h : RdAt 57 B w p v l) (i : Int) (keep : Bool) : Calls Try.prog 13 #[.pointer (some ⟨p, 0, none⟩), .int .i64 i, .bool keep] w fun e w' => e = .returned (.tuple #[.agg (tlA (hearV l i)), .bool (!l.isEmpty)]) ∧ ∃ v', RdAt 57 B w' p v' (hearD l i keep) ∧ Tn w w' p v v' := by
  by_cases h0 : l = []
  · subst h0
    exact (radHear_none h i keep).mono fun e w' ⟨h1, h2, h3⟩ => ⟨h1, v, by simpa [hearD] using h2, h3⟩
  · refine (radHear_any h i keep _ (hear_some h0 i)).mono fun e w' ⟨h1, v', h2, h3⟩ => ⟨?_, v', ?_, h3⟩
    · rw [h1, show (!l.isEmpty) = true by cases l with | nil => exact absurd rfl h0 | cons _ _ => rfl]
    · unfold hearD
      rw [if_neg h0]
      exact h2
theorem r_hear {B : Nat} {w : World} {p : Nat} {v : Value} {l : List Tl} (h : RdAt 29 B w p v l) (i : Int) (keep : Bool) : Calls Try.prog 14 #[.pointer (some ⟨p, 0, none⟩), .int .i64 i, .bool keep] w fun e w' => e = .returned (.tuple #[.agg (tlA (hearV l i)), .bool (!l.isEmpty)]) ∧ ∃ v', RdAt 29 B w' p v' (hearD l i keep) ∧ Tn w w' p v v' := by
  by_cases h0 : l = []
  · subst h0
    exact (rhear_none h i keep).mono fun e w' ⟨h1, h2, h3⟩ => ⟨h1, v, by simpa [hearD] using h2, h3⟩
  · refine (rhear_any h i keep _ (hear_some h0 i)).mono fun e w' ⟨h1, v', h2, h3⟩ => ⟨?_, v', ?_, h3⟩
    · rw [h1, show (!l.isEmpty) = true by cases l with | nil => exact absurd rfl h0 | cons _ _ => rfl]
    · unfold hearD
      rw [if_neg h0]
      exact h2
def lostL (l : List Tl) (i : Int) : List Tl := if l = [] then [] else cutP l (plN i l.length)
theorem rad_lose {B : Nat} {w : World} {p : Nat} {v : Value} {l : List Tl} (h : RdAt 57 B w p v l) (i : Int) {z : Bool} (hz : (!l.isEmpty) = z) : Calls Try.prog 15 #[.pointer (some ⟨p, 0, none⟩), .int .i64 i] w fun e w' => e = .returned (.bool z) ∧ ∃ v', RdAt 57 B w' p v' (lostL l i) ∧ Tn w w' p v v' := by
  subst hz
  by_cases h0 : l = []
  · subst h0
    exact (radLose_none h i).mono fun e w' ⟨h1, h2⟩ => ⟨h1, v, by rw [h2]; simpa [lostL] using h, by rw [h2]; exact Tn.refl _ _ _⟩
  · refine (radLose_any h i (List.length_pos_iff.2 h0)).mono fun e w' ⟨h1, v', h2, h3⟩ => ⟨?_, v', ?_, h3⟩
    · rw [h1, show (!l.isEmpty) = true by cases l with | nil => exact absurd rfl h0 | cons _ _ => rfl]
    · unfold lostL
      rw [if_neg h0]
      exact h2
theorem r_lose {B : Nat} {w : World} {p : Nat} {v : Value} {l : List Tl} (h : RdAt 29 B w p v l) (i : Int) {z : Bool} (hz : (!l.isEmpty) = z) : Calls Try.prog 16 #[.pointer (some ⟨p, 0, none⟩), .int .i64 i] w fun e w' => e = .returned (.bool z) ∧ ∃ v', RdAt 29 B w' p v' (lostL l i) ∧ Tn w w' p v v' := by
  subst hz
  by_cases h0 : l = []
  · subst h0
    exact (rlose_none h i).mono fun e w' ⟨h1, h2⟩ => ⟨h1, v, by rw [h2]; simpa [lostL] using h, by rw [h2]; exact Tn.refl _ _ _⟩
  · refine (rlose_any h i (List.length_pos_iff.2 h0)).mono fun e w' ⟨h1, v', h2, h3⟩ => ⟨?_, v', ?_, h3⟩
    · rw [h1, show (!l.isEmpty) = true by cases l with | nil => exact absurd rfl h0 | cons _ _ => rfl]
    · unfold lostL
      rw [if_neg h0]
      exact h2
end Go.Proofs.Ytdplacpdbknlgaa.Lk
