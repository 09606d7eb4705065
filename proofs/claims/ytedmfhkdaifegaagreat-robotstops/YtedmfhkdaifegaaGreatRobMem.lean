/-
  A robot in memory: its cells, what a call of it may turn.
-/
import Derived.Test.YtedmfhkdaifegaaGreatRobPlain
import Derived.Deep.MidRow
namespace Go.Proofs.YtedmfhkdaifegaaGreat.Rob
set_option linter.unusedVariables false
set_option linter.unusedSimpArgs false
open Go Go.RowKit Go.Shelf Go.Proofs Go.Proofs.YtedmfhkdaifegaaGreat.Lk Go.Proofs.YtedmfhkdaifegaaGreat.Plain

/- One block alone is turned. -/
structure Only (p : Nat) (w w' : World) : Prop where
  os : w'.os = w.os
  tape : w'.tape = w.tape
  output : w'.output = w.output
  size : w'.heap.size = w.heap.size
  block : ∀ i, i ≠ p → w'.heap[i]? = w.heap[i]?
theorem Only.refl (p : Nat) (w : World) : Only p w w := ⟨rfl, rfl, rfl, rfl, fun _ _ => rfl⟩
theorem Only.trans {p : Nat} {a b c : World} (h : Only p a b) (k : Only p b c) : Only p a c := ⟨k.os.trans h.os, k.tape.trans h.tape, k.output.trans h.output, k.size.trans h.size, fun i hi => (k.block i hi).trans (h.block i hi)⟩
theorem Only.setCell (p o : Nat) (v : Value) (w : World) : Only p w (w.setCell ⟨p, o, none⟩ v) := ⟨rfl, rfl, rfl, by simp [World.setCell], fun i hi => by simp [World.setCell, Array.getElem?_modify, Ne.symm hi]⟩
theorem Only.setCells (p : Nat) : ∀ (vs : List Value) (o : Nat) (w : World), Only p w (w.setCells p o vs)
  | [], _, w => Only.refl p w
  | v :: r, o, w => (Only.setCell p o v w).trans (Only.setCells p r (o + 1) (w.setCell ⟨p, o, none⟩ v))
/- Cells put into a row. -/
def setAll (cs : Array Value) (o : Nat) : List Value → Array Value
  | [] => cs
  | v :: r => setAll (cs.setIfInBounds o v) (o + 1) r
theorem setCells_same (g : Nat) (T : TypeId) (fr : Nat × Nat) : ∀ (vs : List Value) (o : Nat) (w : World) (cs : Array Value), w.heap[g]? = some (.cells cs T fr) → (w.setCells g o vs).heap[g]? = some (.cells (setAll cs o vs) T fr)
  | [], _, _, _, h => h
  | v :: r, o, w, cs, h => setCells_same g T fr r (o + 1) (w.setCell ⟨g, o, none⟩ v) (cs.setIfInBounds o v) (by unfold World.setCell; simp [Array.getElem?_modify, h])
/- A robot and what it stands on. -/
structure RbAt (w : World) (R : Wh) (r : Rb) : Prop where
  at_ : w.heap[R.p]? = some (.cells (rbA R.g R.k r) 82 (0, 0))
  grid : Grid.GridAt w R.g R.u R.W R.H R.us R.vp
  kin : Kin.KinAt w R.k R.ku R.ka R.kv
  ok : Kin.Ok R.ku R.ka R.kv
  pg : R.p ≠ R.g
  pu : R.p ≠ R.u
  pk : R.p ≠ R.k
  kg : R.k ≠ R.g
  ku : R.k ≠ R.u
/- What a robot's call may turn: its own block, its kinem's. -/
structure Tn (R : Wh) (w w' : World) : Prop where
  os : w'.os = w.os
  tape : w'.tape = w.tape
  output : w'.output = w.output
  size : w.heap.size ≤ w'.heap.size
  block : ∀ i, i < w.heap.size → i ≠ R.p → i ≠ R.k → w'.heap[i]? = w.heap[i]?
theorem Tn.refl (R : Wh) (w : World) : Tn R w w := ⟨rfl, rfl, rfl, Nat.le_refl _, fun _ _ _ _ => rfl⟩
theorem Tn.trans {R : Wh} {a b c : World} (h : Tn R a b) (k : Tn R b c) : Tn R a c := ⟨k.os.trans h.os, k.tape.trans h.tape, k.output.trans h.output, Nat.le_trans h.size k.size, fun i hi h1 h2 => (k.block i (Nat.lt_of_lt_of_le hi h.size) h1 h2).trans (h.block i hi h1 h2)⟩
theorem Tn.below {R : Wh} {w w' : World} (h : Below w.heap.size w w') : Tn R w w' := ⟨h.os, h.tape, h.output, h.size, fun i hi _ _ => h.block i hi⟩
theorem Tn.only {R : Wh} {w w' : World} (h : Only R.p w w') : Tn R w w' := ⟨h.os, h.tape, h.output, by rw [h.size]; exact Nat.le_refl _, fun i _ h1 _ => h.block i h1⟩
theorem Tn.kin {R : Wh} {w w' : World} (h : w.grownBy w' (some R.k)) : Tn R w w' := ⟨h.os, h.tape, h.output, h.size, fun i hi _ h2 => h.block i hi (fun e => h2 (by cases e; rfl))⟩
theorem Tn.past {R : Wh} {B : Nat} {w w' : World} (h : Tn R w w') (hp : B ≤ R.p) (hk : B ≤ R.k) (hB : B ≤ w.heap.size) : Below B w w' := ⟨h.os, h.tape, h.output, h.size, fun i hi => h.block i (by omega) (by omega) (by omega)⟩
theorem bel_tn {R : Wh} {B : Nat} {w0 w w' : World} (b : Below B w0 w) (h : Tn R w w') (hp : B ≤ R.p) (hk : B ≤ R.k) (hB : B ≤ w.heap.size) : Below B w0 w' := b.trans (h.past hp hk hB)
section
variable {w : World} {R : Wh} {r : Rb}
theorem RbAt.plt (h : RbAt w R r) : R.p < w.heap.size := (Array.getElem?_eq_some_iff.1 h.at_).1
theorem RbAt.klt (h : RbAt w R r) : R.k < w.heap.size := h.kin.nums.lt
theorem RbAt.cell (h : RbAt w R r) (j : Nat) : w.cell? ⟨R.p, j, none⟩ = (rbA R.g R.k r)[j]? := by simp [World.cell?, h.at_]
theorem RbAt.froz (h : RbAt w R r) (j : Nat) : w.frozen? ⟨R.p, j, none⟩ = false := by simp [World.frozen?, h.at_]
theorem RbAt.go {w' : World} (h : RbAt w R r) (hb : Below w.heap.size w w') : RbAt w' R r :=
  ⟨(hb.block _ h.plt).trans h.at_, h.grid.go hb, h.kin.go hb, h.ok, h.pg, h.pu, h.pk, h.kg, h.ku⟩
/- A kinem stays where another block is turned that is no row of numbers. -/
theorem kin_other {w w' : World} {k u a v p : Nat} {cs : Array Value} {T : TypeId} (hT : T ≠ 3) (h : Kin.KinAt w k u a v) (hp : w.heap[p]? = some (.cells cs T (0, 0))) (hk : p ≠ k) (hb : Only p w w') : Kin.KinAt w' k u a v := by
  have e := hb.block k (Ne.symm hk)
  have hc : ∀ o, w'.cell? ⟨k, o, none⟩ = w.cell? ⟨k, o, none⟩ := fun o => Kin.cell_same e
  refine ⟨⟨(hc 0).trans h.nums.unit, (hc 1).trans h.nums.accel, (hc 2).trans h.nums.speed⟩, fun o => (Kin.frozen_same e).trans (h.froz o), fun n h1 h2 => ?_⟩
  obtain ⟨l, s⟩ := h.prof n h1 h2
  refine ⟨(hc _).trans l, ?_⟩
  rcases s with ⟨e0, e3⟩ | ⟨e0, x, e3, hr⟩
  · exact .inl ⟨(hc _).trans e0, (hc _).trans e3⟩
  · refine .inr ⟨(hc _).trans e0, x, (hc _).trans e3, ?_⟩
    refine ⟨hr.1, ?_⟩
    rcases hr.2 with hn | ⟨g, cap, cur, rfl, hb', hg, rest⟩
    · exact .inl hn
    · refine .inr ⟨g, cap, cur, rfl, hb', ?_, rest⟩
      by_cases hgp : g = p
      · rw [hgp, hp] at hg
        cases hg
        exact absurd rfl hT
      · exact (hb.block g hgp).trans hg
theorem grid_other {w w' : World} {g u p : Nat} {W H : Int} {us : List Int} {vp : Value} (h : Grid.GridAt w g u W H us vp) (e1 : w'.heap[g]? = w.heap[g]?) (e2 : w'.heap[u]? = w.heap[u]?) : Grid.GridAt w' g u W H us vp :=
  ⟨e1.trans h.hd, e2.trans h.row, h.w1, h.w2, h.h1, h.h2, h.len, h.small, h.ne⟩
theorem RbAt.only {w' : World} {r' : Rb} (h : RbAt w R r) (hb : Only R.p w w') (e : w'.heap[R.p]? = some (.cells (rbA R.g R.k r') 82 (0, 0))) : RbAt w' R r' :=
  ⟨e, grid_other (p := R.p) h.grid (hb.block _ (Ne.symm h.pg)) (hb.block _ (Ne.symm h.pu)), kin_other (by decide) h.kin h.at_ h.pk hb, h.ok, h.pg, h.pu, h.pk, h.kg, h.ku⟩
theorem RbAt.set {r' : Rb} (h : RbAt w R r) (o : Nat) (vs : List Value) (e : setAll (rbA R.g R.k r) o vs = rbA R.g R.k r') : RbAt (w.setCells R.p o vs) R r' :=
  h.only (Only.setCells _ _ _ _) (by rw [← e]; exact setCells_same _ _ _ _ _ _ _ h.at_)
/- Behind a kinem's call. -/
theorem RbAt.kgo {w' : World} (h : RbAt w R r) (hk : Kin.KGo R.k R.ku R.ka R.kv w w') : RbAt w' R r := by
  have hb : ∀ i, i < w.heap.size → i ≠ R.k → w'.heap[i]? = w.heap[i]? := fun i hi hn => hk.grow.block i hi (fun e => hn (by cases e; rfl))
  exact ⟨(hb _ h.plt h.pk).trans h.at_, grid_other (p := R.k) h.grid (hb _ h.grid.ltg (Ne.symm h.kg)) (hb _ h.grid.ltu (Ne.symm h.ku)), hk.kin, h.ok, h.pg, h.pu, h.pk, h.kg, h.ku⟩
theorem RbAt.c2 (h : RbAt w R r) : w.cell? ⟨R.p, 2, none⟩ = some (.int .i64 r.nb) := h.cell 2
theorem RbAt.c0 (h : RbAt w R r) : w.cell? ⟨R.p, 0, none⟩ = some (.pointer (some ⟨R.g, 0, none⟩)) := h.cell 0
theorem RbAt.c1 (h : RbAt w R r) : w.cell? ⟨R.p, 1, none⟩ = some (.pointer (some ⟨R.k, 0, none⟩)) := h.cell 1
theorem RbAt.c3 (h : RbAt w R r) : w.cell? ⟨R.p, 3, none⟩ = some (.int .i64 r.px) := h.cell 3
theorem RbAt.c4 (h : RbAt w R r) : w.cell? ⟨R.p, 4, none⟩ = some (.int .i64 r.py) := h.cell 4
theorem RbAt.c5 (h : RbAt w R r) : w.cell? ⟨R.p, 5, none⟩ = some (.bool r.pd) := h.cell 5
theorem RbAt.c6 (h : RbAt w R r) : w.cell? ⟨R.p, 6, none⟩ = some (.int .i64 r.ld) := h.cell 6
theorem RbAt.c7 (h : RbAt w R r) : w.cell? ⟨R.p, 7, none⟩ = some (.int .i64 r.ep) := h.cell 7
theorem RbAt.c8 (h : RbAt w R r) : w.cell? ⟨R.p, 8, none⟩ = some (.int .i64 r.lt) := h.cell 8
theorem RbAt.c9 (h : RbAt w R r) : w.cell? ⟨R.p, 9, none⟩ = some (.int .i64 r.mv.kd) := h.cell 9
theorem RbAt.c10 (h : RbAt w R r) : w.cell? ⟨R.p, 10, none⟩ = some (.int .i64 r.mv.dr) := h.cell 10
theorem RbAt.c11 (h : RbAt w R r) : w.cell? ⟨R.p, 11, none⟩ = some (.int .i64 r.mv.n) := h.cell 11
theorem RbAt.c20 (h : RbAt w R r) : w.cell? ⟨R.p, 20, none⟩ = some (.int .i64 r.gn) := h.cell 20
theorem RbAt.c21 (h : RbAt w R r) : w.cell? ⟨R.p, 21, none⟩ = some (.int .i64 r.lf) := h.cell 21
theorem RbAt.c22 (h : RbAt w R r) : w.cell? ⟨R.p, 22, none⟩ = some (.int .i64 r.la) := h.cell 22
theorem RbAt.c23 (h : RbAt w R r) : w.cell? ⟨R.p, 23, none⟩ = some (.bool r.st) := h.cell 23
theorem infoPose : (Tryz.prog.info? 42).map (·.size) = some 3 := by kernel_rfl
theorem infoMove : (Tryz.prog.info? 44).map (·.size) = some 11 := by kernel_rfl
theorem infoDoing : (Tryz.prog.info? 80).map (·.size) = some 15 := by kernel_rfl
theorem aggPose (w : World) : (isAgg 42).run Tryz.prog w = .ok true w := by unfold isAgg; rw [Sem.run_bind, run_underlying Tryz.underlying42 w]; rfl
theorem aggMove (w : World) : (isAgg 44).run Tryz.prog w = .ok true w := by unfold isAgg; rw [Sem.run_bind, run_underlying Tryz.underlying44 w]; rfl
theorem aggDoing (w : World) : (isAgg 80).run Tryz.prog w = .ok true w := by unfold isAgg; rw [Sem.run_bind, run_underlying Tryz.underlying80 w]; rfl
def poA (x y : Int) (d : Bool) : Array Value := #[.int .i64 x, .int .i64 y, .bool d]
def dgA (r : Rb) : Array Value := (dgL r).toArray
theorem RbAt.pose (h : RbAt w R r) : (loadVar 42 ⟨R.p, 3, none⟩).run Tryz.prog w = .ok (.agg (poA r.px r.py r.pd)) w :=
  run_loadVar_at w _ _ _ (fun j v hv => by
    rw [Addr.add_mid, h.cell]
    match j with
    | 0 => exact hv
    | 1 => exact hv
    | 2 => exact hv
    | j + 3 => simp [poA] at hv) (aggPose _) infoPose
theorem pre_at (l1 l2 l3 : List Value) (j : Nat) (v : Value) (h : l2[j]? = some v) : (l1 ++ (l2 ++ l3))[l1.length + j]? = some v := by
  rw [List.getElem?_append_right (by omega), Nat.add_sub_cancel_left, List.getElem?_append_left (List.getElem?_eq_some_iff.1 h).1]
  exact h
theorem RbAt.move (h : RbAt w R r) : (loadVar 44 ⟨R.p, 9, none⟩).run Tryz.prog w = .ok (.agg (mvA r.mv)) w :=
  run_loadVar_at w _ _ _ (fun j v hv => by
    rw [Addr.add_mid, h.cell]
    unfold mvA at hv
    rw [List.getElem?_toArray] at hv
    unfold rbA rbL dgL
    rw [List.getElem?_toArray]
    exact pre_at [_, _, _, _, _, _, _, _, _] (mvL r.mv) [_, _, _, _] j v hv) (aggMove _) infoMove
theorem RbAt.doing (h : RbAt w R r) : (loadVar 80 ⟨R.p, 9, none⟩).run Tryz.prog w = .ok (.agg (dgA r)) w :=
  run_loadVar_at w _ _ _ (fun j v hv => by
    rw [Addr.add_mid, h.cell]
    unfold dgA at hv
    rw [List.getElem?_toArray] at hv
    unfold rbA rbL
    rw [List.getElem?_toArray, List.getElem?_append_right (by simp only [List.length_cons, List.length_nil]; omega)]
    simp only [List.length_cons, List.length_nil]
    rw [show 9 + j - (0 + 1 + 1 + 1 + 1 + 1 + 1 + 1 + 1 + 1) = j by omega]
    exact hv) (aggDoing _) infoDoing
end
/- A telegram that was boxed. -/
section
variable {w : World} {g : Nat} {t : Tl} {T : TypeId} {fr : Nat × Nat} (h : w.heap[g]? = some (.cells (tlA t) T fr))
include h
theorem tl_cell (j : Nat) : w.cell? ⟨g, j, none⟩ = (tlA t)[j]? := by simp [World.cell?, h]
theorem tl_ep : w.cell? ⟨g, 2, none⟩ = some (.int .i64 t.ep) := tl_cell h 2
theorem tl_me : w.cell? ⟨g, 14, none⟩ = some (.int .i64 t.me) := tl_cell h 14
theorem tl_ma : w.cell? ⟨g, 13, none⟩ = some (.int .i64 t.ma) := tl_cell h 13
theorem tl_move : (loadVar 44 ⟨g, 4, none⟩).run Tryz.prog w = .ok (.agg (mvA (tmv t))) w :=
  run_loadVar_at w _ _ _ (fun j v hv => by
    rw [Addr.add_mid, tl_cell h]
    unfold mvA at hv
    rw [List.getElem?_toArray] at hv
    unfold tlA tlL
    rw [List.getElem?_toArray]
    exact pre_at [_, _, _, _] (mvL (tmv t)) [_, _, _, _] j v hv) (aggMove _) infoMove
end
theorem mvA_one (m : Mv) : (mvA m).all (·.oneCell') = true := by cases m; simp [mvA, mvL, Value.oneCell']
theorem dgA_one (r : Rb) : (dgA r).all (·.oneCell') = true := by cases r; simp [dgA, dgL, mvL, Value.oneCell']
theorem rbA_one (g k : Nat) (r : Rb) : (rbA g k r).all (·.oneCell') = true := by cases r; simp [rbA, rbL, dgL, mvL, Value.oneCell']
theorem there_of {w : World} {g : Nat} {cs : Array Value} {T : TypeId} (h : w.heap[g]? = some (.cells cs T (0, 0))) (o n : Nat) (hn : o + n ≤ cs.size) : w.there g o n := fun j hj => by
  refine ⟨?_, by simp [World.frozen?, h]⟩
  have : o + j < cs.size := by omega
  simp [World.cell?, h, this]
end Go.Proofs.YtedmfhkdaifegaaGreat.Rob
