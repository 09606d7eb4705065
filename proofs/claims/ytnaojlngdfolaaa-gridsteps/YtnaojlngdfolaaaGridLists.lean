/-
  Lists of things in memory: where they lie, by which blocks they are held; a config.
-/
import Derived.Test.YtnaojlngdfolaaaGridOrder
namespace Go.Proofs.Ytnaojlngdfolaaa.Grid
set_option linter.unusedVariables false
set_option linter.unusedSimpArgs false
open Go Go.RowKit

/- How a thing is held: by so many cells, and by blocks of F. -/
structure Held {α : Type} (Is : (Nat → Prop) → α → Array Value → World → Prop) (S : Nat) : Prop where
  size : ∀ {F x cs u}, Is F x cs u → cs.size = S
  one : ∀ {F x cs u}, Is F x cs u → (cs.all fun x => x.oneCell') = true
  stable : ∀ {F x cs u u'}, Is F x cs u → (∀ g, F g → u'.heap[g]? = u.heap[g]?) → Is F x cs u'
  mono : ∀ {F F' : Nat → Prop} {x cs u}, Is F x cs u → (∀ g, F g → F' g) → Is F' x cs u
/- A list whose items lie side by side, S cells each. -/
def ListAt {α : Type} (S : Nat) (El : (Nat → Prop) → α → Array Value → World → Prop) (F : Nat → Prop) (xs : List α) (v : Value) (w : World) : Prop :=
  ∃ (a : Option Addr) (cap : Nat) (ys : List (α × Array Value)), xs = ys.map Prod.fst ∧ v = .slice a ys.length cap ∧ (∀ y ∈ ys, El F y.1 y.2 w) ∧
    (∀ i (h : i < ys.length), ∃ p, a = some p ∧ F p.block ∧ ∀ j u, ((ys[i]'h).2)[j]? = some u → w.cell? (p.add (i * S + j)) = some u) ∧ (a = none → cap = 0)
theorem ListAt.stable {α : Type} {S S' : Nat} {El : (Nat → Prop) → α → Array Value → World → Prop} (hE : Held El S') {F : Nat → Prop} {xs : List α} {v : Value} {w w' : World} (h : ListAt S El F xs v w) (hs : ∀ g, F g → w'.heap[g]? = w.heap[g]?) : ListAt S El F xs v w' := by
  obtain ⟨a, cap, ys, h1, h2, h3, h4, h5⟩ := h
  refine ⟨a, cap, ys, h1, h2, fun y hy => hE.stable (h3 y hy) hs, fun i hi => ?_, h5⟩
  obtain ⟨p, hp, hf, hc⟩ := h4 i hi
  exact ⟨p, hp, hf, fun j u hj => by rw [cell_same (w := w) (w' := w') (p := p.add (i * S + j)) (by rw [block_add]; exact hs _ hf)]; exact hc j u hj⟩
theorem ListAt.mono {α : Type} {S S' : Nat} {El : (Nat → Prop) → α → Array Value → World → Prop} (hE : Held El S') {F F' : Nat → Prop} {xs : List α} {v : Value} {w : World} (h : ListAt S El F xs v w) (hs : ∀ g, F g → F' g) : ListAt S El F' xs v w := by
  obtain ⟨a, cap, ys, h1, h2, h3, h4, h5⟩ := h
  refine ⟨a, cap, ys, h1, h2, fun y hy => hE.mono (h3 y hy) hs, fun i hi => ?_, h5⟩
  obtain ⟨p, hp, hf, hc⟩ := h4 i hi
  exact ⟨p, hp, hs _ hf, hc⟩
theorem ListAt.one {α : Type} {S : Nat} {El : (Nat → Prop) → α → Array Value → World → Prop} {F : Nat → Prop} {xs : List α} {v : Value} {w : World} (h : ListAt S El F xs v w) : v.oneCell' = true := by
  obtain ⟨a, cap, ys, h1, h2, h3, h4, h5⟩ := h
  rw [h2]; rfl
theorem ListAt.nil {α : Type} (S : Nat) (El : (Nat → Prop) → α → Array Value → World → Prop) (F : Nat → Prop) (w : World) : ListAt S El F [] (.slice none 0 0) w :=
  ⟨none, 0, [], rfl, rfl, fun y hy => by simp at hy, fun i hi => by simp at hi, fun _ => rfl⟩
/- A struct that is read from anywhere. -/
theorem run_loadVar_at (w : World) (p : Addr) (ty : TypeId) (cs : Array Value) (hc : ∀ j v, cs[j]? = some v → w.cell? (p.add j) = some v)
    (hagg : (isAgg ty).run Try.prog w = .ok true w) (hi : (Try.prog.info? ty).map (·.size) = some cs.size) : (loadVar ty p).run Try.prog w = .ok (.agg cs) w := by
  have hl : (loadCells p cs.toList.length).run Try.prog w = .ok cs.toList.toArray w := run_loadCells_list (P := Try.prog) w p cs.toList (fun j v hv => hc j v (by simpa using hv))
  cases hq : Try.prog.info? ty with
  | none => simp [hq] at hi
  | some i =>
    have hs : i.size = cs.size := by simpa [hq] using hi
    simp only [Array.length_toList, Array.toArray_toList] at hl
    simp [loadVar, Sem.run_bind, hagg, sizeOf, typeInfo, hq, hs, hl]
theorem wpList_load_at {ops : Array Oper} {rest : List Oper} {o : Oper} {a : Act} {w : World} {Q : Exit → Act → World → Prop} (hgd : o.guard = none) (ty : TypeId) (x : Operand) (ho : o.op = .load ty x)
    (p : Addr) (hx : a.eval x = .pointer (some p)) (cs : Array Value) (hc : ∀ j v, cs[j]? = some v → w.cell? (p.add j) = some v)
    (hagg : (isAgg ty).run Try.prog w = .ok true w) (hi : (Try.prog.info? ty).map (·.size) = some cs.size)
    (h : wpList Try.prog ops Q rest (a.put o.dst (.agg cs)) w) : wpList Try.prog ops Q (o :: rest) a w :=
  wpList_plain hgd fun _ hK => by
    unfold Oper.wp execOp
    simp only [ho, hx, Instr.loadAt, Instr.sureAddr, Sem.run_bind, Sem.run_pure, Result.andThen_ok, run_loadVar_at w p ty cs hc hagg hi]
    exact hK _ _ h

theorem ListAt.form {α : Type} {S : Nat} {El : (Nat → Prop) → α → Array Value → World → Prop} {F : Nat → Prop} {xs : List α} {v : Value} {w : World} (h : ListAt S El F xs v w) : ∃ a cap, v = .slice a xs.length cap ∧ (a = none → xs.length = 0 ∧ cap = 0) := by
  obtain ⟨a, cap, ys, h1, h2, h3, h4, h5⟩ := h
  refine ⟨a, cap, by rw [h2, h1, List.length_map], fun ha => ⟨?_, h5 ha⟩⟩
  rw [h1, List.length_map]
  rcases Nat.eq_zero_or_pos ys.length with e | e
  · exact e
  · obtain ⟨p, hp, _⟩ := h4 0 e
    rw [ha] at hp
    cases hp
theorem add_add (x : Addr) (i j : Nat) : (x.add i).add j = x.add (i + j) := by
  unfold Addr.add
  by_cases hi : i = 0
  · subst hi; simp
  · by_cases hj : j = 0
    · subst hj; simp
    · rw [if_neg hi, if_neg hj, if_neg (by omega)]
      simp [Nat.add_assoc]
/- An item, by its place. -/
theorem ListAt.item {α : Type} {S : Nat} {El : (Nat → Prop) → α → Array Value → World → Prop} {F : Nat → Prop} {xs : List α} {v : Value} {w : World} (h : ListAt S El F xs v w) {k : Nat} (hk : k < xs.length) :
    ∃ p cs cap, v = .slice (some p) xs.length cap ∧ F p.block ∧ El F (xs[k]'hk) cs w ∧ ∀ j u, cs[j]? = some u → w.cell? ((p.add (k * S)).add j) = some u := by
  obtain ⟨a, cap, ys, h1, h2, h3, h4, h5⟩ := h
  subst h1
  rw [List.length_map] at hk
  obtain ⟨p, rfl, hf, hc⟩ := h4 k hk
  refine ⟨p, (ys[k]'hk).2, cap, by rw [h2, List.length_map], hf, ?_, fun j u hj => by rw [add_add]; exact hc j u hj⟩
  have := h3 _ (List.getElem_mem hk)
  simpa using this
theorem ListAt.go {α : Type} {S S' : Nat} {El : (Nat → Prop) → α → Array Value → World → Prop} (hE : Held El S') {F : Nat → Prop} {xs : List α} {v : Value} {w w' : World} (h : ListAt S El F xs v w) (hF : ∀ g, F g → g < w.heap.size) (hb : Below w.heap.size w w') : ListAt S El F xs v w' :=
  h.stable hE fun g hg => hb.block g (hF g hg)
def cellEl (F : Nat → Prop) (c : Cell) (cs : Array Value) (u : World) : Prop := cs = #[.int .i64 c.1, .int .i64 c.2]
def poseEl (F : Nat → Prop) (p : Pose) (cs : Array Value) (u : World) : Prop := cs = #[.int .i64 p.1.1, .int .i64 p.1.2, .bool p.2]
def intEl (F : Nat → Prop) (x : Int) (cs : Array Value) (u : World) : Prop := cs = #[.int .i64 x]
theorem heldCell : Held cellEl 2 := ⟨fun h => by rw [h]; rfl, fun h => by rw [h]; simp [Value.oneCell'], fun h _ => h, fun h _ => h⟩
theorem heldPose : Held poseEl 3 := ⟨fun h => by rw [h]; rfl, fun h => by rw [h]; simp [Value.oneCell'], fun h _ => h, fun h _ => h⟩
theorem heldInt : Held intEl 1 := ⟨fun h => by rw [h]; rfl, fun h => by rw [h]; simp [Value.oneCell'], fun h _ => h, fun h _ => h⟩
def stackEl (F : Nat → Prop) (x : Stk) (cs : Array Value) (u : World) : Prop := ∃ v, cs = #[.int .i64 x.1.1, .int .i64 x.1.2, v] ∧ ListAt 1 intEl F x.2 v u
theorem heldStack : Held stackEl 3 :=
  ⟨fun ⟨v, h, _⟩ => by rw [h]; rfl, fun ⟨v, h, hl⟩ => by obtain ⟨a, cap, rfl, _⟩ := hl.form; rw [h]; simp [Value.oneCell'], fun ⟨v, h, hl⟩ hs => ⟨v, h, hl.stable heldInt hs⟩, fun ⟨v, h, hl⟩ hs => ⟨v, h, hl.mono heldInt hs⟩⟩
def confCells (c : Conf) (vb vp vr vs : Value) : Array Value :=
  #[.int .i64 c.W, .int .i64 c.H, .int .i64 c.height, vb, vp, vr, vs, .int .i64 c.unit, .int .i64 c.accel, .int .i64 c.speed, .int .i64 c.turn, .int .i64 c.hoist, .int .i64 c.queue, .int .i64 c.resend, .int .i64 c.budget, .bool c.back]
/- A config, in blocks of F. -/
structure ConfAt (F : Nat → Prop) (c : Conf) (vb vp vr vs : Value) (w : World) : Prop where
  b : ListAt 2 cellEl F c.blocked vb w
  p : ListAt 2 cellEl F c.ports vp w
  r : ListAt 3 poseEl F c.robots vr w
  s : ListAt 3 stackEl F c.stacks vs w
theorem ConfAt.stable {F : Nat → Prop} {c : Conf} {vb vp vr vs : Value} {w w' : World} (h : ConfAt F c vb vp vr vs w) (hs : ∀ g, F g → w'.heap[g]? = w.heap[g]?) : ConfAt F c vb vp vr vs w' :=
  ⟨h.b.stable heldCell hs, h.p.stable heldCell hs, h.r.stable heldPose hs, h.s.stable heldStack hs⟩
theorem ConfAt.go {F : Nat → Prop} {c : Conf} {vb vp vr vs : Value} {w w' : World} (h : ConfAt F c vb vp vr vs w) (hF : ∀ g, F g → g < w.heap.size) (hb : Below w.heap.size w w') : ConfAt F c vb vp vr vs w' :=
  h.stable fun g hg => hb.block g (hF g hg)
theorem aggCell (w : World) : (isAgg 28).run Try.prog w = .ok true w := by unfold isAgg; rw [Sem.run_bind, run_underlying Try.underlying28 w]; rfl
theorem aggPose (w : World) : (isAgg 30).run Try.prog w = .ok true w := by unfold isAgg; rw [Sem.run_bind, run_underlying Try.underlying30 w]; rfl
theorem aggStack (w : World) : (isAgg 86).run Try.prog w = .ok true w := by unfold isAgg; rw [Sem.run_bind, run_underlying Try.underlying86 w]; rfl
theorem info_stack : (Try.prog.info? 86).map (·.size) = some 3 := by kernel_rfl
end Go.Proofs.Ytnaojlngdfolaaa.Grid
