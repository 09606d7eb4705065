/-
  Lists of things in memory: where they lie, by which blocks they are held; a struct read from anywhere; what puts a thing behind bytes.
-/
import Derived.Test.YthdgpadakmdlkaaCodecDoor
namespace Go.Proofs.Ythdgpadakmdlkaa.Codec
set_option linter.unusedVariables false
set_option linter.unusedSimpArgs false
open Go Go.RowKit

theorem cell_same {w w' : World} {p : Addr} (h : w'.heap[p.block]? = w.heap[p.block]?) : w'.cell? p = w.cell? p := by unfold World.cell?; rw [h]
/- A list whose items lie side by side, S cells each. -/
def ListAt {α : Type} (S : Nat) (El : (Nat → Prop) → α → Array Value → World → Prop) (F : Nat → Prop) (xs : List α) (v : Value) (w : World) : Prop :=
  ∃ (a : Option Addr) (cap : Nat) (ys : List (α × Array Value)), xs = ys.map Prod.fst ∧ v = .slice a ys.length cap ∧ (∀ y ∈ ys, El F y.1 y.2 w) ∧
    (∀ i (h : i < ys.length), ∃ p, a = some p ∧ F p.block ∧ ∀ j u, ((ys[i]'h).2)[j]? = some u → w.cell? (p.add (i * S + j)) = some u) ∧ (a = none → cap = 0)
theorem ListAt.stable {α : Type} {S S' : Nat} {El : (Nat → Prop) → α → Array Value → World → Prop} (hE : Held El S') {F : Nat → Prop} {xs : List α} {v : Value} {w w' : World} (h : ListAt S El F xs v w) (hs : ∀ g, F g → w'.heap[g]? = w.heap[g]?) : ListAt S El F xs v w' := by
  obtain ⟨a, cap, ys, h1, h2, h3, h4, h5⟩ := h
  refine ⟨a, cap, ys, h1, h2, fun y hy => hE.stable (h3 y hy) hs, fun i hi => ?_, h5⟩
  obtain ⟨p, hp, hf, hc⟩ := h4 i hi
  exact ⟨p, hp, hf, fun j u hj => by rw [cell_same (w := w) (w' := w') (p := p.add (i * S + j)) (by rw [block_add]; exact hs _ hf)]; exact hc j u hj⟩
theorem ListAt.mono {α : Type} {S S' : Nat} {El : (Nat → Prop) → α → Array Value → World → Prop} (hE : Held El S') {F F' : Nat → Prop} {xs : List α} {v : Value} {w : World} (h : ListAt S El F xs v w) (hs : ∀ g, F g → F' g) : ListAt S El F' xs v w := by
  obtain ⟨a, cap, ys, h1, h2, h3, h4, h5⟩ := h
  refine ⟨a, cap, ys, h1, h2, fun y hy => hE.mono (h3 y hy) hs, fun i hi => ?_, h5⟩
  obtain ⟨p, hp, hf, hc⟩ := h4 i hi
  exact ⟨p, hp, hs _ hf, hc⟩
theorem ListAt.one {α : Type} {S : Nat} {El : (Nat → Prop) → α → Array Value → World → Prop} {F : Nat → Prop} {xs : List α} {v : Value} {w : World} (h : ListAt S El F xs v w) : v.oneCell' = true := by
  obtain ⟨a, cap, ys, h1, h2, h3, h4, h5⟩ := h
  rw [h2]; rfl
theorem ListAt.nil {α : Type} (S : Nat) (El : (Nat → Prop) → α → Array Value → World → Prop) (F : Nat → Prop) (w : World) : ListAt S El F [] (.slice none 0 0) w :=
  ⟨none, 0, [], rfl, rfl, fun y hy => by simp at hy, fun i hi => by simp at hi, fun _ => rfl⟩
/- Numbers are items of one cell. -/
def intCells (x : Int) : Array Value := #[.int .i64 x]
theorem heldInt : Held (Plain intCells) 1 := held_plain _ _ (fun _ => rfl) (fun _ => by simp [intCells, Value.oneCell'])

/- A struct that is read from anywhere. -/
theorem run_loadVar_at (w : World) (p : Addr) (ty : TypeId) (cs : Array Value) (hc : ∀ j v, cs[j]? = some v → w.cell? (p.add j) = some v)
    (hagg : (isAgg ty).run Try.prog w = .ok true w) (hi : (Try.prog.info? ty).map (·.size) = some cs.size) : (loadVar ty p).run Try.prog w = .ok (.agg cs) w := by
  have hl : (loadCells p cs.toList.length).run Try.prog w = .ok cs.toList.toArray w := run_loadCells_list (P := Try.prog) w p cs.toList (fun j v hv => hc j v (by simpa using hv))
  cases hq : Try.prog.info? ty with
  | none => simp [hq] at hi
  | some i =>
    have hs : i.size = cs.size := by simpa [hq] using hi
    simp only [Array.length_toList, Array.toArray_toList] at hl
    simp [loadVar, Sem.run_bind, hagg, sizeOf, typeInfo, hq, hs, hl]
theorem wpList_load_at {ops : Array Oper} {rest : List Oper} {o : Oper} {a : Act} {w : World} {Q : Exit → Act → World → Prop} (hgd : o.guard = none) (ty : TypeId) (x : Operand) (ho : o.op = .load ty x)
    (p : Addr) (hx : a.eval x = .pointer (some p)) (cs : Array Value) (hc : ∀ j v, cs[j]? = some v → w.cell? (p.add j) = some v)
    (hagg : (isAgg ty).run Try.prog w = .ok true w) (hi : (Try.prog.info? ty).map (·.size) = some cs.size)
    (h : wpList Try.prog ops Q rest (a.put o.dst (.agg cs)) w) : wpList Try.prog ops Q (o :: rest) a w :=
  wpList_plain hgd fun _ hK => by
    unfold Oper.wp execOp
    simp only [ho, hx, Instr.loadAt, Instr.sureAddr, Sem.run_bind, Sem.run_pure, Result.andThen_ok, run_loadVar_at w p ty cs hc hagg hi]
    exact hK _ _ h

/- What puts a thing behind bytes of one's own; the thing lies in blocks of W. -/
def Putted (b : Value) (u : World) (zs : List Int) (e : Ending) (w' : World) : Prop := ∃ b', e = .returned b' ∧ Mine w' b' zs ∧ Goes b u b' w'
def Fresh (W : World) (b : Value) : Prop := ∀ g, b.ownBlock = some g → W.heap.size ≤ g
def Puts {α : Type} (W : World) (c : Cod α) (El : (Nat → Prop) → α → Array Value → World → Prop) (F : Nat → Prop) (f : FuncId) : Prop :=
  ∀ (u : World) (b : Value) (zs : List Int) (x : α) (cs : Array Value), Below W.heap.size W u → Fresh W b → Mine u b zs → El F x cs W → c.ok x → zs.length + (c.put x).length ≤ 140737488355328 →
    Calls Try.prog f #[b, .agg cs] u (Putted b u (zs ++ c.put x))
theorem Fresh.goes {W u u' : World} {b b' : Value} (h : Fresh W b) (hB : Below W.heap.size W u) (hg : Goes b u b' u') : Fresh W b' := hg.new_of h hB.size
theorem Goes.setNew {b b1 : Value} {w w1 : World} (h : Goes b w b1 w1) (o : Obj) (cs : Array Value) : Goes b w b1 ((w1.alloc o).setRow w1.heap.size cs) := by
  refine ⟨⟨h.grown.os, h.grown.tape, h.grown.output, ?_, fun k hk hne => ?_⟩, h.at_⟩
  · rw [setRow_size]; have := h.grown.size; simp; omega
  · have := h.grown.size
    rw [setRow_other _ _ _ _ (by omega), alloc_old _ _ _ (by omega)]
    exact h.grown.block k hk hne
theorem Mine.setNew {w : World} {v : Value} {zs : List Int} (h : Mine w v zs) (o : Obj) (cs : Array Value) : Mine ((w.alloc o).setRow w.heap.size cs) v zs :=
  h.same fun k hk => by have := h.lt k hk; rw [setRow_other _ _ _ _ (by omega), alloc_old _ _ _ (by omega)]
theorem list_put {α : Type} (c : Cod α) (xs : List α) : (list c).put xs = num xs.length ++ xs.flatMap c.put := rfl
theorem flat_snoc {α : Type} (c : Cod α) (ys : List (α × Array Value)) (k : Nat) (h : k < ys.length) : ((ys.take (k + 1)).map Prod.fst).flatMap c.put = ((ys.take k).map Prod.fst).flatMap c.put ++ c.put (ys[k]'h).1 := by
  rw [List.take_succ_eq_append_getElem h, List.map_append, List.flatMap_append]
  simp
theorem flat_part {α : Type} (c : Cod α) (ys : List (α × Array Value)) (k : Nat) (h : k < ys.length) : (((ys.take k).map Prod.fst).flatMap c.put).length + (c.put (ys[k]'h).1).length ≤ ((ys.map Prod.fst).flatMap c.put).length := by
  have e : ys.map Prod.fst = (ys.take (k + 1)).map Prod.fst ++ (ys.drop (k + 1)).map Prod.fst := by rw [← List.map_append, List.take_append_drop]
  rw [e, List.flatMap_append, flat_snoc c ys k h, List.length_append, List.length_append]
  omega
end Go.Proofs.Ythdgpadakmdlkaa.Codec
