/-
  What lies in blocks that a call made; two named results; a reader that was made just now.
-/
import Derived.Test.YthdgpadakmdlkaaCodecRead3
import Derived.Test.YthdgpadakmdlkaaCodecPut3
import Derived.Defers
import Derived.Recover
namespace Go.Proofs.Ythdgpadakmdlkaa.Codec
set_option linter.unusedVariables false
set_option linter.unusedSimpArgs false
open Go Go.RowKit

/- Two named results: a struct, and an Errno. -/
theorem results_two {fn : Func} {p q : Tmp} {ty : TypeId} (h : fn.results = #[.cell p ty, .cell q 32]) (tmps : Array Value) (w : World) (N M : Nat) (cs : Array Value) (x : Int)
    (hp : tmps.getD p undef = .pointer (some ⟨N, 0, none⟩)) (hq : tmps.getD q undef = .pointer (some ⟨M, 0, none⟩)) (hg : (loadVar ty ⟨N, 0, none⟩).run Try.prog w = .ok (.agg cs) w) (hx : w.cell? ⟨M, 0, none⟩ = some (.int .i64 x)) :
    (results fn tmps).run Try.prog w = .ok (.tuple #[.agg cs, .int .i64 x]) w := by
  have hp' : tmps[p]?.getD undef = .pointer (some ⟨N, 0, none⟩) := by simpa using hp
  have hq' : tmps[q]?.getD undef = .pointer (some ⟨M, 0, none⟩) := by simpa using hq
  have hl : (loadVar 32 ⟨M, 0, none⟩).run Try.prog w = .ok (.int .i64 x) w := by simp [loadVar, isAgg, go_sem, hx, Try.underlying32]
  simp [results, h, hp', hq', asAddr, hg, hl]
/- A reader that was made just now. -/
theorem rd_new (w : World) (a : Option Addr) (n cap : Nat) (zs : List Int) (t : TypeId) (hr : Row w a n zs) (hc : n ≤ cap) (hc2 : cap ≤ 9223372036854775807) (h0 : a = none → cap = 0) (N : Nat) (hN : N = w.heap.size) : Rd (w.alloc (.cells #[.slice a n cap, .int .i64 0] t)) N a cap zs 0 := by
  subst hN
  have hl := hr.len
  have hr' := hr.after ((Below.refl _ _).alloc (Nat.le_refl _) (.cells #[.slice a n cap, .int .i64 0] t))
  refine ⟨?_, ?_, ?_, by rw [hl]; exact hr', fun x hx hn => Nat.ne_of_lt (hr.lt x hx (by omega)), Nat.zero_le _, by omega, hc2, h0⟩
  · rw [cell_new, hl]; rfl
  · rw [cell_new]; rfl
  · unfold World.frozen?; rw [heap_alloc_new]; rfl
theorem below_row {B g : Nat} {w0 w : World} (hb : Below B w0 w) (hBg : B ≤ g) (cs : Array Value) : Below B w0 (w.setRow g cs) :=
  ⟨hb.os, hb.tape, hb.output, by rw [setRow_size]; exact hb.size, fun k hk => by rw [setRow_other _ _ _ _ (by omega)]; exact hb.block k hk⟩
theorem alloc_old (w : World) (o : Obj) (k : Nat) (h : k < w.heap.size) : (w.alloc o).heap[k]? = w.heap[k]? := ((Below.refl _ _).alloc (Nat.le_refl _) o).block k h
theorem frozen_of {w : World} {N : Nat} {cs : Array Value} {t : TypeId} (h : w.heap[N]? = some (.cells cs t (0, 0))) (j : Nat) : w.frozen? ⟨N, j, none⟩ = false := by unfold World.frozen?; rw [h]; simp
theorem cell_of {w : World} {N : Nat} {cs : Array Value} {t : TypeId} (h : w.heap[N]? = some (.cells cs t (0, 0))) (j : Nat) : w.cell? ⟨N, j, none⟩ = cs[j]? := cell_of_row w N j cs t _ h
theorem frozen_new (w : World) (cs : Array Value) (t : TypeId) (j : Nat) : (w.alloc (.cells cs t)).frozen? ⟨w.heap.size, j, none⟩ = false := by unfold World.frozen?; rw [heap_alloc_new]; simp

/- Two results: a named struct, and one in a slot. -/
theorem results_cell_tmp {fn : Func} {p q : Tmp} {ty : TypeId} (h : fn.results = #[.cell p ty, .tmp q]) (tmps : Array Value) (w : World) (N : Nat) (cs : Array Value)
    (hp : tmps.getD p undef = .pointer (some ⟨N, 0, none⟩)) (hg : (loadVar ty ⟨N, 0, none⟩).run Try.prog w = .ok (.agg cs) w) :
    (results fn tmps).run Try.prog w = .ok (.tuple #[.agg cs, tmps.getD q undef]) w := by
  have hp' : tmps[p]?.getD undef = .pointer (some ⟨N, 0, none⟩) := by simpa using hp
  simp [results, h, hp', asAddr, hg]
/- How a thing is held: by so many cells, and by blocks of F. -/
structure Held {α : Type} (Is : (Nat → Prop) → α → Array Value → World → Prop) (S : Nat) : Prop where
  size : ∀ {F x cs u}, Is F x cs u → cs.size = S
  one : ∀ {F x cs u}, Is F x cs u → (cs.all fun x => x.oneCell') = true
  stable : ∀ {F x cs u u'}, Is F x cs u → (∀ g, F g → u'.heap[g]? = u.heap[g]?) → Is F x cs u'
  mono : ∀ {F F' : Nat → Prop} {x cs u}, Is F x cs u → (∀ g, F g → F' g) → Is F' x cs u
/- Blocks that were made from B on, and are there. -/
def New (F : Nat → Prop) (B : Nat) (u : World) : Prop := ∀ g, F g → B ≤ g ∧ g < u.heap.size
theorem New.keep {F : Nat → Prop} {B B' : Nat} {u u' : World} (h : New F B u) (hb : B' ≤ B) (hu : u.heap.size ≤ u'.heap.size) : New F B' u' := fun g hg => ⟨Nat.le_trans hb (h g hg).1, Nat.lt_of_lt_of_le (h g hg).2 hu⟩
/- What a method of the reader does, with at most M bytes: it reads a thing, in new memory, or gives up. -/
def Reader {α : Type} (M : Nat) (c : Cod α) (Is : (Nat → Prop) → α → Array Value → World → Prop) (f : FuncId) : Prop :=
  ∀ (u : World) (R : Nat) (a : Option Addr) (cap : Nat) (zs : List Int) (k : Nat), zs.length ≤ M → Rd u R a cap zs k → Calls Try.prog f #[.pointer (some ⟨R, 0, none⟩)] u fun e w' =>
    (∃ x cs k' F, c.get (zs.drop k) = some (x, zs.drop k') ∧ k < k' ∧ c.ok x ∧ e = .returned (.agg cs) ∧ Is F x cs w' ∧ New F u.heap.size w' ∧ Rd w' R a cap zs k' ∧ u.grownBy w' (some R)) ∨
    (c.get (zs.drop k) = none ∧ e = .panicked [{ v := .iface 32 (.int .i64 4), recovered := false }] ∧ u.grownBy w' (some R))
/- A thing that is held by its cells alone. -/
def Plain {α : Type} (cells : α → Array Value) (F : Nat → Prop) (x : α) (cs : Array Value) (u : World) : Prop := cs = cells x
theorem held_plain {α : Type} (cells : α → Array Value) (S : Nat) (hs : ∀ x, (cells x).size = S) (ho : ∀ x, ((cells x).all fun x => x.oneCell') = true) : Held (Plain cells) S :=
  ⟨fun h => by rw [h]; exact hs _, fun h => by rw [h]; exact ho _, fun h _ => h, fun h _ => h⟩
def opCells (x : TOper) : Array Value := #[.int .i64 x.1, .int .i64 x.2.1, .int .i64 x.2.2]
theorem heldOp : Held (Plain opCells) 3 := held_plain _ _ (fun _ => rfl) (fun _ => by simp [opCells, Value.oneCell'])
theorem heldTele : Held (Plain fun t : TTele => (tCells t).toArray) 19 := held_plain _ _ (fun _ => rfl) (fun _ => by simp [tCells, mCells, Value.oneCell'])
theorem heldMove : Held (Plain fun t : TMove => (mCells t).toArray) 11 := held_plain _ _ (fun _ => rfl) (fun _ => by simp [mCells, Value.oneCell'])
theorem none_new (B : Nat) (u : World) : New (fun _ => False) B u := fun _ h => h.elim
theorem readOp (M : Nat) : Reader M cOp (Plain opCells) 74 := by
  intro u R a cap zs k _ h
  refine (op_flat u R a cap zs k h).mono ?_
  rintro e w' (⟨x, y, z, k', q, l, o, rfl, r, g⟩ | ⟨q, rfl, g⟩)
  · exact Or.inl ⟨(x, y, z), _, k', fun _ => False, q, l, o, rfl, rfl, none_new _ _, r, g⟩
  · exact Or.inr ⟨q, rfl, g⟩
theorem readTele (M : Nat) : Reader M cTele (Plain fun t : TTele => (tCells t).toArray) 41 := by
  intro u R a cap zs k _ h
  refine (tele_flat u R a cap zs k h).mono ?_
  rintro e w' (⟨y0, y1, y2, y3, y4, y5, y6, y7, y8, y9, y10, y11, y12, y13, y14, y15, y16, y17, y18, k', q, l, o, rfl, r, g⟩ | ⟨q, rfl, g⟩)
  · exact Or.inl ⟨_, _, k', fun _ => False, q, l, o, rfl, rfl, none_new _ _, r, g⟩
  · exact Or.inr ⟨q, rfl, g⟩
theorem readMove (M : Nat) : Reader M cMove (Plain fun t : TMove => (mCells t).toArray) 78 := by
  intro u R a cap zs k _ h
  refine (move_flat u R a cap zs k h).mono ?_
  rintro e w' (⟨y0, y1, y2, y3, y4, y5, y6, y7, y8, y9, y10, k', q, l, o, rfl, r, g⟩ | ⟨q, rfl, g⟩)
  · exact Or.inl ⟨_, _, k', fun _ => False, q, l, o, rfl, rfl, none_new _ _, r, g⟩
  · exact Or.inr ⟨q, rfl, g⟩
end Go.Proofs.Ythdgpadakmdlkaa.Codec
