/-
  A link in memory, and what each of its calls answers and leaves.
-/
import Derived.Test.YtdplacpdbknlgaaLinkTele
namespace Go.Proofs.Ytdplacpdbknlgaa.Lk
set_option linter.unusedVariables false
set_option linter.unusedSimpArgs false
open Go Go.RowKit Go.Shelf Go.Proofs
attribute [local go_sem] Oper.semAt_some

def enc (p : Tl × Int) : Value := .agg (sdA p.1 p.2)
/- What waits: by robots, each with the tick of its sending. -/
abbrev Mp := Int → Option (Tl × Int)
def upd (M : Mp) (x : Int) (v : Option (Tl × Int)) : Mp := fun y => if y = x then v else M y
def sdOf (o : Option (Tl × Int)) : Array Value := sdA (o.getD (tl0, 0)).1 (o.getD (tl0, 0)).2
def tlOf (o : Option (Tl × Int)) : Tl := (o.getD (tl0, 0)).1
theorem turned_grown {w w' : World} {b : Nat} (h : w.mapTurned w' b) : w.grownBy w' (some b) := h.grown
theorem grown_trans {a b c : World} {r : Option Nat} (h : a.grownBy b r) (k : b.grownBy c r) : a.grownBy c r :=
  ⟨k.os.trans h.os, k.tape.trans h.tape, k.output.trans h.output, Nat.le_trans h.size k.size, fun i hi hr => (k.block i (Nat.lt_of_lt_of_le hi h.size) hr).trans (h.block i hi hr)⟩
theorem grown_of {a b : World} {r : Option Nat} (h : Below a.heap.size a b) : a.grownBy b r := ⟨h.os, h.tape, h.output, h.size, fun i hi _ => h.block i hi⟩
theorem heap_old (w : World) (o : Obj) {g : Nat} (h : g < w.heap.size) : (w.alloc o).heap[g]? = w.heap[g]? := ((Below.refl w.heap.size w).alloc (Nat.le_refl _) o).block g h
theorem below_row {B g : Nat} {w0 w : World} (hb : Below B w0 w) (hBg : B ≤ g) (cs : Array Value) : Below B w0 (w.setRow g cs) :=
  ⟨hb.os, hb.tape, hb.output, by rw [setRow_size]; exact hb.size, fun k hk => by rw [setRow_other _ _ _ _ (by omega)]; exact hb.block k hk⟩
theorem run_makeMapN (t k e : TypeId) (n : Int) (w : World) (h : Try.prog.underlying t = some (.map k e)) : (Instr.makeMap t (some (.int .i64 n))).run Try.prog w = .ok (.map (some w.heap.size)) (w.alloc (.map #[] 0)) := by
  simp [Instr.makeMap, run_underlying h, asInt, asIntOf, run_newObj_alloc, Result.andThen]

/- New. -/
/- A world that differs in what was drawn alone. -/
structure Sm (w u : World) : Prop where
  heap : u.heap = w.heap
  os : u.os = w.os
  tape : u.tape = w.tape
  output : u.output = w.output
theorem Sm.below {w u : World} (h : Sm w u) (B : Nat) : Below B w u := ⟨h.os, h.tape, h.output, by rw [h.heap]; exact Nat.le_refl _, fun k _ => by rw [h.heap]⟩
theorem start_any {P : Program} {S : World → Prop} {Q : Exit → Act → World → Prop} {id : Nat} {a : Act} {w : World} {l : List Oper} (N : Nat) (hN : l.length = N) (hm : P.follows .mixedOrders = true) (hS : ∀ u, Sm w u → S u)
    (h : ∀ u, Sm w u → wpAnyH P .any l.toArray Q S N (Array.replicate N false) a u) : (Code.region id l.toArray true).wp P Q a w :=
  start_held N hN hm (hS _ ⟨rfl, rfl, rfl, rfl⟩) (h _ ⟨rfl, rfl, rfl, rfl⟩)
theorem wpList_build0 {ops : Array Oper} {rest : List Oper} {o : Oper} {a : Act} {w : World} {Q : Exit → Act → World → Prop} (hg : o.guard = none) (ho : o.op = .build 42 #[])
    (h : wpList Try.prog ops Q rest (a.put o.dst (.agg (tlA tl0))) w) : wpList Try.prog ops Q (o :: rest) a w := by
  refine wpList_plain hg fun K hK => ?_
  have hf : Try.prog.built 42 (#[].map fun ((i, x) : Nat × Operand) => (i, a.eval x)).toList = some (tlA tl0) := by simpa using built0
  unfold Oper.wp execOp
  simp only [ho, Sem.run_bind, run_build w 42 _ _ hf, Result.andThen_ok, Sem.run_pure]
  exact hK _ _ h
theorem run_mapUpdate_op {o : Oper} {a : Act} {w w' : World} (t : TypeId) (m x v : Operand) (ho : o.op = .mapUpdate t m x v) (mv xv vv : Value) (hm : a.eval m = mv) (hx : a.eval x = xv) (hv : a.eval v = vv) (h : (Instr.mapUpdate t mv xv vv).run Try.prog w = .ok () w') :
    (execOp a.eval o).run Try.prog w = .ok .skip w' := by
  unfold execOp
  simp [ho, hm, hx, hv, h, Result.andThen]
theorem run_delete_op {o : Oper} {a : Act} {w w' : World} (t k : TypeId) (m x : Operand) (ho : o.op = .call { callee := .builtin .delete, args := #[m, x], argTypes := #[t, k] }) (mv xv : Value) (hm : a.eval m = mv) (hx : a.eval x = xv) (h : (Builtin.delete_ #[t, k] o.type #[mv, xv]).run Try.prog w = .ok (.tuple #[]) w') :
    (execOp a.eval o).run Try.prog w = .ok (.value (.tuple #[])) w' := by
  unfold execOp
  simp [ho, resolve, invoke, builtin, hm, hx, h, Result.andThen]
end Go.Proofs.Ytdplacpdbknlgaa.Lk
