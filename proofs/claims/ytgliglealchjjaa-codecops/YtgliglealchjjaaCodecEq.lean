/-
  Two operations held against each other; what is got of bytes, by the whole's own word.
-/
import Derived.Test.YtgliglealchjjaaCodecRefGetOp
namespace Go.Proofs.Ytgliglealchjjaa.Codec
set_option linter.unusedVariables false
set_option linter.unusedSimpArgs false
open Go Go.RowKit

theorem run_load_op3 {o : Oper} {a : Act} {w : World} (ty : TypeId) (x : Operand) (ho : o.op = .load ty x) (g : Nat) (cs : Array Value) (hx : a.eval x = .pointer (some ⟨g, 0, none⟩))
    (h : (loadVar ty ⟨g, 0, none⟩).run Try.prog w = .ok (.agg cs) w) : (execOp a.eval o).run Try.prog w = .ok (.value (.agg cs)) w := by
  unfold execOp
  simp only [ho, hx, Instr.loadAt, Instr.sureAddr, Sem.run_bind, Sem.run_pure, Result.andThen_ok, h]
theorem run_eql_op3 {o : Oper} {a : Act} {w : World} (T R : TypeId) (x y : Operand) (ho : o.op = .binOp .eql T x y R) (xs ys : Array Value) (hx : a.eval x = .agg xs) (hy : a.eval y = .agg ys) (b : Bool)
    (h : (Op.equalIn 10000 T (.agg xs) (.agg ys)).run Try.prog w = .ok b w) (hg : Try.prog.eqGuardType Try.prog.depth T = false) : (execOp a.eval o).run Try.prog w = .ok (.value (.bool b)) w := by
  unfold execOp
  simp only [ho, hx, hy, Sem.run_bind, Sem.run_pure, Result.andThen_ok, run_eqGuard_agg _ _ _ _ _ _ _ hg, run_eql_struct, h]
theorem eqOp_self_flat (x y z : Int) (w : World) : (Op.equalIn 10000 61 (.agg #[.int .i64 x, .int .i64 y, .int .i64 z]) (.agg #[.int .i64 x, .int .i64 y, .int .i64 z])).run Try.prog w = .ok true w := by
  go_simp
theorem eqOp_self (a : TOper) (w : World) : (Op.equalIn 10000 61 (.agg (opCells a)) (.agg (opCells a))).run Try.prog w = .ok true w := eqOp_self_flat a.1 a.2.1 a.2.2 w
theorem gOpT3 : Try.prog.eqGuardType Try.prog.depth 61 = false := by kernel_rfl
/- An operation that is not asked for. -/
theorem skip_held {P : Program} {S : World → Prop} {Q : Exit → Act → World → Prop} {md : Region.Mode} {l : List Oper} (i : Nat) {oi : Oper} {fuel : Nat} {listed : Array Bool} {a : Act} {w : World} (hS : S w) (hi : nth l i = some oi)
    (hs : Region.noSelect l.toArray = true) (hf : Region.free md l.toArray listed i = true) (hr : (Region.ready md l.toArray listed).contains i = true) (hQ : ∀ c a w, Q (.panic c) (a.put oi.dst undef) w → Q (.panic c) a w)
    (hw : Region.wanted oi (yielded l.toArray a.tmps) = false)
    (h : wpAnyH P md l.toArray Q S fuel (listed.setIfInBounds i true) (a.put oi.dst undef) w) : wpAnyH P md l.toArray Q S (fuel + 1) listed a w :=
  wpAnyH_take ((nth_eq l i).trans hi) hs hf hr hQ (Or.inr ⟨hw, rfl⟩) hS h
/- What is got of bytes: the thing, or the zero thing. -/
def opOr (r : Option TOper) : TOper := r.getD (0, 0, 0)
def errOr (r : Option TOper) : Int := if r.isSome then 0 else 4
theorem GetOp_det (w : World) (a : Option Addr) (n cap : Nat) (zs : List Int) (r : Option TOper) (e : cOp.whole zs = r) (hr : Row w a n zs) (hc1 : n ≤ cap) (hc2 : cap ≤ 9223372036854775807) (h0 : a = none → cap = 0) :
    Calls Try.prog 26 #[.slice a n cap] w fun e w' => Below w.heap.size w w' ∧ e = .returned (.tuple #[.agg (opCells (opOr r)), .int .i64 (errOr r)]) := by
  refine (GetOp_any zs.length cOp (Plain opCells) heldOp (readOp _) w a n cap zs (Nat.le_refl _) hr hc1 hc2 h0).mono ?_
  rintro e2 x2 ⟨b2, ⟨x, cs, F, q2, o2, i2, f2, rfl⟩ | ⟨q2, rfl⟩⟩
  · rw [q2] at e
    subst e
    obtain rfl : cs = opCells x := i2
    exact ⟨b2, rfl⟩
  · rw [q2] at e
    subst e
    exact ⟨b2, rfl⟩
theorem refGetOp_det (w : World) (a : Option Addr) (n cap : Nat) (zs : List Int) (r : Option TOper) (e : cOp.whole zs = r) (hr : Row w a n zs) (hc1 : n ≤ cap) (hc2 : cap ≤ 9223372036854775807) (h0 : a = none → cap = 0) :
    Calls Try.prog 27 #[.slice a n cap] w fun e w' => Below w.heap.size w w' ∧ e = .returned (.tuple #[.agg (opCells (opOr r)), .bool r.isSome]) := by
  refine (refGetOp_any w a n cap zs hr hc1 hc2 h0).mono ?_
  rintro e2 x2 ⟨b2, ⟨x, q2, rfl⟩ | ⟨q2, rfl⟩⟩
  · rw [q2] at e
    subst e
    exact ⟨b2, rfl⟩
  · rw [q2] at e
    subst e
    exact ⟨b2, rfl⟩
end Go.Proofs.Ytgliglealchjjaa.Codec
