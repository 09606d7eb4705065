/-
  Two telegrams held against each other; what is got of bytes, by the whole's own word.
-/
import Derived.Test.YthdgpadakmdlkaaCodecRefGetTele
import Derived.Test.YthdgpadakmdlkaaCodecRefPuts
namespace Go.Proofs.Ythdgpadakmdlkaa.Codec
set_option linter.unusedVariables false
set_option linter.unusedSimpArgs false
open Go Go.RowKit

theorem run_load_op3 {o : Oper} {a : Act} {w : World} (ty : TypeId) (x : Operand) (ho : o.op = .load ty x) (g : Nat) (cs : Array Value) (hx : a.eval x = .pointer (some ⟨g, 0, none⟩))
    (h : (loadVar ty ⟨g, 0, none⟩).run Try.prog w = .ok (.agg cs) w) : (execOp a.eval o).run Try.prog w = .ok (.value (.agg cs)) w := by
  unfold execOp
  simp only [ho, hx, Instr.loadAt, Instr.sureAddr, Sem.run_bind, Sem.run_pure, Result.andThen_ok, h]
theorem run_eql_op3 {o : Oper} {a : Act} {w : World} (T R : TypeId) (x y : Operand) (ho : o.op = .binOp .eql T x y R) (xs ys : Array Value) (hx : a.eval x = .agg xs) (hy : a.eval y = .agg ys) (b : Bool)
    (h : (Op.equalIn 10000 T (.agg xs) (.agg ys)).run Try.prog w = .ok b w) (hg : Try.prog.eqGuardType Try.prog.depth T = false) : (execOp a.eval o).run Try.prog w = .ok (.value (.bool b)) w := by
  unfold execOp
  simp only [ho, hx, hy, Sem.run_bind, Sem.run_pure, Result.andThen_ok, run_eqGuard_agg _ _ _ _ _ _ _ hg, run_eql_struct, h]
set_option maxRecDepth 100000 in
set_option maxHeartbeats 2000000 in
theorem eqTele_self_flat (q r p s k d n fx fy tx ty a e x y l : Int) (fd td pd : Bool) (w : World) : (Op.equalIn 10000 44 (.agg #[.int .i64 q, .int .i64 r, .int .i64 p, .int .i64 s, .int .i64 k, .int .i64 d, .int .i64 n, .int .i64 fx, .int .i64 fy, .bool fd, .int .i64 tx, .int .i64 ty, .bool td, .int .i64 a, .int .i64 e, .int .i64 x, .int .i64 y, .bool pd, .int .i64 l]) (.agg #[.int .i64 q, .int .i64 r, .int .i64 p, .int .i64 s, .int .i64 k, .int .i64 d, .int .i64 n, .int .i64 fx, .int .i64 fy, .bool fd, .int .i64 tx, .int .i64 ty, .bool td, .int .i64 a, .int .i64 e, .int .i64 x, .int .i64 y, .bool pd, .int .i64 l])).run Try.prog w = .ok true w := by
  go_simp
theorem eqTele_self (t : TTele) (w : World) : (Op.equalIn 10000 44 (.agg (tCells t).toArray) (.agg (tCells t).toArray)).run Try.prog w = .ok true w := by
  obtain ⟨q, r, p, s, ⟨k, d, n, ⟨⟨fx, fy⟩, fd⟩, ⟨⟨tx, ty⟩, td⟩, a, e⟩, ⟨⟨x, y⟩, pd⟩, l⟩ := t
  exact eqTele_self_flat q r p s k d n fx fy tx ty a e x y l fd td pd w
theorem gTeleT3 : Try.prog.eqGuardType Try.prog.depth 44 = false := by kernel_rfl
theorem refPutTele_all (w : World) (t : TTele) (ho : cTele.ok t) : Calls Try.prog 17 #[.agg (tCells t).toArray] w (Made (cTele.put t) w) := by
  obtain ⟨q, r, p, s, ⟨k, d, n, ⟨⟨fx, fy⟩, fd⟩, ⟨⟨tx, ty⟩, td⟩, a, e⟩, ⟨⟨x, y⟩, pd⟩, l⟩ := t
  exact refPutTele_any w q r p s k d n fx fy fd tx ty td a e x y pd l ho (by have := tele_len (q, r, p, s, (k, d, n, ((fx, fy), fd), ((tx, ty), td), a, e), ((x, y), pd), l); omega)
/- An operation that is not asked for. -/
theorem skip_held {P : Program} {S : World → Prop} {Q : Exit → Act → World → Prop} {md : Region.Mode} {l : List Oper} (i : Nat) {oi : Oper} {fuel : Nat} {listed : Array Bool} {a : Act} {w : World} (hS : S w) (hi : nth l i = some oi)
    (hs : Region.noSelect l.toArray = true) (hf : Region.free md l.toArray listed i = true) (hr : (Region.ready md l.toArray listed).contains i = true) (hQ : ∀ c a w, Q (.panic c) (a.put oi.dst undef) w → Q (.panic c) a w)
    (hw : Region.wanted oi (yielded l.toArray a.tmps) = false)
    (h : wpAnyH P md l.toArray Q S fuel (listed.setIfInBounds i true) (a.put oi.dst undef) w) : wpAnyH P md l.toArray Q S (fuel + 1) listed a w :=
  wpAnyH_take ((nth_eq l i).trans hi) hs hf hr hQ (Or.inr ⟨hw, rfl⟩) hS h
/- What is got of bytes: the thing, or the zero thing. -/
def teleOr (r : Option TTele) : TTele := r.getD tele0
def teleErr (r : Option TTele) : Int := if r.isSome then 0 else 4
theorem GetTele_det (w : World) (a : Option Addr) (n cap : Nat) (zs : List Int) (r : Option TTele) (e : cTele.whole zs = r) (hr : Row w a n zs) (hc1 : n ≤ cap) (hc2 : cap ≤ 9223372036854775807) (h0 : a = none → cap = 0) :
    Calls Try.prog 15 #[.slice a n cap] w fun e w' => Below w.heap.size w w' ∧ e = .returned (.tuple #[.agg (tCells (teleOr r)).toArray, .int .i64 (teleErr r)]) := by
  refine (GetTele_any zs.length cTele (Plain fun t : TTele => (tCells t).toArray) heldTele (readTele _) w a n cap zs (Nat.le_refl _) hr hc1 hc2 h0).mono ?_
  rintro e2 x2 ⟨b2, ⟨x, cs, F, q2, o2, i2, f2, rfl⟩ | ⟨q2, rfl⟩⟩
  · rw [q2] at e
    subst e
    obtain rfl : cs = (tCells x).toArray := i2
    exact ⟨b2, rfl⟩
  · rw [q2] at e
    subst e
    exact ⟨b2, rfl⟩
theorem refGetTele_det (w : World) (a : Option Addr) (n cap : Nat) (zs : List Int) (r : Option TTele) (e : cTele.whole zs = r) (hr : Row w a n zs) (hc1 : n ≤ cap) (hc2 : cap ≤ 9223372036854775807) (h0 : a = none → cap = 0) :
    Calls Try.prog 16 #[.slice a n cap] w fun e w' => Below w.heap.size w w' ∧ e = .returned (.tuple #[.agg (tCells (teleOr r)).toArray, .bool r.isSome]) := by
  refine (refGetTele_any w a n cap zs hr hc1 hc2 h0).mono ?_
  rintro e2 x2 ⟨b2, ⟨x, q2, rfl⟩ | ⟨q2, rfl⟩⟩
  · rw [q2] at e
    subst e
    exact ⟨b2, rfl⟩
  · rw [q2] at e
    subst e
    exact ⟨b2, rfl⟩
end Go.Proofs.Ythdgpadakmdlkaa.Codec
