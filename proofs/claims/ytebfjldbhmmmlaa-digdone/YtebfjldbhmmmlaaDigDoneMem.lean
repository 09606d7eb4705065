/-
  The beginning of a list of bins, and what is cut off its end, in memory.
-/
import Derived.Test.YtebfjldbhmmmlaaDigPut
import Derived.ArgAppend
namespace Go.Proofs.Ytebfjldbhmmmlaa.Dig
set_option linter.unusedVariables false
set_option linter.unusedSimpArgs false
open Go Go.RowKit Go.Shelf Go.Proofs Go.Proofs.Ytebfjldbhmmmlaa.Grid Go.Proofs.Ytebfjldbhmmmlaa.Srt

theorem list_takeI {F : Nat → Prop} {l : List Int} {a : Option Addr} {n cap : Nat} {w : World} (h : ListAt 1 intEl F l (.slice a n cap) w) (k cap' : Nat) (hk : k ≤ l.length) (hc : a = none → cap' = 0) : ListAt 1 intEl F (l.take k) (.slice a k cap') w := by
  obtain ⟨a', c', ys, h1, h2, h3, h4, h5⟩ := h
  injection h2 with e1 e2 e3
  subst e1 e2 e3
  subst h1
  rw [List.length_map] at hk
  refine ⟨a, cap', ys.take k, by rw [List.map_take], by rw [List.length_take, Nat.min_eq_left hk], fun y hy => h3 y (List.mem_of_mem_take hy), fun i hi => ?_, hc⟩
  · have hi' : i < ys.length := by rw [List.length_take] at hi; omega
    obtain ⟨p, q1, q2, q3⟩ := h4 i hi'
    refine ⟨p, q1, q2, fun j u hj => q3 j u ?_⟩
    rw [List.getElem_take] at hj
    exact hj
theorem run_take3 (a : Option Addr) (n cap k : Nat) (hk : k ≤ n) (hn : n ≤ cap) (h0 : a = none → n = 0 ∧ cap = 0) (u : World) : (Instr.sliceAt 38 (.slice a n cap) none (some (.int .i64 k)) (some (.int .i64 k))).run Try.prog u = .ok (.slice a k k) u := by
  cases a with
  | none =>
    obtain ⟨rfl, rfl⟩ := h0 rfl
    obtain rfl : k = 0 := by omega
    clear hk hn h0
    go_simp
  | some p =>
    have a2 : (k : Int) ≤ (cap : Int) := by omega
    clear hk hn h0
    go_simp
theorem put_len (S : List Stk) (x : Cell) (b : List Int) : (putP S x b).length ≤ S.length + 1 := by
  induction S with
  | nil => simp [putP]
  | cons s l ih =>
    rw [putP]
    split
    · simp
    · simp only [List.length_cons]; omega
theorem step_len (now : List Stk) (q : Jb) : (stepJ now q).length ≤ now.length + 2 := by
  unfold stepJ lifted
  have h1 := put_len now q.2.2.1 (pileOf now q.2.2.1).dropLast
  split
  · omega
  · have h2 := put_len (putP now q.2.2.1 (pileOf now q.2.2.1).dropLast) q.2.2.2 (pileOf (putP now q.2.2.1 (pileOf now q.2.2.1).dropLast) q.2.2.2 ++ [q.2.1])
    omega
theorem pile_total (l : List Stk) (x : Cell) : (pileOf l x).length ≤ total l := by
  induction l with
  | nil => simp [pile_nil]
  | cons s l ih =>
    rw [pile_cons]
    simp only [total, List.map_cons, List.sum_cons] at ih ⊢
    split <;> omega
theorem total_le {l : List Stk} {m : Nat} (h : ∀ s ∈ l, s.2.length ≤ m) : total l ≤ l.length * m := by
  induction l with
  | nil => simp [total]
  | cons s l ih =>
    have h1 := h s (by simp)
    have h2 := ih (fun t ht => h t (by simp [ht]))
    simp only [total, List.map_cons, List.sum_cons, List.length_cons] at h2 ⊢
    rw [Nat.add_mul, Nat.one_mul]
    omega
theorem run_take3_op {o : Oper} {a : Act} {u : World} (px pk pm : Operand) (ho : o.op = .slice 38 px none (some pk) (some pm)) (x k m v : Value) (hx : a.eval px = x) (hk : a.eval pk = k) (hm : a.eval pm = m) (h : (Instr.sliceAt 38 x none (some k) (some m)).run Try.prog u = .ok v u) : (execOp a.eval o).run Try.prog u = .ok (.value v) u := by
  unfold execOp
  simp only [ho, Option.map_some, Option.map_none, hx, hk, hm, Sem.run_bind, Sem.run_pure, Result.andThen_ok, h]
theorem run_app_full {w : World} {F : Nat → Prop} {l : List Int} {a : Option Addr} {n : Nat} (hL : ListAt 1 intEl F l (.slice a n n) w) {G : Nat → Prop} {v2 : Value} {x : Int} (h2 : ListAt 1 (ElL intL) G [x] v2 w) (hn : n ≤ 8000000) (ty : TypeId) :
    ∃ v' w', (Builtin.append_ #[38, 38] ty #[.slice a n n, v2]).run Try.prog w = .ok v' w' ∧ w'.ownsRow w.heap.size 3 1 v' (l ++ [x]).length (rowL intL (l ++ [x])) ∧ Below w.heap.size w w' := by
  obtain ⟨a1, c1, hv, h0⟩ := hL.form
  have e1 : a = a1 := by injection hv
  have e2 : n = l.length := by injection hv
  have e3 : n = c1 := by injection hv
  subst e1
  cases a with
  | none =>
    have hl : l = [] := List.eq_nil_of_length_eq_zero (h0 rfl).1
    subst hl
    have hn0 : n = 0 := e2
    subst hn0
    obtain ⟨v', w', q1, q2, q3, q4⟩ := run_app (xs := ([] : List Int)) kindInt (World.ownsRow_nil w w.heap.size 3 1) h2 (by simp) (by unfold maxLen; simp) (Nat.le_refl _) ty
    exact ⟨v', w', q1, q2, below_none q3⟩
  | some p =>
    obtain ⟨i, z, hi, hz, hs, hby, hzs⟩ := kindInt.info
    obtain ⟨a2, c2, hv2, h20⟩ := h2.form
    subst hv2
    cases a2 with
    | none => have := (h20 rfl).1; simp at this
    | some p2 =>
      obtain ⟨v', w', q1, q2, q3⟩ := run_append_arg_grows (P := Try.prog) w 38 ty 3 i z 1 8 kindInt.ty hi hz hs hby hzs (by decide) p n n (rowL intL l) (by rw [rowL_len kindInt.len l, e2]) (list_news kindInt.len (f := intL) hL) p2 1 c2 (rowL intL [x]) rfl (list_news kindInt.len h2) (by omega) (by unfold maxLen; omega) (by omega)
      refine ⟨v', w', q1, ?_, (Below.refl _ _).grown q3 (Nat.le_refl _) (fun k hk => by cases hk)⟩
      rw [rowL_append, List.length_append, ← e2]
      exact q2
end Go.Proofs.Ytebfjldbhmmmlaa.Dig
