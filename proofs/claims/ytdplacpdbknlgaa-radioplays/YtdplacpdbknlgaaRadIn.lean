/-
  Lists of telegrams, and calls, that came in.
-/
import Derived.Test.YtdplacpdbknlgaaRadLaw
import Derived.Deep.Cut
import Derived.Deep.CutRange
namespace Go.Proofs.Ytdplacpdbknlgaa.Lk
set_option linter.unusedVariables false
set_option linter.unusedSimpArgs false
open Go Go.RowKit Go.ChangeShapes Go.WideShapes

theorem lies_in {H : Type} {enc : TypeId × Value → H} {W : World} {n : Nat} {cs : List Value} {d : DataW H × List MemPlace} (h : DataW.trod enc Try.prog W 0 (fun _ => true) true n 27 cs = some d) : ∃ v zs, cs = [v] ∧ Lies W v zs := by
  rcases Go.Deep.open_slice Try.underlying27 h with ⟨hcs, hd⟩ | ⟨x, l, cp, mm, k, D, Pl, hcs, _, hl, hm, hmm, hd, hx⟩
  · exact ⟨_, [], hcs, Lies.nil W⟩
  · have each : ∀ i, i < l → ∃ z, (∀ j u, (tlL z)[j]? = some u → W.cell? ((x.add (i * 19)).add j) = some u) := fun i hi => by
      obtain ⟨cs', k1, k2⟩ := hx i (by simp at hmm; omega)
      rw [show Try.prog.cellsOf 42 = 19 by kernel_rfl] at k1
      obtain ⟨z, rfl⟩ := in_tele k2
      obtain ⟨_, hlen, hc⟩ := World.cells?_some k1
      refine ⟨z, fun j u hj => ?_⟩
      obtain ⟨hj1, hj2⟩ := List.getElem?_eq_some_iff.1 hj
      exact (hc j (by first | exact hj1 | (simpa using hj1))).trans hj
    have hin : Inhabited Tl := ⟨tl0⟩
    obtain ⟨z, hz⟩ := Go.Deep.choose_lt each
    exact ⟨_, _, hcs, Lies.of_in (n := l) (cap := cp) (ts := z) (fun i hi => ⟨x, rfl, hz i hi⟩) (fun e => by cases e) hl hm⟩
/- One of them is read. -/
theorem Lies.item {w : World} {v : Value} {zs : List Tl} (h : Lies w v zs) {k : Nat} (hk : k < zs.length) : ∃ x cap, v = .slice (some x) zs.length cap ∧ (loadVar 42 (x.add (k * 19))).run Try.prog w = .ok (.agg (tlA (zs[k]'hk))) w := by
  obtain ⟨a, cap, rfl, h0, _, _, hx⟩ := h
  cases a with
  | none => have := h0 rfl; omega
  | some x =>
    refine ⟨x, cap, rfl, run_loadVar_at w _ _ _ (fun j u hj => ?_) (aggTele _) infoTele⟩
    have hj' : (tlL (zs[k]'hk))[j]? = some u := by unfold tlA at hj; simpa using hj
    have hr := rowL_at tlL_len zs k hk j u hj'
    rw [add_add']
    exact hx x rfl _ u hr
theorem Lies.form {w : World} {v : Value} {zs : List Tl} (h : Lies w v zs) {n : Nat} (hn : zs.length = n) : ∃ a cap, v = .slice a n cap := by
  obtain ⟨a, cap, e⟩ := h.len
  exact ⟨a, cap, by rw [e, hn]⟩
theorem own_none (w : World) (B : Nat) : Own w B (.slice none 0 0) [] := World.ownsRow_nil _ _ _ _
theorem as_ret {P : Program} {f : FuncId} {args : Array Value} {w : World} {v : Value} {R : World → Prop} (h : Calls P f args w fun e w' => e = .returned v ∧ R w') : Calls P f args w fun e w' => ∃ u, e = .returned u ∧ (u = v ∧ R w') :=
  h.mono fun e w' ⟨h1, h2⟩ => ⟨v, h1, rfl, h2⟩
theorem run_eql_tele {o : Oper} {a : Act} {w : World} (R : TypeId) (x y : Operand) (ho : o.op = .binOp .eql 42 x y R) (t : Tl) (hx : a.eval x = .agg (tlA t)) (hy : a.eval y = .agg (tlA t)) : (execOp a.eval o).run Try.prog w = .ok (.value (.bool true)) w := by
  unfold execOp
  simp only [ho, hx, hy, Sem.run_bind, Sem.run_pure, Result.andThen_ok, run_eqGuard_agg _ _ _ _ _ _ _ gTele, run_eql_struct, eqTele_self]
theorem plN_id {k n : Nat} (h : k < n) : plN (k : Int) n = k := by
  unfold plN place
  rw [Int.tmod_eq_emod_of_nonneg (by omega), Int.emod_eq_of_lt (by omega) (by omega), if_neg (by omega)]
  omega
end Go.Proofs.Ytdplacpdbknlgaa.Lk
