/-
  Wants, and scripts, that came in, opened.
-/
import Derived.Test.YtddkgkafgjdheaaResvOwnWalk
import Derived.Deep.Slices
import Derived.OpenShut
namespace Go.Proofs.Ytddkgkafgjdheaa.Rs
set_option linter.unusedVariables false
set_option linter.unusedSimpArgs false
open Go Go.RowKit Go.ChangeShapes Go.WideShapes Hp
theorem in_int {H : Type} {enc : TypeId × Value → H} {W : World} {n : Nat} {cs : List Value} {d : DataW H × List MemPlace} (h : DataW.trod enc Try.prog W 0 (fun _ => true) true n 3 cs = some d) : ∃ x, cs = [.int .i64 x] := by
  obtain ⟨x, q, e, f⟩ := DataW.trod_int Try.underlying3 h
  exact ⟨x, q⟩
set_option maxRecDepth 100000 in
theorem in_want {H : Type} {enc : TypeId × Value → H} {W : World} {n : Nat} {cs : List Value} {d : DataW H × List MemPlace} (h : DataW.trod enc Try.prog W 0 (fun _ => true) true n 46 cs = some d) : ∃ x : Wn, cs = wnL x := by
  obtain ⟨xs, k, hk, hxy, hlen, hxl, hf⟩ := DataW.trod_struct Try.underlying46 h
  rw [show Try.prog.cellsOf 46 = 3 by kernel_rfl] at hlen
  match cs, hlen with
  | [v0, v1, v2], _ =>
    match xs, hxl with
    | [y0, y1, y2], _ =>
      have g0 : DataW.trod enc Try.prog W 0 (fun _ => true) true k 3 [v0] = some y0 := by
        have q := hf 0 _ rfl
        simp only [show Try.prog.cellsOf 3 = 1 by kernel_rfl, List.drop_zero, List.drop_succ_cons, List.take_succ_cons, List.take_zero, List.getElem?_cons_zero, List.getElem?_cons_succ] at q
        exact q
      have g1 : DataW.trod enc Try.prog W 0 (fun _ => true) true k 3 [v1] = some y1 := by
        have q := hf 1 _ rfl
        simp only [show Try.prog.cellsOf 3 = 1 by kernel_rfl, List.drop_zero, List.drop_succ_cons, List.take_succ_cons, List.take_zero, List.getElem?_cons_zero, List.getElem?_cons_succ] at q
        exact q
      have g2 : DataW.trod enc Try.prog W 0 (fun _ => true) true k 3 [v2] = some y2 := by
        have q := hf 2 _ rfl
        simp only [show Try.prog.cellsOf 3 = 1 by kernel_rfl, List.drop_zero, List.drop_succ_cons, List.take_succ_cons, List.take_zero, List.getElem?_cons_zero, List.getElem?_cons_succ] at q
        exact q
      obtain ⟨x0, q0⟩ := in_int g0
      simp only [List.cons.injEq, and_true] at q0
      obtain rfl := q0
      obtain ⟨x1, q1⟩ := in_int g1
      simp only [List.cons.injEq, and_true] at q1
      obtain rfl := q1
      obtain ⟨x2, q2⟩ := in_int g2
      simp only [List.cons.injEq, and_true] at q2
      obtain rfl := q2
      exact ⟨⟨x0, x1, x2⟩, rfl⟩
instance : Inhabited Wn := ⟨⟨0, 0, 0⟩⟩
theorem add_add' (p : Addr) (i j : Nat) : (p.add i).add j = p.add (i + j) := by
  unfold Addr.add
  by_cases h1 : i = 0
  · subst h1; simp
  · by_cases h2 : j = 0
    · subst h2; simp
    · simp [h1, h2, Nat.add_assoc]
theorem rows_lay {w : World} {p : Addr} {n : Nat} {z : Nat → Wn} (h : ∀ i, i < n → w.cell? ((p.add (i * 3)).add 0) = some (.int .i64 (z i).c) ∧ w.cell? ((p.add (i * 3)).add 1) = some (.int .i64 (z i).f) ∧ w.cell? ((p.add (i * 3)).add 2) = some (.int .i64 (z i).t)) : ∀ j u, (rowL wnL ((List.range n).map z))[j]? = some u → w.cell? (p.add j) = some u := fun j u hj => by
  obtain ⟨i, k, hi, rfl, hv⟩ := rowL_inv wnL_len _ j u hj
  rw [List.getElem_map, List.getElem_range] at hv
  rw [List.length_map, List.length_range] at hi
  have q := h i hi
  rw [← add_add']
  match k with
  | 0 => cases hv; exact q.1
  | 1 => cases hv; exact q.2.1
  | 2 => cases hv; exact q.2.2
  | k + 3 => simp [wnL] at hv
theorem in_wants {H : Type} {enc : TypeId × Value → H} {W : World} {n : Nat} {cs : List Value} {d : DataW H × List MemPlace} (h : DataW.trod enc Try.prog W 0 (fun _ => true) true n 31 cs = some d) : ∃ a n cap ws, cs = [.slice a n cap] ∧ InW W a n cap ws := by
  rcases Go.Deep.open_slice Try.underlying31 h with ⟨hcs, hd⟩ | ⟨x, l, cp, mm, k, D, Pl, hcs, _, hl, hm, hmm, hd, hx⟩
  · exact ⟨none, 0, 0, [], hcs, rfl, Or.inl ⟨rfl, rfl⟩⟩
  · refine ⟨some x, l, cp, ?_⟩
    have each : ∀ i, i < l → ∃ z : Wn, W.cell? ((x.add (i * 3)).add 0) = some (.int .i64 z.c) ∧ W.cell? ((x.add (i * 3)).add 1) = some (.int .i64 z.f) ∧ W.cell? ((x.add (i * 3)).add 2) = some (.int .i64 z.t) := fun i hi => by
      obtain ⟨cs', k1, k2⟩ := hx i (by simp at hmm; omega)
      rw [show Try.prog.cellsOf 46 = 3 by kernel_rfl] at k1
      obtain ⟨z, rfl⟩ := in_want k2
      obtain ⟨_, hlen, hc⟩ := World.cells?_some k1
      exact ⟨z, hc 0 (by omega), hc 1 (by omega), hc 2 (by omega)⟩
    obtain ⟨z, hz⟩ := Go.Deep.choose_lt each
    exact ⟨(List.range l).map z, hcs, by simp, Or.inr ⟨x, cp, by simp, rows_lay hz⟩⟩
end Go.Proofs.Ytddkgkafgjdheaa.Rs
