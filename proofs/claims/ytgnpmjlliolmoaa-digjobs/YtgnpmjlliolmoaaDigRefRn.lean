/-
  The chapter's own Jobs where the bin is found at a cell that is not touched.
-/
import Derived.Test.YtgnpmjlliolmoaaDigRefEarly
import Derived.Test.YtgnpmjlliolmoaaDgI
import Derived.Deep.DeepCutAuto
import Derived.Deep.CutRange
namespace Go.Proofs.Ytgnpmjlliolmoaa.Dig
set_option linter.unusedVariables false
set_option linter.unusedSimpArgs false
open Go Go.RowKit Go.Shelf Go.Proofs Go.Proofs.Ytgnpmjlliolmoaa.Grid Go.Proofs.Ytgnpmjlliolmoaa.Srt
attribute [local go_sem] Oper.semAt_some

/- The two rows that the chapter's loop lets grow: the jobs, and the cells that were given. -/
structure Rn (B : Nat) (ab : List Int) (x : Cell) (P : List Cell) (k g : Nat) (jv gv : Value) (W : World) : Prop where
  jobs : W.ownsRow B 45 9 jv (awaysP ab x P k).length (rowL jobL (awaysP ab x P k))
  given : W.ownsRow B 28 2 gv (P.take g).length (rowL cellL (P.take g))
  apart : ∀ b, jv.ownBlock = some b → gv.ownBlock ≠ some b
theorem rn_start (B : Nat) (ab : List Int) (x : Cell) (P : List Cell) (W : World) : Rn B ab x P 0 0 (.slice none 0 0) (.slice none 0 0) W :=
  ⟨⟨rfl, .inl ⟨rfl, rfl⟩⟩, ⟨rfl, .inl ⟨rfl, rfl⟩⟩, fun b h => by simp [Value.ownBlock] at h⟩
theorem Rn.go {B : Nat} {ab : List Int} {x : Cell} {P : List Cell} {k g : Nat} {jv gv : Value} {W W' : World} (h : Rn B ab x P k g jv gv W) (b : Below W.heap.size W W') : Rn B ab x P k g jv gv W' :=
  ⟨owns_go h.jobs b, owns_go h.given b, h.apart⟩
theorem Rn.giv {B : Nat} {ab : List Int} {x : Cell} {P : List Cell} {k g : Nat} {jv gv gv' : Value} {W W' : World} (h : Rn B ab x P k g jv gv W) (own : W'.ownsRow B 28 2 gv' (P.take (g + 1)).length (rowL cellL (P.take (g + 1)))) (hg : W.grownBy W' gv.ownBlock) (hat : gv'.ownBlock = gv.ownBlock ∨ gv'.ownBlock = some W.heap.size) : Rn B ab x P k (g + 1) jv gv' W' := by
  refine ⟨owns_same h.jobs fun b hb => hg.block b (h.jobs.lt b hb).2 (fun e => h.apart b hb e.symm), own, fun b hb e => ?_⟩
  rcases hat with q | q
  · exact h.apart b hb (q ▸ e)
  · rw [q] at e
    injection e with e
    have := (h.jobs.lt b hb).2
    omega
theorem Rn.job {B : Nat} {ab : List Int} {x : Cell} {P : List Cell} {k g : Nat} {jv gv jv' : Value} {W W' : World} (h : Rn B ab x P k g jv gv W) (own : W'.ownsRow B 45 9 jv' (awaysP ab x P (k + 1)).length (rowL jobL (awaysP ab x P (k + 1)))) (hg : W.grownBy W' jv.ownBlock) (hat : jv'.ownBlock = jv.ownBlock ∨ jv'.ownBlock = some W.heap.size) : Rn B ab x P (k + 1) g jv' gv W' := by
  refine ⟨own, owns_same h.given fun b hb => hg.block b (h.given.lt b hb).2 (fun e => h.apart b e.symm hb), fun b hb e => ?_⟩
  rcases hat with q | q
  · exact h.apart b (q ▸ hb) e
  · rw [q] at hb
    injection hb with hb
    have := (h.given.lt b e).2
    omega
theorem aways_from {ab : List Int} {x : Cell} {P : List Cell} {k : Nat} {q : Jb} (h : q ∈ awaysP ab x P k) : q.2.2.1 = x := by
  unfold awaysP at h
  obtain ⟨i, _, rfl⟩ := List.mem_map.1 h
  rfl
theorem own_itemJ {w : World} {b : Nat} {v : Value} {l : List Jb} (h : w.ownsRow b 45 9 v l.length (rowL jobL l)) {k : Nat} (hk : k < l.length) : ∃ p cap, v = .slice (some p) l.length cap ∧ ∀ j z, (jobL (l[k]'hk)).toArray[j]? = some z → w.cell? ((p.add (k * 9)).add j) = some z := by
  obtain ⟨p, cs, cap2, hv, _, hcs, hrd⟩ := (list_of_own kindJob.len h).item hk
  have hcs2 : cs = (jobL (l[k]'hk)).toArray := hcs
  subst hcs2
  exact ⟨p, cap2, hv, hrd⟩
/- The jobs, and of those that put back all but m. -/
def agR (J : List Jb) (f : Jb) (m : Nat) : List Jb := J ++ [f] ++ ((J.map agP).reverse).take (J.length - m)
theorem agR_start (J : List Jb) (f : Jb) : agR J f J.length = J ++ [f] := by unfold agR; rw [Nat.sub_self]; simp
theorem agR_end (J : List Jb) (f : Jb) : agR J f 0 = J ++ [f] ++ (J.map agP).reverse := by
  unfold agR
  rw [List.take_of_length_le (by simp)]
theorem agR_len (J : List Jb) (f : Jb) {m : Nat} (h : m ≤ J.length) : (agR J f m).length = 2 * J.length + 1 - m := by
  unfold agR
  simp only [List.length_append, List.length_take, List.length_reverse, List.length_map, List.length_cons, List.length_nil]
  omega
theorem agR_item (J : List Jb) (f : Jb) (m : Nat) {i : Nat} (h : i < J.length) : (agR J f m)[i]? = some (J[i]'h) := by
  unfold agR
  rw [List.getElem?_append_left (by simp; omega), List.getElem?_append_left h, List.getElem?_eq_getElem h]
theorem agR_step (J : List Jb) (f : Jb) {m : Nat} (h : m < J.length) : agR J f m = agR J f (m + 1) ++ [agP (J[m]'h)] := by
  unfold agR
  rw [show J.length - m = J.length - (m + 1) + 1 by omega, List.take_add_one, List.getElem?_reverse (by simp; omega), List.length_map, List.getElem?_map, show J.length - 1 - (J.length - (m + 1)) = m by omega, List.getElem?_eq_getElem h, List.append_assoc (J ++ [f])]
  rfl
end Go.Proofs.Ytgnpmjlliolmoaa.Dig
