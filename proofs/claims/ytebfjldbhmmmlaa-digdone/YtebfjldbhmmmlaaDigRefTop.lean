/-
  The chapter's own Place; the code's and the chapter's place are one.
-/
import Derived.Test.YtebfjldbhmmmlaaDigRefPlace
namespace Go.Proofs.Ytebfjldbhmmmlaa.Dig
set_option linter.unusedVariables false
set_option linter.unusedSimpArgs false
open Go Go.RowKit Go.Shelf Go.Proofs Go.Proofs.Ytebfjldbhmmmlaa.Grid Go.Proofs.Ytebfjldbhmmmlaa.Srt
attribute [local go_sem] Oper.semAt_some

theorem mayG_iff {stks : List Stk} {height : Int} {L tl gl : List Cell} {f x : Cell} (hx : x ∈ L) : MayG stks height tl gl f x ↔ (MayP stks height L tl f x ∧ cntC x gl < roomOf stks height x) := by
  unfold MayG MayP roomOf
  constructor
  · rintro ⟨h1, h2, h3⟩
    exact ⟨⟨hx, h1, h2, by omega⟩, by omega⟩
  · rintro ⟨⟨_, h1, h2, h3⟩, h4⟩
    exact ⟨h1, h2, by omega⟩
/- What comes next in the code's list is what the chapter finds beside those ahead. -/
theorem places_next {stks : List Stk} {height : Int} {L tl : List Cell} {f : Cell} {P : List Cell} (hn : L.Nodup) (h : Places stks height L tl f P) (k : Nat) {o : Option Cell} (ho : PlaceR stks height L tl (P.take k) f o) : o = P[k]? := by
  obtain ⟨h1, h2⟩ := places_best hn h k
  by_cases hk : k < P.length
  · rw [List.getElem?_eq_getElem hk]
    obtain ⟨b1, b2, b3⟩ := h1 hk
    cases o with
    | none => exact absurd ((mayG_iff b1).2 b2) (ho _ b1)
    | some p =>
      obtain ⟨i, hi, rfl⟩ := ho
      have hB : Best (before (fun x => awayP f x) L) (fun x => MayG stks height tl (P.take k) f x) L (P[k]'hk) := ⟨b1, (mayG_iff b1).2 b2, fun x hx hm => b3 x hx ((mayG_iff hx).1 hm)⟩
      rw [best_first hn (fun x h => h) (fun x h _ => h) hB hi]
  · rw [List.getElem?_eq_none (by omega)]
    cases o with
    | none => rfl
    | some p =>
      obtain ⟨i, hi, rfl⟩ := ho
      have hm := (mayG_iff (List.getElem_mem hi.lt)).1 hi.ok
      exact absurd hm.2 (h2 (by omega) _ hm.1)
theorem places_same {stks : List Stk} {height : Int} {L tl : List Cell} {f : Cell} {P : List Cell} (hn : L.Nodup) (h : Places stks height L tl f P) {o : Option Cell} (ho : PlaceR stks height L tl [] f o) : cellOf o = placeP P ∧ (if o.isSome then (0 : Int) else 14) = placeE P := by
  have := places_next hn h 0 (o := o) (by rw [List.take_zero]; exact ho)
  subst this
  cases P with
  | nil => exact ⟨rfl, rfl⟩
  | cons p P => exact ⟨rfl, rfl⟩
/- Place, whether the config may be or not. -/
end Go.Proofs.Ytebfjldbhmmmlaa.Dig
