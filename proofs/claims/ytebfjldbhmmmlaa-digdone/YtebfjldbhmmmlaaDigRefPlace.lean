/-
  The chapter's own place for a bin: the first of the nearest that may be.
-/
import Derived.Test.YtebfjldbhmmmlaaDigRef
import Derived.Test.YtebfjldbhmmmlaaDgV
import Derived.Test.YtebfjldbhmmmlaaGridRStacks
namespace Go.Proofs.Ytebfjldbhmmmlaa.Dig
set_option linter.unusedVariables false
set_option linter.unusedSimpArgs false
open Go Go.RowKit Go.Shelf Go.Proofs Go.Proofs.Ytebfjldbhmmmlaa.Grid Go.Proofs.Ytebfjldbhmmmlaa.Srt
attribute [local go_sem] Oper.semAt_some

/- The best of the first i, as the chapter goes through them. -/
def BU (may : Nat → Prop) (key : Nat → Int) (i : Nat) (bv : Int) : Prop := (bv = -1 ∧ ∀ j, j < i → ¬ may j) ∨ ∃ b : Nat, bv = (b : Int) ∧ b < i ∧ may b ∧ ∀ j, j < i → may j → key b ≤ key j ∧ (j < b → key b < key j)
section
variable {may : Nat → Prop} {key : Nat → Int} {i : Nat} {bv : Int}
theorem bu_start : BU may key 0 (-1) := Or.inl ⟨rfl, fun j h => by omega⟩
theorem bu_no (h : BU may key i bv) (hn : ¬ may i) : BU may key (i + 1) bv := by
  rcases h with ⟨h1, h2⟩ | ⟨b, h1, h2, h3, h4⟩
  · exact Or.inl ⟨h1, fun j hj hm => by
      rcases Nat.lt_succ_iff_lt_or_eq.1 hj with q | q
      · exact h2 j q hm
      · exact hn (q ▸ hm)⟩
  · exact Or.inr ⟨b, h1, by omega, h3, fun j hj hm => by
      rcases Nat.lt_succ_iff_lt_or_eq.1 hj with q | q
      · exact h4 j q hm
      · exact absurd (q ▸ hm) hn⟩
theorem bu_first (h : BU may key i bv) (hb : bv < 0) (hm : may i) : BU may key (i + 1) (i : Int) := by
  rcases h with ⟨h1, h2⟩ | ⟨b, h1, _⟩
  · exact Or.inr ⟨i, rfl, by omega, hm, fun j hj hmj => by
      rcases Nat.lt_succ_iff_lt_or_eq.1 hj with q | q
      · exact absurd hmj (h2 j q)
      · subst q; exact ⟨Int.le_refl _, fun q => by omega⟩⟩
  · omega
theorem bu_less {b : Nat} (h : BU may key i (b : Int)) (hl : key i < key b) (hm : may i) : BU may key (i + 1) (i : Int) := by
  rcases h with ⟨h1, _⟩ | ⟨b', h1, h2, h3, h4⟩
  · omega
  · obtain rfl : b = b' := by omega
    exact Or.inr ⟨i, rfl, by omega, hm, fun j hj hmj => by
      rcases Nat.lt_succ_iff_lt_or_eq.1 hj with q | q
      · have := (h4 j q hmj).1; exact ⟨by omega, fun _ => by omega⟩
      · subst q; exact ⟨Int.le_refl _, fun q => by omega⟩⟩
theorem bu_keep {b : Nat} (h : BU may key i (b : Int)) (hl : ¬ key i < key b) : BU may key (i + 1) (b : Int) := by
  rcases h with ⟨h1, _⟩ | ⟨b', h1, h2, h3, h4⟩
  · omega
  · obtain rfl : b = b' := by omega
    exact Or.inr ⟨b, rfl, by omega, h3, fun j hj hmj => by
      rcases Nat.lt_succ_iff_lt_or_eq.1 hj with q | q
      · exact h4 j q hmj
      · subst q; exact ⟨by omega, fun q => by omega⟩⟩
theorem bu_at (h : BU may key i bv) : bv = -1 ∨ ∃ b : Nat, bv = (b : Int) ∧ b < i := by
  rcases h with ⟨h, _⟩ | ⟨b, h1, h2, _⟩
  · exact Or.inl h
  · exact Or.inr ⟨b, h1, h2⟩
end
/- A cell where one may be put, beside those that were given. -/
def MayG (stks : List Stk) (height : Int) (tl gl : List Cell) (f x : Cell) : Prop := x ≠ f ∧ x ∉ tl ∧ (((pileOf stks x).length + cntC x gl : Nat) : Int) < height
theorem cntC_snoc (x y : Cell) (l : List Cell) : cntC x (l ++ [y]) = cntC x l + if y = x then 1 else 0 := by
  unfold cntC
  rw [@List.count_append Cell instBEqOfDecidableEq]
  congr 1
  by_cases h : y = x
  · subst h; rw [if_pos rfl]; exact @List.count_singleton_self Cell instBEqOfDecidableEq _ y
  · rw [if_neg h]
    refine @List.count_eq_zero_of_not_mem Cell instBEqOfDecidableEq _ x [y] ?_
    simp
    exact fun e => h e.symm
/- What it comes to: the first of the nearest, or none. -/
def PlaceR (stks : List Stk) (height : Int) (L tl gl : List Cell) (f : Cell) : Option Cell → Prop
  | none => ∀ x ∈ L, ¬ MayG stks height tl gl f x
  | some p => ∃ i, ∃ h : First (fun x => awayP f x) (fun x => MayG stks height tl gl f x) L i, L[i]'h.lt = p
theorem bu_none {stks : List Stk} {height : Int} {L tl gl : List Cell} {f : Cell} {bv : Int} (hb : bv < 0) (h : BU (fun j => MayG stks height tl gl f (L.getD j (0, 0))) (fun j => awayP f (L.getD j (0, 0))) L.length bv) : PlaceR stks height L tl gl f none := by
  rcases h with ⟨_, h⟩ | ⟨b, h1, _⟩
  · intro x hx
    obtain ⟨j, hj, e⟩ := List.getElem_of_mem hx
    have : ¬ MayG stks height tl gl f (L.getD j (0, 0)) := h j hj
    rw [getD_at hj, e] at this
    exact this
  · omega
theorem bu_some {stks : List Stk} {height : Int} {L tl gl : List Cell} {f : Cell} {b : Nat} (h : BU (fun j => MayG stks height tl gl f (L.getD j (0, 0))) (fun j => awayP f (L.getD j (0, 0))) L.length (b : Int)) : PlaceR stks height L tl gl f (some (L.getD b (0, 0))) := by
  rcases h with ⟨h, _⟩ | ⟨b', h1, h2, h3, h4⟩
  · omega
  · obtain rfl : b = b' := by omega
    refine ⟨b, ⟨h2, ?_, fun j hj hm => ?_⟩, ?_⟩
    · rw [getD_at h2] at h3; exact h3
    · have : awayP f (L.getD b (0, 0)) ≤ awayP f (L.getD j (0, 0)) ∧ (j < b → awayP f (L.getD b (0, 0)) < awayP f (L.getD j (0, 0))) := h4 j hj (show MayG stks height tl gl f (L.getD j (0, 0)) by rw [getD_at hj]; exact hm)
      rw [getD_at hj, getD_at h2] at this
      exact this
    · exact (getD_at h2).symm
def cellOf (o : Option Cell) : Cell := o.getD (0, 0)
end Go.Proofs.Ytebfjldbhmmmlaa.Dig
