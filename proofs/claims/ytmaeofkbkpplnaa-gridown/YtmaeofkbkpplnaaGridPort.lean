/-
  Which port a cell is: slices.Index, Port; the chapter's own number of a cell.
-/
import Derived.Test.YtmaeofkbkpplnaaGridRef9
import Derived.Test.YtmaeofkbkpplnaaGridRef5
namespace Go.Proofs.Ytmaeofkbkpplnaa.Grid
set_option linter.unusedVariables false
set_option linter.unusedSimpArgs false
open Go Go.RowKit Go.Shelf Go.Proofs
attribute [local go_sem] Oper.semAt_some

/- What the grid tells of a cell is what the chapter says. -/
section
variable {c : Conf} {G : GS} (h : newP c = some G) (x : Cell)
include h
theorem open_same : openU c.W c.H G.uses x = decide (openR c x) := by
  obtain ⟨hm, _, _, _, hU⟩ := new_some h
  rw [Bool.eq_iff_iff, decide_eq_true_eq, openU_iff hU]
  unfold openF openR
  refine and_congr Iff.rfl ?_
  have h4 := hm.2.2.2.1
  unfold useR
  by_cases q1 : x ∈ homes c
  · rw [if_pos q1]
    refine iff_of_true (by decide) fun hb => ?_
    obtain ⟨r, hr, e⟩ := flat_mem.1 q1
    have hf := hm.2.2.2.2.2.2.2.1 r hr
    rcases e with e | e
    · exact hf.1.2 (e ▸ hb)
    · exact hf.2.2 (e ▸ hb)
  · rw [if_neg q1]
    by_cases q2 : x ∈ c.ports
    · rw [if_pos q2]
      exact iff_of_true (by decide) fun hb => (h4 x hb).2 q2
    · rw [if_neg q2]
      by_cases q3 : x ∈ c.blocked
      · rw [if_pos q3]; simp [q3]
      · rw [if_neg q3]
        refine iff_of_true ?_ q3
        split <;> decide
theorem stacked_same : stackedU c.W c.H G.uses x = decide (stackedR c x) := by
  obtain ⟨hm, _, _, _, hU⟩ := new_some h
  rw [Bool.eq_iff_iff, decide_eq_true_eq, stackedU_iff hU]
  unfold stackedR openR useR
  by_cases q1 : x ∈ homes c
  · rw [if_pos q1]
    exact iff_of_false (fun q => absurd q.2 (by decide)) fun q => q.2.2.1 q1
  · rw [if_neg q1]
    by_cases q2 : x ∈ c.ports
    · rw [if_pos q2]
      exact iff_of_false (fun q => absurd q.2 (by decide)) fun q => q.2.1 q2
    · rw [if_neg q2]
      by_cases q3 : x ∈ c.blocked
      · rw [if_pos q3]
        exact iff_of_false (fun q => absurd q.2 (by decide)) fun q => q.1.2 q3
      · rw [if_neg q3]
        by_cases q4 : besideR c x
        · rw [if_pos q4]
          exact ⟨fun q => ⟨⟨q.1, q3⟩, q2, q1, q4⟩, fun q => ⟨q.1.1, rfl⟩⟩
        · rw [if_neg q4]
          exact iff_of_false (fun q => absurd q.2 (by decide)) fun q => q4 q.2.2.2
end
end Go.Proofs.Ytmaeofkbkpplnaa.Grid
