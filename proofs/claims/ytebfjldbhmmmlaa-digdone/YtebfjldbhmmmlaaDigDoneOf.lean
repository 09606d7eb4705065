/-
  What Jobs tells, done: of a config that may be.
-/
import Derived.Test.YtebfjldbhmmmlaaDigDonePlain
namespace Go.Proofs.Ytebfjldbhmmmlaa.Dig
set_option linter.unusedVariables false
set_option linter.unusedSimpArgs false
open Go Go.RowKit Go.Shelf Go.Proofs Go.Proofs.Ytebfjldbhmmmlaa.Grid Go.Proofs.Ytebfjldbhmmmlaa.Srt

theorem nodup_part {stks : List Stk} (hn : (stks.flatMap Prod.snd).Nodup) {s : Stk} (hs : s ∈ stks) : s.2.Nodup := by
  induction stks with
  | nil => simp at hs
  | cons a l ih =>
    rw [List.flatMap_cons, List.nodup_append] at hn
    rcases List.mem_cons.1 hs with rfl | hs
    · exact hn.1
    · exact ih hn.2.1 hs
theorem done_of {c : Conf} {G : GS} (hN : newP c = some G) {tl : List Cell} {bin : Int} {port : Cell} {r : List Jb} {e : Int} (h : JobsR c.ports c.stacks c.height (stkUpTo c.W G.uses G.uses.length) tl c.back bin port r e) :
    (e ≠ 0 ∧ r = []) ∨ (e = 0 ∧ ∃ en, Runs c.height (stkUpTo c.W G.uses G.uses.length) bin port c.stacks r en ∧ (r.filter fun q => decide (q.1 = 2)).length = 1 ∧ (c.back = true → ∀ s ∈ c.stacks, pileOf en s.1 = s.2.filter fun b => decide (b ≠ bin))) := by
  obtain ⟨_, _, _, _, _, _, _, _, _, h1, h2, hm⟩ := (new_some hN).1
  rcases h with ⟨_, rfl, rfl⟩ | ⟨_, ⟨_, rfl, rfl⟩ | ⟨x, j, hA, ⟨_, rfl, rfl⟩ | ⟨_, P, hP, ⟨_, rfl, rfl⟩ | ⟨q1, q2, rfl, rfl⟩⟩⟩⟩
  · exact Or.inl ⟨by decide, rfl⟩
  · exact Or.inl ⟨by decide, rfl⟩
  · exact Or.inl ⟨by decide, rfl⟩
  · exact Or.inl ⟨by decide, rfl⟩
  · right
    refine ⟨rfl, ?_⟩
    obtain ⟨s0, hs0, e0, hb0⟩ := pile_mem (at_bin hA)
    have hpx : pileOf c.stacks x = s0.2 := by rw [← e0]; exact find_fst h2 hs0
    have hh : ((pileOf c.stacks x).length : Int) ≤ c.height := by rw [hpx]; exact (h1 s0 hs0).2
    obtain ⟨en, g1, g2⟩ := jobs_done (port := port) (back := c.back) (stk_nodup _ _ _) hA hP hh q1
    refine ⟨en, g1, jobs_fetch _ _ _ _ _ _, fun hb s hs => ?_⟩
    rw [g2 hb]
    by_cases hx : s.1 = x
    · rw [if_pos hx]
      have : s = s0 := by
        have e1 := find_fst h2 hs
        have hbs : bin ∈ s.2 := by rw [← e1, hx, hpx]; exact hb0
        exact bin_one hm.2.2 hs hs0 hbs hb0
      subst this
      have := hA.here
      rw [hpx] at this ⊢
      exact back_same (nodup_part hm.2.2 hs) this
    · rw [if_neg hx, find_fst h2 hs]
      refine (List.filter_eq_self.2 fun b hb2 => ?_).symm
      have : b ≠ bin := fun e => hx (by
        subst e
        have := bin_one hm.2.2 hs hs0 hb2 hb0
        rw [this, e0])
      simpa using this
end Go.Proofs.Ytebfjldbhmmmlaa.Dig
