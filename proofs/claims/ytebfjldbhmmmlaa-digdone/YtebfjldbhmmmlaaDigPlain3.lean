/-
  The stacks of a config that may be, in plain words: each bin stands in one stack, at a stack cell.
-/
import Derived.Test.YtebfjldbhmmmlaaDgV
import Derived.Test.YtebfjldbhmmmlaaDigJobs
namespace Go.Proofs.Ytebfjldbhmmmlaa.Dig
set_option linter.unusedVariables false
open Go Go.Proofs.Ytebfjldbhmmmlaa.Grid Go.Proofs.Ytebfjldbhmmmlaa.Srt

theorem mem_cells {c : Conf} {G : GS} (hN : newP c = some G) (x : Cell) : x ∈ stkUpTo c.W G.uses G.uses.length ↔ stackedR c x := by
  have hu := (new_some hN).2.2.2.2
  have hl := limited_sides (new_some hN).1.1
  have hs := stacked_same hN x
  rw [mem_stk]
  constructor
  · rintro ⟨i, h1, h2, rfl⟩
    have hin : In c.W c.H (cellAt c.W i) := cellAt_in (by omega) (by have := hu.len; omega)
    have hi : ((cellAt c.W i).2 * c.W + (cellAt c.W i).1).toNat = i := by rw [num_cellAt]; simp
    have : stackedU c.W c.H G.uses (cellAt c.W i) = true := by
      unfold stackedU
      rw [hi, h2, decide_eq_true hin]
      rfl
    rw [hs] at this
    exact of_decide_eq_true this
  · intro h
    have : stackedU c.W c.H G.uses x = true := by rw [hs]; exact decide_eq_true h
    unfold stackedU at this
    rw [Bool.and_eq_true, decide_eq_true_eq, decide_eq_true_eq] at this
    obtain ⟨hin, h4⟩ := this
    have hb := num_lt hin
    exact ⟨(x.2 * c.W + x.1).toNat, by have := hu.len; omega, h4, cellAt_num hin⟩
theorem find_fst {stks : List Stk} (hn : (stks.map Prod.fst).Nodup) {s : Stk} (hs : s ∈ stks) : pileOf stks s.1 = s.2 := by
  induction stks with
  | nil => simp at hs
  | cons a l ih =>
    rw [List.map_cons, List.nodup_cons] at hn
    rw [pile_cons]
    rcases List.mem_cons.1 hs with rfl | hs
    · rw [if_pos rfl]
    · rw [if_neg (fun e => hn.1 (by rw [e]; exact List.mem_map_of_mem hs))]
      exact ih hn.2 hs
theorem pile_mem {stks : List Stk} {x : Cell} {b : Int} (h : b ∈ pileOf stks x) : ∃ s ∈ stks, s.1 = x ∧ b ∈ s.2 := by
  unfold pileOf at h
  split at h
  · rename_i s hs
    have := List.find?_some hs
    exact ⟨s, List.mem_of_find?_eq_some hs, by simpa using this, h⟩
  · simp at h
theorem bin_one {stks : List Stk} (hn : (stks.flatMap Prod.snd).Nodup) {s t : Stk} {b : Int} (hs : s ∈ stks) (ht : t ∈ stks) (hb : b ∈ s.2) (hb2 : b ∈ t.2) : s = t := by
  induction stks with
  | nil => simp at hs
  | cons a l ih =>
    rw [List.flatMap_cons, List.nodup_append] at hn
    obtain ⟨_, h2, h3⟩ := hn
    rcases List.mem_cons.1 hs with e1 | e1 <;> rcases List.mem_cons.1 ht with e2 | e2
    · rw [e1, e2]
    · subst e1
      exact absurd rfl (h3 b hb b (List.mem_flatMap.2 ⟨t, e2, hb2⟩))
    · subst e2
      exact absurd rfl (h3 b hb2 b (List.mem_flatMap.2 ⟨s, e1, hb⟩))
    · exact ih h2 e1 e2
theorem at_bin {stks : List Stk} {L : List Cell} {bin : Int} {x : Cell} {j : Nat} (h : At stks L bin x j) : bin ∈ pileOf stks x := List.mem_of_getElem? h.here
/- A bin that there is not. -/
theorem jobs_nobin {c : Conf} {G : GS} (hN : newP c = some G) {tl : List Cell} {back : Bool} {bin : Int} {port : Cell} (hp : port ∈ c.ports) (hb : bin < 1) {r : List Jb} {e : Int} (h : JobsR c.ports c.stacks c.height (stkUpTo c.W G.uses G.uses.length) tl back bin port r e) : e = 9 := by
  obtain ⟨_, _, _, _, _, _, _, _, _, _, _, hm⟩ := (new_some hN).1
  have hno : ∀ x, bin ∉ pileOf c.stacks x := fun x hx => by
    obtain ⟨s, hs, _, h2⟩ := pile_mem hx
    have := (hm.2.1 bin (List.mem_flatMap.2 ⟨s, hs, h2⟩)).1
    omega
  rcases h with ⟨h, _⟩ | ⟨_, ⟨_, _, h⟩ | ⟨x, j, hA, _⟩⟩
  · exact absurd hp ((portP_neg _ _ _).1 h)
  · exact h
  · exact absurd (at_bin hA) (hno x)
/- A bin at a cell that is touched. -/
theorem jobs_touched {c : Conf} {G : GS} (hN : newP c = some G) {back : Bool} {bin : Int} {port : Cell} (hp : port ∈ c.ports) {s : Stk} (hs : s ∈ c.stacks) (hb : bin ∈ s.2) {r : List Jb} {e : Int} (h : JobsR c.ports c.stacks c.height (stkUpTo c.W G.uses G.uses.length) [s.1] back bin port r e) : e = 8 := by
  obtain ⟨_, _, _, _, _, _, _, _, _, h1, h2, hm⟩ := (new_some hN).1
  rcases h with ⟨h, _⟩ | ⟨_, ⟨h, _⟩ | ⟨x, j, hA, ⟨_, _, h⟩ | ⟨hx, _⟩⟩⟩
  · exact absurd hp ((portP_neg _ _ _).1 h)
  · exact absurd (by rw [find_fst h2 hs]; exact hb) (h s.1 ((mem_cells hN _).2 (h1 s hs).1))
  · exact h
  · obtain ⟨t, ht, e1, e2⟩ := pile_mem (at_bin hA)
    have := bin_one hm.2.2 hs ht hb e2
    subst this
    exact absurd (by rw [← e1]; simp) hx
/- A port that is none. -/
theorem jobs_noport {c : Conf} {G : GS} (hN : newP c = some G) {tl : List Cell} {back : Bool} {bin : Int} {s : Stk} (hs : s ∈ c.stacks) {r : List Jb} {e : Int} (h : JobsR c.ports c.stacks c.height (stkUpTo c.W G.uses G.uses.length) tl back bin s.1 r e) : e = 10 := by
  obtain ⟨_, _, _, _, _, _, _, _, _, h1, _, _⟩ := (new_some hN).1
  rcases h with ⟨_, _, h⟩ | ⟨h, _⟩
  · exact h
  · have := (portP_neg c.ports s.1 0).2 (h1 s hs).1.2.1
    omega
end Go.Proofs.Ytebfjldbhmmmlaa.Dig
