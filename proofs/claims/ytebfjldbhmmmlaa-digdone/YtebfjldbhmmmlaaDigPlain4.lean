/-
  Where a bin stands is one place; what the chapter's loop over the cells finds; Jobs' answer is one.
-/
import Derived.Test.YtebfjldbhmmmlaaDigJobs
import Derived.Test.YtebfjldbhmmmlaaDigRefTop
namespace Go.Proofs.Ytebfjldbhmmmlaa.Dig
set_option linter.unusedVariables false
set_option linter.unusedSimpArgs false
open Go Go.RowKit Go.Shelf Go.Proofs Go.Proofs.Ytebfjldbhmmmlaa.Grid Go.Proofs.Ytebfjldbhmmmlaa.Srt

/- The cell's number: those ahead hold no such bin. -/
theorem at_num {stks : List Stk} {L : List Cell} {bin : Int} {x : Cell} {j : Nat} (h : At stks L bin x j) : ∃ i : Nat, ∃ hi : i < L.length, L[i]'hi = x ∧ ∀ k (hk : k < i), bin ∉ pileOf stks (L[k]'(by omega)) := by
  obtain ⟨L1, L2, rfl, h1⟩ := h.ex
  refine ⟨L1.length, by simp, by simp, fun k hk => ?_⟩
  rw [List.getElem_append_left hk]
  exact h1 _ (List.getElem_mem hk)
theorem at_in {stks : List Stk} {L : List Cell} {bin : Int} {x : Cell} {j : Nat} (h : At stks L bin x j) : x ∈ L ∧ bin ∈ pileOf stks x ∧ j < (pileOf stks x).length := by
  obtain ⟨i, hi, e, _⟩ := at_num h
  exact ⟨e ▸ List.getElem_mem hi, List.mem_of_getElem? h.here, (List.getElem?_eq_some_iff.1 h.here).1⟩
theorem at_unique {stks : List Stk} {L : List Cell} {bin : Int} {x y : Cell} {j k : Nat} (h : At stks L bin x j) (g : At stks L bin y k) : x = y ∧ j = k := by
  have e : x = y := by
    obtain ⟨i, hi, rfl, h1⟩ := at_num h
    obtain ⟨i', hi', rfl, g1⟩ := at_num g
    rcases Nat.lt_trichotomy i i' with hl | rfl | hl
    · exact absurd (at_in h).2.1 (g1 i hl)
    · rfl
    · exact absurd (at_in g).2.1 (h1 i' hl)
  subst e
  refine ⟨rfl, ?_⟩
  rcases Nat.lt_trichotomy j k with hl | hl | hl
  · exact absurd h.here (g.first j hl)
  · exact hl
  · exact absurd g.here (h.first k hl)
/- Two bests are one. -/
theorem best_one {key : Cell → Int} {may : Cell → Prop} {L S : List Cell} {a b : Cell} (h : Best (before key L) may S a) (g : Best (before key L) may S b) : a = b := by
  rcases h.least b g.mem g.ok with e | e
  · exact e.symm
  · rcases g.least a h.mem h.ok with e2 | e2
    · exact e2
    · unfold before at e e2
      omega
/- Two such lists that begin alike go on alike. -/
theorem places_step {stks : List Stk} {height : Int} {L tl : List Cell} {f : Cell} {P Q : List Cell} (hn : L.Nodup) (hP : Places stks height L tl f P) (hQ : Places stks height L tl f Q) {k : Nat} (e : P.take k = Q.take k) : (k < P.length ↔ k < Q.length) ∧ P[k]? = Q[k]? := by
  obtain ⟨p1, p2⟩ := places_best hn hP k
  obtain ⟨q1, q2⟩ := places_best hn hQ k
  rw [← e] at q1 q2
  by_cases hp : k < P.length
  · by_cases hq : k < Q.length
    · refine ⟨⟨fun _ => hq, fun _ => hp⟩, ?_⟩
      rw [List.getElem?_eq_getElem hp, List.getElem?_eq_getElem hq, best_one (p1 hp) (q1 hq)]
    · have b := p1 hp
      exact absurd b.ok.2 (q2 (by omega) _ b.ok.1)
  · by_cases hq : k < Q.length
    · have b := q1 hq
      exact absurd b.ok.2 (p2 (by omega) _ b.ok.1)
    · refine ⟨⟨fun h => absurd h hp, fun h => absurd h hq⟩, ?_⟩
      rw [List.getElem?_eq_none (by omega), List.getElem?_eq_none (by omega)]
/- Two lists of places for the same question are one. -/
theorem places_unique {stks : List Stk} {height : Int} {L tl : List Cell} {f : Cell} {P Q : List Cell} (hn : L.Nodup) (hP : Places stks height L tl f P) (hQ : Places stks height L tl f Q) : P = Q := by
  have key : ∀ k, P.take k = Q.take k ∧ (k < P.length ↔ k < Q.length) ∧ P[k]? = Q[k]? := by
    intro k
    induction k with
    | zero =>
      refine ⟨by simp, ?_⟩
      exact places_step hn hP hQ (by simp)
    | succ k ih =>
      have e : P.take (k + 1) = Q.take (k + 1) := by rw [List.take_add_one, List.take_add_one, ih.1, ih.2.2]
      exact ⟨e, places_step hn hP hQ e⟩
  exact List.ext_getElem? fun k => (key k).2.2
/- Jobs' answer is one. -/
theorem jobs_unique {ports : List Cell} {stks : List Stk} {height : Int} {L tl : List Cell} {back : Bool} {bin : Int} {port : Cell} {r s : List Jb} {e f : Int} (hn : L.Nodup) (h : JobsR ports stks height L tl back bin port r e) (g : JobsR ports stks height L tl back bin port s f) : r = s ∧ e = f := by
  rcases h with ⟨h0, rfl, rfl⟩ | ⟨h0, h⟩
  · rcases g with ⟨g0, rfl, rfl⟩ | ⟨g0, g⟩
    · exact ⟨rfl, rfl⟩
    · omega
  · rcases g with ⟨g0, rfl, rfl⟩ | ⟨g0, g⟩
    · omega
    · rcases h with ⟨h1, rfl, rfl⟩ | ⟨x, j, hA, h⟩
      · rcases g with ⟨g1, rfl, rfl⟩ | ⟨y, k, gA, g⟩
        · exact ⟨rfl, rfl⟩
        · exact absurd (at_in gA).2.1 (h1 _ (at_in gA).1)
      · rcases g with ⟨g1, rfl, rfl⟩ | ⟨y, k, gA, g⟩
        · exact absurd (at_in hA).2.1 (g1 _ (at_in hA).1)
        · obtain ⟨rfl, rfl⟩ := at_unique hA gA
          rcases h with ⟨h2, rfl, rfl⟩ | ⟨h2, P, hP, h⟩
          · rcases g with ⟨g2, rfl, rfl⟩ | ⟨g2, Q, hQ, g⟩
            · exact ⟨rfl, rfl⟩
            · exact absurd h2 g2
          · rcases g with ⟨g2, rfl, rfl⟩ | ⟨g2, Q, hQ, g⟩
            · exact absurd g2 h2
            · obtain rfl := places_unique hn hP hQ
              rcases h with ⟨h3, rfl, rfl⟩ | ⟨h3, _, rfl, rfl⟩
              · rcases g with ⟨g3, rfl, rfl⟩ | ⟨g3, _, rfl, rfl⟩
                · exact ⟨rfl, rfl⟩
                · omega
              · rcases g with ⟨g3, rfl, rfl⟩ | ⟨g3, _, rfl, rfl⟩
                · omega
                · exact ⟨rfl, rfl⟩
/- How many lie above. -/
theorem above_len {stks : List Stk} {x : Cell} {j : Nat} (hj : j < (pileOf stks x).length) : (((pileOf stks x).drop (j + 1)).length : Int) = ((pileOf stks x).length : Int) - 1 - j := by
  rw [List.length_drop]
  omega
/- The k-th of them from above is the k-th of the pile from above. -/
theorem above_get {l : List Int} {j k : Nat} (hk : k < (l.drop (j + 1)).length) : (l.drop (j + 1)).getD ((l.drop (j + 1)).length - 1 - k) 0 = l.getD (l.length - 1 - k) 0 := by
  rw [List.length_drop] at hk
  rw [List.getD_eq_getElem?_getD, List.getD_eq_getElem?_getD, List.getElem?_drop, List.length_drop]
  congr 2
  omega
end Go.Proofs.Ytebfjldbhmmmlaa.Dig
