/-
  What follows for a robot, in plain words: what a telegram and a tick turn, how many ticks are left.
-/
import Derived.Test.YtedmfhkdaifegaaGreatRobPlain
namespace Go.Proofs.YtedmfhkdaifegaaGreat.Rob
set_option linter.unusedVariables false
set_option linter.unusedSimpArgs false
open Go Go.RowKit Go.Shelf Go.Proofs Go.Proofs.YtedmfhkdaifegaaGreat.Lk Go.Proofs.YtedmfhkdaifegaaGreat.Plain

/- A new stop, and how a telegram was taken. -/
def newStop (r : Rb) (t : Tl) : Prop := t.rb = r.nb ∧ t.kd = 2 ∧ r.ep < t.ep
theorem stop_stay (R : Wh) (r : Rb) (ep : Int) : (stopP R r ep).nb = r.nb ∧ posR (stopP R r ep) = posR r ∧ (stopP R r ep).ld = r.ld ∧ (stopP R r ep).ep = ep ∧ (stopP R r ep).lt = 0 := by
  unfold stopP
  split
  · split <;> exact ⟨rfl, rfl, rfl, rfl, rfl⟩
  · exact ⟨rfl, rfl, rfl, rfl, rfl⟩
theorem hear_stay (R : Wh) (r : Rb) (t : Tl) : (hearR R r t).nb = r.nb ∧ posR (hearR R r t) = posR r ∧ (hearR R r t).ld = r.ld := by
  unfold hearR
  split
  · exact ⟨rfl, rfl, rfl⟩
  · split
    · exact ⟨rfl, rfl, rfl⟩
    · split
      · exact ⟨rfl, rfl, rfl⟩
      · split
        · have := stop_stay R r t.ep
          exact ⟨this.1, this.2.1, this.2.2.1⟩
        · exact ⟨rfl, rfl, rfl⟩
theorem hear_new {R : Wh} {r : Rb} {t : Tl} (h : newStop r t) : hearR R r t = stopP R r t.ep ∧ hearH R r t = stopH r := by
  obtain ⟨h1, h2, h3⟩ := h
  have n1 : ¬ t.rb ≠ r.nb := fun f => f h1
  have n2 : ¬ (t.kd = 1 ∧ t.ep < r.ep) := fun f => by omega
  have n3 : ¬ (t.kd = 1 ∧ begs R r t = true) := fun f => by omega
  exact ⟨by unfold hearR; rw [if_neg n1, if_neg n2, if_neg n3, if_pos ⟨h2, h3⟩], by unfold hearH; rw [if_neg n1, if_neg n2, if_neg n3, if_pos ⟨h2, h3⟩]⟩
theorem hear_same {R : Wh} {r : Rb} {t : Tl} (h : ¬ newStop r t) : (hearR R r t).ep = r.ep ∧ (hearR R r t).lt = r.lt := by
  unfold hearR
  by_cases h1 : t.rb ≠ r.nb
  · rw [if_pos h1]; exact ⟨rfl, rfl⟩
  · rw [if_neg h1]
    split
    · exact ⟨rfl, rfl⟩
    · split
      · exact ⟨rfl, rfl⟩
      · rw [if_neg (fun f => h ⟨Decidable.not_not.1 h1, f.1, f.2⟩)]
        exact ⟨rfl, rfl⟩
theorem stopH_is (r : Rb) : stopH r = 0 ∨ stopH r = 3 := by unfold stopH; split <;> simp
/- Begun: by a go-ahead of its epoch, the next one, from where it stands. -/
theorem hear_one {R : Wh} {r : Rb} {t : Tl} (h : hearH R r t = 1) : t.rb = r.nb ∧ t.kd = 1 ∧ t.ep = r.ep ∧ under r = false ∧ t.nm = r.lt + 1 ∧ ((t.fx, t.fy), t.fd) = posR r := by
  unfold hearH at h
  split at h
  · cases h
  · rename_i h1
    split at h
    · cases h
    · split at h
      · rename_i h3
        have hb := h3.2
        unfold begs at hb
        simp only [Bool.and_eq_true, decide_eq_true_eq, Bool.not_eq_true'] at hb
        exact ⟨Decidable.not_not.1 h1, h3.1, hb.1, hb.2.1, hb.2.2.1, hb.2.2.2.1⟩
      · split at h
        · rcases stopH_is r with e | e <;> rw [e] at h <;> cases h
        · cases h
theorem hear_two {R : Wh} {r : Rb} {t : Tl} (h : hearH R r t = 2) : t.rb = r.nb ∧ t.kd = 1 ∧ t.ep < r.ep := by
  unfold hearH at h
  split at h
  · cases h
  · rename_i h1
    split at h
    · rename_i h2
      exact ⟨Decidable.not_not.1 h1, h2.1, h2.2⟩
    · split at h
      · cases h
      · split at h
        · rcases stopH_is r with e | e <;> rw [e] at h <;> cases h
        · cases h
theorem hear_how (R : Wh) (r : Rb) (t : Tl) : hearH R r t = 0 ∨ hearH R r t = 1 ∨ hearH R r t = 2 ∨ hearH R r t = 3 := by
  unfold hearH
  split
  · exact .inl rfl
  · split
    · exact .inr (.inr (.inl rfl))
    · split
      · exact .inr (.inl rfl)
      · split
        · rcases stopH_is r with e | e
          · exact .inl e
          · exact .inr (.inr (.inr e))
        · exact .inl rfl
/- A tick. -/
theorem tick_how (r : Rb) : tickH r = 0 ∨ tickH r = 1 ∨ tickH r = 2 := by
  unfold tickH
  repeat' split
  all_goals simp
theorem tick_zero {r : Rb} (h : tickH r = 0) : (tickR r).lt = r.lt ∧ (tickR r).ep = r.ep ∧ (tickR r).nb = r.nb ∧ posR (tickR r) = posR r ∧ tickM r = mv0 := by
  unfold tickH at h
  unfold tickR tickM
  split
  · exact ⟨rfl, rfl, rfl, rfl, rfl⟩
  · rename_i h1
    rw [if_neg h1] at h
    split
    · exact ⟨rfl, rfl, rfl, rfl, rfl⟩
    · rename_i h2
      rw [if_neg h2] at h
      split
      · exact ⟨rfl, rfl, rfl, rfl, rfl⟩
      · rename_i h3
        rw [if_neg h3] at h
        split at h <;> cases h
theorem tick_end {r : Rb} (h : tickH r ≠ 0) : tickR r = ended r ∧ tickM r = r.mv ∧ tickH r = (if r.st then 2 else 1) ∧ under r = true := by
  unfold tickH at h ⊢
  unfold tickR tickM
  by_cases h1 : under r = false
  · rw [if_pos h1] at h; exact absurd rfl h
  · rw [if_neg h1] at h ⊢
    rw [if_neg h1, if_neg h1]
    by_cases h2 : 0 < r.la
    · rw [if_pos h2] at h; exact absurd rfl h
    · rw [if_neg h2] at h ⊢
      rw [if_neg h2, if_neg h2]
      by_cases h3 : 1 < r.lf
      · rw [if_pos h3] at h; exact absurd rfl h
      · rw [if_neg h3, if_neg h3, if_neg h3]
        exact ⟨rfl, rfl, rfl, by simpa using h1⟩
theorem tick_one {r : Rb} (h : tickH r = 1) : tickR r = ended r ∧ tickM r = r.mv ∧ (tickR r).lt = r.lt + 1 ∧ (tickR r).ep = r.ep ∧ (tickR r).nb = r.nb ∧ posR (tickR r) = ((r.mv.tx, r.mv.ty), r.mv.td) := by
  obtain ⟨h1, h2, h3, _⟩ := tick_end (r := r) (by omega)
  rw [h] at h3
  have hs : r.st = false := by
    cases e : r.st
    · rfl
    · rw [e] at h3; cases h3
  refine ⟨h1, h2, ?_, by rw [h1]; rfl, by rw [h1]; rfl, by rw [h1]; rfl⟩
  rw [h1]
  show (if r.st then r.lt else r.lt + 1) = _
  rw [hs]
  rfl
theorem tick_two {n : Int} {r : Rb} (ok : OkR n r) (h : tickH r = 2) : tickR r = ended r ∧ tickM r = r.mv ∧ (tickR r).lt = 0 ∧ (tickR r).ep = r.ep ∧ (tickR r).nb = r.nb := by
  obtain ⟨h1, h2, h3, _⟩ := tick_end (r := r) (by omega)
  rw [h] at h3
  have hs : r.st = true := by
    cases e : r.st
    · rw [e] at h3; cases h3
    · rfl
  refine ⟨h1, h2, ?_, by rw [h1]; rfl, by rw [h1]; rfl⟩
  rw [h1]
  show (if r.st then r.lt else r.lt + 1) = _
  rw [hs]
  exact (ok.halt hs).1
/- The ticks that are left of a move under way. -/
def rest (r : Rb) : Int := r.lf + r.la
theorem tick_more {n : Int} {r : Rb} (ok : OkR n r) (hu : under r = true) (h : 1 < rest r) :
    tickH r = 0 ∧ tickM r = mv0 ∧ under (tickR r) = true ∧ rest (tickR r) = rest r - 1 ∧ (tickR r).mv = r.mv ∧ (tickR r).st = r.st ∧ (tickR r).lt = r.lt ∧ (tickR r).ep = r.ep ∧ (tickR r).nb = r.nb ∧ (tickR r).ld = r.ld ∧ posR (tickR r) = posR r ∧ (r.la = 0 → (tickR r).gn = r.gn + 1 ∧ (tickR r).la = 0) := by
  have hl : 0 < r.lf := by unfold under at hu; simpa using hu
  have n1 : ¬ under r = false := by rw [hu]; decide
  unfold rest at h
  unfold tickH tickM tickR
  rw [if_neg n1, if_neg n1, if_neg n1]
  by_cases h2 : 0 < r.la
  · rw [if_pos h2, if_pos h2, if_pos h2]
    refine ⟨rfl, rfl, hu, ?_, rfl, rfl, rfl, rfl, rfl, rfl, rfl, fun e => by omega⟩
    show r.lf + (r.la - 1) = r.lf + r.la - 1
    omega
  · have h0 := ok.la0
    have h3 : 1 < r.lf := by omega
    rw [if_neg h2, if_neg h2, if_neg h2, if_pos h3, if_pos h3, if_pos h3]
    refine ⟨rfl, rfl, ?_, ?_, rfl, rfl, rfl, rfl, rfl, rfl, rfl, fun e => ⟨rfl, e⟩⟩
    · show decide (0 < r.lf - 1) = true
      rw [decide_eq_true_iff]
      omega
    · show r.lf - 1 + r.la = r.lf + r.la - 1
      omega
theorem tick_last {n : Int} {r : Rb} (ok : OkR n r) (hu : under r = true) (h : rest r ≤ 1) : tickH r = (if r.st then 2 else 1) ∧ tickM r = r.mv ∧ tickR r = ended r := by
  have hl : 0 < r.lf := by unfold under at hu; simpa using hu
  have n1 : ¬ under r = false := by rw [hu]; decide
  have h0 := ok.la0
  unfold rest at h
  unfold tickH tickM tickR
  have n2 : ¬ 0 < r.la := by omega
  have n3 : ¬ 1 < r.lf := by omega
  rw [if_neg n1, if_neg n1, if_neg n1, if_neg n2, if_neg n2, if_neg n2, if_neg n3, if_neg n3, if_neg n3]
  exact ⟨rfl, rfl, rfl⟩
/- A delay. -/
theorem late_under {n : Int} {r : Rb} (ok : OkR n r) (hu : under r = true) (m : Int) : under (lateR r m) = true ∧ (lateR r m).mv = r.mv ∧ (lateR r m).st = r.st ∧ (lateR r m).lt = r.lt ∧ (lateR r m).ep = r.ep ∧ (lateR r m).nb = r.nb ∧ posR (lateR r m) = posR r ∧ (m ≤ 1000 → r.la ≤ 900000 → rest (lateR r m) = rest r + max 0 m) := by
  have h0 := ok.la0
  unfold lateR
  by_cases hm : 0 < m
  · rw [if_pos ⟨hu, hm⟩]
    refine ⟨hu, rfl, rfl, rfl, rfl, rfl, rfl, fun h1 h2 => ?_⟩
    show r.lf + min (r.la + min m 1000000) 1000000 = r.lf + r.la + max 0 m
    omega
  · rw [if_neg (fun f => hm f.2)]
    refine ⟨hu, rfl, rfl, rfl, rfl, rfl, rfl, fun h1 h2 => ?_⟩
    unfold rest
    omega
theorem late_none {r : Rb} (hu : under r = false) (m : Int) : lateR r m = r := by
  unfold lateR
  rw [if_neg (fun f => by rw [hu] at f; cases f.1)]
end Go.Proofs.YtedmfhkdaifegaaGreat.Rob
