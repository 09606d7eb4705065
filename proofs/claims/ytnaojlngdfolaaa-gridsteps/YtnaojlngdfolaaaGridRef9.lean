/-
  The chapter's own May, in plain words: each of its tests, and what all of them come to.
-/
import Derived.Test.YtnaojlngdfolaaaGridRef8
namespace Go.Proofs.Ytnaojlngdfolaaa.Grid
set_option linter.unusedVariables false
set_option linter.unusedSimpArgs false
open Go Go.RowKit Go.Shelf Go.Proofs

theorem may_iff (c : Conf) : mayR c ↔ (newP c).isSome = true := by
  refine ⟨fun h => ?_, fun h => ?_⟩
  · cases e : newP c with
    | none => exact absurd h (new_none e)
    | some G => rfl
  · cases e : newP c with
    | none => rw [e] at h; cases h
    | some G => exact (new_some e).1
theorem may_not {c : Conf} (h : ¬ mayR c) : (newP c).isSome = false := by
  cases e : (newP c).isSome
  · rfl
  · exact absurd ((may_iff c).2 e) h
section
variable {c : Conf}
theorem may_limited (h : limited c = false) : (newP c).isSome = false := may_not fun q => by rw [q.1] at h; cases h
theorem may_ports (h : ¬ c.ports.length ≤ 8) : (newP c).isSome = false := may_not fun q => h q.2.1
theorem may_robots (h : ¬ c.robots.length ≤ 8) : (newP c).isSome = false := may_not fun q => h q.2.2.1
theorem may_blocked (h : ¬ c.blocked.length ≤ 256) : (newP c).isSome = false := may_not fun q => h (new_few q).1
theorem may_b {b : Cell} (hb : b ∈ c.blocked) (h : ¬ (In c.W c.H b ∧ c.blocked.count b ≤ 1 ∧ c.ports.count b = 0)) : (newP c).isSome = false := may_not fun q => h ⟨(q.2.2.2.1 b hb).1, List.nodup_iff_count.1 q.2.2.2.2.1 b, List.count_eq_zero.2 (q.2.2.2.1 b hb).2⟩
theorem may_p {b : Cell} (hb : b ∈ c.ports) (h : ¬ (In c.W c.H b ∧ c.ports.count b ≤ 1 ∧ b ∉ homes c ∧ besideR c b)) : (newP c).isSome = false := may_not fun q => h ⟨(q.2.2.2.2.2.1 b hb).1, List.nodup_iff_count.1 q.2.2.2.2.2.2.1 b, (q.2.2.2.2.2.1 b hb).2⟩
theorem may_r {r : Pose} (hr : r ∈ c.robots) (h : ¬ fitsR c r) : (newP c).isSome = false := may_not fun q => h (q.2.2.2.2.2.2.2.1 r hr)
theorem may_h {b : Cell} (h : ¬ (homes c).count b ≤ 1) : (newP c).isSome = false := may_not fun q => h (List.nodup_iff_count.1 q.2.2.2.2.2.2.2.2.1 b)
theorem nodup_of {l : List Cell} (h : ∀ b ∈ l, l.count b ≤ 1) : l.Nodup := List.nodup_iff_count.2 fun b => by
  by_cases q : b ∈ l
  · exact h b q
  · rw [List.count_eq_zero.2 q]; omega
theorem may_all (h1 : limited c = true) (h2 : c.ports.length ≤ 8) (h3 : c.robots.length ≤ 8) (h4 : ∀ b ∈ c.blocked, In c.W c.H b ∧ c.blocked.count b ≤ 1 ∧ c.ports.count b = 0)
    (h5 : ∀ b ∈ c.ports, In c.W c.H b ∧ c.ports.count b ≤ 1 ∧ b ∉ homes c ∧ besideR c b) (h6 : ∀ r ∈ c.robots, fitsR c r) (h7 : ∀ b ∈ homes c, (homes c).count b ≤ 1) : (newP c).isSome = decide (binsP c) := by
  rw [Bool.eq_iff_iff, ← may_iff, decide_eq_true_eq]
  refine ⟨fun q => ⟨by have := (new_few q).2; omega, q.2.2.2.2.2.2.2.2.2.1, q.2.2.2.2.2.2.2.2.2.2.1, q.2.2.2.2.2.2.2.2.2.2.2⟩, fun q => ⟨h1, h2, h3, fun b hb => ⟨(h4 b hb).1, List.count_eq_zero.1 (h4 b hb).2.2⟩, nodup_of fun b hb => (h4 b hb).2.1, fun b hb => ⟨(h5 b hb).1, (h5 b hb).2.2⟩, nodup_of fun b hb => (h5 b hb).2.1, h6, nodup_of h7, q.2.1, q.2.2.1, q.2.2.2⟩⟩
end
end Go.Proofs.Ytnaojlngdfolaaa.Grid
