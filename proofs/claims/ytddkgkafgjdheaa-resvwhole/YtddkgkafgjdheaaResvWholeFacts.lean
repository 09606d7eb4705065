/-
  What a claim did, slot by slot.
-/
import Derived.Test.YtddkgkafgjdheaaResvWas
namespace Go.Proofs.Ytddkgkafgjdheaa.Rs
set_option linter.unusedVariables false
set_option linter.unusedSimpArgs false
open Go Go.RowKit Go.Shelf Go.Proofs Hp
attribute [local go_sem] Oper.semAt_some

theorem inB_succ {R f t : Int} {l : List Sl} {k : Nat} (h : k < l.length) : inB R f t (l.take (k + 1)) = (inB R f t (l.take k) || (decide ((l[k]).r = R) && decide ((l[k]).f ≤ f) && decide ((l[k]).t ≥ t))) := by
  unfold inB
  rw [List.take_succ_eq_append_getElem h, List.any_append]
  simp
theorem metB_succ {R f t : Int} {l : List Sl} {k : Nat} (h : k < l.length) : metB (l.take (k + 1)) R f t = (metB (l.take k) R f t || (decide ((l[k]).r ≠ R) && decide ((l[k]).f < t) && decide (f < (l[k]).t))) := by
  unfold metB
  rw [List.take_succ_eq_append_getElem h, List.any_append]
  simp [meets]
theorem metW_succ {R : Int} {ls : List (List Sl)} {ws : List Wn} {i : Nat} (h : i < ws.length) : (ws.take (i + 1)).any (metW R ls) = ((ws.take i).any (metW R ls) || metB (rowOf ls (ws[i]).c) R (ws[i]).f (ws[i]).t) := by
  rw [List.take_succ_eq_append_getElem h, List.any_append]
  simp [metW]
theorem bad_at {R : Int} {ws : List Wn} {n : Nat} {x : Wn} (hx : x ∈ ws) (h : R < 0 ∨ badW n x = true) : badArg R ws n = true := by
  unfold badArg
  rw [Bool.or_eq_true]
  rcases h with h | h
  · exact Or.inl (decide_eq_true h)
  · exact Or.inr (List.any_eq_true.2 ⟨x, hx, h⟩)
theorem good_all {R : Int} {ws : List Wn} {n : Nat} (hR : 0 ≤ R) (h : (ws.take ws.length).any (badW n) = false) : badArg R ws n = false := by
  rw [List.take_length] at h
  unfold badArg
  rw [h, decide_eq_false (by omega)]
  rfl
theorem badW_succ {ws : List Wn} {n i : Nat} (hi : i < ws.length) (h : (ws.take i).any (badW n) = false) (hx : badW n ws[i] = false) : (ws.take (i + 1)).any (badW n) = false := by
  rw [List.take_succ_eq_append_getElem hi, List.any_append, h]
  simp [hx]
end Go.Proofs.Ytddkgkafgjdheaa.Rs
