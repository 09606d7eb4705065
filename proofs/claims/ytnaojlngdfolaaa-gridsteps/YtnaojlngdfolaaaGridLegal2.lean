/-
  Whether a move may be: of every move.
-/
import Derived.Test.YtnaojlngdfolaaaGridLegal
namespace Go.Proofs.Ytnaojlngdfolaaa.Grid
set_option linter.unusedVariables false
set_option linter.unusedSimpArgs false
open Go Go.RowKit Go.Shelf Go.Proofs

theorem open_in {W H : Int} {us : List Int} {c : Cell} (h : openU W H us c = true) : In W H c := by
  unfold openU at h
  rw [Bool.and_eq_true, decide_eq_true_eq] at h
  exact h.1
theorem fits_in {W H : Int} {us : List Int} {p : Pose} (h : fitsU W H us p = true) : In W H p.1 ∧ In W H (second p) := by
  unfold fitsU at h
  rw [Bool.and_eq_true] at h
  exact ⟨open_in h.1, open_in h.2⟩
/- Where a move leads from a cell of a grid, numbers stay small. -/
theorem leads_near {kd dir n : Int} {f : Pose} (h1 : 0 ≤ f.1.1) (h2 : f.1.1 < 16) (h3 : 0 ≤ f.1.2) (h4 : f.1.2 < 16) (ok : (leadsP kd dir n f).2 = true) :
    f.1.1 - 16 ≤ (leadsP kd dir n f).1.1.1 ∧ (leadsP kd dir n f).1.1.1 ≤ f.1.1 + 16 ∧ f.1.2 - 16 ≤ (leadsP kd dir n f).1.1.2 ∧ (leadsP kd dir n f).1.1.2 ≤ f.1.2 + 16 := by
  unfold leadsP at ok ⊢
  split at ok
  · rename_i hk
    rw [if_pos hk]
    rw [Bool.and_eq_true, decide_eq_true_eq] at ok
    have hm := ok.1
    have hm2 := ok.1
    unfold mayShift at hm
    simp only [Bool.and_eq_true, decide_eq_true_eq] at hm
    simp only [shiftR, hm2, if_true]
    unfold shiftP
    obtain rfl | rfl | rfl | rfl : dir = 0 ∨ dir = 1 ∨ dir = 2 ∨ dir = 3 := by omega
    all_goals
      simp
      rw [w64_id (by omega) (by omega)]
      omega
  · rename_i hk
    rw [if_neg hk]
    split at ok
    · rename_i hk2
      rw [if_pos hk2]
      simp only [turnP]
      omega
    · rename_i hk2
      rw [if_neg hk2]
      split at ok
      · rename_i hk3
        rw [if_pos hk3]
        simp only
        omega
      · cases ok
theorem second_near {p : Pose} {lo hi : Int} (h1 : lo ≤ p.1.1) (h2 : p.1.1 ≤ hi) (h3 : lo ≤ p.1.2) (h4 : p.1.2 ≤ hi) (hl : -1000 ≤ lo) (hh : hi ≤ 900) : (second p).1 ≤ hi + 1 ∧ (second p).2 ≤ hi + 1 := by
  unfold second
  split
  · simp only [south]
    rw [w64_id (by omega) (by omega)]
    omega
  · simp only [east]
    rw [w64_id (by omega) (by omega)]
    omega
theorem legal_any (g u : Nat) (W H : Int) (us : List Int) (vp : Value) (m : Move) (w : World) (hG : GridAt w g u W H us vp) :
    Calls Try.prog 29 #[.pointer (some ⟨g, 0, none⟩), .agg (moveCs m)] w fun e w' => e = .returned (.bool (legalU W H us m)) ∧ Below w.heap.size w w' := by
  obtain ⟨kd, dir, n, ⟨⟨fx, fy⟩, fd⟩, ⟨⟨tx, ty⟩, td⟩, ma, me⟩ := m
  refine (callsIn_wide (n := 9)).1 ?_
  have e : legalU W H us (kd, dir, n, ((fx, fy), fd), ((tx, ty), td), ma, me) = (((leadsP kd dir n ((fx, fy), fd)).2 && decide (((tx, ty), td) = (leadsP kd dir n ((fx, fy), fd)).1) && fitsU W H us ((fx, fy), fd)) && (boxOf ((fx, fy), fd) (leadsP kd dir n ((fx, fy), fd)).1).all (openU W H us)) := rfl
  rw [e]
  cases hno : ((leadsP kd dir n ((fx, fy), fd)).2 && decide (((tx, ty), td) = (leadsP kd dir n ((fx, fy), fd)).1) && fitsU W H us ((fx, fy), fd))
  · rw [Bool.false_and]
    exact legal_no g u W H us vp kd dir n fx fy fd tx ty td ma me w hG hno
  · rw [Bool.true_and]
    simp only [Bool.and_eq_true, decide_eq_true_eq] at hno
    obtain ⟨⟨h1, h2⟩, h3⟩ := hno
    have hin := (fits_in h3).1
    have hs := (fits_in h3).2
    have g1 := hG.w2
    have g2 := hG.h2
    unfold In at hin hs
    simp only at hin
    have hn := leads_near (kd := kd) (dir := dir) (n := n) (f := ((fx, fy), fd)) hin.1 (show fx < 16 by omega) hin.2.2.1 (show fy < 16 by omega) h1
    have hq : ∃ px py pd, leadsP kd dir n ((fx, fy), fd) = (((px, py), pd), true) := ⟨_, _, _, Prod.ext rfl h1⟩
    obtain ⟨px, py, pd, hq⟩ := hq
    rw [hq] at h2 hn ⊢
    simp only at hn
    have hs2 := second_near (p := ((px, py), pd)) (lo := -16) (hi := 32) (by simp only; omega) (by simp only; omega) (by simp only; omega) (by simp only; omega) (by omega) (by omega)
    have hb : spanP ((fx, fy), fd) ((px, py), pd) = ((min fx px, min fy py), (max (second ((fx, fy), fd)).1 (second ((px, py), pd)).1, max (second ((fx, fy), fd)).2 (second ((px, py), pd)).2)) := rfl
    unfold boxOf
    simp only [hb]
    exact legal_go g u W H us vp kd dir n fx fy fd tx ty td ma me w hG px py pd _ _ _ _ hq h2 h3 hb (by omega) (by omega) (by omega) (by omega)
end Go.Proofs.Ytnaojlngdfolaaa.Grid
