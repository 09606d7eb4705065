/-
  The way back, in plain words: each move of a pose is legal, its end fits, the move back is legal, over the same cells, three and more.
-/
import Derived.Test.YtnaojlngdfolaaaGridRuns
namespace Go.Proofs.Ytnaojlngdfolaaa.Grid
set_option linter.unusedVariables false
set_option linter.unusedSimpArgs false
open Go Go.RowKit Go.Shelf Go.Proofs

def backM (m : Move) : Move := (m.1, (if m.1 = 1 then (m.2.1 + 2).tmod 4 else m.2.1), m.2.2.1, m.2.2.2.2.1, m.2.2.2.1, m.2.2.2.2.2.1, m.2.2.2.2.2.2)
theorem box_symm (a b : Pose) : boxOf a b = boxOf b a := by
  unfold boxOf spanP
  simp only
  rw [Int.min_comm a.1.1, Int.min_comm a.1.2, Int.max_comm (second a).1, Int.max_comm (second a).2]
theorem boxList_len (x0 y0 x1 y1 : Int) : (boxList x0 y0 x1 y1).length = (y1 + 1 - y0).toNat * (x1 + 1 - x0).toNat := by
  unfold boxList
  rw [rows_len]
theorem prod3 {a b : Nat} (h : (2 ≤ a ∧ 2 ≤ b) ∨ (1 ≤ a ∧ 3 ≤ b) ∨ (3 ≤ a ∧ 1 ≤ b)) : 3 ≤ a * b := by
  rcases h with ⟨h1, h2⟩ | ⟨h1, h2⟩ | ⟨h1, h2⟩ <;> (have := Nat.mul_le_mul h1 h2; omega)
structure Back (W H : Int) (us : List Int) (p : Pose) (m : Move) : Prop where
  from_ : m.2.2.2.1 = p
  legal : legalU W H us m = true
  back : legalU W H us (backM m) = true
  fits : fitsU W H us m.2.2.2.2.1 = true
  three : 3 ≤ (boxOf m.2.2.2.1 m.2.2.2.2.1).length
theorem back_run {W H : Int} {us : List Int} {p : Pose} {d n : Int} (hW : W ≤ 16) (hH : H ≤ 16) (hd : 0 ≤ d ∧ d ≤ 3) (hn : 1 ≤ n ∧ n ≤ 16) (h : legalU W H us (runM p d n) = true) : Back W H us p (runM p d n) := by
  obtain ⟨hf, hk⟩ := (legal_run hW hH hd hn).1 h
  obtain ⟨n1, n2, n3, n4⟩ := fits_near hW hH hf
  have ht := hk n hn.1 (Int.le_refl _)
  obtain ⟨t1, t2, t3, t4⟩ := fits_near hW hH ht
  have hs := fun k (q : 0 ≤ k) (r : k ≤ 16) => shift_small (p := p) (d := d) (k := k) (by omega) (by omega) (by omega) (by omega) q r
  have hdd : 0 ≤ (d + 2).tmod 4 ∧ (d + 2).tmod 4 ≤ 3 ∧ dx ((d + 2).tmod 4) = - dx d ∧ dy ((d + 2).tmod 4) = - dy d := by
    rcases (show d = 0 ∨ d = 1 ∨ d = 2 ∨ d = 3 by omega) with rfl | rfl | rfl | rfl <;> decide
  have hs2 := fun k (q : 0 ≤ k) (r : k ≤ 16) => shift_small (p := shiftP p d n) (d := (d + 2).tmod 4) (k := k) (by omega) (by omega) (by omega) (by omega) q r
  have hb : ∀ k, 0 ≤ k → k ≤ n → shiftP (shiftP p d n) ((d + 2).tmod 4) k = shiftP p d (n - k) := by
    intro k k1 k2
    rw [hs2 k k1 (by omega), hdd.2.2.1, hdd.2.2.2, hs n (by omega) (by omega), hs (n - k) (by omega) (by omega)]
    rcases (show d = 0 ∨ d = 1 ∨ d = 2 ∨ d = 3 by omega) with rfl | rfl | rfl | rfl <;> simp [dx, dy] <;> omega
  have e0 : shiftP (shiftP p d n) ((d + 2).tmod 4) n = p := by rw [hb n (by omega) (Int.le_refl _), Int.sub_self, shift_zero n1 n2 n3 n4]
  have hback : backM (runM p d n) = runM (shiftP p d n) ((d + 2).tmod 4) n := by
    unfold backM runM
    simp only [if_true]
    rw [e0]
  refine ⟨rfl, h, ?_, ht, ?_⟩
  · rw [hback]
    refine (legal_run hW hH ⟨hdd.1, hdd.2.1⟩ hn).2 ⟨ht, fun k k1 k2 => ?_⟩
    rw [hb k (by omega) k2]
    by_cases hz : n - k = 0
    · rw [hz, shift_zero n1 n2 n3 n4]; exact hf
    · exact hk (n - k) (by omega) (by omega)
  · show 3 ≤ (boxOf p (shiftP p d n)).length
    have hsec := second_small (p := shiftP p d n) (by omega) (by omega) (by omega) (by omega)
    have hsp := second_small (p := p) (by omega) (by omega) (by omega) (by omega)
    unfold boxOf spanP
    rw [boxList_len, hsec, hsp, hs n (by omega) (by omega)]
    obtain ⟨⟨x, y⟩, b⟩ := p
    refine prod3 ?_
    rcases (show d = 0 ∨ d = 1 ∨ d = 2 ∨ d = 3 by omega) with rfl | rfl | rfl | rfl <;> cases b <;> simp [dx, dy] <;> omega
theorem back_turn {W H : Int} {us : List Int} {p : Pose} (hW : W ≤ 16) (hH : H ≤ 16) (h : legalU W H us (turnM p) = true) : Back W H us p (turnM p) := by
  have h0 := h
  have e2 : legalU W H us (turnM p) = (fitsU W H us p && (boxOf p (turnP p)).all (openU W H us)) := by
    unfold legalU turnM leadsP
    simp [still]
  rw [e2, Bool.and_eq_true] at h
  obtain ⟨hf, hb⟩ := h
  obtain ⟨n1, n2, n3, n4⟩ := fits_near hW hH hf
  have hsp := second_small (p := p) (by omega) (by omega) (by omega) (by omega)
  have hst := second_small (p := turnP p) (by show -200 ≤ p.1.1; omega) (by show p.1.1 ≤ 200; omega) (by show -200 ≤ p.1.2; omega) (by show p.1.2 ≤ 200; omega)
  have hall := List.all_eq_true.1 hb
  have hft : fitsU W H us (turnP p) = true := by
    refine fits_iff.2 ⟨hall _ ?_, hall _ ?_⟩
    · unfold boxOf spanP
      rw [mem_boxList, hsp, hst]
      obtain ⟨⟨x, y⟩, b⟩ := p
      cases b <;> simp [turnP] <;> omega
    · unfold boxOf spanP
      rw [mem_boxList, hsp, hst]
      obtain ⟨⟨x, y⟩, b⟩ := p
      cases b <;> simp [turnP] <;> omega
  have htt : turnP (turnP p) = p := by unfold turnP; simp
  refine ⟨rfl, h0, ?_, hft, ?_⟩
  · have e : backM (turnM p) = turnM (turnP p) := by unfold backM turnM; simp only [htt]; rfl
    have e3 : legalU W H us (turnM (turnP p)) = (fitsU W H us (turnP p) && (boxOf (turnP p) (turnP (turnP p))).all (openU W H us)) := by
      unfold legalU turnM leadsP
      simp [still]
    rw [e, e3, htt, box_symm, Bool.and_eq_true]
    exact ⟨hft, hb⟩
  · show 3 ≤ (boxOf p (turnP p)).length
    unfold boxOf spanP
    rw [boxList_len, hsp, hst]
    refine prod3 ?_
    obtain ⟨⟨x, y⟩, b⟩ := p
    cases b <;> simp [turnP] <;> omega
theorem back_all {W H : Int} {us : List Int} {p : Pose} {m : Move} (hW : W ≤ 16) (hH : H ≤ 16) (h : m ∈ movesP W H us p) : Back W H us p m := by
  unfold movesP at h
  split at h
  · rename_i hf
    rcases List.mem_append.1 h with q | q
    · obtain ⟨i, hi, q⟩ := (mem_dirs 4).1 q
      obtain ⟨j, j1, j2, rfl, q2⟩ := (mem_dir hW hH ⟨by omega, by omega⟩ hf).1 q
      exact back_run hW hH ⟨by omega, by omega⟩ ⟨by omega, by omega⟩ q2
    · unfold lastP at q
      split at q
      · rename_i hl
        have := List.mem_singleton.1 q
        rw [this]
        exact back_turn hW hH hl
      · simp at q
  · simp at h
end Go.Proofs.Ytnaojlngdfolaaa.Grid
