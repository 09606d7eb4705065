/-
  What follows: facts on stops, times and places, in the terms of what the calls answer.
-/
import Derived.Test.YtjblplaaogbkiaaKinAwake
namespace Go.Proofs.Ytjblplaaogbkiaa.Kin
set_option linter.unusedVariables false
set_option linter.unusedSimpArgs false
open Go Go.RowKit Go.Shelf Go.Proofs

theorem timeI {u a v n : Nat} (h1 : 1 ≤ n) (h2 : n ≤ 16) : (profI u a v n).length = (spd u a v n).length := by rw [profI_in h1 h2, prof_len]
theorem cells_le {u a p s n : Nat} (hu : 1 ≤ u) (h : p + brk a s ≤ n * u) : cellsS u a p s ≤ n := by
  unfold cellsS
  have : p + brk a s + u - 1 < (n + 1) * u := by rw [Nat.succ_mul]; omega
  have := Nat.div_lt_of_lt_mul (m := p + brk a s + u - 1) (n := u) (k := n + 1) (by rw [Nat.mul_comm]; exact this)
  omega
theorem cells_mono {u a p s p' s' : Nat} (h : p + brk a s ≤ p' + brk a s') : cellsS u a p s ≤ cellsS u a p' s' := Nat.div_le_div_right (by omega)
theorem stopC_mid {u a v n t : Nat} (ok : Ok u a v) (h1 : 1 ≤ n) (h2 : n ≤ 16) (ht : 1 ≤ t) (hl : t < (spd u a v n).length) : stopC u a v n t = cellsS u a (pos u a v n t) (vel u a v n t) := by
  unfold stopC
  rw [timeI h1 h2, if_neg (by omega), if_neg (by omega), atI_in ok h1 h2, velI_in ok h1 h2]
theorem stopC_end {u a v n t : Nat} (ok : Ok u a v) (h1 : 1 ≤ n) (h2 : n ≤ 16) (ht : 1 ≤ t) (hl : (spd u a v n).length ≤ t) : stopC u a v n t = n := by
  unfold stopC
  have := spd_bd ok h1 h2
  rw [timeI h1 h2, if_neg (by omega), if_pos (by omega), Int.toNat_natCast]
theorem stopT_mid {u a v n t : Nat} (ok : Ok u a v) (h1 : 1 ≤ n) (h2 : n ≤ 16) (ht : 1 ≤ t) (hl : t < (spd u a v n).length) : stopT u a v n t = ticksS u a v (pos u a v n t) (vel u a v n t) := by
  unfold stopT
  rw [timeI h1 h2, if_neg (by omega), if_neg (by omega), atI_in ok h1 h2, velI_in ok h1 h2]
theorem stopT_end {u a v n t : Nat} (ok : Ok u a v) (h1 : 1 ≤ n) (h2 : n ≤ 16) (ht : 1 ≤ t) (hl : (spd u a v n).length ≤ t) : stopT u a v n t = 0 := by
  unfold stopT
  have := spd_bd ok h1 h2
  rw [timeI h1 h2, if_neg (by omega), if_pos (by omega)]
theorem stopC_le {u a v n t : Nat} (ok : Ok u a v) (h1 : 1 ≤ n) (h2 : n ≤ 16) (ht : 1 ≤ t) : stopC u a v n t ≤ n := by
  by_cases hl : t < (spd u a v n).length
  · rw [stopC_mid ok h1 h2 ht hl]
    exact cells_le ok.u1 (brk_left ok.a1 ok.v1 t)
  · rw [stopC_end ok h1 h2 ht (by omega)]
    exact Nat.le_refl _
theorem stopC_later {u a v n t : Nat} (ok : Ok u a v) (h1 : 1 ≤ n) (h2 : n ≤ 16) (ht : 1 ≤ t) : stopC u a v n t ≤ stopC u a v n (t + 1 : Nat) := by
  by_cases hl : t + 1 < (spd u a v n).length
  · rw [stopC_mid ok h1 h2 ht (by omega), stopC_mid ok h1 h2 (by omega) hl]
    exact cells_mono (brk_later ok.a1 ok.v1 t)
  · rw [stopC_end ok h1 h2 (t := t + 1) (by omega) (by omega)]
    exact stopC_le ok h1 h2 ht
/- A stopped run. -/
structure Stands (u a v n t C M : Nat) : Prop where
  c1 : 1 ≤ C
  cn : C ≤ n
  far : pos u a v n t + brk a (vel u a v n t) ≤ C * u
  near : C * u < pos u a v n t + brk a (vel u a v n t) + u
  fast : C * u - pos u a v n t ≤ M * vel u a v n t
  none : M = 0 ↔ C * u = pos u a v n t
theorem stands_mid {u a v n t : Nat} (ok : Ok u a v) (h1 : 1 ≤ n) (h2 : n ≤ 16) (ht : 1 ≤ t) (hl : t < (spd u a v n).length) : Stands u a v n t (stopC u a v n t) (stopT u a v n t) := by
  have hv := vel_bd (u := u) (n := n) ok ht (by omega)
  have hp := pos_le (u := u) (n := n) ok.a1 ok.v1 t
  have hpos : 1 ≤ pos u a v n t := by
    obtain ⟨m, rfl⟩ : ∃ m, t = m + 1 := ⟨t - 1, by omega⟩
    rw [vel_succ (by omega)] at hv
    rw [pos_succ (by omega)]
    omega
  have hc := stopC_le ok h1 h2 ht
  rw [stopC_mid ok h1 h2 ht hl] at hc ⊢
  rw [stopT_mid ok h1 h2 ht hl]
  obtain ⟨q1, q2⟩ := cells_bd (u := u) (a := a) (p := pos u a v n t) (s := vel u a v n t) ok.u1
  have hL := runs_sum (a := a) (v := v) (rise := 0) ok.a1 ok.v1 (cellsS u a (pos u a v n t) (vel u a v n t) * u - pos u a v n t) (vel u a v n t) (by omega)
  have hf := runs_flat (a := a) (v := v) ok.a1 ok.v1 (cellsS u a (pos u a v n t) (vel u a v n t) * u - pos u a v n t) (vel u a v n t) (by omega)
  have hm := sum_le_mul _ _ hf
  rw [hL] at hm
  have hz := (runs_len (a := a) (v := v) (rise := 0) (left := cellsS u a (pos u a v n t) (vel u a v n t) * u - pos u a v n t) (s := vel u a v n t) ok.a1 ok.v1 (by omega))
  refine ⟨?_, hc, q1, q2, hm, ?_⟩
  · by_cases h0 : cellsS u a (pos u a v n t) (vel u a v n t) = 0
    · rw [h0, Nat.zero_mul] at q1; omega
    · omega
  · unfold ticksS
    constructor
    · intro e
      rw [e, Nat.zero_mul] at hz
      omega
    · intro e
      omega
end Go.Proofs.Ytjblplaaogbkiaa.Kin
