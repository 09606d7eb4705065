/-
  Plain facts on saturating ticks (0 to 2 to the 62nd): cut, sum, less, times, up, and the laws that they keep. No Go in sight.
-/
import Derived.WalkKit
namespace Go.Proofs.Ytdplacpdbknlgaa.Plain

def cut (a : Int) : Int := if a < 0 then 0 else if 4611686018427387904 < a then 4611686018427387904 else a
def sum (a b : Int) : Int := if 4611686018427387904 - cut b < cut a then 4611686018427387904 else cut a + cut b
def less (a b : Int) : Int := if cut a = 4611686018427387904 then 4611686018427387904 else if cut a < cut b then 0 else cut a - cut b
def times (a b : Int) : Int := if cut a * cut b ≤ 4611686018427387904 then cut a * cut b else 4611686018427387904
def up (a b : Int) : Int := if cut b = 0 then 0 else if cut a = 4611686018427387904 then 4611686018427387904 else if cut a % cut b = 0 then cut a / cut b else cut a / cut b + 1

theorem cut_bd (a : Int) : 0 ≤ cut a ∧ cut a ≤ 4611686018427387904 := by unfold cut; split <;> (try split) <;> omega
theorem cut_in {a : Int} (h : 0 ≤ a) (k : a ≤ 4611686018427387904) : cut a = a := by
  unfold cut; rw [if_neg (by omega), if_neg (by omega)]
theorem cut_mono {a b : Int} (h : a ≤ b) : cut a ≤ cut b := by unfold cut; split <;> (try split) <;> (try split) <;> (try split) <;> omega
theorem sum_min (a b : Int) : sum a b = min (cut a + cut b) 4611686018427387904 := by
  have h1 := cut_bd a; have h2 := cut_bd b
  unfold sum; split <;> omega
theorem sum_bd (a b : Int) : 0 ≤ sum a b ∧ sum a b ≤ 4611686018427387904 := by
  have h1 := cut_bd a; have h2 := cut_bd b
  rw [sum_min]; omega
theorem cut_sum (a b : Int) : cut (sum a b) = sum a b := cut_in (sum_bd a b).1 (sum_bd a b).2
theorem less_bd (a b : Int) : 0 ≤ less a b ∧ less a b ≤ 4611686018427387904 := by
  have h1 := cut_bd a; have h2 := cut_bd b
  unfold less; split <;> (try split) <;> omega
theorem cut_less (a b : Int) : cut (less a b) = less a b := cut_in (less_bd a b).1 (less_bd a b).2
theorem mul_nonneg' {a b : Int} (h : 0 ≤ a) (k : 0 ≤ b) : 0 ≤ a * b := Int.mul_nonneg h k
theorem times_min (a b : Int) : times a b = min (cut a * cut b) 4611686018427387904 := by
  unfold times; split <;> omega
theorem times_bd (a b : Int) : 0 ≤ times a b ∧ times a b ≤ 4611686018427387904 := by
  have h := Int.mul_nonneg (cut_bd a).1 (cut_bd b).1
  rw [times_min]; omega
theorem cut_times (a b : Int) : cut (times a b) = times a b := cut_in (times_bd a b).1 (times_bd a b).2
theorem up_bd (a b : Int) : 0 ≤ up a b ∧ up a b ≤ 4611686018427387904 := by
  have h1 := cut_bd a; have h2 := cut_bd b
  unfold up
  split
  · omega
  · split
    · omega
    · have hp : 0 < cut b := by omega
      have hd : cut a / cut b ≤ cut a := Int.ediv_le_self _ h1.1
      have hn : 0 ≤ cut a / cut b := Int.ediv_nonneg h1.1 h2.1
      split <;> omega
theorem cut_up (a b : Int) : cut (up a b) = up a b := cut_in (up_bd a b).1 (up_bd a b).2

/- The road that the code takes for a product: hold the first against 2 to the 62nd over the second. -/
theorem times_code {x y : Int} (hy : 0 < y) : (4611686018427387904 / y < x) ↔ (4611686018427387904 < x * y) := by
  rw [Int.ediv_lt_iff_lt_mul hy]

theorem sum_comm (a b : Int) : sum a b = sum b a := by rw [sum_min, sum_min, Int.add_comm]
theorem times_comm (a b : Int) : times a b = times b a := by rw [times_min, times_min, Int.mul_comm]
theorem sum_assoc (a b c : Int) : sum (sum a b) c = sum a (sum b c) := by
  have h1 := cut_bd a; have h2 := cut_bd b; have h3 := cut_bd c
  rw [sum_min (sum a b), sum_min a (sum b c), cut_sum, cut_sum, sum_min, sum_min]; omega
theorem min_mul_min {m x c : Int} (hm : 0 < m) (hc : 0 ≤ c) : min (min x m * c) m = min (x * c) m := by
  by_cases h : x ≤ m
  · rw [Int.min_eq_left h]
  · have hmx : m ≤ x := by omega
    rw [Int.min_eq_right hmx]
    by_cases h0 : c = 0
    · subst h0; simp
    · have h1 : m * 1 ≤ m * c := Int.mul_le_mul_of_nonneg_left (by omega) (by omega)
      have h2 : m * c ≤ x * c := Int.mul_le_mul_of_nonneg_right hmx hc
      omega
theorem times_assoc (a b c : Int) : times (times a b) c = times a (times b c) := by
  have h1 := cut_bd a; have h2 := cut_bd b; have h3 := cut_bd c
  rw [times_min (times a b), times_min a (times b c), cut_times, cut_times, times_min, times_min]
  rw [min_mul_min (by omega) h3.1, Int.mul_comm (cut a) (min _ _), min_mul_min (by omega) h1.1]
  rw [Int.mul_assoc, Int.mul_comm (cut a)]
theorem sum_mono {a b : Int} (c : Int) (h : a ≤ b) : sum a c ≤ sum b c := by
  have := cut_mono h; rw [sum_min, sum_min]; omega
theorem times_mono {a b : Int} (c : Int) (h : a ≤ b) : times a c ≤ times b c := by
  have h1 := Int.mul_le_mul_of_nonneg_right (cut_mono h) (cut_bd c).1
  rw [times_min, times_min]; omega
theorem less_mono {a b : Int} (c : Int) (h : a ≤ b) : less a c ≤ less b c := by
  have := cut_mono h; have h1 := cut_bd a; have h2 := cut_bd b; have h3 := cut_bd c
  unfold less; split <;> (try split) <;> (try split) <;> (try split) <;> omega
theorem less_anti {a b : Int} (c : Int) (h : a ≤ b) : less c b ≤ less c a := by
  have := cut_mono h; have h1 := cut_bd a; have h2 := cut_bd b; have h3 := cut_bd c
  unfold less; split <;> (try split) <;> (try split) <;> (try split) <;> omega
theorem less_less (a b c : Int) : less (less a b) c = less a (sum b c) := by
  have h1 := cut_bd a; have h2 := cut_bd b; have h3 := cut_bd c
  have e : less (less a b) c = if less a b = 4611686018427387904 then 4611686018427387904 else if less a b < cut c then 0 else less a b - cut c := by
    rw [less.eq_def (less a b)]; simp only [cut_less]
  have e2 : less a (sum b c) = if cut a = 4611686018427387904 then 4611686018427387904 else if cut a < sum b c then 0 else cut a - sum b c := by
    rw [less.eq_def a]; simp only [cut_sum]
  rw [e, e2, sum_min]
  unfold less
  split <;> (try split) <;> (try split) <;> (try split) <;> (try split) <;> (try split) <;> omega
theorem times_sum (a b c : Int) : times a (sum b c) = sum (times a b) (times a c) := by
  have h1 := cut_bd a; have h2 := cut_bd b; have h3 := cut_bd c
  rw [times_min a (sum b c), sum_min (times a b), cut_sum, cut_times, cut_times, times_min, times_min, sum_min]
  have hab := Int.mul_nonneg h1.1 h2.1
  have hac := Int.mul_nonneg h1.1 h3.1
  rw [Int.mul_comm (cut a) (min _ _), min_mul_min (by omega) h1.1, Int.add_mul, Int.mul_comm (cut b), Int.mul_comm (cut c)]
  omega
theorem back_sum {a b : Int} (h : sum a b < 4611686018427387904) : less (sum a b) b = cut a := by
  have h1 := cut_bd a; have h2 := cut_bd b
  unfold less; rw [cut_sum]; rw [sum_min] at h ⊢
  split <;> (try split) <;> omega
theorem up_times {a b : Int} (hb : 0 < cut b) (ha : cut a < 4611686018427387904) : cut a ≤ times (up a b) (cut b) := by
  have h1 := cut_bd a; have h2 := cut_bd b
  rw [times_min, cut_up, cut_in h2.1 h2.2]
  have hd := Int.mul_ediv_add_emod (cut a) (cut b)
  have hr := Int.emod_nonneg (cut a) (show cut b ≠ 0 by omega)
  have hl := Int.emod_lt_of_pos (cut a) hb
  have hu : cut a ≤ up a b * cut b := by
    unfold up
    rw [if_neg (by omega), if_neg (by omega)]
    split
    · rw [Int.mul_comm]; omega
    · rw [Int.add_mul, Int.mul_comm (_ / _)]; omega
  omega
theorem up_least {a b : Int} (hb : 0 < cut b) (ha : cut a < 4611686018427387904) (hu : 0 < up a b) : times (up a b - 1) (cut b) < cut a := by
  have h1 := cut_bd a; have h2 := cut_bd b; have h3 := up_bd a b
  rw [times_min, cut_in (a := up a b - 1) (by omega) (by omega), cut_in h2.1 h2.2]
  have hd := Int.mul_ediv_add_emod (cut a) (cut b)
  have hr := Int.emod_nonneg (cut a) (show cut b ≠ 0 by omega)
  have hl := Int.emod_lt_of_pos (cut a) hb
  have hk : (up a b - 1) * cut b < cut a := by
    revert hu
    unfold up
    rw [if_neg (by omega), if_neg (by omega)]
    split
    · intro hu; rw [Int.sub_mul, Int.mul_comm (_ / _)]; omega
    · intro hu; rw [Int.add_sub_cancel, Int.mul_comm]; omega
  omega

end Go.Proofs.Ytdplacpdbknlgaa.Plain
