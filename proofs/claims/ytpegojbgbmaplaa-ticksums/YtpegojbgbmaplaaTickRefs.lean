/-
  What each call of the document's own answer (chapter 1) gives in the model, for every pair of numbers: the same plain functions.
-/
import Derived.Test.YtpegojbgbmaplaaTickCalls
namespace Go.Proofs.Ytpegojbgbmaplaa.Tick
open Go.RowKit
open Plain

theorem rcut_any (a : Int) (w : World) : Calls Try.prog 10 #[.int .i64 a] w fun e w' => e = .returned (.int .i64 (cut a)) ∧ w' = w := by
  by_cases h1 : a < 0
  · have e : cut a = 0 := by unfold cut; rw [if_pos h1]
    rw [e]
    go_enter Try.func10, Try.ntmps10
    go_wp2
    go_ret
    exact ⟨rfl, rfl⟩
  · by_cases h2 : 4611686018427387904 < a
    · have e : cut a = 4611686018427387904 := by unfold cut; rw [if_neg h1, if_pos h2]
      rw [e]
      go_enter Try.func10, Try.ntmps10
      go_wp2
      go_ret
      exact ⟨rfl, rfl⟩
    · have e : cut a = a := by unfold cut; rw [if_neg h1, if_neg h2]
      rw [e]
      go_enter Try.func10, Try.ntmps10
      go_wp2
      go_ret
      exact ⟨rfl, rfl⟩

set_option maxHeartbeats 1000000 in
theorem rsum_any (a b : Int) (w : World) : Calls Try.prog 12 #[.int .i64 a, .int .i64 b] w fun e w' => e = .returned (.int .i64 (sum a b)) ∧ w' = w := by
  obtain ⟨a0, a1⟩ := cut_bd a
  obtain ⟨b0, b1⟩ := cut_bd b
  have ha := rcut_any a w
  have hb := rcut_any b w
  have hs := sum_min a b
  generalize cut a = x at *
  generalize cut b = y at *
  generalize sum a b = r at *
  have H : Hid (r = min (x + y) 4611686018427387904) := hs
  clear hs
  by_cases h : 4611686018427387904 - y ≤ x
  all_goals
    go_enter Try.func12, Try.ntmps12
    go_wp2_with (first | (go_at_call 10; refine ha.mono ?_; rintro e w1 ⟨rfl, rfl⟩) | (go_at_call 10; refine hb.mono ?_; rintro e w1 ⟨rfl, rfl⟩))
    go_ret
    exact ⟨ret_int (by rw [H.out]; omega), rfl⟩

set_option maxHeartbeats 1000000 in
theorem rless_any (a b : Int) (w : World) : Calls Try.prog 14 #[.int .i64 a, .int .i64 b] w fun e w' => e = .returned (.int .i64 (less a b)) ∧ w' = w := by
  obtain ⟨a0, a1⟩ := cut_bd a
  obtain ⟨b0, b1⟩ := cut_bd b
  have ha := rcut_any a w
  have hb := rcut_any b w
  have hs : less a b = if cut a = 4611686018427387904 then 4611686018427387904 else if cut a < cut b then 0 else cut a - cut b := rfl
  generalize cut a = x at *
  generalize cut b = y at *
  generalize less a b = r at *
  have H : Hid (r = if x = 4611686018427387904 then 4611686018427387904 else if x < y then 0 else x - y) := hs
  clear hs
  by_cases h : x = 4611686018427387904
  · subst h
    go_enter Try.func14, Try.ntmps14
    go_wp2_with (first | (go_at_call 10; refine ha.mono ?_; rintro e w1 ⟨rfl, rfl⟩) | (go_at_call 10; refine hb.mono ?_; rintro e w1 ⟨rfl, rfl⟩))
    go_ret
    exact ⟨ret_int (by rw [H.out]; rfl), rfl⟩
  · have hx : (x == 4611686018427387904) = false := by simpa using h
    by_cases h2 : x < y
    all_goals
      go_enter Try.func14, Try.ntmps14
      go_wp2_with (first | (go_at_call 10; refine ha.mono ?_; rintro e w1 ⟨rfl, rfl⟩) | (go_at_call 10; refine hb.mono ?_; rintro e w1 ⟨rfl, rfl⟩))
      go_ret
      exact ⟨ret_int (by rw [H.out, if_neg h]; first | rw [if_pos (by omega)] | rw [if_neg (by omega)]), rfl⟩

set_option maxHeartbeats 1000000 in
theorem rtimes_any (a b : Int) (w : World) : Calls Try.prog 17 #[.int .i64 a, .int .i64 b] w fun e w' => e = .returned (.int .i64 (times a b)) ∧ w' = w := by
  obtain ⟨a0, a1⟩ := cut_bd a
  obtain ⟨b0, b1⟩ := cut_bd b
  have ha := rcut_any a w
  have hb := rcut_any b w
  have hs : times a b = if cut a * cut b ≤ 4611686018427387904 then cut a * cut b else 4611686018427387904 := rfl
  generalize cut a = x at *
  generalize cut b = y at *
  generalize times a b = r at *
  have H : Hid (r = if x * y ≤ 4611686018427387904 then x * y else 4611686018427387904) := hs
  clear hs
  by_cases hx0 : x = 0
  · subst hx0
    go_enter Try.func17, Try.ntmps17
    go_wp2_with (first | (go_at_call 10; refine ha.mono ?_; rintro e w1 ⟨rfl, rfl⟩) | (go_at_call 10; refine hb.mono ?_; rintro e w1 ⟨rfl, rfl⟩))
    go_ret
    exact ⟨ret_int (by rw [H.out]; simp), rfl⟩
  · have hx : (x == 0) = false := by simpa using hx0
    by_cases h : y = 0
    · subst h
      go_enter Try.func17, Try.ntmps17
      go_wp2_with (first | (go_at_call 10; refine ha.mono ?_; rintro e w1 ⟨rfl, rfl⟩) | (go_at_call 10; refine hb.mono ?_; rintro e w1 ⟨rfl, rfl⟩))
      go_ret
      exact ⟨ret_int (by rw [H.out]; simp), rfl⟩
    · have hp : 0 < y := by omega
      have HC : Hid ((4611686018427387904 / y < x) ↔ (4611686018427387904 < x * y)) := times_code hp
      have hy : (y == 0) = false := by simpa using h
      by_cases h2 : 4611686018427387904 / y < x
      all_goals
        go_enter Try.func17, Try.ntmps17
        go_wp2_with (first | (go_at_call 10; refine ha.mono ?_; rintro e w1 ⟨rfl, rfl⟩) | (go_at_call 10; refine hb.mono ?_; rintro e w1 ⟨rfl, rfl⟩))
        go_ret
        have hc := HC.out
        have h0 : 0 ≤ x * y := Int.mul_nonneg a0 b0
        refine ⟨ret_int ?_, rfl⟩
        rw [H.out]
        first
          | rw [if_neg (by omega)]
          | (have h3 : ¬ 4611686018427387904 < x * y := fun g => by have := hc.mpr g; omega
             rw [if_pos (by omega), wrap_in (by omega) (by omega)])

set_option maxHeartbeats 1000000 in
theorem rup_any (a b : Int) (w : World) : Calls Try.prog 19 #[.int .i64 a, .int .i64 b] w fun e w' => e = .returned (.int .i64 (up a b)) ∧ w' = w := by
  obtain ⟨a0, a1⟩ := cut_bd a
  obtain ⟨b0, b1⟩ := cut_bd b
  have ha := rcut_any a w
  have hb := rcut_any b w
  have hs : up a b = if cut b = 0 then 0 else if cut a = 4611686018427387904 then 4611686018427387904 else if cut a % cut b = 0 then cut a / cut b else cut a / cut b + 1 := rfl
  generalize cut a = x at *
  generalize cut b = y at *
  generalize up a b = r at *
  have H : Hid (r = if y = 0 then 0 else if x = 4611686018427387904 then 4611686018427387904 else if x % y = 0 then x / y else x / y + 1) := hs
  clear hs
  by_cases h : y = 0
  · subst h
    go_enter Try.func19, Try.ntmps19
    go_wp2_with (first | (go_at_call 10; refine ha.mono ?_; rintro e w1 ⟨rfl, rfl⟩) | (go_at_call 10; refine hb.mono ?_; rintro e w1 ⟨rfl, rfl⟩))
    go_ret
    exact ⟨ret_int (by rw [H.out]; rfl), rfl⟩
  · have hp : 0 < y := by omega
    have hy : (y == 0) = false := by simpa using h
    by_cases h2 : x = 4611686018427387904
    · subst h2
      go_enter Try.func19, Try.ntmps19
      go_wp2_with (first | (go_at_call 10; refine ha.mono ?_; rintro e w1 ⟨rfl, rfl⟩) | (go_at_call 10; refine hb.mono ?_; rintro e w1 ⟨rfl, rfl⟩))
      go_ret
      exact ⟨ret_int (by rw [H.out, if_neg h]; rfl), rfl⟩
    · have hx : (x == 4611686018427387904) = false := by simpa using h2
      have hd : x / y ≤ x := Int.ediv_le_self _ a0
      have hn : 0 ≤ x / y := Int.ediv_nonneg a0 b0
      have hm := Int.mul_ediv_add_emod x y
      have hr := Int.emod_nonneg x h
      have hmul : y * (x / y) = x / y * y := Int.mul_comm _ _
      have hw : wrap64 (x / y * y) = x / y * y := wrap_in (by have := Int.mul_nonneg hn b0; omega) (by omega)
      have HM : Hid (y * (x / y) + x % y = x ∧ y * (x / y) = x / y * y ∧ 0 ≤ x % y) := ⟨hm, hmul, hr⟩
      clear hm hmul hr
      by_cases h3 : x / y * y < x
      all_goals
        go_enter Try.func19, Try.ntmps19
        go_wp2_with (first | (go_at_call 10; refine ha.mono ?_; rintro e w1 ⟨rfl, rfl⟩) | (go_at_call 10; refine hb.mono ?_; rintro e w1 ⟨rfl, rfl⟩))
        go_ret
        refine ⟨ret_int ?_, rfl⟩
        obtain ⟨m1, m2, m3⟩ := HM.out
        rw [H.out, if_neg h, if_neg h2]
        first | rw [if_pos (by omega)] | rw [if_neg (by omega)]

end Go.Proofs.Ytpegojbgbmaplaa.Tick
