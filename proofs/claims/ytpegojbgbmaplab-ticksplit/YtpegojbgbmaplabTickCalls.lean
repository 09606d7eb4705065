/-
  What each call of package tick answers in the model, for every pair of numbers: contracts over the plain functions; memory is at most new blocks.
-/
import Derived.Test.YtpegojbgbmaplabChecked
import Derived.Test.YtpegojbgbmaplabTickPlain
import Derived.WalkKit
import Derived.ProofKit
import Derived.OpenShut
import Derived.BigQuiet
import Derived.Deep.QuietTactic
import Derived.WalkSmall
namespace Go.Proofs.Ytpegojbgbmaplab.Tick
open Go.RowKit
open Plain

/- Nothing old has turned, and what is frozen stays as it was. -/
structure Kept (w w' : World) : Prop where
  below : Below w.heap.size w w'
  froz : ∀ a, w'.frozen? a = w.frozen? a

theorem Kept.refl (w : World) : Kept w w := ⟨Below.refl _ _, fun _ => rfl⟩
theorem Kept.trans {a b c : World} (h : Kept a b) (k : Kept b c) : Kept a c :=
  ⟨h.below.trans (k.below.mono h.below.size), fun x => (k.froz x).trans (h.froz x)⟩
theorem Kept.onto {a b c : World} (k : Kept b c) (h : Kept a b) : Kept a c := h.trans k
theorem Kept.alloc {a w : World} (h : Kept a w) (c : Array Value) (t : TypeId) : Kept a (w.alloc (.cells c t)) :=
  ⟨h.below.alloc h.below.size _, fun x => (frozen?_alloc_cells _ _ _ x).trans (h.froz x)⟩
theorem Kept.setCell {a w : World} (h : Kept a w) {p : Addr} (hp : a.heap.size ≤ p.block) (u : Value) : Kept a (w.setCell p u) :=
  ⟨h.below.setCell hp _, fun x => (World.frozen?_setCell _ _ _ _).trans (h.froz x)⟩
theorem Kept.drew {a w : World} (h : Kept a w) : Kept a w.drew := ⟨h.below.drew, h.froz⟩
theorem Kept.drewN {a w : World} (h : Kept a w) (n : Nat) : Kept a (w.drewN n) := ⟨below_drewN h.below n, h.froz⟩
theorem Kept.grown {w w' : World} (h : Kept w w') : Grown w w' := ⟨h.below.frame _, h.froz, h.below.size⟩

theorem cut_any (a : Int) (w : World) : Calls Try.prog 10 #[.int .i64 a] w fun e w' => e = .returned (.int .i64 (cut a)) ∧ w' = w := by
  by_cases h1 : a < 0
  · have e : cut a = 0 := by unfold cut; rw [if_pos h1]
    rw [e]
    go_enter Try.func10, Try.ntmps10
    go_wp2
    go_ret
    exact ⟨rfl, rfl⟩
  · by_cases h2 : 4611686018427387904 < a
    · have e : cut a = 4611686018427387904 := by unfold cut; rw [if_neg h1, if_pos h2]
      rw [e]
      go_enter Try.func10, Try.ntmps10
      go_wp2
      go_ret
      exact ⟨rfl, rfl⟩
    · have e : cut a = a := by unfold cut; rw [if_neg h1, if_neg h2]
      rw [e]
      go_enter Try.func10, Try.ntmps10
      go_wp2
      go_ret
      exact ⟨rfl, rfl⟩

set_option maxHeartbeats 1000000 in
theorem both_any (a b : Int) (w : World) : Calls Try.prog 7 #[.int .i64 a, .int .i64 b] w fun e w' => e = .returned (.agg #[.int .i64 (cut a), .int .i64 (cut b)]) ∧ Kept w w' := by
  go_enter Try.func7, Try.ntmps7
  go_wp2
  refine wp_loop_rounds 3 ?_
  rw [rounds_succ]
  go_wp2_with (go_at_call 10; refine (cut_any _ _).mono ?_; rintro e w' ⟨rfl, rfl⟩)
  rw [rounds_succ]
  go_wp2_with (go_at_call 10; refine (cut_any _ _).mono ?_; rintro e w' ⟨rfl, rfl⟩)
  rw [rounds_succ]
  go_wp2
  exact bodyPost_ret (v := .agg #[.int .i64 (cut a), .int .i64 (cut b)]) (by simp [results, Try.results7, go_sem]) rfl ⟨rfl, (((Kept.refl _).alloc _ _).alloc _ _)⟩

/- The end of a walk behind one call of cutBoth. -/
theorem wrap_in {n : Int} (h : 0 ≤ n) (k : n ≤ 4611686018427387904) : wrap64 n = n := by unfold wrap64; omega
theorem ret_int {k : IntKind} {a b : Int} (h : a = b) : Ending.returned (.int k a) = .returned (.int k b) := by rw [h]

set_option maxHeartbeats 1000000 in
theorem sum_any (a b : Int) (w : World) : Calls Try.prog 5 #[.int .i64 a, .int .i64 b] w fun e w' => e = .returned (.int .i64 (sum a b)) ∧ Kept w w' := by
  obtain ⟨a0, a1⟩ := cut_bd a
  obtain ⟨b0, b1⟩ := cut_bd b
  have hb := both_any a b w
  have hs : sum a b = if 4611686018427387904 - cut b < cut a then 4611686018427387904 else cut a + cut b := rfl
  generalize cut a = x at *
  generalize cut b = y at *
  generalize sum a b = r at *
  have H : Hid (r = if 4611686018427387904 - y < x then 4611686018427387904 else x + y) := hs
  clear hs
  by_cases h : 4611686018427387904 - y < x
  all_goals
    go_enter Try.func5, Try.ntmps5
    go_wp2_with (go_at_call 7; refine hb.mono ?_; rintro e w1 ⟨rfl, k1⟩)
    go_ret
    exact ⟨ret_int (by rw [H.out]; first | rw [if_pos (by omega)] | rw [if_neg (by omega)]), by repeat (first | exact Kept.refl _ | assumption | apply Kept.drew | apply Kept.alloc)⟩

set_option maxHeartbeats 1000000 in
theorem less_any (a b : Int) (w : World) : Calls Try.prog 8 #[.int .i64 a, .int .i64 b] w fun e w' => e = .returned (.int .i64 (less a b)) ∧ Kept w w' := by
  obtain ⟨a0, a1⟩ := cut_bd a
  obtain ⟨b0, b1⟩ := cut_bd b
  have hb := both_any a b w
  have hs : less a b = if cut a = 4611686018427387904 then 4611686018427387904 else if cut a < cut b then 0 else cut a - cut b := rfl
  generalize cut a = x at *
  generalize cut b = y at *
  generalize less a b = r at *
  have H : Hid (r = if x = 4611686018427387904 then 4611686018427387904 else if x < y then 0 else x - y) := hs
  clear hs
  by_cases h : x = 4611686018427387904
  · subst h
    go_enter Try.func8, Try.ntmps8
    go_wp2_with (go_at_call 7; refine hb.mono ?_; rintro e w1 ⟨rfl, k1⟩)
    go_ret
    exact ⟨ret_int (by rw [H.out]; rfl), by repeat (first | exact Kept.refl _ | assumption | apply Kept.drew | apply Kept.alloc)⟩
  · have hx : (x == 4611686018427387904) = false := by simpa using h
    by_cases h2 : x < y
    all_goals
      go_enter Try.func8, Try.ntmps8
      go_wp2_with (go_at_call 7; refine hb.mono ?_; rintro e w1 ⟨rfl, k1⟩)
      go_ret
      exact ⟨ret_int (by rw [H.out, if_neg h]; first | rw [if_pos (by omega)] | rw [if_neg (by omega)]), by repeat (first | exact Kept.refl _ | assumption | apply Kept.drew | apply Kept.alloc)⟩

set_option maxHeartbeats 1000000 in
theorem times_any (a b : Int) (w : World) : Calls Try.prog 4 #[.int .i64 a, .int .i64 b] w fun e w' => e = .returned (.int .i64 (times a b)) ∧ Kept w w' := by
  obtain ⟨a0, a1⟩ := cut_bd a
  obtain ⟨b0, b1⟩ := cut_bd b
  have hb := both_any a b w
  have hs : times a b = if cut a * cut b ≤ 4611686018427387904 then cut a * cut b else 4611686018427387904 := rfl
  generalize cut a = x at *
  generalize cut b = y at *
  generalize times a b = r at *
  have H : Hid (r = if x * y ≤ 4611686018427387904 then x * y else 4611686018427387904) := hs
  clear hs
  by_cases h : y = 0
  · subst h
    go_enter Try.func4, Try.ntmps4
    go_wp2_with (go_at_call 7; refine hb.mono ?_; rintro e w1 ⟨rfl, k1⟩)
    go_quiet (fail)
    go_wp2
    go_ret
    exact ⟨ret_int (by rw [H.out]; simp), (k1.alloc _ _).drewN _⟩
  · have hp : 0 < y := by omega
    have hc := times_code (x := x) hp
    have HC : Hid ((4611686018427387904 / y < x) ↔ (4611686018427387904 < x * y)) := hc
    clear hc
    have hy : (y != 0) = true := by simpa using h
    by_cases h2 : 4611686018427387904 / y < x
    all_goals
      go_enter Try.func4, Try.ntmps4
      go_wp2_with (go_at_call 7; refine hb.mono ?_; rintro e w1 ⟨rfl, k1⟩)
      go_quiet (fail)
      go_wp2
      go_ret
      have hc := HC.out
      have h0 : 0 ≤ x * y := Int.mul_nonneg a0 b0
      refine ⟨ret_int ?_, (k1.alloc _ _).drewN _⟩
      rw [H.out]
      first
        | rw [if_neg (by omega)]
        | (have h3 : ¬ 4611686018427387904 < x * y := fun g => by have := hc.mpr g; omega
           rw [if_pos (by omega), wrap_in (by omega) (by omega)])

set_option maxHeartbeats 1000000 in
theorem up_any (a b : Int) (w : World) : Calls Try.prog 9 #[.int .i64 a, .int .i64 b] w fun e w' => e = .returned (.int .i64 (up a b)) ∧ Kept w w' := by
  obtain ⟨a0, a1⟩ := cut_bd a
  obtain ⟨b0, b1⟩ := cut_bd b
  have hb := both_any a b w
  have hs : up a b = if cut b = 0 then 0 else if cut a = 4611686018427387904 then 4611686018427387904 else if cut a % cut b = 0 then cut a / cut b else cut a / cut b + 1 := rfl
  generalize cut a = x at *
  generalize cut b = y at *
  generalize up a b = r at *
  have H : Hid (r = if y = 0 then 0 else if x = 4611686018427387904 then 4611686018427387904 else if x % y = 0 then x / y else x / y + 1) := hs
  clear hs
  by_cases h : y = 0
  · subst h
    go_enter Try.func9, Try.ntmps9
    go_wp2_with (go_at_call 7; refine hb.mono ?_; rintro e w1 ⟨rfl, k1⟩)
    go_ret
    exact ⟨ret_int (by rw [H.out]; rfl), k1.alloc _ _⟩
  · have hp : 0 < y := by omega
    have hy : (y == 0) = false := by simpa using h
    by_cases h2 : x = 4611686018427387904
    · subst h2
      go_enter Try.func9, Try.ntmps9
      go_wp2_with (go_at_call 7; refine hb.mono ?_; rintro e w1 ⟨rfl, k1⟩)
      go_ret
      exact ⟨ret_int (by rw [H.out, if_neg h]; rfl), k1.alloc _ _⟩
    · have hx : (x == 4611686018427387904) = false := by simpa using h2
      have hd : x / y ≤ x := Int.ediv_le_self _ a0
      have hn : 0 ≤ x / y := Int.ediv_nonneg a0 b0
      have h3 : (x % y != 0) = true ∨ (x % y != 0) = false := by cases (x % y != 0) <;> simp
      rcases h3 with h3 | h3
      all_goals
        go_enter Try.func9, Try.ntmps9
        go_wp2_with (go_at_call 7; refine hb.mono ?_; rintro e w1 ⟨rfl, k1⟩)
        go_ret
        refine ⟨ret_int ?_, k1.alloc _ _⟩
        rw [H.out, if_neg h, if_neg h2]
        simp at h3
        simp [h3]

set_option maxHeartbeats 1000000 in
theorem awake_any (w : World) : Calls Try.prog 6 #[] w fun e w' => e = .returned (.bool true) ∧ Kept w w' := by
  have e1 : sum 4611686018427387904 5 = 4611686018427387904 := by decide
  have e2 : sum 2 3 = 5 := by decide
  have e3 : less 3 5 = 0 := by decide
  have e4 : times 1099511627776 1099511627776 = 4611686018427387904 := by decide
  have e5 : up 7 2 = 4 := by decide
  go_enter Try.func6, Try.ntmps6
  go_wp2_with (first | (go_at_call 5; refine (sum_any _ _ _).mono ?_; rintro e w1 ⟨rfl, k1⟩) | (go_at_call 8; refine (less_any _ _ _).mono ?_; rintro e w1 ⟨rfl, k1⟩) | (go_at_call 4; refine (times_any _ _ _).mono ?_; rintro e w1 ⟨rfl, k1⟩) | (go_at_call 9; refine (up_any _ _ _).mono ?_; rintro e w1 ⟨rfl, k1⟩))
  go_ret
  exact ⟨rfl, by repeat (first | exact Kept.refl _ | assumption | refine Kept.onto (by assumption) ?_)⟩

end Go.Proofs.Ytpegojbgbmaplab.Tick
