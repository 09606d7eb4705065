/-
  What each call of the document's own answer (chapter 1) gives in the model, for every pair of numbers: the same plain functions.
-/
import Derived.Test.YtedhoghleelhfaaGreatQRkE
namespace Go.Proofs.YtedhoghleelhfaaGreat.Tick
open Go.RowKit
open Plain

theorem rcut_any (a : Int) (w : World) : Calls Tryz.prog 95 #[.int .i64 a] w fun e w' => e = .returned (.int .i64 (cut a)) ∧ w' = w := by
  by_cases h1 : a < 0
  · have e : cut a = 0 := by unfold cut; rw [if_pos h1]
    rw [e]
    go_enter Tryz.func95, Tryz.ntmps95
    go_wp2
    go_ret
    exact ⟨rfl, rfl⟩
  · by_cases h2 : 4611686018427387904 < a
    · have e : cut a = 4611686018427387904 := by unfold cut; rw [if_neg h1, if_pos h2]
      rw [e]
      go_enter Tryz.func95, Tryz.ntmps95
      go_wp2
      go_ret
      exact ⟨rfl, rfl⟩
    · have e : cut a = a := by unfold cut; rw [if_neg h1, if_neg h2]
      rw [e]
      go_enter Tryz.func95, Tryz.ntmps95
      go_wp2
      go_ret
      exact ⟨rfl, rfl⟩

set_option maxRecDepth 100000 in
set_option maxHeartbeats 1000000 in
theorem rless_any (a b : Int) (w : World) : Calls Tryz.prog 79 #[.int .i64 a, .int .i64 b] w fun e w' => e = .returned (.int .i64 (less a b)) ∧ w' = w := by
  obtain ⟨a0, a1⟩ := cut_bd a
  obtain ⟨b0, b1⟩ := cut_bd b
  have ha := rcut_any a w
  have hb := rcut_any b w
  have hs : less a b = if cut a = 4611686018427387904 then 4611686018427387904 else if cut a < cut b then 0 else cut a - cut b := rfl
  generalize cut a = x at *
  generalize cut b = y at *
  generalize less a b = r at *
  have H : Hid (r = if x = 4611686018427387904 then 4611686018427387904 else if x < y then 0 else x - y) := hs
  clear hs
  by_cases h : x = 4611686018427387904
  · subst h
    go_enter Tryz.func79, Tryz.ntmps79
    go_wp2_with (first | (go_at_call 95; refine ha.mono ?_; rintro e w1 ⟨rfl, rfl⟩) | (go_at_call 95; refine hb.mono ?_; rintro e w1 ⟨rfl, rfl⟩))
    go_ret
    exact ⟨ret_int (by rw [H.out]; rfl), rfl⟩
  · have hx : (x == 4611686018427387904) = false := by simpa using h
    by_cases h2 : x < y
    all_goals
      go_enter Tryz.func79, Tryz.ntmps79
      go_wp2_with (first | (go_at_call 95; refine ha.mono ?_; rintro e w1 ⟨rfl, rfl⟩) | (go_at_call 95; refine hb.mono ?_; rintro e w1 ⟨rfl, rfl⟩))
      go_ret
      exact ⟨ret_int (by rw [H.out, if_neg h]; first | rw [if_pos (by omega)] | rw [if_neg (by omega)]), rfl⟩

end Go.Proofs.YtedhoghleelhfaaGreat.Tick
