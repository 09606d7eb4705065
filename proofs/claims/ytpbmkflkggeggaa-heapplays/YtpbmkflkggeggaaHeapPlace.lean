/-
  A number within bounds; rows of things that are cut.
-/
import Derived.Test.YtpbmkflkggeggaaHeapSame
import Derived.Test.YtpbmkflkggeggaaHeapFill
namespace Go.Proofs.Ytpbmkflkggeggaa.Hp
set_option linter.unusedVariables false
set_option linter.unusedSimpArgs false
open Go Go.RowKit Go.Shelf Go.Proofs
attribute [local go_sem] Oper.semAt_some

def place (v n : Int) : Int := if v.tmod n < 0 then v.tmod n + n else v.tmod n
theorem tmod_low (v n : Int) (h : 0 < n) : -n < v.tmod n := by
  by_cases g : 0 ≤ v
  · have := Int.tmod_nonneg n g
    omega
  · have h1 := Int.tmod_lt_of_pos (-v) h
    rw [Int.neg_tmod] at h1
    omega
theorem place_bd (v n : Int) (h : 0 < n) : 0 ≤ place v n ∧ place v n < n := by
  have h2 := Int.tmod_lt_of_pos v h
  have h3 := tmod_low v n h
  unfold place
  split <;> omega
set_option maxHeartbeats 1000000 in
theorem place_any (v n : Int) (w : World) (h0 : 0 < n) (h1 : n ≤ 9223372036854775807) : Calls Try.prog 13 #[.int .i64 v, .int .i64 n] w fun e w' => e = .returned (.int .i64 (place v n)) ∧ w' = w := by
  have h2 := Int.tmod_lt_of_pos v h0
  have h3 := tmod_low v n h0
  have H : Hid (place v n = if v.tmod n < 0 then v.tmod n + n else v.tmod n) := rfl
  generalize place v n = r at *
  by_cases hc : v.tmod n < 0
  all_goals
    go_enter Try.func13, Try.ntmps13
    go_wp2
    go_ret
    exact ⟨ret_int (by rw [H.out]; first | rw [if_pos (by omega)] | rw [if_neg (by omega)]), rfl⟩
theorem rowV_take (l : List (Int × Int)) : ∀ (m : Nat), (rowL vL l).take (m * 2) = rowL vL (l.take m) := by
  induction l with
  | nil => intro m; simp [rowL]
  | cons y l ih =>
    intro m
    cases m with
    | zero => simp [rowL]
    | succ m =>
      have e1 : rowL vL (y :: l) = .int .i64 y.1 :: .int .i64 y.2 :: rowL vL l := rfl
      have e2 : rowL vL ((y :: l).take (m + 1)) = .int .i64 y.1 :: .int .i64 y.2 :: rowL vL (l.take m) := rfl
      rw [e1, e2, ← ih, show (m + 1) * 2 = m * 2 + 2 by omega]
      rfl
theorem cutV {B : Nat} {w : World} {g n cap m : Nat} {l : List (Int × Int)} (hl : l.length = n) (hm : m ≤ n) (hr : w.ownsRow B 27 2 (.slice (some ⟨g, 0, none⟩) n cap) n (rowL vL l)) :
    w.ownsRow B 27 2 (.slice (some ⟨g, 0, none⟩) m cap) m (rowL vL (l.take m)) := by
  refine ⟨by rw [rowL_len vL_len, List.length_take]; omega, Or.inr ?_⟩
  rcases hr.2 with ⟨q, _⟩ | ⟨g', cap', cur, e, hb, hg, hnc, hcm, hcs, htake⟩
  · cases q
  · cases e
    refine ⟨g, cap, cur, rfl, hb, hg, by omega, hcm, hcs, ?_⟩
    rw [← rowV_take, ← htake, List.take_take, Nat.min_eq_left (by omega)]
end Go.Proofs.Ytpbmkflkggeggaa.Hp
