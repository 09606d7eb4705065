/-
  The chapter's own answer: a number's bytes.
-/
import Derived.Test.YthdgpadakmdlkaaCodecPut3
namespace Go.Proofs.Ythdgpadakmdlkaa.Codec
set_option linter.unusedVariables false
set_option linter.unusedSimpArgs false
open Go Go.RowKit

theorem made_nil {zs : List Int} {w w' : World} {b : Value} (m : Mine w' b zs) (g : Goes (.slice none 0 0) w b w') : Made zs w (.returned b) w' := ⟨b, rfl, m, g.below, g.new⟩
set_option maxRecDepth 100000 in
set_option maxHeartbeats 1000000 in
theorem refNumber_any (v : Int) (w : World) (hv : I64 v) : Calls Try.prog 71 #[.int .i64 v] w (Made (num v) w) := by
  have hv' := hv
  obtain ⟨h0, h1⟩ := hv'
  have hu := fold_lt v hv
  have H : Hid (grp 9 (fold v) = num v) := rfl
  have HL : Hid ((num v).length ≤ 10) := num_len v
  have HN : Hid (v < 0 → -(v + 1) * 2 + 1 = (fold v : Nat)) := by intro hn; unfold fold; rw [if_pos hn]; omega
  have HP : Hid (¬ v < 0 → v * 2 = (fold v : Nat)) := by intro hn; unfold fold; rw [if_neg hn]; omega
  generalize fold v = u0 at *
  generalize num v = R at *
  have rest : True := trivial
  by_cases hneg : v < 0
  all_goals
    go_enter Try.func71, Try.ntmps71
    go_wp2
    go_loopw [3, 4] (fun u' b' wr => ∃ (ys : List Int) (f u : Nat), u' = .int .u64 (u : Nat) ∧ Mine wr b' ys ∧ Goes (.slice none 0 0) w b' wr ∧ Hid (ys ++ grp f u = R ∧ u < 2 * 128 ^ f) ∧ u < 18446744073709551616) (fun u' _ _ => (intOf u').toNat)
    case atStart =>
      refine ⟨[], 9, u0, ?_, Mine.nil _, Goes.refl _ _, ⟨H.out, by rw [two_pow]; exact hu⟩, hu⟩
      first | rw [HN.out (by omega)] | rw [HP.out (by omega)]
    case round =>
      obtain ⟨ys, f, u, rfl, hm', hb, HR, hu'⟩ := hrel
      have hlen : ys.length + 1 ≤ 140737488355328 := by
        have e := HL.out
        rw [← HR.out.1, List.length_append] at e
        have := grp_pos f u
        omega
      by_cases h : u < 128
      · have r1 := row_one wr (u : Int) 5 (0, 0) (by omega) (by omega)
        have HE : Hid (ys ++ [(u : Int)] = R) := by
          have e := HR.out.1
          rw [← e]
          cases f with
          | zero => rfl
          | succ f => unfold grp; rw [if_pos h]; rfl
        go_wp2_with (at_builtin; refine wpList_append_mine rfl (.tmp 27) (.tmp 30) rfl _ ys rfl (hm'.alloc _) _ 1 1 [(u : Int)] rfl r1 (fun h => by cases h) (by omega) ?_; intro v1 w1 m1 b1)
        go_ret
        rw [HE.out] at m1
        exact made_nil m1 ((hb.trans (goes_alloc _ _ _)).trans b1)
      · obtain ⟨f', rfl⟩ : ∃ f', f = f' + 1 := by
          cases f with
          | zero => have := HR.out.2; simp at this; omega
          | succ f => exact ⟨f, rfl⟩
        have r1 := row_one wr ((u : Int) % 128 + 128) 5 (0, 0) (by omega) (by omega)
        have HO : Hid ((u : Int) % 128 + 128 = ((u % 128 + 128 : Nat) : Int)) := by
          have e : (u : Int) % 128 + 128 = ((u % 128 + 128 : Nat) : Int) := by simp
          exact e
        have HE : Hid ((ys ++ [((u % 128 + 128 : Nat) : Int)]) ++ grp f' (u / 128) = R ∧ u / 128 < 2 * 128 ^ f') := by
          obtain ⟨e, e2⟩ := HR.out
          refine ⟨?_, by rw [Nat.pow_succ] at e2; omega⟩
          rw [← e]
          conv => rhs; unfold grp
          rw [if_neg h]; simp
        generalize ((u % 128 + 128 : Nat) : Int) = x at *
        go_wp2_with (at_builtin; refine wpList_append_mine rfl (.tmp 18) (.tmp 23) rfl _ ys rfl (hm'.alloc _) _ 1 1 _ rfl r1 (fun h => by cases h) (by omega) ?_; intro v1 w1 m1 b1)
        rw [HO.out] at m1
        go_roundw
        case rel => exact ⟨_, f', u / 128, by go_num, m1, (hb.trans (goes_alloc _ _ _)).trans b1, HE, by omega⟩
        case measure => simp [intOf]; omega
end Go.Proofs.Ythdgpadakmdlkaa.Codec
