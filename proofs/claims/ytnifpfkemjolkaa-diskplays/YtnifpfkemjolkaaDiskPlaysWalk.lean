/-
  The law: any calls at both disks.
-/
import Derived.Test.YtnifpfkemjolkaaDiskDo5
import Derived.Test.YtnifpfkemjolkaaDiskSame
namespace Go.Proofs.Ytnifpfkemjolkaa.Disk
set_option linter.unusedVariables false
set_option linter.unusedSimpArgs false
open Go Go.RowKit
attribute [local go_sem ↓] Go.wp_at_zero Go.wp_at_succ

def sigma0 : St := fun _ => ([], [])
theorem new_step (w : World) : Calls Try.prog 5 #[] w fun e w' => ∃ D, e = .returned (.pointer (some ⟨D, 0, none⟩)) ∧ NewD w w' D sigma0 ∧ Below w.heap.size w w' := by
  refine (new_any w).mono ?_
  rintro e w' ⟨rfl, rfl⟩
  refine ⟨_, rfl, ⟨_, ⟨_, new_in w, fun i _ => ⟨rfl, rfl⟩⟩, fun k hk => ?_⟩, (Below.refl _ _).alloc (Nat.le_refl _) _⟩
  by_cases h : k = w.heap.size
  · omega
  · exact absurd (if_neg h) hk
theorem rnew_step (w : World) : Calls Try.prog 6 #[] w fun e w' => ∃ D, e = .returned (.pointer (some ⟨D, 0, none⟩)) ∧ NewR w w' D sigma0 ∧ Below w.heap.size w w' := by
  refine (rnew_any w).mono ?_
  rintro e w' ⟨rfl, rfl⟩
  refine ⟨_, rfl, ⟨_, ⟨_, rnew_in w, fun i _ => ⟨rfl, rfl⟩⟩, fun k hk => ?_⟩, (Below.refl _ _).alloc (Nat.le_refl _) _⟩
  by_cases h : k = w.heap.size
  · omega
  · exact absurd (if_neg h) hk

set_option maxRecDepth 100000 in
set_option maxHeartbeats 4000000 in
theorem plays_all (sa : Option Addr) (sl scap : Nat) (os : Nat → Op1) (w : World) (ho : Ops w sa sl os) (hsl : sl ≤ 9223372036854775807) :
    Calls Try.prog 3 #[.slice sa sl scap] w fun e w' => e = .returned (.bool true) ∧ Below w.heap.size w w' := by
  have cA := awake_any w
  go_enter Try.func3, Try.ntmps3
  go_wp2_with (first
    | (go_at_call 6; refine (rnew_step w2).mono ?_; rintro e w3 ⟨E, rfl, hr3, hb3⟩)
    | (go_at_call 5; refine (new_step wA).mono ?_; rintro e w2 ⟨D, rfl, hd2, hb2⟩)
    | (go_at_call 4; refine cA.mono ?_; rintro e wA ⟨rfl, bA⟩))
  have h0 : Both w w3 (fun _ => False) D E sigma0 sigma0 (2 * 0) := both_of (bA.trans (hb2.mono bA.size)) (hd2.rebase bA.size) hr3 hb3
  clear cA hr3 hd2 hb3 hb2 bA
  go_loopw [3, 4, 5] (fun d r i wr => ∃ (k D E : Nat) (σ : St), k ≤ sl ∧ k ≤ 60 ∧ d = .pointer (some ⟨D, 0, none⟩) ∧ r = .pointer (some ⟨E, 0, none⟩) ∧ i = .int .i64 k ∧ Both w wr (fun _ => False) D E σ σ (2 * k)) (fun _ _ i _ => 60 - (intOf i).toNat)
  case atStart => exact ⟨0, D, E, sigma0, Nat.zero_le _, Nat.zero_le _, rfl, rfl, rfl, h0⟩
  case round =>
    clear h0
    obtain ⟨k, D', E', σ, hk1, hk2, rfl, rfl, rfl, hB⟩ := hrel
    by_cases hlt : k < sl ∧ k < 60
    · obtain ⟨x, rfl, hop⟩ := ho k hlt.1
      have hop' := hop.after hB.below
      obtain ⟨c0, c1, c2, c3, c4⟩ := hop'.fields
      have row := hop.row
      have nil := hop.nil
      have le := hop.le
      have fn := hop.fn
      have fm := hop.fm
      clear hop hop'
      generalize os k = o at *
      obtain ⟨kind, file, n, q, ba, bl, bcap, bs⟩ := o
      simp only at c0 c1 c2 c3 c4 row nil le fn fm
      have t1 : (k : Int) < (sl : Int) := by omega
      have t2 : (k : Int) < 60 := by omega
      have t0 : (0 : Int) ≤ (k : Int) := by omega
      have hbw := hB.below
      by_cases hbig : 2000 < bl
      · have t3 : (2000 : Int) < (bl : Int) := by omega
        clear hB
        go_wp2
        go_ret
        exact ⟨rfl, hbw⟩
      · have t3 : (bl : Int) ≤ 2000 := by omega
        have hx : 0 < bl → ∀ y, ba = some y → y.block < w.heap.size := fun h y hy => by
          obtain ⟨y', hy', hc⟩ := row.cell 0 h
          rw [hy] at hy'
          cases hy'
          have := World.block_lt_of_cell? w _ hc
          rwa [block_add] at this
        have cD := do_any hB (by omega) kind file n q ba bl bcap bs row hx nil (by omega) fn.2 fm.2
        clear hB
        go_wp2_with (first
          | (go_at_call 8; refine (same_any hB4 (by omega)).mono ?_; rintro e w5 ⟨rfl, hb5⟩)
          | (go_at_call 7; refine cD.mono ?_; rintro e w4 ⟨D2, E2, σ2, rfl, hB4⟩))
        go_roundw
        case rel => exact ⟨k + 1, D2, E2, σ2, by omega, by omega, rfl, rfl, by go_num, hB4.later hb5⟩
        case measure => simp [intOf]; omega
    · have hbw := hB.below
      have hcase : (k : Int) < (sl : Int) ∧ ¬ (k : Int) < 60 ∨ ¬ (k : Int) < (sl : Int) := by omega
      clear hB
      rcases hcase with ⟨q1, q2⟩ | q1
      all_goals
        go_wp2
        go_ret
        exact ⟨rfl, hbw⟩

end Go.Proofs.Ytnifpfkemjolkaa.Disk
