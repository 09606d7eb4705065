/-
  Open cells, stack cells; what takes a cell.
-/
import Derived.Test.YtnaojlngdfolaaaGridNumber
namespace Go.Proofs.Ytnaojlngdfolaaa.Grid
set_option linter.unusedVariables false
set_option linter.unusedSimpArgs false
open Go Go.RowKit

theorem grow_of_below {w w' : World} {r : Option Nat} (h : Below w.heap.size w w') : w.grownBy w' r := ⟨h.os, h.tape, h.output, h.size, fun k hk _ => h.block k hk⟩
theorem grow_set {w w' : World} {u : Nat} (h : w.grownBy w' (some u)) (k : Nat) (v : Value) : w.grownBy (w'.setCell ⟨u, k, none⟩ v) (some u) := by
  refine ⟨h.os, h.tape, h.output, ?_, fun j hj hne => ?_⟩
  · have := h.size; simp; exact this
  · rw [heap_setCell_other _ _ _ _ (fun e => hne (by rw [e]))]; exact h.block j hj hne
theorem num_in {W H : Int} {c : Cell} (h : In W H c) {n : Nat} (hn : (n : Int) = W * H) : ∃ k : Nat, number W H c = k ∧ (c.2 * W + c.1).toNat = k ∧ k < n := by
  have hb := num_lt h
  exact ⟨(c.2 * W + c.1).toNat, by unfold number; rw [if_pos h]; omega, rfl, by omega⟩
theorem num_out {W H : Int} {c : Cell} (h : ¬ In W H c) : number W H c = -1 := by unfold number; rw [if_neg h]

theorem ne_dec (z k : Int) : (z != k) = decide (z ≠ k) := by
  by_cases h : z = k
  · subst h; simp
  · simp [h]
theorem eq_dec (z k : Int) : (z == k) = decide (z = k) := by
  by_cases h : z = k
  · subst h; simp
  · simp [h]
section
variable (g u : Nat) (W H : Int) (us : List Int) (vp : Value) (x y : Int) (w : World) (hG : GridAt w g u W H us vp)
include hG
set_option maxHeartbeats 2000000 in
theorem open_any : Calls Try.prog 91 #[.pointer (some ⟨g, 0, none⟩), .agg #[.int .i64 x, .int .i64 y]] w fun e w' => e = .returned (.bool (openU W H us (x, y))) ∧ Below w.heap.size w w' := by
  have hA := fun o => number_any g u W H us vp x y (w.alloc o) (hG.alloc o)
  by_cases hin : In W H (x, y)
  · obtain ⟨k, hk, hk2, hlt⟩ := num_in hin hG.len
    have e : openU W H us (x, y) = decide (us.getD k 0 ≠ 1) := by unfold openU; rw [hk2]; simp [hin]
    rw [e]
    rw [hk] at hA
    obtain ⟨z, hz⟩ : ∃ z, us.getD k 0 = z := ⟨_, rfl⟩
    have hb := hG.bd k
    have c2 := fun (w1 : World) o (b : Below (w.alloc o).heap.size (w.alloc o) w1) => ((hG.alloc o).go b).c2
    have ck := fun (w1 : World) o (b : Below (w.alloc o).heap.size (w.alloc o) w1) => ((hG.alloc o).go b).at_ k hlt
    rw [hz] at *
    clear hk hk2 hin e hG
    go_enter Try.func91, Try.ntmps91
    go_wp2_with (first
      | (go_at_call 31; refine (hA _).mono ?_; rintro e w1 ⟨rfl, b1⟩; have d2 := c2 _ _ b1; have dk := ck _ _ b1; have B1 := bcat (below_new (Below.refl w.heap.size w) _) b1 (Nat.le_refl _)))
    go_ret
    exact ⟨ret_bool (ne_dec _ _), B1⟩
  · have e : openU W H us (x, y) = false := by unfold openU; simp [hin]
    rw [e]
    rw [num_out hin] at hA
    clear hG hin e
    go_enter Try.func91, Try.ntmps91
    go_wp2_with (first
      | (go_at_call 31; refine (hA _).mono ?_; rintro e w1 ⟨rfl, b1⟩; have B1 := bcat (below_new (Below.refl w.heap.size w) _) b1 (Nat.le_refl _)))
    go_ret
    exact ⟨rfl, B1⟩
set_option maxHeartbeats 2000000 in
theorem stacked_any : Calls Try.prog 126 #[.pointer (some ⟨g, 0, none⟩), .agg #[.int .i64 x, .int .i64 y]] w fun e w' => e = .returned (.bool (stackedU W H us (x, y))) ∧ Below w.heap.size w w' := by
  have hA := fun o => number_any g u W H us vp x y (w.alloc o) (hG.alloc o)
  by_cases hin : In W H (x, y)
  · obtain ⟨k, hk, hk2, hlt⟩ := num_in hin hG.len
    have e : stackedU W H us (x, y) = decide (us.getD k 0 = 4) := by unfold stackedU; rw [hk2]; simp [hin]
    rw [e]
    rw [hk] at hA
    obtain ⟨z, hz⟩ : ∃ z, us.getD k 0 = z := ⟨_, rfl⟩
    have hb := hG.bd k
    have c2 := fun (w1 : World) o (b : Below (w.alloc o).heap.size (w.alloc o) w1) => ((hG.alloc o).go b).c2
    have ck := fun (w1 : World) o (b : Below (w.alloc o).heap.size (w.alloc o) w1) => ((hG.alloc o).go b).at_ k hlt
    rw [hz] at *
    clear hk hk2 hin e hG
    go_enter Try.func126, Try.ntmps126
    go_wp2_with (first
      | (go_at_call 31; refine (hA _).mono ?_; rintro e w1 ⟨rfl, b1⟩; have d2 := c2 _ _ b1; have dk := ck _ _ b1; have B1 := bcat (below_new (Below.refl w.heap.size w) _) b1 (Nat.le_refl _)))
    go_ret
    exact ⟨ret_bool (eq_dec _ _), B1⟩
  · have e : stackedU W H us (x, y) = false := by unfold stackedU; simp [hin]
    rw [e]
    rw [num_out hin] at hA
    clear hG hin e
    go_enter Try.func126, Try.ntmps126
    go_wp2_with (first
      | (go_at_call 31; refine (hA _).mono ?_; rintro e w1 ⟨rfl, b1⟩; have B1 := bcat (below_new (Below.refl w.heap.size w) _) b1 (Nat.le_refl _)))
    go_ret
    exact ⟨rfl, B1⟩
/- What takes a cell. -/
set_option maxHeartbeats 2000000 in
theorem take_any (q : Int) (hq : 0 ≤ q ∧ q < 256) : Calls Try.prog 122 #[.pointer (some ⟨g, 0, none⟩), .agg #[.int .i64 x, .int .i64 y], .int .u8 q] w fun e w' => w.grownBy w' (some u) ∧
    ((∃ us', take W H us (x, y) q = some us' ∧ e = .returned (.bool true) ∧ GridAt w' g u W H us' vp) ∨ (take W H us (x, y) q = none ∧ e = .returned (.bool false) ∧ GridAt w' g u W H us vp)) := by
  have hA := fun o => number_any g u W H us vp x y (w.alloc o) (hG.alloc o)
  by_cases hin : In W H (x, y)
  · obtain ⟨k, hk, hk2, hlt⟩ := num_in hin hG.len
    rw [hk] at hA
    obtain ⟨z, hz⟩ : ∃ z, us.getD k 0 = z := ⟨_, rfl⟩
    have hb := hG.bd k
    have gG := fun (w1 : World) o (b : Below (w.alloc o).heap.size (w.alloc o) w1) => (hG.alloc o).go b
    have fr := fun (w1 : World) o (b : Below (w.alloc o).heap.size (w.alloc o) w1) => frozen_of ((hG.alloc o).go b).row k
    by_cases h0 : z = 0
    · have e : Hid (take W H us (x, y) q = some (us.set k q)) := by unfold Hid take; rw [hk2, if_pos ⟨hin, hz.trans h0⟩]
      subst h0
      have ck := fun (w1 : World) o (b : Below (w.alloc o).heap.size (w.alloc o) w1) => ((hG.alloc o).go b).at_ k hlt
      rw [hz] at ck
      clear hG hin hk hk2 hb hz
      go_enter Try.func122, Try.ntmps122
      go_wp2_with (first
        | (go_at_call 31; refine (hA _).mono ?_; rintro e' w1 ⟨rfl, b1⟩; have G1 := gG _ _ b1; have d2 := G1.c2; have dk := ck _ _ b1; have fk := fr _ _ b1; have B1 := bcat (below_new (Below.refl w.heap.size w) _) b1 (Nat.le_refl _)))
      go_ret
      exact ⟨grow_set (grow_of_below B1) _ _, Or.inl ⟨_, e.out, rfl, G1.set k q hq⟩⟩
    · have e : Hid (take W H us (x, y) q = none) := by unfold Hid take; rw [hk2, if_neg (fun h => h0 (hz.symm.trans h.2))]
      have ck := fun (w1 : World) o (b : Below (w.alloc o).heap.size (w.alloc o) w1) => ((hG.alloc o).go b).at_ k hlt
      rw [hz] at ck
      have hz0 : (z != 0) = true := by simpa using h0
      clear hG hin hk hk2 hb hz h0
      go_enter Try.func122, Try.ntmps122
      go_wp2_with (first
        | (go_at_call 31; refine (hA _).mono ?_; rintro e' w1 ⟨rfl, b1⟩; have G1 := gG _ _ b1; have d2 := G1.c2; have dk := ck _ _ b1; have fk := fr _ _ b1; have B1 := bcat (below_new (Below.refl w.heap.size w) _) b1 (Nat.le_refl _)))
      go_ret
      exact ⟨grow_of_below B1, Or.inr ⟨e.out, rfl, G1⟩⟩
  · have e : Hid (take W H us (x, y) q = none) := by unfold Hid take; rw [if_neg (fun h => hin h.1)]
    rw [num_out hin] at hA
    have gG := fun (w1 : World) o (b : Below (w.alloc o).heap.size (w.alloc o) w1) => (hG.alloc o).go b
    clear hG hin
    go_enter Try.func122, Try.ntmps122
    go_wp2_with (first
      | (go_at_call 31; refine (hA _).mono ?_; rintro e' w1 ⟨rfl, b1⟩; have G1 := gG _ _ b1; have B1 := bcat (below_new (Below.refl w.heap.size w) _) b1 (Nat.le_refl _)))
    go_ret
    exact ⟨grow_of_below B1, Or.inr ⟨e.out, rfl, G1⟩⟩
set_option maxHeartbeats 2000000 in
theorem served_any : Calls Try.prog 123 #[.pointer (some ⟨g, 0, none⟩), .agg #[.int .i64 x, .int .i64 y]] w fun e w' => e = .returned (.bool (servedU W H us (x, y))) ∧ Below w.heap.size w w' := by
  have e : Hid (servedU W H us (x, y) = (openU W H us (w64 (x + 1), y) || openU W H us (x, w64 (y + 1)))) := rfl
  have oA := fun (w1 : World) (b : Below w.heap.size w w1) => open_any g u W H us vp (w64 (x + 1)) y w1 (hG.go b)
  have oB := fun (w1 : World) (b : Below w.heap.size w w1) => open_any g u W H us vp x (w64 (y + 1)) w1 (hG.go b)
  generalize openU W H us (w64 (x + 1), y) = p at *
  generalize openU W H us (x, w64 (y + 1)) = r at *
  generalize servedU W H us (x, y) = s at *
  clear hG
  cases p
  all_goals
    go_enter Try.func123, Try.ntmps123
    go_wp2_with (first
      | (go_at_call 143; refine (east_any x y _).mono ?_; rintro e' w1 ⟨rfl, b1⟩; have B1 := bcat (below_new (Below.refl w.heap.size w) _) b1 (Nat.le_refl _))
      | (have X' := B2; go_at_call 144; refine (south_any x y _).mono ?_; rintro e' w3 ⟨rfl, b3⟩; have B3 := bcat B2 b3 (Nat.le_refl _))
      | (have X' := B3; go_at_call 91; refine (oB _ B3).mono ?_; rintro e' w4 ⟨rfl, b4⟩; have B4 := bcat B3 b4 (Nat.le_refl _))
      | (go_at_call 91; refine (oA _ B1).mono ?_; rintro e' w2 ⟨rfl, b2⟩; have B2 := bcat B1 b2 (Nat.le_refl _); have k0 := (b1.trans (b2.mono b1.size)).cell (p := ⟨w.heap.size, 0, none⟩) (by simp); have k1 := (b1.trans (b2.mono b1.size)).cell (p := ⟨w.heap.size, 1, none⟩) (by simp); rw [cell_of (heap_alloc_new w _)] at k0 k1))
    go_ret
    first
      | exact ⟨ret_bool (by rw [e.out]; simp), B4⟩
      | exact ⟨ret_bool (by rw [e.out]; simp), B2⟩
end
end Go.Proofs.Ytnaojlngdfolaaa.Grid
