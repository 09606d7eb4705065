/-
  New, and the statements' own calls: Place, few, May, made, SameInts.
  The chapter's example: what the statements call 'awake' answers true.
  What follows: facts on stops, times and places, in the terms of what the calls answer.
  The chapter's own Brake; which numbers may be; how far a robot goes until it can stand.
-/
import Derived.Test.YtedhoghleelhfaaGreatQRkB
namespace Go.Proofs.YtedhoghleelhfaaGreat.Kin
set_option linter.unusedVariables false
set_option linter.unusedSimpArgs false
open Go Go.RowKit Go.Shelf Go.Proofs
attribute [local go_sem] Oper.semAt_some

def kinCells (u a v : Int) : Array Value := #[.int .i64 u, .int .i64 a, .int .i64 v, .int .u32 0, .int .i32 0, .int .u32 0, .slice none 0 0, .int .u32 0, .int .i32 0, .int .u32 0, .slice none 0 0, .int .u32 0, .int .i32 0, .int .u32 0, .slice none 0 0, .int .u32 0, .int .i32 0, .int .u32 0, .slice none 0 0, .int .u32 0, .int .i32 0, .int .u32 0, .slice none 0 0, .int .u32 0, .int .i32 0, .int .u32 0, .slice none 0 0, .int .u32 0, .int .i32 0, .int .u32 0, .slice none 0 0, .int .u32 0, .int .i32 0, .int .u32 0, .slice none 0 0, .int .u32 0, .int .i32 0, .int .u32 0, .slice none 0 0, .int .u32 0, .int .i32 0, .int .u32 0, .slice none 0 0, .int .u32 0, .int .i32 0, .int .u32 0, .slice none 0 0, .int .u32 0, .int .i32 0, .int .u32 0, .slice none 0 0, .int .u32 0, .int .i32 0, .int .u32 0, .slice none 0 0, .int .u32 0, .int .i32 0, .int .u32 0, .slice none 0 0, .int .u32 0, .int .i32 0, .int .u32 0, .slice none 0 0, .int .u32 0, .int .i32 0, .int .u32 0, .slice none 0 0]
theorem prof_cells (u a v : Int) : ∀ n, 1 ≤ n → n ≤ 16 → (kinCells u a v)[3 + (n - 1) * 4]? = some (.int .u32 0) ∧ (kinCells u a v)[3 + (n - 1) * 4 + 1]? = some (.int .i32 0) ∧ (kinCells u a v)[3 + (n - 1) * 4 + 3]? = some (.slice none 0 0) := by
  intro n h1 h2
  obtain rfl | rfl | rfl | rfl | rfl | rfl | rfl | rfl | rfl | rfl | rfl | rfl | rfl | rfl | rfl | rfl : n = 1 ∨ n = 2 ∨ n = 3 ∨ n = 4 ∨ n = 5 ∨ n = 6 ∨ n = 7 ∨ n = 8 ∨ n = 9 ∨ n = 10 ∨ n = 11 ∨ n = 12 ∨ n = 13 ∨ n = 14 ∨ n = 15 ∨ n = 16 := by omega
  all_goals exact ⟨rfl, rfl, rfl⟩
theorem cell_of {w : World} {g : Nat} {cs : Array Value} {t : TypeId} {r : Nat × Nat} (h : w.heap[g]? = some (.cells cs t r)) (o : Nat) : w.cell? ⟨g, o, none⟩ = cs[o]? := by simp [World.cell?, h]
theorem frozen_of {w : World} {g : Nat} {cs : Array Value} {t : TypeId} (h : w.heap[g]? = some (.cells cs t (0, 0))) (o : Nat) : w.frozen? ⟨g, o, none⟩ = false := by simp [World.frozen?, h]
theorem heap_new2 (w : World) (o : Obj) (cs : Array Value) (t : TypeId) : ((w.alloc o).alloc (.cells cs t)).heap[w.heap.size + 1]? = some (.cells cs t (0, 0)) := by
  have := World.alloc_heap_new (w.alloc o) (.cells cs t)
  rwa [World.size_alloc] at this
theorem kin_made {w : World} {g u a v : Nat} (h : w.heap[g]? = some (.cells (kinCells u a v) 109 (0, 0))) : KinAt w g u a v := by
  refine ⟨⟨cell_of h 0, cell_of h 1, cell_of h 2⟩, frozen_of h, fun n h1 h2 => ?_⟩
  obtain ⟨q0, q1, q3⟩ := prof_cells u a v n h1 h2
  exact ⟨(cell_of h _).trans q1, Or.inl ⟨(cell_of h _).trans q0, (cell_of h _).trans q3⟩⟩
set_option maxRecDepth 100000 in
set_option maxHeartbeats 4000000 in
theorem new_yes (u a v : Nat) (ok : Ok u a v) (w : World) : Calls Tryz.prog 15 #[.int .i64 u, .int .i64 a, .int .i64 v] w fun e w' => ∃ g, e = .returned (.tuple #[.pointer (some ⟨g, 0, none⟩), .int .i64 0]) ∧ w.heap.size ≤ g ∧ KinAt w' g u a v ∧ Below w.heap.size w w' := by
  obtain ⟨u1, u2, a1, a2, v1, v2⟩ := ok
  have bb : Below w.heap.size w ((w.alloc (.cells #[.int .i64 u, .int .i64 a, .int .i64 v] 3)).alloc (.cells (kinCells u a v) 109)) := ((Below.refl _ _).alloc (Nat.le_refl _) _).alloc (by simp) _
  have kk := kin_made (heap_new2 w (.cells #[.int .i64 u, .int .i64 a, .int .i64 v] 3) (kinCells u a v) 109)
  have KK : Hid (KinAt ((w.alloc (.cells #[.int .i64 u, .int .i64 a, .int .i64 v] 3)).alloc (.cells (kinCells u a v) 109)) (w.heap.size + 1) u a v) := kk
  clear kk
  go_enter Tryz.func15, Tryz.ntmps15
  go_wp2
  refine wp_loop_rounds 4 ?_
  rw [rounds_succ]
  go_wp2
  rw [rounds_succ]
  go_wp2
  rw [rounds_succ]
  go_wp2
  rw [rounds_succ]
  go_wp2
  go_ret2
  exact ⟨w.heap.size + 1, rfl, by omega, KK.out, bb⟩
set_option maxHeartbeats 2000000 in
theorem may_yes (u a v : Nat) (ok : Ok u a v) (w : World) : Calls Tryz.prog 100 #[.agg #[.int .i64 u, .int .i64 a, .int .i64 v]] w fun e w' => e = .returned (.bool true) ∧ Below w.heap.size w w' := by
  obtain ⟨u1, u2, a1, a2, v1, v2⟩ := ok
  have q1 : (1 : Int) ≤ u := by omega
  have q2 : (u : Int) ≤ 1000 := by omega
  have q3 : (1 : Int) ≤ a := by omega
  have q4 : (a : Int) ≤ 1000 := by omega
  have q5 : (1 : Int) ≤ v := by omega
  have q6 : (v : Int) ≤ 1000 := by omega
  go_enter Tryz.func100, Tryz.ntmps100
  go_wp2
  go_ret
  exact ⟨rfl, (Below.refl _ _).alloc (Nat.le_refl _) _⟩
def place (v n : Int) : Int := if v.tmod n < 0 then v.tmod n + n else v.tmod n
theorem tmod_low (v n : Int) (h : 0 < n) : -n < v.tmod n := by
  by_cases g : 0 ≤ v
  · have := Int.tmod_nonneg n g
    omega
  · have h1 := Int.tmod_lt_of_pos (-v) h
    rw [Int.neg_tmod] at h1
    omega
theorem place_bd (v n : Int) (h : 0 < n) : 0 ≤ place v n ∧ place v n < n := by
  have h2 := Int.tmod_lt_of_pos v h
  have h3 := tmod_low v n h
  unfold place
  split <;> omega
set_option maxHeartbeats 1000000 in
theorem place_any (v n : Int) (w : World) (h0 : 0 < n) (h1 : n ≤ 9223372036854775807) : Calls Tryz.prog 34 #[.int .i64 v, .int .i64 n] w fun e w' => e = .returned (.int .i64 (place v n)) ∧ w' = w := by
  have h2 := Int.tmod_lt_of_pos v h0
  have h3 := tmod_low v n h0
  have H : Hid (place v n = if v.tmod n < 0 then v.tmod n + n else v.tmod n) := rfl
  generalize place v n = r at *
  by_cases hc : v.tmod n < 0
  all_goals
    go_enter Tryz.func34, Tryz.ntmps34
    go_wp2
    go_ret
    exact ⟨ret_int (by rw [H.out]; first | rw [if_pos (by omega)] | rw [if_neg (by omega)]), rfl⟩
/- Numbers that are not too great. -/
def few (v n : Int) : Nat := (1 + place v n).toNat
end Go.Proofs.YtedhoghleelhfaaGreat.Kin
namespace Go.Proofs.YtedhoghleelhfaaGreat.Kin
set_option linter.unusedVariables false
set_option linter.unusedSimpArgs false
open Go Go.RowKit Go.Shelf Go.Proofs
attribute [local go_sem] Oper.semAt_some

theorem b2 : brk 2 2 = 0 := brk_small (by omega)
theorem b3 : brk 2 3 = 1 := by rw [brk_big (by omega) (by omega), show 3 - 2 = 1 from rfl, brk_small (by omega)]
theorem b4 : brk 2 4 = 2 := by rw [brk_big (by omega) (by omega), show 4 - 2 = 2 from rfl, b2]
end Go.Proofs.YtedhoghleelhfaaGreat.Kin
namespace Go.Proofs.YtedhoghleelhfaaGreat.Kin
set_option linter.unusedVariables false
set_option linter.unusedSimpArgs false
open Go Go.RowKit Go.Shelf Go.Proofs

theorem timeI {u a v n : Nat} (h1 : 1 ≤ n) (h2 : n ≤ 16) : (profI u a v n).length = (spd u a v n).length := by rw [profI_in h1 h2, prof_len]
/- A stopped run. -/
structure Stands (u a v n t C M : Nat) : Prop where
  c1 : 1 ≤ C
  cn : C ≤ n
  far : pos u a v n t + brk a (vel u a v n t) ≤ C * u
  near : C * u < pos u a v n t + brk a (vel u a v n t) + u
  fast : C * u - pos u a v n t ≤ M * vel u a v n t
  none : M = 0 ↔ C * u = pos u a v n t
end Go.Proofs.YtedhoghleelhfaaGreat.Kin
namespace Go.Proofs.YtedhoghleelhfaaGreat.Kin
set_option linter.unusedVariables false
set_option linter.unusedSimpArgs false
open Go Go.RowKit Go.Shelf Go.Proofs
attribute [local go_sem] Oper.semAt_some

set_option maxHeartbeats 2000000 in
/- The chapter's brake, of a speed that is not too great. -/
theorem refbrake_any (u a v s : Nat) (w : World) (ha : 1 ≤ a) (ha2 : a ≤ 1000) (hs : s ≤ 1000) :
    Calls Tryz.prog 98 #[.agg #[.int .i64 u, .int .i64 a, .int .i64 v], .int .i64 s] w fun e w' => e = .returned (.int .i64 (brk a s : Nat)) ∧ Below w.heap.size w w' := by
  have HB : Hid (∀ t, t ≤ s → brk a t ≤ 1000000) := fun t ht => by have := brk_bound ha (show t ≤ 1000 by omega); omega
  have bb : Below w.heap.size w (w.alloc (.cells #[.int .i64 u, .int .i64 a, .int .i64 v] 121)) := (Below.refl _ _).alloc (Nat.le_refl _) _
  go_enter Tryz.func98, Tryz.ntmps98
  go_wp2
  go_loop [1, 5] (fun sl far => ∃ t f : Nat, t ≤ s ∧ Hid (f + brk a t = brk a s) ∧ far = .int .i64 f ∧ sl = .int .i64 ((t : Int) - a)) (fun sl _ => (intOf sl).toNat)
  case atStart => exact ⟨s, 0, Nat.le_refl _, Nat.zero_add _, rfl, rfl⟩
  case round =>
    obtain ⟨t, f, ht, hf, rfl, rfl⟩ := hrel
    have hB := HB.out t ht
    have hB0 := HB.out s (Nat.le_refl _)
    have hfb : f ≤ 1000000 := by have := hf.out; omega
    clear hB hB0 HB
    by_cases hlt : a < t
    · have HS : Hid (brk a t = (t - a) + brk a (t - a)) := brk_big ha hlt
      go_wp2
      go_round
      case rel => exact ⟨t - a, f + (t - a), by omega, by have := HS.out; have := hf.out; unfold Hid; omega, by go_num, by go_num⟩
      case measure => simp [intOf]; omega
    · have hs0 : Hid (brk a t = 0) := brk_small (by omega)
      go_wp2
      go_ret
      exact ⟨ret_int (by have := hs0.out; have := hf.out; omega), bb⟩
end Go.Proofs.YtedhoghleelhfaaGreat.Kin
