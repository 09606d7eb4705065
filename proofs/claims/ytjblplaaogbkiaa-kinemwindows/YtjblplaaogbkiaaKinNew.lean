/-
  New, and the statements' own calls: Place, few, May, made, SameInts.
-/
import Derived.Test.YtjblplaaogbkiaaKinStop
namespace Go.Proofs.Ytjblplaaogbkiaa.Kin
set_option linter.unusedVariables false
set_option linter.unusedSimpArgs false
open Go Go.RowKit Go.Shelf Go.Proofs
attribute [local go_sem] Oper.semAt_some

def kinCells (u a v : Int) : Array Value := #[.int .i64 u, .int .i64 a, .int .i64 v, .int .u32 0, .int .i32 0, .int .u32 0, .slice none 0 0, .int .u32 0, .int .i32 0, .int .u32 0, .slice none 0 0, .int .u32 0, .int .i32 0, .int .u32 0, .slice none 0 0, .int .u32 0, .int .i32 0, .int .u32 0, .slice none 0 0, .int .u32 0, .int .i32 0, .int .u32 0, .slice none 0 0, .int .u32 0, .int .i32 0, .int .u32 0, .slice none 0 0, .int .u32 0, .int .i32 0, .int .u32 0, .slice none 0 0, .int .u32 0, .int .i32 0, .int .u32 0, .slice none 0 0, .int .u32 0, .int .i32 0, .int .u32 0, .slice none 0 0, .int .u32 0, .int .i32 0, .int .u32 0, .slice none 0 0, .int .u32 0, .int .i32 0, .int .u32 0, .slice none 0 0, .int .u32 0, .int .i32 0, .int .u32 0, .slice none 0 0, .int .u32 0, .int .i32 0, .int .u32 0, .slice none 0 0, .int .u32 0, .int .i32 0, .int .u32 0, .slice none 0 0, .int .u32 0, .int .i32 0, .int .u32 0, .slice none 0 0, .int .u32 0, .int .i32 0, .int .u32 0, .slice none 0 0]
theorem prof_cells (u a v : Int) : ∀ n, 1 ≤ n → n ≤ 16 → (kinCells u a v)[3 + (n - 1) * 4]? = some (.int .u32 0) ∧ (kinCells u a v)[3 + (n - 1) * 4 + 1]? = some (.int .i32 0) ∧ (kinCells u a v)[3 + (n - 1) * 4 + 3]? = some (.slice none 0 0) := by
  intro n h1 h2
  obtain rfl | rfl | rfl | rfl | rfl | rfl | rfl | rfl | rfl | rfl | rfl | rfl | rfl | rfl | rfl | rfl : n = 1 ∨ n = 2 ∨ n = 3 ∨ n = 4 ∨ n = 5 ∨ n = 6 ∨ n = 7 ∨ n = 8 ∨ n = 9 ∨ n = 10 ∨ n = 11 ∨ n = 12 ∨ n = 13 ∨ n = 14 ∨ n = 15 ∨ n = 16 := by omega
  all_goals exact ⟨rfl, rfl, rfl⟩
theorem cell_of {w : World} {g : Nat} {cs : Array Value} {t : TypeId} {r : Nat × Nat} (h : w.heap[g]? = some (.cells cs t r)) (o : Nat) : w.cell? ⟨g, o, none⟩ = cs[o]? := by simp [World.cell?, h]
theorem frozen_of {w : World} {g : Nat} {cs : Array Value} {t : TypeId} (h : w.heap[g]? = some (.cells cs t (0, 0))) (o : Nat) : w.frozen? ⟨g, o, none⟩ = false := by simp [World.frozen?, h]
theorem heap_new2 (w : World) (o : Obj) (cs : Array Value) (t : TypeId) : ((w.alloc o).alloc (.cells cs t)).heap[w.heap.size + 1]? = some (.cells cs t (0, 0)) := by
  have := World.alloc_heap_new (w.alloc o) (.cells cs t)
  rwa [World.size_alloc] at this
theorem kin_made {w : World} {g u a v : Nat} (h : w.heap[g]? = some (.cells (kinCells u a v) 62 (0, 0))) : KinAt w g u a v := by
  refine ⟨⟨cell_of h 0, cell_of h 1, cell_of h 2⟩, frozen_of h, fun n h1 h2 => ?_⟩
  obtain ⟨q0, q1, q3⟩ := prof_cells u a v n h1 h2
  exact ⟨(cell_of h _).trans q1, Or.inl ⟨(cell_of h _).trans q0, (cell_of h _).trans q3⟩⟩
set_option maxRecDepth 100000 in
set_option maxHeartbeats 4000000 in
theorem new_yes (u a v : Nat) (ok : Ok u a v) (w : World) : Calls Try.prog 32 #[.int .i64 u, .int .i64 a, .int .i64 v] w fun e w' => ∃ g, e = .returned (.tuple #[.pointer (some ⟨g, 0, none⟩), .int .i64 0]) ∧ w.heap.size ≤ g ∧ KinAt w' g u a v ∧ Below w.heap.size w w' := by
  obtain ⟨u1, u2, a1, a2, v1, v2⟩ := ok
  have bb : Below w.heap.size w ((w.alloc (.cells #[.int .i64 u, .int .i64 a, .int .i64 v] 3)).alloc (.cells (kinCells u a v) 62)) := ((Below.refl _ _).alloc (Nat.le_refl _) _).alloc (by simp) _
  have kk := kin_made (heap_new2 w (.cells #[.int .i64 u, .int .i64 a, .int .i64 v] 3) (kinCells u a v) 62)
  have KK : Hid (KinAt ((w.alloc (.cells #[.int .i64 u, .int .i64 a, .int .i64 v] 3)).alloc (.cells (kinCells u a v) 62)) (w.heap.size + 1) u a v) := kk
  clear kk
  go_enter Try.func32, Try.ntmps32
  go_wp2
  refine wp_loop_rounds 4 ?_
  rw [rounds_succ]
  go_wp2
  rw [rounds_succ]
  go_wp2
  rw [rounds_succ]
  go_wp2
  rw [rounds_succ]
  go_wp2
  go_ret2
  exact ⟨w.heap.size + 1, rfl, by omega, KK.out, bb⟩
/- Numbers that may not be. -/
def badN (u a v : Int) : Prop := (u < 1 ∨ 1000 < u) ∨ (a < 1 ∨ 1000 < a) ∨ (v < 1 ∨ 1000 < v)
set_option maxRecDepth 100000 in
set_option maxHeartbeats 4000000 in
theorem new_no (u a v : Int) (bad : badN u a v) (w : World) : Calls Try.prog 32 #[.int .i64 u, .int .i64 a, .int .i64 v] w fun e w' => e = .returned (.tuple #[.pointer none, .int .i64 1]) ∧ Below w.heap.size w w' := by
  have bb : Below w.heap.size w (w.alloc (.cells #[.int .i64 u, .int .i64 a, .int .i64 v] 3)) := (Below.refl _ _).alloc (Nat.le_refl _) _
  unfold badN at bad
  by_cases h1 : u < 1 ∨ 1000 < u
  · clear bad
    rcases h1 with h1 | h1
    all_goals
      go_enter Try.func32, Try.ntmps32
      go_wp2
      refine wp_loop_rounds 4 ?_
      rw [rounds_succ]
      go_wp2
      go_ret2
      exact ⟨rfl, bb⟩
  · have h2 : 1 ≤ u := by omega
    have h3 : u ≤ 1000 := by omega
    by_cases h4 : a < 1 ∨ 1000 < a
    · clear bad h1
      rcases h4 with h4 | h4
      all_goals
        go_enter Try.func32, Try.ntmps32
        go_wp2
        refine wp_loop_rounds 4 ?_
        rw [rounds_succ]
        go_wp2
        rw [rounds_succ]
        go_wp2
        go_ret2
        exact ⟨rfl, bb⟩
    · have h5 : 1 ≤ a := by omega
      have h6 : a ≤ 1000 := by omega
      have h7 : v < 1 ∨ 1000 < v := by omega
      clear bad h1 h4
      rcases h7 with h7 | h7
      all_goals
        go_enter Try.func32, Try.ntmps32
        go_wp2
        refine wp_loop_rounds 4 ?_
        rw [rounds_succ]
        go_wp2
        rw [rounds_succ]
        go_wp2
        rw [rounds_succ]
        go_wp2
        go_ret2
        exact ⟨rfl, bb⟩
set_option maxHeartbeats 2000000 in
theorem may_yes (u a v : Nat) (ok : Ok u a v) (w : World) : Calls Try.prog 33 #[.agg #[.int .i64 u, .int .i64 a, .int .i64 v]] w fun e w' => e = .returned (.bool true) ∧ Below w.heap.size w w' := by
  obtain ⟨u1, u2, a1, a2, v1, v2⟩ := ok
  have q1 : (1 : Int) ≤ u := by omega
  have q2 : (u : Int) ≤ 1000 := by omega
  have q3 : (1 : Int) ≤ a := by omega
  have q4 : (a : Int) ≤ 1000 := by omega
  have q5 : (1 : Int) ≤ v := by omega
  have q6 : (v : Int) ≤ 1000 := by omega
  go_enter Try.func33, Try.ntmps33
  go_wp2
  go_ret
  exact ⟨rfl, (Below.refl _ _).alloc (Nat.le_refl _) _⟩
set_option maxHeartbeats 4000000 in
theorem may_no (u a v : Int) (bad : badN u a v) (w : World) : Calls Try.prog 33 #[.agg #[.int .i64 u, .int .i64 a, .int .i64 v]] w fun e w' => e = .returned (.bool false) ∧ Below w.heap.size w w' := by
  unfold badN at bad
  by_cases u1 : 1 ≤ u
  rotate_left
  · clear bad
    go_enter Try.func33, Try.ntmps33
    go_wp2
    go_ret
    exact ⟨rfl, (Below.refl _ _).alloc (Nat.le_refl _) _⟩
  by_cases u2 : u ≤ 1000
  rotate_left
  · clear bad
    go_enter Try.func33, Try.ntmps33
    go_wp2
    go_ret
    exact ⟨rfl, (Below.refl _ _).alloc (Nat.le_refl _) _⟩
  by_cases a1 : 1 ≤ a
  rotate_left
  · clear bad
    go_enter Try.func33, Try.ntmps33
    go_wp2
    go_ret
    exact ⟨rfl, (Below.refl _ _).alloc (Nat.le_refl _) _⟩
  by_cases a2 : a ≤ 1000
  rotate_left
  · clear bad
    go_enter Try.func33, Try.ntmps33
    go_wp2
    go_ret
    exact ⟨rfl, (Below.refl _ _).alloc (Nat.le_refl _) _⟩
  by_cases v1 : 1 ≤ v
  rotate_left
  · clear bad
    go_enter Try.func33, Try.ntmps33
    go_wp2
    go_ret
    exact ⟨rfl, (Below.refl _ _).alloc (Nat.le_refl _) _⟩
  have v2 : ¬ v ≤ 1000 := by omega
  clear bad
  go_enter Try.func33, Try.ntmps33
  go_wp2
  go_ret
  exact ⟨rfl, (Below.refl _ _).alloc (Nat.le_refl _) _⟩
def place (v n : Int) : Int := if v.tmod n < 0 then v.tmod n + n else v.tmod n
theorem tmod_low (v n : Int) (h : 0 < n) : -n < v.tmod n := by
  by_cases g : 0 ≤ v
  · have := Int.tmod_nonneg n g
    omega
  · have h1 := Int.tmod_lt_of_pos (-v) h
    rw [Int.neg_tmod] at h1
    omega
theorem place_bd (v n : Int) (h : 0 < n) : 0 ≤ place v n ∧ place v n < n := by
  have h2 := Int.tmod_lt_of_pos v h
  have h3 := tmod_low v n h
  unfold place
  split <;> omega
set_option maxHeartbeats 1000000 in
theorem place_any (v n : Int) (w : World) (h0 : 0 < n) (h1 : n ≤ 9223372036854775807) : Calls Try.prog 27 #[.int .i64 v, .int .i64 n] w fun e w' => e = .returned (.int .i64 (place v n)) ∧ w' = w := by
  have h2 := Int.tmod_lt_of_pos v h0
  have h3 := tmod_low v n h0
  have H : Hid (place v n = if v.tmod n < 0 then v.tmod n + n else v.tmod n) := rfl
  generalize place v n = r at *
  by_cases hc : v.tmod n < 0
  all_goals
    go_enter Try.func27, Try.ntmps27
    go_wp2
    go_ret
    exact ⟨ret_int (by rw [H.out]; first | rw [if_pos (by omega)] | rw [if_neg (by omega)]), rfl⟩
/- Numbers that are not too great. -/
def few (v n : Int) : Nat := (1 + place v n).toNat
theorem few_bd (v n : Int) (h : 0 < n) : 1 ≤ few v n ∧ (few v n : Int) ≤ n := by have := place_bd v n h; unfold few; omega
theorem few_ok (u a v : Int) : Ok (few u 60) (few a 20) (few v 40) := by
  have h1 := few_bd u 60 (by omega)
  have h2 := few_bd a 20 (by omega)
  have h3 := few_bd v 40 (by omega)
  exact ⟨by omega, by omega, by omega, by omega, by omega, by omega⟩
set_option maxHeartbeats 2000000 in
theorem few_any (u a v : Int) (w : World) : Calls Try.prog 17 #[.int .i64 u, .int .i64 a, .int .i64 v] w fun e w' => e = .returned (.tuple #[.int .i64 (few u 60 : Nat), .int .i64 (few a 20 : Nat), .int .i64 (few v 40 : Nat)]) ∧ w' = w := by
  have p1 := place_bd u 60 (by omega)
  have p2 := place_bd a 20 (by omega)
  have p3 := place_bd v 40 (by omega)
  have c1 := place_any u 60 w (by omega) (by omega)
  have c2 := place_any a 20 w (by omega) (by omega)
  have c3 := place_any v 40 w (by omega) (by omega)
  have e1 : ((few u 60 : Nat) : Int) = 1 + place u 60 := by unfold few; omega
  have e2 : ((few a 20 : Nat) : Int) = 1 + place a 20 := by unfold few; omega
  have e3 : ((few v 40 : Nat) : Int) = 1 + place v 40 := by unfold few; omega
  rw [e1, e2, e3]
  generalize place u 60 = x at *
  generalize place a 20 = y at *
  generalize place v 40 = z at *
  clear e1 e2 e3
  go_enter Try.func17, Try.ntmps17
  go_wp2_with (first | (go_at_call_of 27 u; refine c1.mono ?_; rintro e w' ⟨rfl, rfl⟩) | (go_at_call_of 27 a; refine c2.mono ?_; rintro e w' ⟨rfl, rfl⟩) | (go_at_call_of 27 v; refine c3.mono ?_; rintro e w' ⟨rfl, rfl⟩))
  go_ret3
  exact ⟨rfl, rfl⟩
set_option maxRecDepth 100000 in
set_option maxHeartbeats 4000000 in
theorem made_yes (u a v : Nat) (ok : Ok u a v) (w : World) : Calls Try.prog 13 #[.int .i64 u, .int .i64 a, .int .i64 v] w fun e w' => ∃ g, e = .returned (.tuple #[.pointer (some ⟨g, 0, none⟩), .agg #[.int .i64 u, .int .i64 a, .int .i64 v], .bool true]) ∧ w.heap.size ≤ g ∧ KinAt w' g u a v ∧ Below w.heap.size w w' := by
  have cN := fun w1 => new_yes u a v ok w1
  have cM := fun w1 => may_yes u a v ok w1
  clear ok
  have hnot : ∀ (x : Bool) (w : World), (Op.unary .not (.bool x)).run Try.prog w = .ok (.bool (!x)) w := fun _ _ => rfl
  go_enter Try.func13, Try.ntmps13
  go_wp2_with (first | (go_at_call 32; refine (cN _).mono ?_; rintro e w1 ⟨g, rfl, hg, k1, b1⟩) | (go_at_call 33; refine (cM _).mono ?_; rintro e w2 ⟨rfl, b2⟩))
  have sA : (w.alloc (.cells #[.int .i64 0, .int .i64 0, .int .i64 0] 24)).heap.size = w.heap.size + 1 := by simp
  rw [sA] at hg
  have bA : Below w.heap.size w w1 := ((Below.refl _ _).alloc (Nat.le_refl _) _).trans (b1.mono (by rw [sA]; omega))
  have b12 : Below w1.heap.size w1 w2 := ((Below.refl _ _).alloc (Nat.le_refl _) _).trans (b2.mono (by simp))
  have hC : w2.heap[w1.heap.size]? = some (.cells #[.int .i64 u, .int .i64 a, .int .i64 v] 24 (0, 0)) := (b2.block _ (by simp)).trans (World.alloc_heap_new _ _)
  have hR : w2.heap[w.heap.size]? = some (.cells #[.int .i64 0, .int .i64 0, .int .i64 0] 24 (0, 0)) := (b12.block _ (by have := b1.size; omega)).trans ((b1.block _ (by rw [sA]; omega)).trans (World.alloc_heap_new _ _))
  have k2 := k1.go b12
  have z1 := b1.size
  rw [sA] at z1
  clear b1 b2
  obtain ⟨IR, hIR⟩ : ∃ I : World → Prop, I = fun z => z.heap[w1.heap.size]? = some (.cells #[.int .i64 u, .int .i64 a, .int .i64 v] 24 (0, 0)) := ⟨_, rfl⟩
  have R0 : ∀ z, IR z → z.cell? ⟨w1.heap.size, 0, none⟩ = some (.int .i64 u) := fun z hz => by rw [hIR] at hz; exact cell_of hz 0
  have R1 : ∀ z, IR z → z.cell? ⟨w1.heap.size, 1, none⟩ = some (.int .i64 a) := fun z hz => by rw [hIR] at hz; exact cell_of hz 1
  have R2 : ∀ z, IR z → z.cell? ⟨w1.heap.size, 2, none⟩ = some (.int .i64 v) := fun z hz => by rw [hIR] at hz; exact cell_of hz 2
  have hSR : IR w2.drew := by rw [hIR]; exact hC
  have c0 : w2.cell? ⟨w.heap.size, 0, none⟩ = some (.int .i64 0) := cell_of hR 0
  have c1 : w2.cell? ⟨w.heap.size, 1, none⟩ = some (.int .i64 0) := cell_of hR 1
  have c2 : w2.cell? ⟨w.heap.size, 2, none⟩ = some (.int .i64 0) := cell_of hR 2
  have f0 := frozen_of hR
  obtain ⟨W9, hW9⟩ : ∃ W9, ((w2.drew.setCell ⟨w.heap.size, 0, none⟩ (.int .i64 u)).setCell ⟨w.heap.size, 1, none⟩ (.int .i64 a)).setCell ⟨w.heap.size, 2, none⟩ (.int .i64 v) = W9 := ⟨_, rfl⟩
  have same9 : ∀ k, k ≠ w.heap.size → W9.heap[k]? = w2.heap[k]? := fun k hk => by rw [← hW9]; exact (Below.heap_setCell _ _ _ k hk).trans ((Below.heap_setCell _ _ _ k hk).trans (Below.heap_setCell _ _ _ k hk))
  have d0 : W9.cell? ⟨w.heap.size, 0, none⟩ = some (.int .i64 u) := by rw [← hW9]; exact (World.cell?_setCell_other _ _ _ _ (by simp)).trans ((World.cell?_setCell_other _ _ _ _ (by simp)).trans (World.cell?_setCell_same _ _ _ (u := .int .i64 0) c0))
  have d1 : W9.cell? ⟨w.heap.size, 1, none⟩ = some (.int .i64 a) := by rw [← hW9]; exact (World.cell?_setCell_other _ _ _ _ (by simp)).trans (World.cell?_setCell_same _ _ _ (u := .int .i64 0) ((World.cell?_setCell_other _ _ _ _ (by simp)).trans c1))
  have d2 : W9.cell? ⟨w.heap.size, 2, none⟩ = some (.int .i64 v) := by rw [← hW9]; exact World.cell?_setCell_same _ _ _ (u := .int .i64 0) ((World.cell?_setCell_other _ _ _ _ (by simp)).trans ((World.cell?_setCell_other _ _ _ _ (by simp)).trans c2))
  have s9 : W9.heap.size = w2.heap.size := by rw [← hW9]; simp [World.setCell]
  have z2 := b12.size
  have hS9 : IR W9 := by rw [hIR]; exact (same9 _ (by omega)).trans hC
  have b29 : Below w.heap.size w W9 := by rw [← hW9]; exact (((bA.trans (b12.mono (by omega))).drew.setCell (p := ⟨w.heap.size, 0, none⟩) (Nat.le_refl _) _).setCell (p := ⟨w.heap.size, 1, none⟩) (Nat.le_refl _) _).setCell (p := ⟨w.heap.size, 2, none⟩) (Nat.le_refl _) _
  have K9 : Hid (KinAt W9 g u a v) := by
    have lt := k2.nums.lt
    have e : W9.heap[g]? = w2.heap[g]? := same9 g (by omega)
    have hc : ∀ o, W9.cell? ⟨g, o, none⟩ = w2.cell? ⟨g, o, none⟩ := fun o => cell_same e
    refine ⟨⟨(hc 0).trans k2.nums.unit, (hc 1).trans k2.nums.accel, (hc 2).trans k2.nums.speed⟩, fun o => (frozen_same e).trans (k2.froz o), fun n h1 h2 => ?_⟩
    have q := k2.prof n h1 h2
    refine ⟨(hc _).trans q.lock, ?_⟩
    rcases q.st with ⟨e0, e3⟩ | ⟨e0, x, e3, hr⟩
    · exact Or.inl ⟨(hc _).trans e0, (hc _).trans e3⟩
    · exact Or.inr ⟨(hc _).trans e0, x, (hc _).trans e3, owns_same hr fun k hk => same9 k (by have := (own_since hr k hk).1; omega)⟩
  refine start_held (S := IR) 11 rfl (by kernel_rfl) (hSR) ?_
  simp only [Array.replicate_succ, Array.replicate_zero, List.push_toArray, List.nil_append, List.cons_append]
  refine take_held 0 (by assumption) rfl (by kernel_rfl) (by kernel_rfl) (by kernel_rfl) (fun _ _ _ h => h) (by kernel_rfl) (v := ?v0) ?y0 ?r0
  case y0 => (intro u hu; go_simp; try rfl)
  simp only [Act.put, List.setIfInBounds_toArray, List.set_cons_zero, List.set_cons_succ]
  refine take_held 1 (by assumption) rfl (by kernel_rfl) (by kernel_rfl) (by kernel_rfl) (fun _ _ _ h => h) (by kernel_rfl) (v := ?v1) ?y1 ?r1
  case y1 => (intro u hu; have zz0 := R0 u hu; have zz1 := R1 u hu; have zz2 := R2 u hu; go_simp; try rfl)
  simp only [Act.put, List.setIfInBounds_toArray, List.set_cons_zero, List.set_cons_succ]
  refine take_held 2 (by assumption) rfl (by kernel_rfl) (by kernel_rfl) (by kernel_rfl) (fun _ _ _ h => h) (by kernel_rfl) (v := ?v2) ?y2 ?r2
  case y2 => (intro u hu; go_simp; try rfl)
  simp only [Act.put, List.setIfInBounds_toArray, List.set_cons_zero, List.set_cons_succ]
  refine take_held 3 (by assumption) rfl (by kernel_rfl) (by kernel_rfl) (by kernel_rfl) (fun _ _ _ h => h) (by kernel_rfl) (v := ?v3) ?y3 ?r3
  case y3 => (intro u hu; go_simp; try rfl)
  simp only [Act.put, List.setIfInBounds_toArray, List.set_cons_zero, List.set_cons_succ]
  refine take_held 4 (by assumption) rfl (by kernel_rfl) (by kernel_rfl) (by kernel_rfl) (fun _ _ _ h => h) (by kernel_rfl) (v := ?v4) ?y4 ?r4
  case y4 => (intro u hu; go_simp; try rfl)
  simp only [Act.put, List.setIfInBounds_toArray, List.set_cons_zero, List.set_cons_succ]
  refine take_held 5 (by assumption) rfl (by kernel_rfl) (by kernel_rfl) (by kernel_rfl) (fun _ _ _ h => h) (by kernel_rfl) (v := ?v5) ?y5 ?r5
  case y5 => (intro u hu; go_simp; try rfl)
  simp only [Act.put, List.setIfInBounds_toArray, List.set_cons_zero, List.set_cons_succ]
  refine take_held 6 (by assumption) rfl (by kernel_rfl) (by kernel_rfl) (by kernel_rfl) (fun _ _ _ h => h) (by kernel_rfl) (v := ?v6) ?y6 ?r6
  case y6 => (intro u hu; go_simp; try rfl)
  simp only [Act.put, List.setIfInBounds_toArray, List.set_cons_zero, List.set_cons_succ]
  refine take_held 7 (by assumption) rfl (by kernel_rfl) (by kernel_rfl) (by kernel_rfl) (fun _ _ _ h => h) (by kernel_rfl) (v := ?v7) ?y7 ?r7
  case y7 => (intro u hu; go_simp; try rfl)
  simp only [Act.put, List.setIfInBounds_toArray, List.set_cons_zero, List.set_cons_succ]
  refine take_held 8 (by assumption) rfl (by kernel_rfl) (by kernel_rfl) (by kernel_rfl) (fun _ _ _ h => h) (by kernel_rfl) (v := ?v8) ?y8 ?r8
  case y8 => (intro u hu; go_simp; try rfl)
  simp only [Act.put, List.setIfInBounds_toArray, List.set_cons_zero, List.set_cons_succ]
  refine wpAnyH_ready (rs := [9]) (by kernel_rfl) (by simp) (AllReadyH.cons ((nth_eq _ 9).trans rfl) ?_ AllReadyH.nil)
  intro K' hK
  refine skip_in hK (by kernel_rfl) W9 (by rw [← hW9]; clear hW9; go_simp; try rfl) hS9 ?_
  simp only [Act.put, List.setIfInBounds_toArray, List.set_cons_zero, List.set_cons_succ]
  refine take_held 10 (by assumption) rfl (by kernel_rfl) (by kernel_rfl) (by kernel_rfl) (fun _ _ _ h => h) (by kernel_rfl) (v := ?v9) ?y9 ?r9
  case y9 => (intro u hu; go_simp; try rfl)
  simp only [Act.put, List.setIfInBounds_toArray, List.set_cons_zero, List.set_cons_succ]
  refine done_held (by kernel_rfl) ?_ _
  clear hW9
  go_wp2
  exact bodyPost_ret (v := .tuple #[.pointer (some ⟨g, 0, none⟩), .agg #[.int .i64 u, .int .i64 a, .int .i64 v], .bool true]) (by simp [results, Try.results13, go_sem, d0, d1, d2]) rfl ⟨g, rfl, by omega, K9.out, b29⟩
end Go.Proofs.Ytjblplaaogbkiaa.Kin
