/-
  What each call of package tick answers in the model, for every pair of numbers: contracts over the plain functions; memory is at most new blocks.
-/
import Derived.Test.YtjladfpfhhnagaaChecked
import Derived.Test.YtjladfpfhhnagaaTickPlain
import Derived.WalkKit
import Derived.ProofKit
import Derived.OpenShut
import Derived.BigQuiet
import Derived.Deep.QuietTactic
import Derived.WalkSmall
namespace Go.Proofs.Ytjladfpfhhnagaa.Tick
open Go.RowKit
open Plain

/- Nothing old has turned, and what is frozen stays as it was. -/
structure Kept (w w' : World) : Prop where
  below : Below w.heap.size w w'
  froz : ∀ a, w'.frozen? a = w.frozen? a

theorem Kept.refl (w : World) : Kept w w := ⟨Below.refl _ _, fun _ => rfl⟩
theorem Kept.trans {a b c : World} (h : Kept a b) (k : Kept b c) : Kept a c :=
  ⟨h.below.trans (k.below.mono h.below.size), fun x => (k.froz x).trans (h.froz x)⟩
theorem Kept.onto {a b c : World} (k : Kept b c) (h : Kept a b) : Kept a c := h.trans k
theorem Kept.alloc {a w : World} (h : Kept a w) (c : Array Value) (t : TypeId) : Kept a (w.alloc (.cells c t)) :=
  ⟨h.below.alloc h.below.size _, fun x => (frozen?_alloc_cells _ _ _ x).trans (h.froz x)⟩
theorem Kept.setCell {a w : World} (h : Kept a w) {p : Addr} (hp : a.heap.size ≤ p.block) (u : Value) : Kept a (w.setCell p u) :=
  ⟨h.below.setCell hp _, fun x => (World.frozen?_setCell _ _ _ _).trans (h.froz x)⟩
theorem Kept.drew {a w : World} (h : Kept a w) : Kept a w.drew := ⟨h.below.drew, h.froz⟩
theorem Kept.drewN {a w : World} (h : Kept a w) (n : Nat) : Kept a (w.drewN n) := ⟨below_drewN h.below n, h.froz⟩
theorem Kept.grown {w w' : World} (h : Kept w w') : Grown w w' := ⟨h.below.frame _, h.froz, h.below.size⟩

theorem cut_any (a : Int) (w : World) : Calls Try.prog 29 #[.int .i64 a] w fun e w' => e = .returned (.int .i64 (cut a)) ∧ w' = w := by
  by_cases h1 : a < 0
  · have e : cut a = 0 := by unfold cut; rw [if_pos h1]
    rw [e]
    go_enter Try.func29, Try.ntmps29
    go_wp2
    go_ret
    exact ⟨rfl, rfl⟩
  · by_cases h2 : 4611686018427387904 < a
    · have e : cut a = 4611686018427387904 := by unfold cut; rw [if_neg h1, if_pos h2]
      rw [e]
      go_enter Try.func29, Try.ntmps29
      go_wp2
      go_ret
      exact ⟨rfl, rfl⟩
    · have e : cut a = a := by unfold cut; rw [if_neg h1, if_neg h2]
      rw [e]
      go_enter Try.func29, Try.ntmps29
      go_wp2
      go_ret
      exact ⟨rfl, rfl⟩

set_option maxHeartbeats 1000000 in
theorem both_any (a b : Int) (w : World) : Calls Try.prog 27 #[.int .i64 a, .int .i64 b] w fun e w' => e = .returned (.agg #[.int .i64 (cut a), .int .i64 (cut b)]) ∧ Kept w w' := by
  go_enter Try.func27, Try.ntmps27
  go_wp2
  refine wp_loop_rounds 3 ?_
  rw [rounds_succ]
  go_wp2_with (go_at_call 29; refine (cut_any _ _).mono ?_; rintro e w' ⟨rfl, rfl⟩)
  rw [rounds_succ]
  go_wp2_with (go_at_call 29; refine (cut_any _ _).mono ?_; rintro e w' ⟨rfl, rfl⟩)
  rw [rounds_succ]
  go_wp2
  exact bodyPost_ret (v := .agg #[.int .i64 (cut a), .int .i64 (cut b)]) (by simp [results, Try.results27, go_sem]) rfl ⟨rfl, (((Kept.refl _).alloc _ _).alloc _ _)⟩

/- The end of a walk behind one call of cutBoth. -/
theorem wrap_in {n : Int} (h : 0 ≤ n) (k : n ≤ 4611686018427387904) : wrap64 n = n := by unfold wrap64; omega
theorem ret_int {k : IntKind} {a b : Int} (h : a = b) : Ending.returned (.int k a) = .returned (.int k b) := by rw [h]

set_option maxHeartbeats 1000000 in
theorem less_any (a b : Int) (w : World) : Calls Try.prog 25 #[.int .i64 a, .int .i64 b] w fun e w' => e = .returned (.int .i64 (less a b)) ∧ Kept w w' := by
  obtain ⟨a0, a1⟩ := cut_bd a
  obtain ⟨b0, b1⟩ := cut_bd b
  have hb := both_any a b w
  have hs : less a b = if cut a = 4611686018427387904 then 4611686018427387904 else if cut a < cut b then 0 else cut a - cut b := rfl
  generalize cut a = x at *
  generalize cut b = y at *
  generalize less a b = r at *
  have H : Hid (r = if x = 4611686018427387904 then 4611686018427387904 else if x < y then 0 else x - y) := hs
  clear hs
  by_cases h : x = 4611686018427387904
  · subst h
    go_enter Try.func25, Try.ntmps25
    go_wp2_with (go_at_call 27; refine hb.mono ?_; rintro e w1 ⟨rfl, k1⟩)
    go_ret
    exact ⟨ret_int (by rw [H.out]; rfl), by repeat (first | exact Kept.refl _ | assumption | apply Kept.drew | apply Kept.alloc)⟩
  · have hx : (x == 4611686018427387904) = false := by simpa using h
    by_cases h2 : x < y
    all_goals
      go_enter Try.func25, Try.ntmps25
      go_wp2_with (go_at_call 27; refine hb.mono ?_; rintro e w1 ⟨rfl, k1⟩)
      go_ret
      exact ⟨ret_int (by rw [H.out, if_neg h]; first | rw [if_pos (by omega)] | rw [if_neg (by omega)]), by repeat (first | exact Kept.refl _ | assumption | apply Kept.drew | apply Kept.alloc)⟩

end Go.Proofs.Ytjladfpfhhnagaa.Tick
