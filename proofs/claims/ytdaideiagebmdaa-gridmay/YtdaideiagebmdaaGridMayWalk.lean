/-
  GridMay: the walk.
-/
import Derived.Test.YtdaideiagebmdaaGridLaw
namespace Go.Proofs.Ytdaideiagebmdaa.Grid
set_option linter.unusedVariables false
set_option linter.unusedSimpArgs false
open Go Go.RowKit Go.Shelf Go.Proofs
attribute [local go_sem] Oper.semAt_some

set_option maxRecDepth 100000 in
set_option maxHeartbeats 4000000 in
theorem may_all_law (c : Conf) (vb vp vr vs : Value) (w : World) (hA : ConfAt (Old w) c vb vp vr vs w) (l1 : c.blocked.length ≤ 8796093022208) (l2 : c.ports.length ≤ 8796093022208) (l3 : c.robots.length ≤ 5864062014805) (l4 : c.stacks.length ≤ 3518437208880) (l5 : ∀ s ∈ c.stacks, s.2.length ≤ 17592186044416) : Calls Try.prog 3 #[.agg #[.int .i64 c.W, .int .i64 c.H, .int .i64 c.height, vb, vp, vr, vs, .int .i64 c.unit, .int .i64 c.accel, .int .i64 c.speed, .int .i64 c.turn, .int .i64 c.hoist, .int .i64 c.queue, .int .i64 c.resend, .int .i64 c.budget, .bool c.back]] w fun e w' => e = .returned (.bool true) ∧ Below w.heap.size w w' := by
  have L := fun (u : World) (b : Below w.heap.size w u) g (hg : Old w g) => Nat.lt_of_lt_of_le hg b.size
  have cC := fun u (b : Below w.heap.size w u) => copyConf_any (Old w) c vb vp vr vs u (hA.go (fun _ h => h) b) (L u b) l1 l2 l3 l4 l5
  have cM := fun u (b : Below w.heap.size w u) => mayR_call (F := Old w) (hA.go (fun _ h => h) b) (L u b) l1 l2 l3 l4 l5
  have cG := fun {n : Nat} {u : World} {v1 v2 v3 v4 : Value} (a : ConfAt (Since n u) c v1 v2 v3 v4 u) => may_call a since_lt l1 l2 l3 l4
  have Q0 : One w #[.int .i64 c.W, .int .i64 c.H, .int .i64 c.height, vb, vp, vr, vs, .int .i64 c.unit, .int .i64 c.accel, .int .i64 c.speed, .int .i64 c.turn, .int .i64 c.hoist, .int .i64 c.queue, .int .i64 c.resend, .int .i64 c.budget, .bool c.back] (w.alloc (.cells #[.int .i64 c.W, .int .i64 c.H, .int .i64 c.height, vb, vp, vr, vs, .int .i64 c.unit, .int .i64 c.accel, .int .i64 c.speed, .int .i64 c.turn, .int .i64 c.hoist, .int .i64 c.queue, .int .i64 c.resend, .int .i64 c.budget, .bool c.back] 26)) := ⟨below_new (Below.refl _ _) _, heap_alloc_new w _⟩
  cases hN : newP c with
  | none =>
    have cN := fun {n : Nat} {u : World} {v1 v2 v3 v4 : Value} (a : ConfAt (Since n u) c v1 v2 v3 v4 u) => new_no a since_lt l1 l2 l3 l4 hN
    rw [hN] at cM cG
    simp only [Option.isSome_none] at cM cG
    clear hA L hN
    go_enter Try.func3, Try.ntmps3
    go_wp2_with (first
      | (have X' := Q3; refine wpList_load_row rfl 26 (.tmp 1) rfl w.heap.size rfl 26 #[.int .i64 c.W, .int .i64 c.H, .int .i64 c.height, vb, vp, vr, vs, .int .i64 c.unit, .int .i64 c.accel, .int .i64 c.speed, .int .i64 c.turn, .int .i64 c.hoist, .int .i64 c.queue, .int .i64 c.resend, .int .i64 c.budget, .bool c.back] (0, 0) _ Q3.a Try.underlying26 rfl info_conf ?_)
      | (have X' := Q2; refine wpList_load_row rfl 26 (.tmp 1) rfl w.heap.size rfl 26 #[.int .i64 c.W, .int .i64 c.H, .int .i64 c.height, vb, vp, vr, vs, .int .i64 c.unit, .int .i64 c.accel, .int .i64 c.speed, .int .i64 c.turn, .int .i64 c.hoist, .int .i64 c.queue, .int .i64 c.resend, .int .i64 c.budget, .bool c.back] (0, 0) _ Q2.a Try.underlying26 rfl info_conf ?_)
      | (refine wpList_load_row rfl 26 (.tmp 1) rfl w.heap.size rfl 26 #[.int .i64 c.W, .int .i64 c.H, .int .i64 c.height, vb, vp, vr, vs, .int .i64 c.unit, .int .i64 c.accel, .int .i64 c.speed, .int .i64 c.turn, .int .i64 c.hoist, .int .i64 c.queue, .int .i64 c.resend, .int .i64 c.budget, .bool c.back] (0, 0) _ Q0.a Try.underlying26 rfl info_conf ?_)
      | (have X' := Q3; go_at_call 20; refine (cC _ Q3.below).mono ?_; rintro e w4 ⟨r4, rfl, ⟨v5, v6, v7, v8, rfl, A4⟩, b4⟩; have B4 := bcat Q3.below b4 (Nat.le_refl _))
      | (go_at_call 20; refine (cC _ Q0.below).mono ?_; rintro e w1 ⟨r1, rfl, ⟨v1, v2, v3, v4, rfl, A1⟩, b1⟩; have Q1 := Q0.go b1)
      | (go_at_call 19; refine (cN A1).mono ?_; rintro e w2 ⟨rfl, b2⟩; have Q2 := Q1.go b2)
      | (go_at_call 21; refine (cM _ Q2.below).mono ?_; rintro e w3 ⟨r3, rfl, rfl, b3⟩; have Q3 := Q2.go b3)
      | (go_at_call 22; refine (cG A4).mono ?_; rintro e w5 ⟨rfl, b5⟩; have B5 := bcat B4 b5 (Nat.le_refl _))
      | (go_at_call 23; refine (awake_any _).mono ?_; rintro e w9 ⟨rfl, b9⟩))
    go_ret
    exact ⟨rfl, bcat B5 b9 (Nat.le_refl _)⟩
  | some G =>
    have cN := fun {n : Nat} {u : World} {v1 v2 v3 v4 : Value} (a : ConfAt (Since n u) c v1 v2 v3 v4 u) => new_yes a since_lt l1 l2 l3 l4 hN
    rw [hN] at cM cG
    simp only [Option.isSome_some] at cM cG
    clear hA L hN
    go_enter Try.func3, Try.ntmps3
    go_wp2_with (first
      | (have X' := Q3; refine wpList_load_row rfl 26 (.tmp 1) rfl w.heap.size rfl 26 #[.int .i64 c.W, .int .i64 c.H, .int .i64 c.height, vb, vp, vr, vs, .int .i64 c.unit, .int .i64 c.accel, .int .i64 c.speed, .int .i64 c.turn, .int .i64 c.hoist, .int .i64 c.queue, .int .i64 c.resend, .int .i64 c.budget, .bool c.back] (0, 0) _ Q3.a Try.underlying26 rfl info_conf ?_)
      | (have X' := Q2; refine wpList_load_row rfl 26 (.tmp 1) rfl w.heap.size rfl 26 #[.int .i64 c.W, .int .i64 c.H, .int .i64 c.height, vb, vp, vr, vs, .int .i64 c.unit, .int .i64 c.accel, .int .i64 c.speed, .int .i64 c.turn, .int .i64 c.hoist, .int .i64 c.queue, .int .i64 c.resend, .int .i64 c.budget, .bool c.back] (0, 0) _ Q2.a Try.underlying26 rfl info_conf ?_)
      | (refine wpList_load_row rfl 26 (.tmp 1) rfl w.heap.size rfl 26 #[.int .i64 c.W, .int .i64 c.H, .int .i64 c.height, vb, vp, vr, vs, .int .i64 c.unit, .int .i64 c.accel, .int .i64 c.speed, .int .i64 c.turn, .int .i64 c.hoist, .int .i64 c.queue, .int .i64 c.resend, .int .i64 c.budget, .bool c.back] (0, 0) _ Q0.a Try.underlying26 rfl info_conf ?_)
      | (have X' := Q3; go_at_call 20; refine (cC _ Q3.below).mono ?_; rintro e w4 ⟨r4, rfl, ⟨v5, v6, v7, v8, rfl, A4⟩, b4⟩; have B4 := bcat Q3.below b4 (Nat.le_refl _))
      | (go_at_call 20; refine (cC _ Q0.below).mono ?_; rintro e w1 ⟨r1, rfl, ⟨v1, v2, v3, v4, rfl, A1⟩, b1⟩; have Q1 := Q0.go b1)
      | (go_at_call 19; refine (cN A1).mono ?_; rintro e w2 ⟨g, u, v', rfl, G2, _, _, _, b2⟩; have Q2 := Q1.go b2)
      | (go_at_call 21; refine (cM _ Q2.below).mono ?_; rintro e w3 ⟨r3, rfl, rfl, b3⟩; have Q3 := Q2.go b3)
      | (go_at_call 22; refine (cG A4).mono ?_; rintro e w5 ⟨rfl, b5⟩; have B5 := bcat B4 b5 (Nat.le_refl _))
      | (go_at_call 23; refine (awake_any _).mono ?_; rintro e w9 ⟨rfl, b9⟩))
    go_ret
    exact ⟨rfl, bcat B5 b9 (Nat.le_refl _)⟩
end Go.Proofs.Ytdaideiagebmdaa.Grid
