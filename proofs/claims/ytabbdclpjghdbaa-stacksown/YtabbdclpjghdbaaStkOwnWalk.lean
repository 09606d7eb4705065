/-
  StacksOwn: the walk.
-/
import Derived.Test.YtabbdclpjghdbaaStkOBase
namespace Go.Proofs.Ytabbdclpjghdbaa.Stk
set_option linter.unusedVariables false
set_option linter.unusedSimpArgs false
open Go Go.RowKit Go.Shelf Go.Proofs Go.Proofs.Ytabbdclpjghdbaa.Grid
attribute [local go_sem] Oper.semAt_some

set_option maxRecDepth 100000 in
set_option maxHeartbeats 4000000 in
theorem own_all (c : Conf) (vb vp vr vs : Value) (w : World) (hA : ConfAt (Old w) c vb vp vr vs w) (l1 : c.blocked.length ≤ 8796093022208) (l2 : c.ports.length ≤ 8796093022208) (l3 : c.robots.length ≤ 5864062014805) (l4 : c.stacks.length ≤ 3518437208880) (l5 : ∀ s ∈ c.stacks, s.2.length ≤ 17592186044416) (most : Int) : Calls Try.prog 5 #[.agg #[.int .i64 c.W, .int .i64 c.H, .int .i64 c.height, vb, vp, vr, vs, .int .i64 c.unit, .int .i64 c.accel, .int .i64 c.speed, .int .i64 c.turn, .int .i64 c.hoist, .int .i64 c.queue, .int .i64 c.resend, .int .i64 c.budget, .bool c.back], .int .i64 most] w fun e w' => e = .returned (.bool true) ∧ Below w.heap.size w w' := by
  have L := fun (u : World) (b : Below w.heap.size w u) g (hg : Old w g) => Nat.lt_of_lt_of_le hg b.size
  have hAu := fun u (b : Below w.heap.size w u) => hA.go (fun _ h => h) b
  have cC := fun u (b : Below w.heap.size w u) => copyConf_told (Old w) c vb vp vr vs u (hAu u b) (L u b) l1 l2 l3 l4 l5
  have cM := fun u (b : Below w.heap.size w u) => mayR_call (F := Old w) (hAu u b) (L u b) l1 l2 l3 l4 l5
  have cS := fun u (b : Below w.heap.size w u) => small_any (Old w) c vb vp vr vs u (hAu u b) (L u b) l1 l2 l3 l4 l5
  have Q0 : One w #[.int .i64 c.W, .int .i64 c.H, .int .i64 c.height, vb, vp, vr, vs, .int .i64 c.unit, .int .i64 c.accel, .int .i64 c.speed, .int .i64 c.turn, .int .i64 c.hoist, .int .i64 c.queue, .int .i64 c.resend, .int .i64 c.budget, .bool c.back] (w.alloc (.cells #[.int .i64 c.W, .int .i64 c.H, .int .i64 c.height, vb, vp, vr, vs, .int .i64 c.unit, .int .i64 c.accel, .int .i64 c.speed, .int .i64 c.turn, .int .i64 c.hoist, .int .i64 c.queue, .int .i64 c.resend, .int .i64 c.budget, .bool c.back] 26)) := ⟨below_new (Below.refl _ _) _, heap_alloc_new w _⟩
  cases hN : newP c with
  | none =>
    have cN := fun {n : Nat} {u1 u : World} {v1 v2 v3 v4 : Value} (a : ConfAt (Since n u1) c v1 v2 v3 v4 u) (hle : u1.heap.size ≤ u.heap.size) => new_none_any a (fun b h => Nat.lt_of_lt_of_le h.2 hle) l1 l2 l3 l4 hN
    rw [hN] at cM cS
    simp only [Option.isSome_none, Bool.and_false, Bool.false_and] at cM cS
    clear hA L hN hAu
    go_enter Try.func5, Try.ntmps5
    go_wp2_with (first
          | (have X' := Q3; refine wpList_load_row rfl 26 (.tmp 2) rfl w.heap.size rfl 26 #[.int .i64 c.W, .int .i64 c.H, .int .i64 c.height, vb, vp, vr, vs, .int .i64 c.unit, .int .i64 c.accel, .int .i64 c.speed, .int .i64 c.turn, .int .i64 c.hoist, .int .i64 c.queue, .int .i64 c.resend, .int .i64 c.budget, .bool c.back] (0, 0) _ Q3.a Try.underlying26 rfl info_conf ?_)
          | (have X' := Q2; refine wpList_load_row rfl 26 (.tmp 2) rfl w.heap.size rfl 26 #[.int .i64 c.W, .int .i64 c.H, .int .i64 c.height, vb, vp, vr, vs, .int .i64 c.unit, .int .i64 c.accel, .int .i64 c.speed, .int .i64 c.turn, .int .i64 c.hoist, .int .i64 c.queue, .int .i64 c.resend, .int .i64 c.budget, .bool c.back] (0, 0) _ Q2.a Try.underlying26 rfl info_conf ?_)
          | (have X' := hD; refine wpList_load_row rfl 26 (.tmp 5) rfl w1.heap.size rfl 26 #[.int .i64 c.W, .int .i64 c.H, .int .i64 c.height, v1, v2, v3, v4, .int .i64 c.unit, .int .i64 c.accel, .int .i64 c.speed, .int .i64 c.turn, .int .i64 c.hoist, .int .i64 c.queue, .int .i64 c.resend, .int .i64 c.budget, .bool c.back] (0, 0) _ hD Try.underlying26 rfl info_conf ?_)
          | (refine wpList_load_row rfl 26 (.tmp 2) rfl w.heap.size rfl 26 #[.int .i64 c.W, .int .i64 c.H, .int .i64 c.height, vb, vp, vr, vs, .int .i64 c.unit, .int .i64 c.accel, .int .i64 c.speed, .int .i64 c.turn, .int .i64 c.hoist, .int .i64 c.queue, .int .i64 c.resend, .int .i64 c.budget, .bool c.back] (0, 0) _ Q0.a Try.underlying26 rfl info_conf ?_)
          | (go_at_call 8; refine (cC _ Q0.below).mono ?_; rintro e w1 ⟨r1, rfl, ⟨v1, v2, v3, v4, rfl, A1, ys4, T4⟩, b1⟩; have Q1 := Q0.go b1; have bA : Below w1.heap.size w1 ((w1.alloc (.cells #[.int .i64 0, .int .i64 0, .int .i64 0, .slice none 0 0, .slice none 0 0, .slice none 0 0, .slice none 0 0, .int .i64 0, .int .i64 0, .int .i64 0, .int .i64 0, .int .i64 0, .int .i64 0, .int .i64 0, .int .i64 0, .bool false] 26)).setRow w1.heap.size #[.int .i64 c.W, .int .i64 c.H, .int .i64 c.height, v1, v2, v3, v4, .int .i64 c.unit, .int .i64 c.accel, .int .i64 c.speed, .int .i64 c.turn, .int .i64 c.hoist, .int .i64 c.queue, .int .i64 c.resend, .int .i64 c.budget, .bool c.back]) := below_row ((Below.refl _ _).alloc (Nat.le_refl _) _) (Nat.le_refl _) _; have hone := conf_ones A1; have hCopied := bA)
          | (have X' := hCopied; refine wpList_store_row rfl 26 (.tmp 5) (.tmp 18) rfl w1.heap.size #[.int .i64 c.W, .int .i64 c.H, .int .i64 c.height, v1, v2, v3, v4, .int .i64 c.unit, .int .i64 c.accel, .int .i64 c.speed, .int .i64 c.turn, .int .i64 c.hoist, .int .i64 c.queue, .int .i64 c.resend, .int .i64 c.budget, .bool c.back] rfl rfl 26 #[.int .i64 0, .int .i64 0, .int .i64 0, .slice none 0 0, .slice none 0 0, .slice none 0 0, .slice none 0 0, .int .i64 0, .int .i64 0, .int .i64 0, .int .i64 0, .int .i64 0, .int .i64 0, .int .i64 0, .int .i64 0, .bool false] (heap_alloc_new w1 _) info_conf rfl hone ?_; have hD : ((w1.alloc (.cells #[.int .i64 0, .int .i64 0, .int .i64 0, .slice none 0 0, .slice none 0 0, .slice none 0 0, .slice none 0 0, .int .i64 0, .int .i64 0, .int .i64 0, .int .i64 0, .int .i64 0, .int .i64 0, .int .i64 0, .int .i64 0, .bool false] 26)).setRow w1.heap.size #[.int .i64 c.W, .int .i64 c.H, .int .i64 c.height, v1, v2, v3, v4, .int .i64 c.unit, .int .i64 c.accel, .int .i64 c.speed, .int .i64 c.turn, .int .i64 c.hoist, .int .i64 c.queue, .int .i64 c.resend, .int .i64 c.budget, .bool c.back]).heap[w1.heap.size]? = some (.cells #[.int .i64 c.W, .int .i64 c.H, .int .i64 c.height, v1, v2, v3, v4, .int .i64 c.unit, .int .i64 c.accel, .int .i64 c.speed, .int .i64 c.turn, .int .i64 c.hoist, .int .i64 c.queue, .int .i64 c.resend, .int .i64 c.budget, .bool c.back] 26 (0, 0)) := setRow_heap _ _ _ _ _ _ (heap_alloc_new w1 _); have A2 := A1.go since_lt bA; have R1 := Q1.go bA)
          | (go_at_call 7; refine (cN A2 bA.size).mono ?_; rintro e w2 ⟨rfl, b2⟩; have Q2 := R1.go b2)
          | (go_at_call 6; refine (cS _ Q2.below).mono ?_; rintro e w3 ⟨r3, rfl, rfl, b3⟩; have Q3 := Q2.go b3)
          | (go_at_call 9; refine (cM _ Q3.below).mono ?_; rintro e w4 ⟨r4, rfl, rfl, b4⟩; have Q4 := Q3.go b4)
          | (go_at_call 10; refine (awake8_any _).mono ?_; rintro e w9 ⟨r9, rfl, rfl, b9⟩))
    go_ret
    exact ⟨rfl, bcat Q4.below b9 (Nat.le_refl _)⟩
  | some G =>
    have cN := fun {n : Nat} {u1 u : World} {v1 v2 v3 v4 : Value} (a : ConfAt (Since n u1) c v1 v2 v3 v4 u) (hle : u1.heap.size ≤ u.heap.size) => new_own_any a (fun b h => Nat.lt_of_lt_of_le h.2 hle) l1 l2 l3 l4 l5 hN
    rw [hN] at cM cS
    simp only [Option.isSome_some, Bool.and_true, Bool.true_and] at cM cS
    cases hs : smallN c
    · rw [hs] at cS
      clear hA L hN hAu
      go_enter Try.func5, Try.ntmps5
      go_wp2_with (first
            | (have X' := Q3; refine wpList_load_row rfl 26 (.tmp 2) rfl w.heap.size rfl 26 #[.int .i64 c.W, .int .i64 c.H, .int .i64 c.height, vb, vp, vr, vs, .int .i64 c.unit, .int .i64 c.accel, .int .i64 c.speed, .int .i64 c.turn, .int .i64 c.hoist, .int .i64 c.queue, .int .i64 c.resend, .int .i64 c.budget, .bool c.back] (0, 0) _ Q3.a Try.underlying26 rfl info_conf ?_)
            | (have X' := Q2; refine wpList_load_row rfl 26 (.tmp 2) rfl w.heap.size rfl 26 #[.int .i64 c.W, .int .i64 c.H, .int .i64 c.height, vb, vp, vr, vs, .int .i64 c.unit, .int .i64 c.accel, .int .i64 c.speed, .int .i64 c.turn, .int .i64 c.hoist, .int .i64 c.queue, .int .i64 c.resend, .int .i64 c.budget, .bool c.back] (0, 0) _ Q2.a Try.underlying26 rfl info_conf ?_)
            | (have X' := hD; refine wpList_load_row rfl 26 (.tmp 5) rfl w1.heap.size rfl 26 #[.int .i64 c.W, .int .i64 c.H, .int .i64 c.height, v1, v2, v3, v4, .int .i64 c.unit, .int .i64 c.accel, .int .i64 c.speed, .int .i64 c.turn, .int .i64 c.hoist, .int .i64 c.queue, .int .i64 c.resend, .int .i64 c.budget, .bool c.back] (0, 0) _ hD Try.underlying26 rfl info_conf ?_)
            | (refine wpList_load_row rfl 26 (.tmp 2) rfl w.heap.size rfl 26 #[.int .i64 c.W, .int .i64 c.H, .int .i64 c.height, vb, vp, vr, vs, .int .i64 c.unit, .int .i64 c.accel, .int .i64 c.speed, .int .i64 c.turn, .int .i64 c.hoist, .int .i64 c.queue, .int .i64 c.resend, .int .i64 c.budget, .bool c.back] (0, 0) _ Q0.a Try.underlying26 rfl info_conf ?_)
            | (go_at_call 8; refine (cC _ Q0.below).mono ?_; rintro e w1 ⟨r1, rfl, ⟨v1, v2, v3, v4, rfl, A1, ys4, T4⟩, b1⟩; have Q1 := Q0.go b1; have bA : Below w1.heap.size w1 ((w1.alloc (.cells #[.int .i64 0, .int .i64 0, .int .i64 0, .slice none 0 0, .slice none 0 0, .slice none 0 0, .slice none 0 0, .int .i64 0, .int .i64 0, .int .i64 0, .int .i64 0, .int .i64 0, .int .i64 0, .int .i64 0, .int .i64 0, .bool false] 26)).setRow w1.heap.size #[.int .i64 c.W, .int .i64 c.H, .int .i64 c.height, v1, v2, v3, v4, .int .i64 c.unit, .int .i64 c.accel, .int .i64 c.speed, .int .i64 c.turn, .int .i64 c.hoist, .int .i64 c.queue, .int .i64 c.resend, .int .i64 c.budget, .bool c.back]) := below_row ((Below.refl _ _).alloc (Nat.le_refl _) _) (Nat.le_refl _) _; have hone := conf_ones A1; have hCopied := bA)
            | (have X' := hCopied; refine wpList_store_row rfl 26 (.tmp 5) (.tmp 18) rfl w1.heap.size #[.int .i64 c.W, .int .i64 c.H, .int .i64 c.height, v1, v2, v3, v4, .int .i64 c.unit, .int .i64 c.accel, .int .i64 c.speed, .int .i64 c.turn, .int .i64 c.hoist, .int .i64 c.queue, .int .i64 c.resend, .int .i64 c.budget, .bool c.back] rfl rfl 26 #[.int .i64 0, .int .i64 0, .int .i64 0, .slice none 0 0, .slice none 0 0, .slice none 0 0, .slice none 0 0, .int .i64 0, .int .i64 0, .int .i64 0, .int .i64 0, .int .i64 0, .int .i64 0, .int .i64 0, .int .i64 0, .bool false] (heap_alloc_new w1 _) info_conf rfl hone ?_; have hD : ((w1.alloc (.cells #[.int .i64 0, .int .i64 0, .int .i64 0, .slice none 0 0, .slice none 0 0, .slice none 0 0, .slice none 0 0, .int .i64 0, .int .i64 0, .int .i64 0, .int .i64 0, .int .i64 0, .int .i64 0, .int .i64 0, .int .i64 0, .bool false] 26)).setRow w1.heap.size #[.int .i64 c.W, .int .i64 c.H, .int .i64 c.height, v1, v2, v3, v4, .int .i64 c.unit, .int .i64 c.accel, .int .i64 c.speed, .int .i64 c.turn, .int .i64 c.hoist, .int .i64 c.queue, .int .i64 c.resend, .int .i64 c.budget, .bool c.back]).heap[w1.heap.size]? = some (.cells #[.int .i64 c.W, .int .i64 c.H, .int .i64 c.height, v1, v2, v3, v4, .int .i64 c.unit, .int .i64 c.accel, .int .i64 c.speed, .int .i64 c.turn, .int .i64 c.hoist, .int .i64 c.queue, .int .i64 c.resend, .int .i64 c.budget, .bool c.back] 26 (0, 0)) := setRow_heap _ _ _ _ _ _ (heap_alloc_new w1 _); have A2 := A1.go since_lt bA; have R1 := Q1.go bA)
            | (go_at_call 7; refine (cN A2 bA.size).mono ?_; rintro e w2 ⟨K, ps, rfl, S2, hb2, hg2, hat2, hpm2, b2⟩; have Q2 := R1.go b2)
            | (go_at_call 6; refine (cS _ Q2.below).mono ?_; rintro e w3 ⟨r3, rfl, rfl, b3⟩; have Q3 := Q2.go b3)
            | (go_at_call 9; refine (cM _ Q3.below).mono ?_; rintro e w4 ⟨r4, rfl, rfl, b4⟩; have Q4 := Q3.go b4)
            | (go_at_call 10; refine (awake8_any _).mono ?_; rintro e w9 ⟨r9, rfl, rfl, b9⟩))
      go_ret
      exact ⟨rfl, bcat Q4.below b9 (Nat.le_refl _)⟩
    · rw [hs] at cS
      have HL5 : Hid (∀ s ∈ c.stacks, s.2.length ≤ 17592186044416) := l5
      have hl4 := l4
      clear hA L hN hAu l1 l2 l3 l5
      obtain ⟨pn, hpn⟩ : ∃ n : Nat, place most 40 = n := ⟨(place most 40).toNat, by have := (place_bd most 40 (by decide)).1; omega⟩
      have hpb : pn < 40 := by have := (place_bd most 40 (by decide)).2; omega
      have cPL := fun u => place_any most 40 u (by decide) (by decide)
      rw [hpn] at cPL
      clear hpn
      go_enter Try.func5, Try.ntmps5
      go_upto_region 5 with (first
            | (have X' := Q3; refine wpList_load_row rfl 26 (.tmp 2) rfl w.heap.size rfl 26 #[.int .i64 c.W, .int .i64 c.H, .int .i64 c.height, vb, vp, vr, vs, .int .i64 c.unit, .int .i64 c.accel, .int .i64 c.speed, .int .i64 c.turn, .int .i64 c.hoist, .int .i64 c.queue, .int .i64 c.resend, .int .i64 c.budget, .bool c.back] (0, 0) _ Q3.a Try.underlying26 rfl info_conf ?_)
            | (have X' := Q2; refine wpList_load_row rfl 26 (.tmp 2) rfl w.heap.size rfl 26 #[.int .i64 c.W, .int .i64 c.H, .int .i64 c.height, vb, vp, vr, vs, .int .i64 c.unit, .int .i64 c.accel, .int .i64 c.speed, .int .i64 c.turn, .int .i64 c.hoist, .int .i64 c.queue, .int .i64 c.resend, .int .i64 c.budget, .bool c.back] (0, 0) _ Q2.a Try.underlying26 rfl info_conf ?_)
            | (have X' := hD; refine wpList_load_row rfl 26 (.tmp 5) rfl w1.heap.size rfl 26 #[.int .i64 c.W, .int .i64 c.H, .int .i64 c.height, v1, v2, v3, v4, .int .i64 c.unit, .int .i64 c.accel, .int .i64 c.speed, .int .i64 c.turn, .int .i64 c.hoist, .int .i64 c.queue, .int .i64 c.resend, .int .i64 c.budget, .bool c.back] (0, 0) _ hD Try.underlying26 rfl info_conf ?_)
            | (refine wpList_load_row rfl 26 (.tmp 2) rfl w.heap.size rfl 26 #[.int .i64 c.W, .int .i64 c.H, .int .i64 c.height, vb, vp, vr, vs, .int .i64 c.unit, .int .i64 c.accel, .int .i64 c.speed, .int .i64 c.turn, .int .i64 c.hoist, .int .i64 c.queue, .int .i64 c.resend, .int .i64 c.budget, .bool c.back] (0, 0) _ Q0.a Try.underlying26 rfl info_conf ?_)
            | (go_at_call 8; refine (cC _ Q0.below).mono ?_; rintro e w1 ⟨r1, rfl, ⟨v1, v2, v3, v4, rfl, A1, ys4, T4⟩, b1⟩; have Q1 := Q0.go b1; have bA : Below w1.heap.size w1 ((w1.alloc (.cells #[.int .i64 0, .int .i64 0, .int .i64 0, .slice none 0 0, .slice none 0 0, .slice none 0 0, .slice none 0 0, .int .i64 0, .int .i64 0, .int .i64 0, .int .i64 0, .int .i64 0, .int .i64 0, .int .i64 0, .int .i64 0, .bool false] 26)).setRow w1.heap.size #[.int .i64 c.W, .int .i64 c.H, .int .i64 c.height, v1, v2, v3, v4, .int .i64 c.unit, .int .i64 c.accel, .int .i64 c.speed, .int .i64 c.turn, .int .i64 c.hoist, .int .i64 c.queue, .int .i64 c.resend, .int .i64 c.budget, .bool c.back]) := below_row ((Below.refl _ _).alloc (Nat.le_refl _) _) (Nat.le_refl _) _; have hone := conf_ones A1; have hCopied := bA)
            | (have X' := hCopied; refine wpList_store_row rfl 26 (.tmp 5) (.tmp 18) rfl w1.heap.size #[.int .i64 c.W, .int .i64 c.H, .int .i64 c.height, v1, v2, v3, v4, .int .i64 c.unit, .int .i64 c.accel, .int .i64 c.speed, .int .i64 c.turn, .int .i64 c.hoist, .int .i64 c.queue, .int .i64 c.resend, .int .i64 c.budget, .bool c.back] rfl rfl 26 #[.int .i64 0, .int .i64 0, .int .i64 0, .slice none 0 0, .slice none 0 0, .slice none 0 0, .slice none 0 0, .int .i64 0, .int .i64 0, .int .i64 0, .int .i64 0, .int .i64 0, .int .i64 0, .int .i64 0, .int .i64 0, .bool false] (heap_alloc_new w1 _) info_conf rfl hone ?_; have hD : ((w1.alloc (.cells #[.int .i64 0, .int .i64 0, .int .i64 0, .slice none 0 0, .slice none 0 0, .slice none 0 0, .slice none 0 0, .int .i64 0, .int .i64 0, .int .i64 0, .int .i64 0, .int .i64 0, .int .i64 0, .int .i64 0, .int .i64 0, .bool false] 26)).setRow w1.heap.size #[.int .i64 c.W, .int .i64 c.H, .int .i64 c.height, v1, v2, v3, v4, .int .i64 c.unit, .int .i64 c.accel, .int .i64 c.speed, .int .i64 c.turn, .int .i64 c.hoist, .int .i64 c.queue, .int .i64 c.resend, .int .i64 c.budget, .bool c.back]).heap[w1.heap.size]? = some (.cells #[.int .i64 c.W, .int .i64 c.H, .int .i64 c.height, v1, v2, v3, v4, .int .i64 c.unit, .int .i64 c.accel, .int .i64 c.speed, .int .i64 c.turn, .int .i64 c.hoist, .int .i64 c.queue, .int .i64 c.resend, .int .i64 c.budget, .bool c.back] 26 (0, 0)) := setRow_heap _ _ _ _ _ _ (heap_alloc_new w1 _); have A2 := A1.go since_lt bA; have R1 := Q1.go bA)
            | (go_at_call 7; refine (cN A2 bA.size).mono ?_; rintro e w2 ⟨K, ps, rfl, S2, hb2, hg2, hat2, hpm2, b2⟩; have Q2 := R1.go b2)
            | (go_at_call 6; refine (cS _ Q2.below).mono ?_; rintro e w3 ⟨r3, rfl, rfl, b3⟩; have Q3 := Q2.go b3)
            | (go_at_call 9; refine (cM _ Q3.below).mono ?_; rintro e w4 ⟨r4, rfl, rfl, b4⟩; have Q4 := Q3.go b4)
            | (go_at_call 10; refine (awake8_any _).mono ?_; rintro e w9 ⟨r9, rfl, rfl, b9⟩))
      obtain ⟨a4, c4, hv4, _, _⟩ := own_form3 T4.own
      obtain ⟨n4, hn4⟩ : ∃ n, ys4.length = n := ⟨_, rfl⟩
      have hn4b : n4 ≤ 3518437208880 := by rw [← hn4, T4.len]; exact hl4
      rw [hn4] at hv4
      subst hv4
      have HT4 : Hid (Told ((w.alloc (.cells #[.int .i64 c.W, .int .i64 c.H, .int .i64 c.height, vb, vp, vr, vs, .int .i64 c.unit, .int .i64 c.accel, .int .i64 c.speed, .int .i64 c.turn, .int .i64 c.hoist, .int .i64 c.queue, .int .i64 c.resend, .int .i64 c.budget, .bool c.back] 26)).heap.size + 2) c.stacks (.slice a4 n4 c4) w1 ys4 ∧ ys4.length = n4) := ⟨T4, hn4⟩
      obtain ⟨Nd, hNd⟩ : ∃ n, (w.alloc (.cells #[.int .i64 c.W, .int .i64 c.H, .int .i64 c.height, vb, vp, vr, vs, .int .i64 c.unit, .int .i64 c.accel, .int .i64 c.speed, .int .i64 c.turn, .int .i64 c.hoist, .int .i64 c.queue, .int .i64 c.resend, .int .i64 c.budget, .bool c.back] 26)).heap.size + 2 = n := ⟨_, rfl⟩
      have HNd : Hid (w.heap.size ≤ Nd) := by show _ ≤ _; rw [← hNd]; simp only [World.size_alloc]; omega
      rw [hNd] at HT4
      have hszA : ((w1.alloc (.cells #[.int .i64 0, .int .i64 0, .int .i64 0, .slice none 0 0, .slice none 0 0, .slice none 0 0, .slice none 0 0, .int .i64 0, .int .i64 0, .int .i64 0, .int .i64 0, .int .i64 0, .int .i64 0, .int .i64 0, .int .i64 0, .bool false] 26)).setRow w1.heap.size #[.int .i64 c.W, .int .i64 c.H, .int .i64 c.height, v1, v2, v3, .slice a4 n4 c4, .int .i64 c.unit, .int .i64 c.accel, .int .i64 c.speed, .int .i64 c.turn, .int .i64 c.hoist, .int .i64 c.queue, .int .i64 c.resend, .int .i64 c.budget, .bool c.back]).heap.size = w1.heap.size + 1 := by rw [setRow_size]; simp
      rw [hszA] at hb2 hg2
      have HKV : Hid (w1.heap.size ≤ K.b0 ∧ w1.heap.size ≤ K.g ∧ w1.heap.size ≤ K.u ∧ ∀ k, K.vp.ownBlock = some k → w1.heap.size ≤ k) := ⟨by omega, by omega, by omega, fun k hk => by have := hg2.2.2 k hk; omega⟩
      have HD2 : Hid (w2.heap[w1.heap.size]? = some (.cells #[.int .i64 c.W, .int .i64 c.H, .int .i64 c.height, v1, v2, v3, .slice a4 n4 c4, .int .i64 c.unit, .int .i64 c.accel, .int .i64 c.speed, .int .i64 c.turn, .int .i64 c.hoist, .int .i64 c.queue, .int .i64 c.resend, .int .i64 c.budget, .bool c.back] 26 (0, 0))) := (b2.block _ (lt_of_heap hD)).trans hD
      have HS2 : Hid (StAt K c G.uses ps (List.replicate c.robots.length 0) w2) := S2
      have HQ2 : Hid (Below w.heap.size w w2) := Q2.below
      have HB12 : Hid (Below w1.heap.size w1 w2) := bcat bA b2 (Nat.le_refl _)
      have HB23 : Hid (Below w2.heap.size w2 w3) := b3
      have h12 := lt_of_heap HD2.out
      obtain ⟨TT, hTT⟩ : ∃ l, tellT c G.uses ps ps.length = l := ⟨_, rfl⟩
      have HTT : Hid (tellT c G.uses ps ps.length = TT) := hTT
      obtain ⟨nT, hnT⟩ : ∃ n, TT.length = n := ⟨_, rfl⟩
      have hnT2 : nT ≤ 256 := by rw [← hnT, ← hTT]; exact Nat.le_trans (tell_len _ _ _ _) S2.lens
      have HnT : Hid (TT.length = nT) := hnT
      have HLS : Hid (∀ s ∈ TT, s.2.length ≤ 8) := fun s hs => by
        rw [← hTT] at hs
        unfold tellT at hs
        obtain ⟨p, hp, rfl⟩ := List.mem_map.1 hs
        obtain ⟨hp2, _⟩ := List.mem_filter.1 hp
        obtain ⟨i, hi, e⟩ := List.getElem_of_mem (List.mem_of_mem_take hp2)
        exact S2.small i p (by rw [List.getElem?_eq_getElem hi, e])
      have HOP : Hid (∀ s ∈ TT, openU c.W c.H G.uses s.1 = true) := fun s hs => tell_open (k := ps.length) (by rw [hTT]; exact hs)
      have cT : Hid (∀ u, Below w2.heap.size w2 u → ∀ k : Nat, 1 ≤ k → k ≤ 1000 → Calls Try.prog 27 #[.pointer (some ⟨K.s, 0, none⟩), .int .i64 (k : Nat)] u fun e w' => ∃ v, e = .returned v ∧ (∃ ys, Told (u.heap.size + 3) (TT.take k) v w' ys) ∧ Below u.heap.size u w') := fun u b k h1 h2 => by
        have z := told_any (S2.go b) k h1 (by omega)
        rw [hTT] at z
        exact z
      have cT1 := cT.out w3 b3 1000 (by omega) (by omega)
      rw [List.take_of_length_le (by omega)] at cT1
      have cT2 := fun u (b : Below w3.heap.size w3 u) => cT.out u (bcat b3 b (Nat.le_refl _)) (1 + pn) (by omega) (by omega)
      rw [show ((1 + pn : Nat) : Int) = 1 + (pn : Int) from by omega] at cT2
      have hwr : IntKind.i64.wrap (1 + (pn : Int)) = 1 + (pn : Int) := by rw [IntKind.wrap_i64]; omega
      clear hTT hnT T4 hn4 hNd hszA hb2 hg2 hD S2 Q0 Q1 Q2 Q3 R1 A1 A2 b1 b2 b3 bA hone hCopied hat2 hpm2 cC cM cS cN
      obtain ⟨mT, hmT⟩ : ∃ n, min (1 + pn) nT = n := ⟨_, rfl⟩
      have hmT2 : mT ≤ nT := by omega
      have hmT3 : min (1 + (pn : Int)) (nT : Int) = (mT : Int) := by omega
      have HTM : Hid (TT.take (1 + pn) = TT.take mT) := by
        show TT.take (1 + pn) = TT.take mT
        rw [← hmT, ← HnT.out]
        by_cases hq : 1 + pn ≤ TT.length
        · rw [Nat.min_eq_left hq]
        · rw [Nat.min_eq_right (by omega), List.take_length, List.take_of_length_le (by omega)]
      go_upto_region 11 with (first
        | (have X' := TA; go_at_call 27; refine (cT2 _ b4).mono ?_; rintro e w5 ⟨vL, rfl, ⟨ysL, TL⟩, b5⟩; obtain ⟨aL, cL, hvL, _, _⟩ := own_form3 TL.own; obtain ⟨nL, hnL⟩ : ∃ n, ysL.length = n := ⟨_, rfl⟩; rw [hnL] at hvL; subst hvL; have LL := TL.list; have LA5 := (LA.go heldStack since_lt b5))
        | (go_at_call 27; refine cT1.mono ?_; rintro e w4 ⟨vA, rfl, ⟨ysA, TA⟩, b4⟩; obtain ⟨aA, cA, hvA, hcA, h0A⟩ := own_form3 TA.own; rw [TA.len, HnT.out] at hvA hcA h0A; subst hvA; have LA := TA.list)
        | (go_at_call 12; refine (cPL _).mono ?_; rintro e wp ⟨rfl, hwp⟩; rw [hwp]; clear hwp wp)
        | (have X' := TL; at_builtin; refine wpList_val_wantO (by kernel_rfl) (.int .i64 (mT : Int)) (run_min_op (.tmp 53) (.tmp 55) rfl rfl (1 + (pn : Int)) (nT : Int) rfl rfl _ hmT3) ?_; have HMn := hmT3)
        | (have X' := HMn; refine wpList_val_wantO (by kernel_rfl) (.slice aA mT cA) (run_take2_op (.tmp 52) (.tmp 56) rfl _ _ _ rfl rfl (run_take2 aA nT cA mT (Nat.le_trans hmT2 hcA) h0A _)) ?_)
        | (go_at_call 28; refine (sameStacks_any _ _ (TT.take (1 + pn)) (TT.take mT) _ _ _ LL (list_takeS LA5 mT cA (by rw [HnT.out]; exact hmT2) (fun e => (h0A e).2)) since_lt (fun b hb => Nat.lt_of_lt_of_le (since_lt b hb) b5.size) (by rw [List.length_take]; omega) (by rw [List.length_take]; omega) (fun s hs => by have := HLS.out s (List.mem_of_mem_take hs); omega) (fun s hs => by have := HLS.out s (List.mem_of_mem_take hs); omega)).mono ?_; rintro e w6 ⟨r6, rfl, hr6, b6⟩; rw [HTM.out, decide_eq_true rfl] at hr6; subst hr6)
        | (go_at_call 29; refine (copyStacksO_any _ TT _ _ (LA5.go heldStack (fun b hb => Nat.lt_of_lt_of_le (since_lt b hb) b5.size) b6) (fun b hb => Nat.lt_of_lt_of_le (since_lt b hb) (Nat.le_trans b5.size b6.size)) (by rw [HnT.out]; omega) (fun s hs => by have := HLS.out s hs; omega)).mono ?_; rintro e w7 ⟨vW, rfl, ⟨ysW, TW⟩, b7⟩))
      have HTW : Hid (Told w6.heap.size TT vW w7 ysW) := TW
      obtain ⟨N5, hN5⟩ : ∃ n, w4.heap.size + 3 = n := ⟨_, rfl⟩
      rw [hN5] at TL
      have HTL : Hid (Told N5 (TT.take (1 + pn)) (.slice aL nL cL) w5 ysL) := TL
      have HH5 : Hid (Hdr N5 (.slice aL nL cL) w5 ysL) := TL.hdr
      have hlnT : (TT.take (1 + pn)).length ≤ nT := by rw [List.length_take, HnT.out]; omega
      have hLn : nL ≤ nT := by rw [← hnL, TL.len]; exact hlnT
      have HnL : Hid ((TT.take (1 + pn)).length = nL) := by rw [← hnL]; exact TL.len.symm
      have z23 := HB23.out.size
      have z4 := b4.size
      have z5 := b5.size
      have z6 := b6.size
      have z7 := b7.size
      have HSZ : Hid (w1.heap.size < w2.heap.size ∧ w2.heap.size ≤ N5 ∧ N5 ≤ w5.heap.size ∧ w5.heap.size ≤ w6.heap.size ∧ w6.heap.size ≤ w7.heap.size) := ⟨h12, by omega, TL.big, z6, z7⟩
      have HL0 : Hid (La w2 w7 w6.heap.size N5 (.slice aL nL cL) ysL w7) := ⟨bcat HB23.out (b4.trans ((b5.trans ((b6.trans (b7.mono z6)).mono z5)).mono z4)) (Nat.le_refl _), fun _ _ _ => rfl, Nat.le_refl _, (TL.hdr.go b6).go b7⟩
      clear TL TA TW LA LA5 LL b4 b5 b6 b7 hcA h0A hN5 hnL hmT hmT2 hmT3 hlnT z23 z4 z5 z6 z7 h12 cT1 cT2 cPL hwr
      go_wp2_with fail
      go_loopw [11] (fun v wq => ∃ k : Nat, k ≤ nL ∧ v = .int .i64 k ∧ Hid (La w2 w7 w6.heap.size N5 (.slice aL nL cL) ysL wq)) (fun v _ => nL - (intOf v).toNat)
      case atStart => exact ⟨0, Nat.zero_le _, rfl, HL0⟩
      case round =>
        clear HL0
        obtain ⟨k, hk, rfl, HL⟩ := hrel
        by_cases hlt : k < nL
        · obtain ⟨ba, bn, bc, hy, hbn⟩ := HTL.out.nums (i := k) (by rw [HnL.out]; exact hlt)
          have hmem : (TT.take (1 + pn))[k]'(by rw [HnL.out]; exact hlt) ∈ TT := List.mem_of_mem_take (List.getElem_mem _)
          have hop := HOP.out _ hmem
          have hbs := HLS.out _ hmem
          rw [← hbn] at hbs
          clear hbn hmem
          generalize ((TT.take (1 + pn))[k]'(by rw [HnL.out]; exact hlt)).1 = xc at *
          obtain ⟨x, y⟩ := xc
          have HY : Hid (ysL[k]? = some ((x, y), ba, bn, bc)) := hy
          have HOQ : Hid (openU c.W c.H G.uses (x, y) = true) := hop
          obtain ⟨g, rfl⟩ := HL.out.hdr.form rfl (show 0 < nL by omega)
          clear hy hop
          go_wp2_with fail
          go_loopw [12] (fun v wq => ∃ j : Nat, j ≤ bn ∧ v = .int .i64 j ∧ Hid (La w2 w7 w6.heap.size N5 (.slice (some ⟨g, 0, none⟩) nL cL) ysL wq)) (fun v _ => bn - (intOf v).toNat)
          case atStart => exact ⟨0, Nat.zero_le _, rfl, HL⟩
          case round =>
            clear HL
            obtain ⟨j, hj, rfl, HL⟩ := hrel
            obtain ⟨hr0, hr1, hr2, _, _⟩ := HL.out.hdr.row rfl HY.out
            by_cases hlt2 : j < bn
            · obtain ⟨gb, rfl, hg1, hg2, hne, ⟨z, hz⟩, hfz⟩ := HL.out.hdr.bin HY.out hlt2
              obtain ⟨gb5, he5, _, hg5, _⟩ := HH5.out.bin HY.out hlt2
              have he6 : gb = gb5 := by cases he5; rfl
              have HL2 : Hid (La w2 w7 w6.heap.size N5 (.slice (some ⟨g, 0, none⟩) nL cL) ysL (wr.setCell ⟨gb, j, none⟩ (.int .i64 (-5)))) := HL.out.set (by have := HSZ.out; omega) (Or.inl (by have := HSZ.out; omega)) hne j (-5)
              clear hg1 hg2 hne hg5 he5 he6 HL
              go_wp2_with fail
              go_roundw
              case rel => exact ⟨j + 1, by omega, by go_num, HL2⟩
              case measure => simp [intOf]; omega
            · obtain rfl : bn = j := by omega
              have SQ := HS2.out.go HL.out.low
              obtain ⟨kk, p, hkk, _, _, hp, hpx⟩ := SQ.num (open_inO HOQ.out)
              have cAT := at_yes SQ x y HOQ.out hkk hp
              have hsm := SQ.small _ _ hp
              have hcell : ∀ jj zz, #[Value.int .i64 x, .int .i64 y][jj]? = some zz → wr.cell? ((⟨g, k * 3, none⟩ : Addr).add jj) = some zz := fun jj zz hjj => by
                rw [Addr.add_lit]
                match jj with
                | 0 => simp at hjj; rw [← hjj]; exact hr0
                | 1 => simp at hjj; rw [← hjj]; exact hr1
                | jj + 2 => simp at hjj
              obtain ⟨wrS, hwrS⟩ : ∃ n, wr.heap.size = n := ⟨_, rfl⟩
              have HZ7 : Hid (w7.heap.size ≤ wrS ∧ N5 ≤ g ∧ g < w7.heap.size) := ⟨by rw [← hwrS]; exact HL.out.big, (HH5.out.own.lt g rfl).1, by have := (HH5.out.own.lt g rfl).2; have := HSZ.out; omega⟩
              clear SQ hkk hp hpx hr0 hr1
              go_wp2_with (first
                | (refine wpList_load_at rfl 39 (.tmp 89) rfl ⟨g, k * 3, none⟩ rfl #[.int .i64 x, .int .i64 y] hcell (aggCell _) infoCell2 ?_)
                | (go_at_call 22; refine cAT.mono ?_; rintro e wt ⟨vB, rfl, own9, b9⟩; obtain ⟨aB, cB, hvB, _⟩ := own_form own9; obtain ⟨nB, hnB⟩ : ∃ n, p.2.2.length = n := ⟨_, rfl⟩; rw [hnB] at hvB own9 hsm; subst hvB; have HLt : Hid (La w2 w7 w6.heap.size N5 (.slice (some ⟨g, 0, none⟩) nL cL) ysL wt) := HL.out.go b9; have HOw : Hid (∃ xs, wt.ownsRow wrS 3 1 (.slice aB nB cB) nB xs) := ⟨_, by rw [← hwrS]; exact own9⟩))
              clear own9 b9 hnB hwrS cAT hcell hr2 HL
              go_loopw [14] (fun v wq => ∃ i : Nat, i ≤ nB ∧ v = .int .i64 i ∧ Hid (La w2 w7 w6.heap.size N5 (.slice (some ⟨g, 0, none⟩) nL cL) ysL wq) ∧ Hid (∃ xs, wq.ownsRow wrS 3 1 (.slice aB nB cB) nB xs)) (fun v _ => nB - (intOf v).toNat)
              case atStart => exact ⟨0, Nat.zero_le _, rfl, HLt, HOw⟩
              case round =>
                clear HLt HOw
                obtain ⟨i, hi, rfl, HLt, HOw⟩ := hrel
                by_cases hlt3 : i < nB
                · obtain ⟨xs, o⟩ := HOw.out
                  obtain ⟨gB, rfl⟩ : ∃ gB, aB = some ⟨gB, 0, none⟩ := by
                    rcases o.2 with ⟨hv, h0⟩ | ⟨g', cap', cur, hv, _⟩
                    · omega
                    · injection hv with h1 h2 h3; exact ⟨g', h1⟩
                  have hlo := o.lt gB rfl
                  obtain ⟨zz, hzz⟩ : ∃ zz, xs[i]? = some zz := ⟨_, List.getElem?_eq_getElem (by have := o.1; omega)⟩
                  have hz : wr.cell? ⟨gB, i, none⟩ = some zz := by rw [o.cellAt i (by omega)]; exact hzz
                  have hfz : wr.frozen? ⟨gB, i, none⟩ = false := by
                    rcases o.2 with ⟨hv, h0⟩ | ⟨g', cap', cur, hv, _, h2, _⟩
                    · cases hv
                    · cases hv; simp [World.frozen?, h2]
                  have HL9 : Hid (La w2 w7 w6.heap.size N5 (.slice (some ⟨g, 0, none⟩) nL cL) ysL (wr.setCell ⟨gB, i, none⟩ (.int .i64 (-6)))) := HLt.out.set (by have := HSZ.out; have := HZ7.out; omega) (Or.inr (by have := HZ7.out; omega)) (fun e => by have := HZ7.out; injection e with e; simp only at e; omega) i (-6)
                  have HO9 : Hid (∃ xs, (wr.setCell ⟨gB, i, none⟩ (.int .i64 (-6))).ownsRow wrS 3 1 (.slice (some ⟨gB, 0, none⟩) nB cB) nB xs) := by
                    obtain ⟨ys, o2, _⟩ := own_putI o gB i (.int .i64 (-6))
                    exact ⟨ys, o2⟩
                  have hone : zz.oneCell' = true ∨ True := Or.inr trivial
                  clear hlo hzz o HLt HOw hone
                  go_wp2_with fail
                  go_roundw
                  case rel => exact ⟨i + 1, by omega, by go_num, HL9, HO9⟩
                  case measure => simp [intOf]; omega
                · obtain rfl : nB = i := by omega
                  go_wp2_with fail
                  go_roundw
                  case rel => exact ⟨k + 1, by omega, by go_num, HLt⟩
                  case measure => simp [intOf]; omega
        · obtain rfl : nL = k := by omega
          have HM0 : Hid (Lb w w1 w2 w7 w6.heap.size Nd (.slice a4 n4 c4) ys4 wr) := ⟨HQ2.out.trans (HL.out.low.mono HQ2.out.size), fun b _ q => HL.out.low.block b q, HL.out.mid, HL.out.big, (HT4.out.1.hdr.go HB12.out).keep fun b _ q => HL.out.low.block b q⟩
          have HH1 : Hid (Hdr Nd (.slice a4 n4 c4) w1 ys4) := HT4.out.1.hdr
          clear HL hlt hk
          go_wp2_with fail
          go_loopw [15] (fun v wq => ∃ k : Nat, k ≤ n4 ∧ v = .int .i64 k ∧ Hid (Lb w w1 w2 w7 w6.heap.size Nd (.slice a4 n4 c4) ys4 wq)) (fun v _ => n4 - (intOf v).toNat)
          case atStart => exact ⟨0, Nat.zero_le _, rfl, HM0⟩
          case round =>
            clear HM0
            obtain ⟨k, hk, rfl, HM⟩ := hrel
            have yD := cell_of ((HM.out.low _ (Nat.le_refl _) HSZ.out.1).trans HD2.out) 6
            replace yD := yD.trans (show _ = some (Value.slice a4 n4 c4) from rfl)
            by_cases hlt : k < n4
            · obtain ⟨ba, bn, bc, hy, hbn⟩ := HT4.out.1.nums (i := k) (by rw [← HT4.out.1.len, HT4.out.2]; exact hlt)
              generalize (c.stacks[k]'(by rw [← HT4.out.1.len, HT4.out.2]; exact hlt)).1 = xc at *
              have HY : Hid (ys4[k]? = some (xc, ba, bn, bc)) := hy
              obtain ⟨g, rfl⟩ := HM.out.hdr.form rfl (show 0 < n4 by omega)
              have hbnm : bn ≤ 17592186044416 := by rw [hbn]; exact HL5.out _ (List.getElem_mem _)
              have HLT : Hid (k < n4) := hlt
              clear hy hbn
              go_wp2_with fail
              go_loopw [16] (fun v wq => ∃ j : Nat, j ≤ bn ∧ v = .int .i64 j ∧ Hid (Lb w w1 w2 w7 w6.heap.size Nd (.slice (some ⟨g, 0, none⟩) n4 c4) ys4 wq)) (fun v _ => bn - (intOf v).toNat)
              case atStart => exact ⟨0, Nat.zero_le _, rfl, HM⟩
              case round =>
                clear HM yD
                obtain ⟨j, hj, rfl, HM⟩ := hrel
                have yD := cell_of ((HM.out.low _ (Nat.le_refl _) HSZ.out.1).trans HD2.out) 6
                replace yD := yD.trans (show _ = some (Value.slice (some ⟨g, 0, none⟩) n4 c4) from rfl)
                obtain ⟨hr0, hr1, hr2, _, _⟩ := HM.out.hdr.row rfl HY.out
                by_cases hlt2 : j < bn
                · obtain ⟨gb, rfl, hg1, hg2, hne, ⟨z, hz⟩, hfz⟩ := HM.out.hdr.bin HY.out hlt2
                  obtain ⟨gb5, he5, _, hg5, _⟩ := HH1.out.bin HY.out hlt2
                  have he6 : gb = gb5 := by cases he5; rfl
                  have HM2 : Hid (Lb w w1 w2 w7 w6.heap.size Nd (.slice (some ⟨g, 0, none⟩) n4 c4) ys4 (wr.setCell ⟨gb, j, none⟩ (.int .i64 (-7)))) := HM.out.set (by have := HNd.out; omega) (by omega) (by have := HSZ.out; omega) hne j (-7)
                  clear hg1 hg2 hne hg5 he5 he6 HM hr0 hr1
                  go_wp2_with fail
                  go_roundw
                  case rel => exact ⟨j + 1, by omega, by go_num, HM2⟩
                  case measure => simp [intOf]; omega
                · obtain rfl : bn = j := by omega
                  clear hr0 hr1
                  have hlt9 := HLT.out
                  go_wp2_with fail
                  go_roundw
                  case rel => exact ⟨k + 1, HLT.out, by go_num, HM⟩
                  case measure => simp [intOf]; omega
            · obtain rfl : n4 = k := by omega
              have SQ : StAt K c G.uses ps (List.replicate c.robots.length 0) wr := HS2.out.sameO HKV.out.1 HKV.out.2 (Nat.le_trans (by have := HSZ.out; omega) HM.out.big) HM.out.low
              have TQ : Told w6.heap.size TT vW wr ysW := HTW.out.keep HM.out.big fun b h1 h2 => HM.out.mid b h1 h2
              have cZ := told_any SQ 1000 (by decide) (by decide)
              rw [HTT.out, List.take_of_length_le (by rw [HnT.out]; omega)] at cZ
              clear SQ
              go_wp2_with (first
                | (go_at_call 27; refine cZ.mono ?_; rintro e w8 ⟨vZ, rfl, ⟨ysZ, TZ⟩, b8⟩; have TQ8 := TQ.keep b8.size (fun b _ q => b8.block b q))
                | (have X' := TQ8; go_at_call 28; refine (sameStacks_any _ _ TT TT _ _ _ TZ.list TQ8.list since_lt since_lt (by rw [HnT.out]; omega) (by rw [HnT.out]; omega) (fun s hs => by have := HLS.out s hs; omega) (fun s hs => by have := HLS.out s hs; omega)).mono ?_; rintro e wy ⟨ry, rfl, hry, by_⟩; rw [decide_eq_true rfl] at hry; subst hry)
                | (go_at_call 10; refine (awake8_any _).mono ?_; rintro e w9 ⟨r9, rfl, rfl, b9⟩))
              go_ret
              exact ⟨rfl, bcat (bcat (bcat HM.out.bel b8 (Nat.le_refl _)) by_ (Nat.le_refl _)) b9 (Nat.le_refl _)⟩
end Go.Proofs.Ytabbdclpjghdbaa.Stk
