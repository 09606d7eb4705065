/-
  The chapter's own answer, further: whether a move is legal, the whole of it.
-/
import Derived.Test.YtnaojlngdfolaaaGridRLegal
namespace Go.Proofs.Ytnaojlngdfolaaa.Grid
set_option linter.unusedVariables false
set_option linter.unusedSimpArgs false
open Go Go.RowKit Go.Shelf Go.Proofs
attribute [local go_sem] Oper.semAt_some

theorem square_any (x y : Int) (d : Bool) (h1 : 0 ≤ x) (h2 : x ≤ 100) (h3 : 0 ≤ y) (h4 : y ≤ 100) (w : World) : Calls Try.prog 129 #[.agg #[.int .i64 x, .int .i64 y, .bool d]] w fun e w' => ∃ r, e = .returned r ∧
    (∃ g, r = .slice (some ⟨g, 0, none⟩) 4 4 ∧ w.heap.size ≤ g ∧ w'.heap[g]? = some (.cells #[.int .i64 x, .int .i64 y, .int .i64 (x + 1), .int .i64 y, .int .i64 x, .int .i64 (y + 1), .int .i64 (x + 1), .int .i64 (y + 1)] 28 (0, 0))) ∧ Below w.heap.size w w' := by
  go_enter Try.func129, Try.ntmps129
  go_wp2
  go_ret
  exact ⟨_, rfl, ⟨_, rfl, by simp, heap_new2 _ _ _⟩, below_two _ _ _⟩
def sq (x y : Int) : Nat → Cell
  | 0 => (x, y)
  | 1 => (x + 1, y)
  | 2 => (x, y + 1)
  | _ => (x + 1, y + 1)
theorem sq_at {w u : World} {g : Nat} {x y : Int} (h : w.heap[g]? = some (.cells #[.int .i64 x, .int .i64 y, .int .i64 (x + 1), .int .i64 y, .int .i64 x, .int .i64 (y + 1), .int .i64 (x + 1), .int .i64 (y + 1)] 28 (0, 0))) (hu : Below w.heap.size w u) (k : Nat) (hk : k < 4) :
    ∀ j z, #[Value.int .i64 (sq x y k).1, .int .i64 (sq x y k).2][j]? = some z → u.cell? (((⟨g, 0, none⟩ : Addr).add (k * 2)).add j) = some z := by
  intro j z hj
  have h' := (hu.block _ (lt_of_heap h)).trans h
  rw [Addr.add_lit, Addr.add_lit, cell_of h']
  match k, hk with
  | 0, _ => match j with
    | 0 => simpa [sq] using hj
    | 1 => simpa [sq] using hj
    | j + 2 => simp at hj
  | 1, _ => match j with
    | 0 => simpa [sq] using hj
    | 1 => simpa [sq] using hj
    | j + 2 => simp at hj
  | 2, _ => match j with
    | 0 => simpa [sq] using hj
    | 1 => simpa [sq] using hj
    | j + 2 => simp at hj
  | 3, _ => match j with
    | 0 => simpa [sq] using hj
    | 1 => simpa [sq] using hj
    | j + 2 => simp at hj
set_option maxRecDepth 100000 in
set_option maxHeartbeats 4000000 in
theorem rlegal_still3 (c : Conf) (vb vp vr vs : Value) (w : World) (hA : ConfAt (Old w) c vb vp vr vs w) (l1 : c.blocked.length ≤ 8796093022208) (l2 : c.ports.length ≤ 8796093022208) (l3 : c.robots.length ≤ 5864062014805) (l4 : c.stacks.length ≤ 3518437208880) (l5 : ∀ s ∈ c.stacks, s.2.length ≤ 17592186044416) (dir n fx fy tx ty ma me : Int) (fd td : Bool) (hf1 : decide (fitsR c ((fx, fy), fd)) = true) : Calls Try.prog 85 #[.agg #[.int .i64 c.W, .int .i64 c.H, .int .i64 c.height, vb, vp, vr, vs, .int .i64 c.unit, .int .i64 c.accel, .int .i64 c.speed, .int .i64 c.turn, .int .i64 c.hoist, .int .i64 c.queue, .int .i64 c.resend, .int .i64 c.budget, .bool c.back], .agg #[.int .i64 3, .int .i64 dir, .int .i64 n, .int .i64 fx, .int .i64 fy, .bool fd, .int .i64 tx, .int .i64 ty, .bool td, .int .i64 ma, .int .i64 me]] w fun e w' => ∃ r, e = .returned r ∧ (r = .bool (decide (n = 0) && decide (dir = 0) && decide (((tx, ty), td) = ((fx, fy), fd))) ∧ Below w.heap.size w w') := by
  have L := fun (u : World) (b : Below w.heap.size w u) g (hg : Old w g) => Nat.lt_of_lt_of_le hg b.size
  have hAu := fun u (b : Below w.heap.size w u) => hA.go (fun _ h => h) b
  have Q0 := two_new w #[.int .i64 c.W, .int .i64 c.H, .int .i64 c.height, vb, vp, vr, vs, .int .i64 c.unit, .int .i64 c.accel, .int .i64 c.speed, .int .i64 c.turn, .int .i64 c.hoist, .int .i64 c.queue, .int .i64 c.resend, .int .i64 c.budget, .bool c.back] #[.int .i64 3, .int .i64 dir, .int .i64 n, .int .i64 fx, .int .i64 fy, .bool fd, .int .i64 tx, .int .i64 ty, .bool td, .int .i64 ma, .int .i64 me] 56
  have cF := fun u (b : Below w.heap.size w u) => fitsR_any (Old w) c vb vp vr vs fx fy fd u (hAu u b) (L u b) (by omega)
  rw [hf1] at cF
  clear hA L hAu
  have eP := fun w => eqPose4 tx ty td fx fy fd w
  by_cases n0 : n = 0
  · subst n0
    by_cases d0 : dir = 0
    · subst d0
      go_enter Try.func85, Try.ntmps85
      go_wp2_with (first
        | (refine wpList_load_row rfl 26 (.tmp 2) rfl w.heap.size rfl 26 #[.int .i64 c.W, .int .i64 c.H, .int .i64 c.height, vb, vp, vr, vs, .int .i64 c.unit, .int .i64 c.accel, .int .i64 c.speed, .int .i64 c.turn, .int .i64 c.hoist, .int .i64 c.queue, .int .i64 c.resend, .int .i64 c.budget, .bool c.back] (0, 0) _ Q0.a Try.underlying26 rfl info_conf ?_)
        | (go_at_call 75; refine (cF _ Q0.below).mono ?_; rintro e w1 ⟨r1, rfl, rfl, b1⟩; have Q1 := Q0.go b1; have q0 := cell_of Q1.b 0; have q1 := cell_of Q1.b 1; have q2 := cell_of Q1.b 2; have q3 := cell_of Q1.b 3; have q4 := cell_of Q1.b 4; have q5 := cell_of Q1.b 5; have q6 := cell_of Q1.b 6; have q7 := cell_of Q1.b 7; have q8 := cell_of Q1.b 8))
      go_ret
      exact ⟨_, rfl, by simp, Q1.below⟩
    · have d1 : (dir == 0) = false := by rw [beq_eq_false_iff_ne]; exact d0
      go_enter Try.func85, Try.ntmps85
      go_wp2_with (first
        | (refine wpList_load_row rfl 26 (.tmp 2) rfl w.heap.size rfl 26 #[.int .i64 c.W, .int .i64 c.H, .int .i64 c.height, vb, vp, vr, vs, .int .i64 c.unit, .int .i64 c.accel, .int .i64 c.speed, .int .i64 c.turn, .int .i64 c.hoist, .int .i64 c.queue, .int .i64 c.resend, .int .i64 c.budget, .bool c.back] (0, 0) _ Q0.a Try.underlying26 rfl info_conf ?_)
        | (go_at_call 75; refine (cF _ Q0.below).mono ?_; rintro e w1 ⟨r1, rfl, rfl, b1⟩; have Q1 := Q0.go b1; have q0 := cell_of Q1.b 0; have q1 := cell_of Q1.b 1; have q2 := cell_of Q1.b 2; have q3 := cell_of Q1.b 3; have q4 := cell_of Q1.b 4; have q5 := cell_of Q1.b 5; have q6 := cell_of Q1.b 6; have q7 := cell_of Q1.b 7; have q8 := cell_of Q1.b 8))
      go_ret
      exact ⟨_, rfl, by rw [decide_eq_false d0]; simp, Q1.below⟩
  · have n1 : (n == 0) = false := by rw [beq_eq_false_iff_ne]; exact n0
    go_enter Try.func85, Try.ntmps85
    go_wp2_with (first
      | (refine wpList_load_row rfl 26 (.tmp 2) rfl w.heap.size rfl 26 #[.int .i64 c.W, .int .i64 c.H, .int .i64 c.height, vb, vp, vr, vs, .int .i64 c.unit, .int .i64 c.accel, .int .i64 c.speed, .int .i64 c.turn, .int .i64 c.hoist, .int .i64 c.queue, .int .i64 c.resend, .int .i64 c.budget, .bool c.back] (0, 0) _ Q0.a Try.underlying26 rfl info_conf ?_)
      | (go_at_call 75; refine (cF _ Q0.below).mono ?_; rintro e w1 ⟨r1, rfl, rfl, b1⟩; have Q1 := Q0.go b1; have q0 := cell_of Q1.b 0; have q1 := cell_of Q1.b 1; have q2 := cell_of Q1.b 2; have q3 := cell_of Q1.b 3; have q4 := cell_of Q1.b 4; have q5 := cell_of Q1.b 5; have q6 := cell_of Q1.b 6; have q7 := cell_of Q1.b 7; have q8 := cell_of Q1.b 8))
    go_ret
    exact ⟨_, rfl, by rw [decide_eq_false n0]; simp, Q1.below⟩
set_option maxRecDepth 100000 in
set_option maxHeartbeats 4000000 in
theorem rlegal_still4 (c : Conf) (vb vp vr vs : Value) (w : World) (hA : ConfAt (Old w) c vb vp vr vs w) (l1 : c.blocked.length ≤ 8796093022208) (l2 : c.ports.length ≤ 8796093022208) (l3 : c.robots.length ≤ 5864062014805) (l4 : c.stacks.length ≤ 3518437208880) (l5 : ∀ s ∈ c.stacks, s.2.length ≤ 17592186044416) (dir n fx fy tx ty ma me : Int) (fd td : Bool) (hf1 : decide (fitsR c ((fx, fy), fd)) = true) : Calls Try.prog 85 #[.agg #[.int .i64 c.W, .int .i64 c.H, .int .i64 c.height, vb, vp, vr, vs, .int .i64 c.unit, .int .i64 c.accel, .int .i64 c.speed, .int .i64 c.turn, .int .i64 c.hoist, .int .i64 c.queue, .int .i64 c.resend, .int .i64 c.budget, .bool c.back], .agg #[.int .i64 4, .int .i64 dir, .int .i64 n, .int .i64 fx, .int .i64 fy, .bool fd, .int .i64 tx, .int .i64 ty, .bool td, .int .i64 ma, .int .i64 me]] w fun e w' => ∃ r, e = .returned r ∧ (r = .bool (decide (n = 0) && decide (dir = 0) && decide (((tx, ty), td) = ((fx, fy), fd))) ∧ Below w.heap.size w w') := by
  have L := fun (u : World) (b : Below w.heap.size w u) g (hg : Old w g) => Nat.lt_of_lt_of_le hg b.size
  have hAu := fun u (b : Below w.heap.size w u) => hA.go (fun _ h => h) b
  have Q0 := two_new w #[.int .i64 c.W, .int .i64 c.H, .int .i64 c.height, vb, vp, vr, vs, .int .i64 c.unit, .int .i64 c.accel, .int .i64 c.speed, .int .i64 c.turn, .int .i64 c.hoist, .int .i64 c.queue, .int .i64 c.resend, .int .i64 c.budget, .bool c.back] #[.int .i64 4, .int .i64 dir, .int .i64 n, .int .i64 fx, .int .i64 fy, .bool fd, .int .i64 tx, .int .i64 ty, .bool td, .int .i64 ma, .int .i64 me] 56
  have cF := fun u (b : Below w.heap.size w u) => fitsR_any (Old w) c vb vp vr vs fx fy fd u (hAu u b) (L u b) (by omega)
  rw [hf1] at cF
  clear hA L hAu
  have eP := fun w => eqPose4 tx ty td fx fy fd w
  by_cases n0 : n = 0
  · subst n0
    by_cases d0 : dir = 0
    · subst d0
      go_enter Try.func85, Try.ntmps85
      go_wp2_with (first
        | (refine wpList_load_row rfl 26 (.tmp 2) rfl w.heap.size rfl 26 #[.int .i64 c.W, .int .i64 c.H, .int .i64 c.height, vb, vp, vr, vs, .int .i64 c.unit, .int .i64 c.accel, .int .i64 c.speed, .int .i64 c.turn, .int .i64 c.hoist, .int .i64 c.queue, .int .i64 c.resend, .int .i64 c.budget, .bool c.back] (0, 0) _ Q0.a Try.underlying26 rfl info_conf ?_)
        | (go_at_call 75; refine (cF _ Q0.below).mono ?_; rintro e w1 ⟨r1, rfl, rfl, b1⟩; have Q1 := Q0.go b1; have q0 := cell_of Q1.b 0; have q1 := cell_of Q1.b 1; have q2 := cell_of Q1.b 2; have q3 := cell_of Q1.b 3; have q4 := cell_of Q1.b 4; have q5 := cell_of Q1.b 5; have q6 := cell_of Q1.b 6; have q7 := cell_of Q1.b 7; have q8 := cell_of Q1.b 8))
      go_ret
      exact ⟨_, rfl, by simp, Q1.below⟩
    · have d1 : (dir == 0) = false := by rw [beq_eq_false_iff_ne]; exact d0
      go_enter Try.func85, Try.ntmps85
      go_wp2_with (first
        | (refine wpList_load_row rfl 26 (.tmp 2) rfl w.heap.size rfl 26 #[.int .i64 c.W, .int .i64 c.H, .int .i64 c.height, vb, vp, vr, vs, .int .i64 c.unit, .int .i64 c.accel, .int .i64 c.speed, .int .i64 c.turn, .int .i64 c.hoist, .int .i64 c.queue, .int .i64 c.resend, .int .i64 c.budget, .bool c.back] (0, 0) _ Q0.a Try.underlying26 rfl info_conf ?_)
        | (go_at_call 75; refine (cF _ Q0.below).mono ?_; rintro e w1 ⟨r1, rfl, rfl, b1⟩; have Q1 := Q0.go b1; have q0 := cell_of Q1.b 0; have q1 := cell_of Q1.b 1; have q2 := cell_of Q1.b 2; have q3 := cell_of Q1.b 3; have q4 := cell_of Q1.b 4; have q5 := cell_of Q1.b 5; have q6 := cell_of Q1.b 6; have q7 := cell_of Q1.b 7; have q8 := cell_of Q1.b 8))
      go_ret
      exact ⟨_, rfl, by rw [decide_eq_false d0]; simp, Q1.below⟩
  · have n1 : (n == 0) = false := by rw [beq_eq_false_iff_ne]; exact n0
    go_enter Try.func85, Try.ntmps85
    go_wp2_with (first
      | (refine wpList_load_row rfl 26 (.tmp 2) rfl w.heap.size rfl 26 #[.int .i64 c.W, .int .i64 c.H, .int .i64 c.height, vb, vp, vr, vs, .int .i64 c.unit, .int .i64 c.accel, .int .i64 c.speed, .int .i64 c.turn, .int .i64 c.hoist, .int .i64 c.queue, .int .i64 c.resend, .int .i64 c.budget, .bool c.back] (0, 0) _ Q0.a Try.underlying26 rfl info_conf ?_)
      | (go_at_call 75; refine (cF _ Q0.below).mono ?_; rintro e w1 ⟨r1, rfl, rfl, b1⟩; have Q1 := Q0.go b1; have q0 := cell_of Q1.b 0; have q1 := cell_of Q1.b 1; have q2 := cell_of Q1.b 2; have q3 := cell_of Q1.b 3; have q4 := cell_of Q1.b 4; have q5 := cell_of Q1.b 5; have q6 := cell_of Q1.b 6; have q7 := cell_of Q1.b 7; have q8 := cell_of Q1.b 8))
    go_ret
    exact ⟨_, rfl, by rw [decide_eq_false n0]; simp, Q1.below⟩
set_option maxRecDepth 100000 in
set_option maxHeartbeats 4000000 in
theorem rlegal_turn (c : Conf) (vb vp vr vs : Value) (w : World) (hA : ConfAt (Old w) c vb vp vr vs w) (l1 : c.blocked.length ≤ 8796093022208) (l2 : c.ports.length ≤ 8796093022208) (l3 : c.robots.length ≤ 5864062014805) (l4 : c.stacks.length ≤ 3518437208880) (l5 : ∀ s ∈ c.stacks, s.2.length ≤ 17592186044416) (dir n fx fy tx ty ma me : Int) (fd td : Bool) (hf1 : decide (fitsR c ((fx, fy), fd)) = true) (h1 : 0 ≤ fx) (h2 : fx ≤ 100) (h3 : 0 ≤ fy) (h4 : fy ≤ 100) (LB : Bool) (hlb : Hid (((∀ j : Nat, j < 4 → openR c (sq fx fy j)) ∧ n = 0 ∧ dir = 0 ∧ ((tx, ty), td) = ((fx, fy), !fd)) ↔ LB = true)) : Calls Try.prog 85 #[.agg #[.int .i64 c.W, .int .i64 c.H, .int .i64 c.height, vb, vp, vr, vs, .int .i64 c.unit, .int .i64 c.accel, .int .i64 c.speed, .int .i64 c.turn, .int .i64 c.hoist, .int .i64 c.queue, .int .i64 c.resend, .int .i64 c.budget, .bool c.back], .agg #[.int .i64 2, .int .i64 dir, .int .i64 n, .int .i64 fx, .int .i64 fy, .bool fd, .int .i64 tx, .int .i64 ty, .bool td, .int .i64 ma, .int .i64 me]] w fun e w' => ∃ r, e = .returned r ∧ (r = .bool LB ∧ Below w.heap.size w w') := by
  have L := fun (u : World) (b : Below w.heap.size w u) g (hg : Old w g) => Nat.lt_of_lt_of_le hg b.size
  have hAu := fun u (b : Below w.heap.size w u) => hA.go (fun _ h => h) b
  have Q0 := two_new w #[.int .i64 c.W, .int .i64 c.H, .int .i64 c.height, vb, vp, vr, vs, .int .i64 c.unit, .int .i64 c.accel, .int .i64 c.speed, .int .i64 c.turn, .int .i64 c.hoist, .int .i64 c.queue, .int .i64 c.resend, .int .i64 c.budget, .bool c.back] #[.int .i64 2, .int .i64 dir, .int .i64 n, .int .i64 fx, .int .i64 fy, .bool fd, .int .i64 tx, .int .i64 ty, .bool td, .int .i64 ma, .int .i64 me] 56
  have cF := fun u (b : Below w.heap.size w u) => fitsR_any (Old w) c vb vp vr vs fx fy fd u (hAu u b) (L u b) (by omega)
  rw [hf1] at cF
  clear hA
  have cQ := fun u => square_any fx fy fd h1 h2 h3 h4 u
  have eP := fun w => eqPose4 tx ty td fx fy (!fd) w
  go_enter Try.func85, Try.ntmps85
  go_wp2_with (first
    | (refine wpList_load_row rfl 26 (.tmp 2) rfl w.heap.size rfl 26 #[.int .i64 c.W, .int .i64 c.H, .int .i64 c.height, vb, vp, vr, vs, .int .i64 c.unit, .int .i64 c.accel, .int .i64 c.speed, .int .i64 c.turn, .int .i64 c.hoist, .int .i64 c.queue, .int .i64 c.resend, .int .i64 c.budget, .bool c.back] (0, 0) _ Q0.a Try.underlying26 rfl info_conf ?_)
    | (go_at_call 75; refine (cF _ Q0.below).mono ?_; rintro e w1 ⟨r1, rfl, rfl, b1⟩; have Q1 := Q0.go b1; have q0 := cell_of Q1.b 0; have q1 := cell_of Q1.b 1; have q2 := cell_of Q1.b 2; have q3 := cell_of Q1.b 3; have q4 := cell_of Q1.b 4; have q5 := cell_of Q1.b 5; have q6 := cell_of Q1.b 6; have q7 := cell_of Q1.b 7; have q8 := cell_of Q1.b 8)
    | (go_at_call 129; refine (cQ _).mono ?_; rintro e w2 ⟨r2, rfl, ⟨gq, rfl, hgq, hq⟩, b2⟩; have Q2 := Q1.go b2; obtain ⟨p, hp⟩ : ∃ p, (⟨gq, 0, none⟩ : Addr) = p := ⟨_, rfl⟩; rw [hp]))
  have B := Q2.below
  have eB := Q2.b
  have eA := Q2.a
  obtain ⟨IH, hIH⟩ : ∃ I : World → Prop, I = Below w2.heap.size w2 := ⟨_, rfl⟩
  have kI : ∀ u, IH u → Below w2.heap.size w2 u := fun u hu => by rw [hIH] at hu; exact hu
  have hS : IH w2.drew := by rw [hIH]; exact (Below.refl _ _).drew
  have HC : Hid (∀ u, IH u → ∀ j z, #[.int .i64 c.W, .int .i64 c.H, .int .i64 c.height, vb, vp, vr, vs, .int .i64 c.unit, .int .i64 c.accel, .int .i64 c.speed, .int .i64 c.turn, .int .i64 c.hoist, .int .i64 c.queue, .int .i64 c.resend, .int .i64 c.budget, .bool c.back][j]? = some z → u.cell? ((⟨w.heap.size, 0, none⟩ : Addr).add j) = some z) := fun u hu => row_below eA (kI u hu)
  have HRd : Hid (∀ k < 4, ∀ u, IH u → ∀ j z, #[Value.int .i64 (sq fx fy k).1, .int .i64 (sq fx fy k).2][j]? = some z → u.cell? ((p.add (k * 2)).add j) = some z) := by
    intro k hk u hu
    rw [← hp]
    exact sq_at hq (kI u hu) k hk
  have HW0 : Hid (IH w2) := by show IH w2; rw [hIH]; exact Below.refl _ _
  have HB : Hid (∀ u, IH u → u.heap[w.heap.size + 1]? = some (.cells #[.int .i64 2, .int .i64 dir, .int .i64 n, .int .i64 fx, .int .i64 fy, .bool fd, .int .i64 tx, .int .i64 ty, .bool td, .int .i64 ma, .int .i64 me] 56 (0, 0))) := fun u hu => ((kI u hu).block _ (lt_of_heap eB)).trans eB
  clear hq hp eA eB q0 q1 q2 q3 q4 q5 q6 q7 q8
  go_wp2
  go_loopw [7] (fun i wq => ∃ k : Nat, k ≤ 4 ∧ i = .int .i64 k ∧ Hid (∀ j : Nat, j < k → openR c (sq fx fy j)) ∧ Hid (IH wq)) (fun i _ => 4 - (intOf i).toNat)
  case atStart => exact ⟨0, by omega, rfl, fun j a => by omega, HW0⟩
  case round =>
    obtain ⟨k, hk, rfl, HJ, HI⟩ := hrel
    clear HW0
    by_cases hlt : k < 4
    · have HR : Hid (∀ u, IH u → ∀ j z, #[Value.int .i64 (sq fx fy k).1, .int .i64 (sq fx fy k).2][j]? = some z → u.cell? ((p.add (k * 2)).add j) = some z) := HRd.out k hlt
      obtain ⟨⟨cx, cy⟩, hce⟩ : ∃ q, sq fx fy k = q := ⟨_, rfl⟩
      rw [hce] at HR
      simp only at HR
      have cO := fun u (b : Below w.heap.size w u) => openR_any (Old w) c vb vp vr vs cx cy u (hAu u b) (L u b) (by omega)
      by_cases hfk : openR c (cx, cy)
      · rw [decide_eq_true hfk] at cO
        go_wp2
        have Dr : Below w2.heap.size w2 wr.drew := bcat (kI _ HI.out) (Below.refl _ _).drew (Nat.le_refl _)
        have hSd : IH wr.drew := by rw [hIH]; exact Dr
        refine start_held (S := IH) 7 rfl (by kernel_rfl) (hSd) ?_
        simp only [Array.replicate_succ, Array.replicate_zero, List.push_toArray, List.nil_append, List.cons_append]
        refine take_held 0 (by assumption) rfl (by kernel_rfl) (by kernel_rfl) (by kernel_rfl) (fun _ _ _ h => h) (by kernel_rfl) (v := .agg #[.int .i64 c.W, .int .i64 c.H, .int .i64 c.height, vb, vp, vr, vs, .int .i64 c.unit, .int .i64 c.accel, .int .i64 c.speed, .int .i64 c.turn, .int .i64 c.hoist, .int .i64 c.queue, .int .i64 c.resend, .int .i64 c.budget, .bool c.back]) ?y69 ?r69
        case y69 => (intro u hu; exact run_load_op 26 _ rfl ⟨w.heap.size, 0, none⟩ _ rfl (HC.out u hu) (aggConf u) info_conf)
        simp only [Act.put, List.setIfInBounds_toArray, List.set_cons_zero, List.set_cons_succ]
        refine take_held 1 (by assumption) rfl (by kernel_rfl) (by kernel_rfl) (by kernel_rfl) (fun _ _ _ h => h) (by kernel_rfl) (v := ?v70) ?y70 ?r70
        case y70 => (intro u hu; go_simp; try rfl)
        simp only [Act.put, List.setIfInBounds_toArray, List.set_cons_zero, List.set_cons_succ]
        refine take_held 2 (by assumption) rfl (by kernel_rfl) (by kernel_rfl) (by kernel_rfl) (fun _ _ _ h => h) (by kernel_rfl) (v := ?v71) ?y71 ?r71
        case y71 => (intro u hu; go_simp; try rfl)
        simp only [Act.put, List.setIfInBounds_toArray, List.set_cons_zero, List.set_cons_succ]
        refine take_held 3 (by assumption) rfl (by kernel_rfl) (by kernel_rfl) (by kernel_rfl) (fun _ _ _ h => h) (by kernel_rfl) (v := ?v72) ?y72 ?r72
        case y72 => (intro u hu; go_simp; try rfl)
        simp only [Act.put, List.setIfInBounds_toArray, List.set_cons_zero, List.set_cons_succ]
        refine take_held 4 (by assumption) rfl (by kernel_rfl) (by kernel_rfl) (by kernel_rfl) (fun _ _ _ h => h) (by kernel_rfl) (v := .agg #[.int .i64 cx, .int .i64 cy]) ?y73 ?r73
        case y73 => (intro u hu; exact run_load_op 28 _ rfl (p.add (k * 2)) _ rfl (HR.out u hu) (aggCell u) infoCell2)
        simp only [Act.put, List.setIfInBounds_toArray, List.set_cons_zero, List.set_cons_succ]
        refine wpAnyH_ready (rs := [5]) (by kernel_rfl) (by simp) (AllReadyH.cons ((nth_eq _ 5).trans rfl) ?_ AllReadyH.nil)
        intro K' hK
        refine call_in hK (by kernel_rfl) 96 #[.agg #[.int .i64 c.W, .int .i64 c.H, .int .i64 c.height, vb, vp, vr, vs, .int .i64 c.unit, .int .i64 c.accel, .int .i64 c.speed, .int .i64 c.turn, .int .i64 c.hoist, .int .i64 c.queue, .int .i64 c.resend, .int .i64 c.budget, .bool c.back], .agg #[.int .i64 cx, .int .i64 cy]] (by go_simp) _ (cO _ (bcat B Dr (Nat.le_refl _))) ?_
        rintro v w20 ⟨rfl, b20⟩
        have D20 := bcat Dr b20 (Nat.le_refl _)
        have hS20 : IH w20 := by rw [hIH]; exact D20
        refine ⟨hS20, ?_⟩
        simp only [Act.put, List.setIfInBounds_toArray, List.set_cons_zero, List.set_cons_succ]
        refine take_held 6 (by assumption) rfl (by kernel_rfl) (by kernel_rfl) (by kernel_rfl) (fun _ _ _ h => h) (by kernel_rfl) (v := ?v74) ?y74 ?r74
        case y74 => (intro u hu; go_simp; try rfl)
        simp only [Act.put, List.setIfInBounds_toArray, List.set_cons_zero, List.set_cons_succ]
        refine done_held (by kernel_rfl) ?_ _
        have HI9 : Hid (IH w20) := hS20
        go_wp2
        go_roundw
        case rel =>
          refine ⟨k + 1, by omega, by go_num, ?_, HI9⟩
          intro j a
          by_cases e : j = k
          · rw [e, hce]; exact hfk
          · exact HJ.out j (by omega)
        case measure => simp [intOf]; omega
      · rw [decide_eq_false hfk] at cO
        go_wp2
        have Dr : Below w2.heap.size w2 wr.drew := bcat (kI _ HI.out) (Below.refl _ _).drew (Nat.le_refl _)
        have hSd : IH wr.drew := by rw [hIH]; exact Dr
        refine start_held (S := IH) 7 rfl (by kernel_rfl) (hSd) ?_
        simp only [Array.replicate_succ, Array.replicate_zero, List.push_toArray, List.nil_append, List.cons_append]
        refine take_held 0 (by assumption) rfl (by kernel_rfl) (by kernel_rfl) (by kernel_rfl) (fun _ _ _ h => h) (by kernel_rfl) (v := .agg #[.int .i64 c.W, .int .i64 c.H, .int .i64 c.height, vb, vp, vr, vs, .int .i64 c.unit, .int .i64 c.accel, .int .i64 c.speed, .int .i64 c.turn, .int .i64 c.hoist, .int .i64 c.queue, .int .i64 c.resend, .int .i64 c.budget, .bool c.back]) ?y75 ?r75
        case y75 => (intro u hu; exact run_load_op 26 _ rfl ⟨w.heap.size, 0, none⟩ _ rfl (HC.out u hu) (aggConf u) info_conf)
        simp only [Act.put, List.setIfInBounds_toArray, List.set_cons_zero, List.set_cons_succ]
        refine take_held 1 (by assumption) rfl (by kernel_rfl) (by kernel_rfl) (by kernel_rfl) (fun _ _ _ h => h) (by kernel_rfl) (v := ?v76) ?y76 ?r76
        case y76 => (intro u hu; go_simp; try rfl)
        simp only [Act.put, List.setIfInBounds_toArray, List.set_cons_zero, List.set_cons_succ]
        refine take_held 2 (by assumption) rfl (by kernel_rfl) (by kernel_rfl) (by kernel_rfl) (fun _ _ _ h => h) (by kernel_rfl) (v := ?v77) ?y77 ?r77
        case y77 => (intro u hu; go_simp; try rfl)
        simp only [Act.put, List.setIfInBounds_toArray, List.set_cons_zero, List.set_cons_succ]
        refine take_held 3 (by assumption) rfl (by kernel_rfl) (by kernel_rfl) (by kernel_rfl) (fun _ _ _ h => h) (by kernel_rfl) (v := ?v78) ?y78 ?r78
        case y78 => (intro u hu; go_simp; try rfl)
        simp only [Act.put, List.setIfInBounds_toArray, List.set_cons_zero, List.set_cons_succ]
        refine take_held 4 (by assumption) rfl (by kernel_rfl) (by kernel_rfl) (by kernel_rfl) (fun _ _ _ h => h) (by kernel_rfl) (v := .agg #[.int .i64 cx, .int .i64 cy]) ?y79 ?r79
        case y79 => (intro u hu; exact run_load_op 28 _ rfl (p.add (k * 2)) _ rfl (HR.out u hu) (aggCell u) infoCell2)
        simp only [Act.put, List.setIfInBounds_toArray, List.set_cons_zero, List.set_cons_succ]
        refine wpAnyH_ready (rs := [5]) (by kernel_rfl) (by simp) (AllReadyH.cons ((nth_eq _ 5).trans rfl) ?_ AllReadyH.nil)
        intro K' hK
        refine call_in hK (by kernel_rfl) 96 #[.agg #[.int .i64 c.W, .int .i64 c.H, .int .i64 c.height, vb, vp, vr, vs, .int .i64 c.unit, .int .i64 c.accel, .int .i64 c.speed, .int .i64 c.turn, .int .i64 c.hoist, .int .i64 c.queue, .int .i64 c.resend, .int .i64 c.budget, .bool c.back], .agg #[.int .i64 cx, .int .i64 cy]] (by go_simp) _ (cO _ (bcat B Dr (Nat.le_refl _))) ?_
        rintro v w20 ⟨rfl, b20⟩
        have D20 := bcat Dr b20 (Nat.le_refl _)
        have hS20 : IH w20 := by rw [hIH]; exact D20
        refine ⟨hS20, ?_⟩
        simp only [Act.put, List.setIfInBounds_toArray, List.set_cons_zero, List.set_cons_succ]
        refine take_held 6 (by assumption) rfl (by kernel_rfl) (by kernel_rfl) (by kernel_rfl) (fun _ _ _ h => h) (by kernel_rfl) (v := ?v80) ?y80 ?r80
        case y80 => (intro u hu; go_simp; try rfl)
        simp only [Act.put, List.setIfInBounds_toArray, List.set_cons_zero, List.set_cons_succ]
        refine done_held (by kernel_rfl) ?_ _
        have hLf : LB = false := by
          cases LB
          · rfl
          · exact absurd ((hlb.out.2 rfl).1 k hlt) (by rw [hce]; exact hfk)
        go_wp2
        go_ret
        exact ⟨_, rfl, by first | (rw [hLf]; rfl) | rfl, bcat B D20 (Nat.le_refl _)⟩
    · obtain rfl : k = 4 := by omega
      have bI := kI _ HI.out
      have eB := HB.out _ HI.out
      have q1 := cell_of eB 1
      have q2 := cell_of eB 2
      have q3 := cell_of eB 3
      have q4 := cell_of eB 4
      have q5 := cell_of eB 5
      have q6 := cell_of eB 6
      have q7 := cell_of eB 7
      have q8 := cell_of eB 8
      clear cF cQ HC HRd HB eB
      by_cases n0 : n = 0
      · subst n0
        by_cases d0 : dir = 0
        · subst d0
          go_wp2
          go_ret
          refine ⟨.bool (decide (tx = fx) && decide (ty = fy) && decide (td = !fd)), rfl, ?_, bcat B bI (Nat.le_refl _)⟩
          have e : (decide (tx = fx) && decide (ty = fy) && decide (td = !fd)) = LB := by
            rw [Bool.eq_iff_iff, ← hlb.out]
            simp only [Bool.and_eq_true, decide_eq_true_eq]
            constructor
            · rintro ⟨⟨a, b⟩, d⟩
              exact ⟨HJ.out, trivial, trivial, by rw [a, b, d]⟩
            · rintro ⟨_, _, _, q⟩
              simp only [Prod.mk.injEq] at q
              exact ⟨⟨q.1.1, q.1.2⟩, q.2⟩
          rw [e]
        · have d1 : (dir == 0) = false := by rw [beq_eq_false_iff_ne]; exact d0
          have hLf : LB = false := by
            cases LB
            · rfl
            · exact absurd (hlb.out.2 rfl).2.2.1 d0
          go_wp2
          go_ret
          exact ⟨_, rfl, by first | (rw [hLf]; rfl) | rfl, bcat B bI (Nat.le_refl _)⟩
      · have n1 : (n == 0) = false := by rw [beq_eq_false_iff_ne]; exact n0
        have hLf : LB = false := by
          cases LB
          · rfl
          · exact absurd (hlb.out.2 rfl).2.1 n0
        go_wp2
        go_ret
        exact ⟨_, rfl, by first | (rw [hLf]; rfl) | rfl, bcat B bI (Nat.le_refl _)⟩
set_option maxHeartbeats 1000000 in
theorem rlegal_any (c : Conf) (vb vp vr vs : Value) (w : World) (hA : ConfAt (Old w) c vb vp vr vs w) (l1 : c.blocked.length ≤ 8796093022208) (l2 : c.ports.length ≤ 8796093022208) (l3 : c.robots.length ≤ 5864062014805) (l4 : c.stacks.length ≤ 3518437208880) (l5 : ∀ s ∈ c.stacks, s.2.length ≤ 17592186044416) {G : GS} (hN : newP c = some G) (m : Move) : Calls Try.prog 85 #[.agg #[.int .i64 c.W, .int .i64 c.H, .int .i64 c.height, vb, vp, vr, vs, .int .i64 c.unit, .int .i64 c.accel, .int .i64 c.speed, .int .i64 c.turn, .int .i64 c.hoist, .int .i64 c.queue, .int .i64 c.resend, .int .i64 c.budget, .bool c.back], .agg (moveCs m)] w fun e w' => ∃ r, e = .returned r ∧ (r = .bool (legalU c.W c.H G.uses m) ∧ Below w.heap.size w w') := by
  have hsd := limited_sides (new_some hN).1.1
  have hW : c.W ≤ 16 := by omega
  have hH : c.H ≤ 16 := by omega
  obtain ⟨kd, dir, n, ⟨⟨fx, fy⟩, fd⟩, ⟨⟨tx, ty⟩, td⟩, ma, me⟩ := m
  by_cases hf : fitsR c ((fx, fy), fd)
  · have hf1 := decide_eq_true hf
    have hfU : fitsU c.W c.H G.uses ((fx, fy), fd) = true := by rw [fits_told hN]; exact hf1
    by_cases k1 : kd = 1
    · subst k1
      cases hw1 : (decide (1 ≤ n) && decide (n ≤ 16)) with
      | false => rw [legal_far rfl (.inl hw1)]; exact rlegal_far c vb vp vr vs w hA l1 l2 l3 l4 l5 dir n fx fy tx ty ma me fd td hf1 hw1
      | true =>
        cases hw2 : (decide (0 ≤ dir) && decide (dir ≤ 3)) with
        | false => rw [legal_far rfl (.inr hw2)]; exact rlegal_dir c vb vp vr vs w hA l1 l2 l3 l4 l5 dir n fx fy tx ty ma me fd td hf1 hw1 hw2
        | true =>
          have hn : 1 ≤ n ∧ n ≤ 16 := by simpa using hw1
          have hd : 0 ≤ dir ∧ dir ≤ 3 := by simpa using hw2
          by_cases he : ((tx, ty), td) = shiftP ((fx, fy), fd) dir n
          · refine rlegal_run c vb vp vr vs w hA l1 l2 l3 l4 l5 dir n fx fy tx ty ma me fd td hf1 hw1 hw2 hn.1 hn.2 he.symm _ ?_
            show _ ↔ _
            rw [legal_run2 hW hH rfl hd hn he hfU]
            simp only [fits_told hN, decide_eq_true_eq]
          · rw [legal_else rfl hd hn he]
            obtain ⟨⟨⟨px, py⟩, pd⟩, hq⟩ : ∃ q, shiftP ((fx, fy), fd) dir n = q := ⟨_, rfl⟩
            rw [hq] at he
            exact rlegal_else c vb vp vr vs w hA l1 l2 l3 l4 l5 dir n fx fy tx ty ma me fd td hf1 hw1 hw2 px py pd hq (decide_eq_false he)
    · by_cases k2 : kd = 2
      · subst k2
        obtain ⟨n1, n2, n3, n4⟩ := fits_near hW hH hfU
        simp only at n1 n2 n3 n4
        refine rlegal_turn c vb vp vr vs w hA l1 l2 l3 l4 l5 dir n fx fy tx ty ma me fd td hf1 n1 (by omega) n3 (by omega) _ ?_
        show _ ↔ _
        rw [legal_turn hW hH rfl hfU]
        simp only [open_same hN, Bool.and_eq_true, decide_eq_true_eq]
        constructor
        · rintro ⟨a, b, d, e⟩
          exact ⟨⟨⟨⟨⟨⟨a 0 (by omega), a 1 (by omega)⟩, a 2 (by omega)⟩, a 3 (by omega)⟩, b⟩, d⟩, e⟩
        · rintro ⟨⟨⟨⟨⟨⟨a0, a1⟩, a2⟩, a3⟩, b⟩, d⟩, e⟩
          refine ⟨fun j hj => ?_, b, d, e⟩
          match j, hj with
          | 0, _ => exact a0
          | 1, _ => exact a1
          | 2, _ => exact a2
          | 3, _ => exact a3
      · by_cases k3 : kd = 3
        · subst k3
          rw [legal_still hW hH (.inl rfl) hfU]
          exact rlegal_still3 c vb vp vr vs w hA l1 l2 l3 l4 l5 dir n fx fy tx ty ma me fd td hf1
        · by_cases k4 : kd = 4
          · subst k4
            rw [legal_still hW hH (.inr rfl) hfU]
            exact rlegal_still4 c vb vp vr vs w hA l1 l2 l3 l4 l5 dir n fx fy tx ty ma me fd td hf1
          · rw [legal_other k1 k2 k3 k4]
            exact rlegal_other c vb vp vr vs w hA l1 l2 l3 l4 l5 dir n fx fy tx ty ma me kd fd td hf1 (beq_eq_false_iff_ne.2 k1) (beq_eq_false_iff_ne.2 k2) (beq_eq_false_iff_ne.2 k3) (beq_eq_false_iff_ne.2 k4)
  · rw [legal_nofit (by rw [fits_told hN]; exact decide_eq_false hf)]
    exact rlegal_nofit c vb vp vr vs w hA l1 l2 l3 l4 l5 dir n fx fy tx ty ma me kd fd td (decide_eq_false hf)
end Go.Proofs.Ytnaojlngdfolaaa.Grid
