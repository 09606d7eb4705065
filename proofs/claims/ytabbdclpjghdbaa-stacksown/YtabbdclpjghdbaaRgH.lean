/-
  The chapter's own word on a config's numbers.
  The chapter's own word on stacks and bins.
-/
import Derived.Test.YtabbdclpjghdbaaRgE
import Derived.Test.YtabbdclpjghdbaaRgG
namespace Go.Proofs.Ytabbdclpjghdbaa.Grid
set_option linter.unusedVariables false
set_option linter.unusedSimpArgs false
open Go Go.RowKit Go.Shelf Go.Proofs
attribute [local go_sem] Oper.semAt_some

theorem within_up (v m : Int) (w : World) : Calls Try.prog 61 #[.int .i64 v, .int .i64 1, .int .i64 m] w fun e w' => e = .returned (.bool (upTo v m)) ∧ w' = w := withinR_any v 1 m w
set_option maxRecDepth 100000 in
set_option maxHeartbeats 4000000 in
theorem numbersR_any (c : Conf) (vb vp vr vs : Value) (w : World) :
    Calls Try.prog 32 #[.agg #[.int .i64 c.W, .int .i64 c.H, .int .i64 c.height, vb, vp, vr, vs, .int .i64 c.unit, .int .i64 c.accel, .int .i64 c.speed, .int .i64 c.turn, .int .i64 c.hoist, .int .i64 c.queue, .int .i64 c.resend, .int .i64 c.budget, .bool c.back]] w fun e w' => ∃ r, e = .returned r ∧ r = .bool (limited c) ∧ Below w.heap.size w w' := by
  have HL : Hid (limited c = (upTo c.W 16 && upTo c.H 16 && upTo c.height 8 && upTo c.unit 1000 && upTo c.accel 1000 && upTo c.speed 1000 && upTo c.turn 1000 && upTo c.hoist 1000 && upTo c.resend 1000 && upTo c.queue 16 && upTo c.budget 1048576)) := by
    show limited c = _
    unfold limited
    generalize upTo c.W 16 = p0
    generalize upTo c.H 16 = p1
    generalize upTo c.height 8 = p2
    generalize upTo c.unit 1000 = p3
    generalize upTo c.accel 1000 = p4
    generalize upTo c.speed 1000 = p5
    generalize upTo c.turn 1000 = p6
    generalize upTo c.hoist 1000 = p7
    generalize upTo c.resend 1000 = p8
    generalize upTo c.queue 16 = p9
    generalize upTo c.budget 1048576 = p10
    cases p0 <;> cases p1 <;> cases p2 <;> cases p3 <;> cases p4 <;> cases p5 <;> cases p6 <;> simp [Bool.and_assoc]
  have bW := fun o => below_new (Below.refl w.heap.size w) o
  generalize limited c = R at *
  have u0 := fun u => within_up c.W 16 u
  have u1 := fun u => within_up c.H 16 u
  have u2 := fun u => within_up c.height 8 u
  have u3 := fun u => within_up c.unit 1000 u
  have u4 := fun u => within_up c.accel 1000 u
  have u5 := fun u => within_up c.speed 1000 u
  have u6 := fun u => within_up c.turn 1000 u
  have u7 := fun u => within_up c.hoist 1000 u
  have u8 := fun u => within_up c.resend 1000 u
  have u9 := fun u => within_up c.queue 16 u
  have u10 := fun u => within_up c.budget 1048576 u
  generalize upTo c.W 16 = p0 at *
  generalize upTo c.H 16 = p1 at *
  generalize upTo c.height 8 = p2 at *
  generalize upTo c.unit 1000 = p3 at *
  generalize upTo c.accel 1000 = p4 at *
  generalize upTo c.speed 1000 = p5 at *
  generalize upTo c.turn 1000 = p6 at *
  generalize upTo c.hoist 1000 = p7 at *
  generalize upTo c.resend 1000 = p8 at *
  generalize upTo c.queue 16 = p9 at *
  generalize upTo c.budget 1048576 = p10 at *
  generalize c.W = n0 at *
  generalize c.H = n1 at *
  generalize c.height = n2 at *
  generalize c.unit = n3 at *
  generalize c.accel = n4 at *
  generalize c.speed = n5 at *
  generalize c.turn = n6 at *
  generalize c.hoist = n7 at *
  generalize c.resend = n8 at *
  generalize c.queue = n9 at *
  generalize c.budget = n10 at *
  cases p0
  · go_enter Try.func32, Try.ntmps32
    go_wp2_with (first
      | (go_at_call_of 61 n0; refine (u0 _).mono ?_; rintro e w1 ⟨rfl, hw1⟩; rw [hw1]; clear hw1 w1))
    go_ret
    exact ⟨_, rfl, congrArg Value.bool (by rw [HL.out]; simp), bW _⟩
  · skip
    cases p1
    · go_enter Try.func32, Try.ntmps32
      go_wp2_with (first
        | (go_at_call_of 61 n0; refine (u0 _).mono ?_; rintro e w1 ⟨rfl, hw1⟩; rw [hw1]; clear hw1 w1)
        | (go_at_call_of 61 n1; refine (u1 _).mono ?_; rintro e w1 ⟨rfl, hw1⟩; rw [hw1]; clear hw1 w1))
      go_ret
      exact ⟨_, rfl, congrArg Value.bool (by rw [HL.out]; simp), bW _⟩
    · skip
      cases p2
      · go_enter Try.func32, Try.ntmps32
        go_wp2_with (first
          | (go_at_call_of 61 n0; refine (u0 _).mono ?_; rintro e w1 ⟨rfl, hw1⟩; rw [hw1]; clear hw1 w1)
          | (go_at_call_of 61 n1; refine (u1 _).mono ?_; rintro e w1 ⟨rfl, hw1⟩; rw [hw1]; clear hw1 w1)
          | (go_at_call_of 61 n2; refine (u2 _).mono ?_; rintro e w1 ⟨rfl, hw1⟩; rw [hw1]; clear hw1 w1))
        go_ret
        exact ⟨_, rfl, congrArg Value.bool (by rw [HL.out]; simp), bW _⟩
      · skip
        cases p3
        · go_enter Try.func32, Try.ntmps32
          go_wp2_with (first
            | (go_at_call_of 61 n0; refine (u0 _).mono ?_; rintro e w1 ⟨rfl, hw1⟩; rw [hw1]; clear hw1 w1)
            | (go_at_call_of 61 n1; refine (u1 _).mono ?_; rintro e w1 ⟨rfl, hw1⟩; rw [hw1]; clear hw1 w1)
            | (go_at_call_of 61 n2; refine (u2 _).mono ?_; rintro e w1 ⟨rfl, hw1⟩; rw [hw1]; clear hw1 w1)
            | (go_at_call_of 61 n3; refine (u3 _).mono ?_; rintro e w1 ⟨rfl, hw1⟩; rw [hw1]; clear hw1 w1))
          go_ret
          exact ⟨_, rfl, congrArg Value.bool (by rw [HL.out]; simp), bW _⟩
        · skip
          cases p4
          · go_enter Try.func32, Try.ntmps32
            go_wp2_with (first
              | (go_at_call_of 61 n0; refine (u0 _).mono ?_; rintro e w1 ⟨rfl, hw1⟩; rw [hw1]; clear hw1 w1)
              | (go_at_call_of 61 n1; refine (u1 _).mono ?_; rintro e w1 ⟨rfl, hw1⟩; rw [hw1]; clear hw1 w1)
              | (go_at_call_of 61 n2; refine (u2 _).mono ?_; rintro e w1 ⟨rfl, hw1⟩; rw [hw1]; clear hw1 w1)
              | (go_at_call_of 61 n3; refine (u3 _).mono ?_; rintro e w1 ⟨rfl, hw1⟩; rw [hw1]; clear hw1 w1)
              | (go_at_call_of 61 n4; refine (u4 _).mono ?_; rintro e w1 ⟨rfl, hw1⟩; rw [hw1]; clear hw1 w1))
            go_ret
            exact ⟨_, rfl, congrArg Value.bool (by rw [HL.out]; simp), bW _⟩
          · skip
            cases p5
            · go_enter Try.func32, Try.ntmps32
              go_wp2_with (first
                | (go_at_call_of 61 n0; refine (u0 _).mono ?_; rintro e w1 ⟨rfl, hw1⟩; rw [hw1]; clear hw1 w1)
                | (go_at_call_of 61 n1; refine (u1 _).mono ?_; rintro e w1 ⟨rfl, hw1⟩; rw [hw1]; clear hw1 w1)
                | (go_at_call_of 61 n2; refine (u2 _).mono ?_; rintro e w1 ⟨rfl, hw1⟩; rw [hw1]; clear hw1 w1)
                | (go_at_call_of 61 n3; refine (u3 _).mono ?_; rintro e w1 ⟨rfl, hw1⟩; rw [hw1]; clear hw1 w1)
                | (go_at_call_of 61 n4; refine (u4 _).mono ?_; rintro e w1 ⟨rfl, hw1⟩; rw [hw1]; clear hw1 w1)
                | (go_at_call_of 61 n5; refine (u5 _).mono ?_; rintro e w1 ⟨rfl, hw1⟩; rw [hw1]; clear hw1 w1))
              go_ret
              exact ⟨_, rfl, congrArg Value.bool (by rw [HL.out]; simp), bW _⟩
            · skip
              cases p6
              · go_enter Try.func32, Try.ntmps32
                go_wp2_with (first
                  | (go_at_call_of 61 n0; refine (u0 _).mono ?_; rintro e w1 ⟨rfl, hw1⟩; rw [hw1]; clear hw1 w1)
                  | (go_at_call_of 61 n1; refine (u1 _).mono ?_; rintro e w1 ⟨rfl, hw1⟩; rw [hw1]; clear hw1 w1)
                  | (go_at_call_of 61 n2; refine (u2 _).mono ?_; rintro e w1 ⟨rfl, hw1⟩; rw [hw1]; clear hw1 w1)
                  | (go_at_call_of 61 n3; refine (u3 _).mono ?_; rintro e w1 ⟨rfl, hw1⟩; rw [hw1]; clear hw1 w1)
                  | (go_at_call_of 61 n4; refine (u4 _).mono ?_; rintro e w1 ⟨rfl, hw1⟩; rw [hw1]; clear hw1 w1)
                  | (go_at_call_of 61 n5; refine (u5 _).mono ?_; rintro e w1 ⟨rfl, hw1⟩; rw [hw1]; clear hw1 w1)
                  | (go_at_call_of 61 n6; refine (u6 _).mono ?_; rintro e w1 ⟨rfl, hw1⟩; rw [hw1]; clear hw1 w1))
                go_ret
                exact ⟨_, rfl, congrArg Value.bool (by rw [HL.out]; simp), bW _⟩
              · skip
                cases p7
                · go_enter Try.func32, Try.ntmps32
                  go_wp2_with (first
                    | (go_at_call_of 61 n0; refine (u0 _).mono ?_; rintro e w1 ⟨rfl, hw1⟩; rw [hw1]; clear hw1 w1)
                    | (go_at_call_of 61 n1; refine (u1 _).mono ?_; rintro e w1 ⟨rfl, hw1⟩; rw [hw1]; clear hw1 w1)
                    | (go_at_call_of 61 n2; refine (u2 _).mono ?_; rintro e w1 ⟨rfl, hw1⟩; rw [hw1]; clear hw1 w1)
                    | (go_at_call_of 61 n3; refine (u3 _).mono ?_; rintro e w1 ⟨rfl, hw1⟩; rw [hw1]; clear hw1 w1)
                    | (go_at_call_of 61 n4; refine (u4 _).mono ?_; rintro e w1 ⟨rfl, hw1⟩; rw [hw1]; clear hw1 w1)
                    | (go_at_call_of 61 n5; refine (u5 _).mono ?_; rintro e w1 ⟨rfl, hw1⟩; rw [hw1]; clear hw1 w1)
                    | (go_at_call_of 61 n6; refine (u6 _).mono ?_; rintro e w1 ⟨rfl, hw1⟩; rw [hw1]; clear hw1 w1)
                    | (go_at_call_of 61 n7; refine (u7 _).mono ?_; rintro e w1 ⟨rfl, hw1⟩; rw [hw1]; clear hw1 w1))
                  go_ret
                  exact ⟨_, rfl, congrArg Value.bool (by rw [HL.out]; simp), bW _⟩
                · skip
                  cases p8
                  · go_enter Try.func32, Try.ntmps32
                    go_wp2_with (first
                      | (go_at_call_of 61 n0; refine (u0 _).mono ?_; rintro e w1 ⟨rfl, hw1⟩; rw [hw1]; clear hw1 w1)
                      | (go_at_call_of 61 n1; refine (u1 _).mono ?_; rintro e w1 ⟨rfl, hw1⟩; rw [hw1]; clear hw1 w1)
                      | (go_at_call_of 61 n2; refine (u2 _).mono ?_; rintro e w1 ⟨rfl, hw1⟩; rw [hw1]; clear hw1 w1)
                      | (go_at_call_of 61 n3; refine (u3 _).mono ?_; rintro e w1 ⟨rfl, hw1⟩; rw [hw1]; clear hw1 w1)
                      | (go_at_call_of 61 n4; refine (u4 _).mono ?_; rintro e w1 ⟨rfl, hw1⟩; rw [hw1]; clear hw1 w1)
                      | (go_at_call_of 61 n5; refine (u5 _).mono ?_; rintro e w1 ⟨rfl, hw1⟩; rw [hw1]; clear hw1 w1)
                      | (go_at_call_of 61 n6; refine (u6 _).mono ?_; rintro e w1 ⟨rfl, hw1⟩; rw [hw1]; clear hw1 w1)
                      | (go_at_call_of 61 n7; refine (u7 _).mono ?_; rintro e w1 ⟨rfl, hw1⟩; rw [hw1]; clear hw1 w1)
                      | (go_at_call_of 61 n8; refine (u8 _).mono ?_; rintro e w1 ⟨rfl, hw1⟩; rw [hw1]; clear hw1 w1))
                    go_ret
                    exact ⟨_, rfl, congrArg Value.bool (by rw [HL.out]; simp), bW _⟩
                  · skip
                    cases p9
                    · go_enter Try.func32, Try.ntmps32
                      go_wp2_with (first
                        | (go_at_call_of 61 n0; refine (u0 _).mono ?_; rintro e w1 ⟨rfl, hw1⟩; rw [hw1]; clear hw1 w1)
                        | (go_at_call_of 61 n1; refine (u1 _).mono ?_; rintro e w1 ⟨rfl, hw1⟩; rw [hw1]; clear hw1 w1)
                        | (go_at_call_of 61 n2; refine (u2 _).mono ?_; rintro e w1 ⟨rfl, hw1⟩; rw [hw1]; clear hw1 w1)
                        | (go_at_call_of 61 n3; refine (u3 _).mono ?_; rintro e w1 ⟨rfl, hw1⟩; rw [hw1]; clear hw1 w1)
                        | (go_at_call_of 61 n4; refine (u4 _).mono ?_; rintro e w1 ⟨rfl, hw1⟩; rw [hw1]; clear hw1 w1)
                        | (go_at_call_of 61 n5; refine (u5 _).mono ?_; rintro e w1 ⟨rfl, hw1⟩; rw [hw1]; clear hw1 w1)
                        | (go_at_call_of 61 n6; refine (u6 _).mono ?_; rintro e w1 ⟨rfl, hw1⟩; rw [hw1]; clear hw1 w1)
                        | (go_at_call_of 61 n7; refine (u7 _).mono ?_; rintro e w1 ⟨rfl, hw1⟩; rw [hw1]; clear hw1 w1)
                        | (go_at_call_of 61 n8; refine (u8 _).mono ?_; rintro e w1 ⟨rfl, hw1⟩; rw [hw1]; clear hw1 w1)
                        | (go_at_call_of 61 n9; refine (u9 _).mono ?_; rintro e w1 ⟨rfl, hw1⟩; rw [hw1]; clear hw1 w1))
                      go_ret
                      exact ⟨_, rfl, congrArg Value.bool (by rw [HL.out]; simp), bW _⟩
                    · skip
                      cases p10
                      · go_enter Try.func32, Try.ntmps32
                        go_wp2_with (first
                          | (go_at_call_of 61 n0; refine (u0 _).mono ?_; rintro e w1 ⟨rfl, hw1⟩; rw [hw1]; clear hw1 w1)
                          | (go_at_call_of 61 n1; refine (u1 _).mono ?_; rintro e w1 ⟨rfl, hw1⟩; rw [hw1]; clear hw1 w1)
                          | (go_at_call_of 61 n2; refine (u2 _).mono ?_; rintro e w1 ⟨rfl, hw1⟩; rw [hw1]; clear hw1 w1)
                          | (go_at_call_of 61 n3; refine (u3 _).mono ?_; rintro e w1 ⟨rfl, hw1⟩; rw [hw1]; clear hw1 w1)
                          | (go_at_call_of 61 n4; refine (u4 _).mono ?_; rintro e w1 ⟨rfl, hw1⟩; rw [hw1]; clear hw1 w1)
                          | (go_at_call_of 61 n5; refine (u5 _).mono ?_; rintro e w1 ⟨rfl, hw1⟩; rw [hw1]; clear hw1 w1)
                          | (go_at_call_of 61 n6; refine (u6 _).mono ?_; rintro e w1 ⟨rfl, hw1⟩; rw [hw1]; clear hw1 w1)
                          | (go_at_call_of 61 n7; refine (u7 _).mono ?_; rintro e w1 ⟨rfl, hw1⟩; rw [hw1]; clear hw1 w1)
                          | (go_at_call_of 61 n8; refine (u8 _).mono ?_; rintro e w1 ⟨rfl, hw1⟩; rw [hw1]; clear hw1 w1)
                          | (go_at_call_of 61 n9; refine (u9 _).mono ?_; rintro e w1 ⟨rfl, hw1⟩; rw [hw1]; clear hw1 w1)
                          | (go_at_call_of 61 n10; refine (u10 _).mono ?_; rintro e w1 ⟨rfl, hw1⟩; rw [hw1]; clear hw1 w1))
                        go_ret
                        exact ⟨_, rfl, congrArg Value.bool (by rw [HL.out]; simp), bW _⟩
                      · go_enter Try.func32, Try.ntmps32
                        go_wp2_with (first
                          | (go_at_call_of 61 n0; refine (u0 _).mono ?_; rintro e w1 ⟨rfl, hw1⟩; rw [hw1]; clear hw1 w1)
                          | (go_at_call_of 61 n1; refine (u1 _).mono ?_; rintro e w1 ⟨rfl, hw1⟩; rw [hw1]; clear hw1 w1)
                          | (go_at_call_of 61 n2; refine (u2 _).mono ?_; rintro e w1 ⟨rfl, hw1⟩; rw [hw1]; clear hw1 w1)
                          | (go_at_call_of 61 n3; refine (u3 _).mono ?_; rintro e w1 ⟨rfl, hw1⟩; rw [hw1]; clear hw1 w1)
                          | (go_at_call_of 61 n4; refine (u4 _).mono ?_; rintro e w1 ⟨rfl, hw1⟩; rw [hw1]; clear hw1 w1)
                          | (go_at_call_of 61 n5; refine (u5 _).mono ?_; rintro e w1 ⟨rfl, hw1⟩; rw [hw1]; clear hw1 w1)
                          | (go_at_call_of 61 n6; refine (u6 _).mono ?_; rintro e w1 ⟨rfl, hw1⟩; rw [hw1]; clear hw1 w1)
                          | (go_at_call_of 61 n7; refine (u7 _).mono ?_; rintro e w1 ⟨rfl, hw1⟩; rw [hw1]; clear hw1 w1)
                          | (go_at_call_of 61 n8; refine (u8 _).mono ?_; rintro e w1 ⟨rfl, hw1⟩; rw [hw1]; clear hw1 w1)
                          | (go_at_call_of 61 n9; refine (u9 _).mono ?_; rintro e w1 ⟨rfl, hw1⟩; rw [hw1]; clear hw1 w1)
                          | (go_at_call_of 61 n10; refine (u10 _).mono ?_; rintro e w1 ⟨rfl, hw1⟩; rw [hw1]; clear hw1 w1))
                        go_ret
                        exact ⟨_, rfl, congrArg Value.bool (by rw [HL.out]; simp), bW _⟩
end Go.Proofs.Ytabbdclpjghdbaa.Grid
namespace Go.Proofs.Ytabbdclpjghdbaa.Grid
set_option linter.unusedVariables false
set_option linter.unusedSimpArgs false
open Go Go.RowKit Go.Shelf Go.Proofs

def binsP (c : Conf) : Prop := c.stacks.length ≤ 257 ∧ (∀ s ∈ c.stacks, stackedR c s.1 ∧ (s.2.length : Int) ≤ c.height) ∧ (c.stacks.map Prod.fst).Nodup ∧ mayBeP (c.stacks.flatMap Prod.snd)
instance (c : Conf) : Decidable (binsP c) := by unfold binsP; infer_instance
/- A config in a box of the call's own. -/
structure One (w : World) (cs : Array Value) (W : World) : Prop where
  below : Below w.heap.size w W
  a : W.heap[w.heap.size]? = some (.cells cs 26 (0, 0))
theorem One.go {w : World} {cs : Array Value} {W W' : World} (h : One w cs W) (hb : Below W.heap.size W W') : One w cs W' := ⟨bcat h.below hb (Nat.le_refl _), (hb.block _ (lt_of_heap h.a)).trans h.a⟩
def flatT (c : Conf) (k : Nat) : List Int := (c.stacks.take k).flatMap Prod.snd
structure Bn (w : World) (c : Conf) (cs : Array Value) (v : Value) (k : Nat) (wr : World) : Prop where
  box : One w cs wr
  own : wr.ownsRow (w.heap.size + 1) 3 1 v (flatT c k).length (rowL intL (flatT c k))
  small : (flatT c k).length ≤ 8 * k
  few : k ≤ 257
  good : ∀ s ∈ c.stacks.take k, stackedR c s.1 ∧ (s.2.length : Int) ≤ c.height
  nod : ((c.stacks.take k).map Prod.fst).Nodup
section
variable {w : World} {c : Conf} {cs : Array Value} {v : Value} {k : Nat} {wr : World}
theorem Bn.go (h : Bn w c cs v k wr) {W' : World} (hb : Below wr.heap.size wr W') : Bn w c cs v k W' := ⟨h.box.go hb, owns_go h.own hb, h.small, h.few, h.good, h.nod⟩
theorem Bn.next (h : Bn w c cs v k wr) (hk : k < c.stacks.length) (h8 : c.height ≤ 8) (h256 : ¬ 256 < k) (hs : stackedR c (c.stacks[k]'hk).1) (hl : ((c.stacks[k]'hk).2.length : Int) ≤ c.height) (hn : ∀ j (hj : j < k), (c.stacks[j]'(by omega)).1 ≠ (c.stacks[k]'hk).1) {v' : Value} {W' : World}
    (ho : W'.ownsRow (w.heap.size + 1) 3 1 v' (flatT c k ++ (c.stacks[k]'hk).2).length (rowL intL (flatT c k ++ (c.stacks[k]'hk).2))) (hg : wr.grownBy W' v.ownBlock) : Bn w c cs v' (k + 1) W' := by
  have e : flatT c (k + 1) = flatT c k ++ (c.stacks[k]'hk).2 := flat_take c.stacks Prod.snd k hk
  have et : c.stacks.take (k + 1) = c.stacks.take k ++ [c.stacks[k]'hk] := by rw [List.take_add_one, List.getElem?_eq_getElem hk]; rfl
  have hlt := h.own.lt
  refine ⟨⟨h.box.below.grown hg h.box.below.size (fun g q => by have := (hlt g q).1; omega), (hg.block _ (lt_of_heap h.box.a) (fun q => by have := (hlt _ q.symm).1; omega)).trans h.box.a⟩, by rw [e]; exact ho, ?_, by omega, fun s hs' => ?_, ?_⟩
  · rw [e, List.length_append]; have := h.small; omega
  · rw [et] at hs'
    rcases List.mem_append.1 hs' with q | q
    · exact h.good s q
    · rw [List.mem_singleton.1 q]; exact ⟨hs, hl⟩
  · rw [et, List.map_append, List.nodup_append]
    refine ⟨h.nod, by simp, fun a ha b hb => ?_⟩
    obtain ⟨s, hs', rfl⟩ := List.mem_map.1 ha
    obtain ⟨j, hj, e2⟩ := List.getElem_of_mem hs'
    rw [List.length_take] at hj
    rw [List.getElem_take] at e2
    simp at hb
    subst hb
    rw [← e2]
    exact hn j (by omega)
end
theorem bins_long {c : Conf} {k : Nat} (hk : k < c.stacks.length) (h : 256 < k) : decide (binsP c) = false := decide_eq_false fun q => by have := q.1; omega
theorem bins_bad {c : Conf} {k : Nat} (hk : k < c.stacks.length) (h : ¬ (stackedR c (c.stacks[k]'hk).1 ∧ ((c.stacks[k]'hk).2.length : Int) ≤ c.height)) : decide (binsP c) = false := decide_eq_false fun q => h (q.2.1 _ (List.getElem_mem hk))
theorem bins_twice {c : Conf} {k j : Nat} (hk : k < c.stacks.length) (hj : j < k) (h : (c.stacks[j]'(by omega)).1 = (c.stacks[k]'hk).1) : decide (binsP c) = false := decide_eq_false fun q => by
  have hn := q.2.2.1
  have e : ((c.stacks.map Prod.fst)[j]'(by rw [List.length_map]; omega)) = (c.stacks.map Prod.fst)[k]'(by rw [List.length_map]; exact hk) := by rw [List.getElem_map, List.getElem_map]; exact h
  have := (List.getElem_inj hn).1 e
  omega
theorem bins_all {w : World} {c : Conf} {cs : Array Value} {v : Value} {wr : World} (h : Bn w c cs v c.stacks.length wr) : decide (binsP c) = decide (mayBeP (flatT c c.stacks.length)) := by
  have hg := h.good
  have hn := h.nod
  rw [List.take_length] at hg hn
  refine decide_eq_decide.2 ⟨fun q => ?_, fun q => ⟨h.few, hg, hn, ?_⟩⟩
  · unfold flatT; rw [List.take_length]; exact q.2.2.2
  · unfold flatT at q; rw [List.take_length] at q; exact q
/- Numbers, each held against those before it. -/
theorem mayBe_long {A : List Int} (h : ¬ A.length ≤ 512) : decide (mayBeP A) = false := decide_eq_false fun q => h q.1
theorem mayBe_bad {A : List Int} {k : Nat} (hk : k < A.length) (h : upTo (A[k]'hk) 1000000000 = false) : decide (mayBeP A) = false := decide_eq_false fun q => by
  have := q.2.1 _ (List.getElem_mem hk)
  unfold upTo at h
  simp at h
  omega
theorem mayBe_twice {A : List Int} {k j : Nat} (hk : k < A.length) (hj : j < k) (h : (A[j]'(by omega)) = A[k]'hk) : decide (mayBeP A) = false := decide_eq_false fun q => by
  have := (List.getElem_inj q.2.2).1 h
  omega
theorem mayBe_yes {A : List Int} (hl : A.length ≤ 512) (h : ∀ k (hk : k < A.length), upTo (A[k]'hk) 1000000000 = true ∧ ∀ j (hj : j < k), (A[j]'(by omega)) ≠ A[k]'hk) : decide (mayBeP A) = true := decide_eq_true (by
  refine ⟨hl, fun b hb => ?_, ?_⟩
  · obtain ⟨k, hk, rfl⟩ := List.getElem_of_mem hb
    have := (h k hk).1
    unfold upTo at this
    simpa using this
  · rw [List.nodup_iff_pairwise_ne, List.pairwise_iff_getElem]
    exact fun i j hi hj hij => (h j hj).2 i hij)
end Go.Proofs.Ytabbdclpjghdbaa.Grid
