/-
  The chapter's own word on a config's numbers.
-/
import Derived.Test.YtnaojlngdfolaaaGridRef2
namespace Go.Proofs.Ytnaojlngdfolaaa.Grid
set_option linter.unusedVariables false
set_option linter.unusedSimpArgs false
open Go Go.RowKit Go.Shelf Go.Proofs
attribute [local go_sem] Oper.semAt_some

theorem within_up (v m : Int) (w : World) : Calls Try.prog 128 #[.int .i64 v, .int .i64 1, .int .i64 m] w fun e w' => e = .returned (.bool (upTo v m)) ∧ w' = w := withinR_any v 1 m w
set_option maxRecDepth 100000 in
set_option maxHeartbeats 4000000 in
theorem numbersR_any (c : Conf) (vb vp vr vs : Value) (w : World) :
    Calls Try.prog 70 #[.agg #[.int .i64 c.W, .int .i64 c.H, .int .i64 c.height, vb, vp, vr, vs, .int .i64 c.unit, .int .i64 c.accel, .int .i64 c.speed, .int .i64 c.turn, .int .i64 c.hoist, .int .i64 c.queue, .int .i64 c.resend, .int .i64 c.budget, .bool c.back]] w fun e w' => ∃ r, e = .returned r ∧ r = .bool (limited c) ∧ Below w.heap.size w w' := by
  have HL : Hid (limited c = (upTo c.W 16 && upTo c.H 16 && upTo c.height 8 && upTo c.unit 1000 && upTo c.accel 1000 && upTo c.speed 1000 && upTo c.turn 1000 && upTo c.hoist 1000 && upTo c.resend 1000 && upTo c.queue 16 && upTo c.budget 1048576)) := by
    show limited c = _
    unfold limited
    generalize upTo c.W 16 = p0
    generalize upTo c.H 16 = p1
    generalize upTo c.height 8 = p2
    generalize upTo c.unit 1000 = p3
    generalize upTo c.accel 1000 = p4
    generalize upTo c.speed 1000 = p5
    generalize upTo c.turn 1000 = p6
    generalize upTo c.hoist 1000 = p7
    generalize upTo c.resend 1000 = p8
    generalize upTo c.queue 16 = p9
    generalize upTo c.budget 1048576 = p10
    cases p0 <;> cases p1 <;> cases p2 <;> cases p3 <;> cases p4 <;> cases p5 <;> cases p6 <;> simp [Bool.and_assoc]
  have bW := fun o => below_new (Below.refl w.heap.size w) o
  generalize limited c = R at *
  have u0 := fun u => within_up c.W 16 u
  have u1 := fun u => within_up c.H 16 u
  have u2 := fun u => within_up c.height 8 u
  have u3 := fun u => within_up c.unit 1000 u
  have u4 := fun u => within_up c.accel 1000 u
  have u5 := fun u => within_up c.speed 1000 u
  have u6 := fun u => within_up c.turn 1000 u
  have u7 := fun u => within_up c.hoist 1000 u
  have u8 := fun u => within_up c.resend 1000 u
  have u9 := fun u => within_up c.queue 16 u
  have u10 := fun u => within_up c.budget 1048576 u
  generalize upTo c.W 16 = p0 at *
  generalize upTo c.H 16 = p1 at *
  generalize upTo c.height 8 = p2 at *
  generalize upTo c.unit 1000 = p3 at *
  generalize upTo c.accel 1000 = p4 at *
  generalize upTo c.speed 1000 = p5 at *
  generalize upTo c.turn 1000 = p6 at *
  generalize upTo c.hoist 1000 = p7 at *
  generalize upTo c.resend 1000 = p8 at *
  generalize upTo c.queue 16 = p9 at *
  generalize upTo c.budget 1048576 = p10 at *
  generalize c.W = n0 at *
  generalize c.H = n1 at *
  generalize c.height = n2 at *
  generalize c.unit = n3 at *
  generalize c.accel = n4 at *
  generalize c.speed = n5 at *
  generalize c.turn = n6 at *
  generalize c.hoist = n7 at *
  generalize c.resend = n8 at *
  generalize c.queue = n9 at *
  generalize c.budget = n10 at *
  cases p0
  · go_enter Try.func70, Try.ntmps70
    go_wp2_with (first
      | (go_at_call_of 128 n0; refine (u0 _).mono ?_; rintro e w1 ⟨rfl, hw1⟩; rw [hw1]; clear hw1 w1))
    go_ret
    exact ⟨_, rfl, congrArg Value.bool (by rw [HL.out]; simp), bW _⟩
  · skip
    cases p1
    · go_enter Try.func70, Try.ntmps70
      go_wp2_with (first
        | (go_at_call_of 128 n0; refine (u0 _).mono ?_; rintro e w1 ⟨rfl, hw1⟩; rw [hw1]; clear hw1 w1)
        | (go_at_call_of 128 n1; refine (u1 _).mono ?_; rintro e w1 ⟨rfl, hw1⟩; rw [hw1]; clear hw1 w1))
      go_ret
      exact ⟨_, rfl, congrArg Value.bool (by rw [HL.out]; simp), bW _⟩
    · skip
      cases p2
      · go_enter Try.func70, Try.ntmps70
        go_wp2_with (first
          | (go_at_call_of 128 n0; refine (u0 _).mono ?_; rintro e w1 ⟨rfl, hw1⟩; rw [hw1]; clear hw1 w1)
          | (go_at_call_of 128 n1; refine (u1 _).mono ?_; rintro e w1 ⟨rfl, hw1⟩; rw [hw1]; clear hw1 w1)
          | (go_at_call_of 128 n2; refine (u2 _).mono ?_; rintro e w1 ⟨rfl, hw1⟩; rw [hw1]; clear hw1 w1))
        go_ret
        exact ⟨_, rfl, congrArg Value.bool (by rw [HL.out]; simp), bW _⟩
      · skip
        cases p3
        · go_enter Try.func70, Try.ntmps70
          go_wp2_with (first
            | (go_at_call_of 128 n0; refine (u0 _).mono ?_; rintro e w1 ⟨rfl, hw1⟩; rw [hw1]; clear hw1 w1)
            | (go_at_call_of 128 n1; refine (u1 _).mono ?_; rintro e w1 ⟨rfl, hw1⟩; rw [hw1]; clear hw1 w1)
            | (go_at_call_of 128 n2; refine (u2 _).mono ?_; rintro e w1 ⟨rfl, hw1⟩; rw [hw1]; clear hw1 w1)
            | (go_at_call_of 128 n3; refine (u3 _).mono ?_; rintro e w1 ⟨rfl, hw1⟩; rw [hw1]; clear hw1 w1))
          go_ret
          exact ⟨_, rfl, congrArg Value.bool (by rw [HL.out]; simp), bW _⟩
        · skip
          cases p4
          · go_enter Try.func70, Try.ntmps70
            go_wp2_with (first
              | (go_at_call_of 128 n0; refine (u0 _).mono ?_; rintro e w1 ⟨rfl, hw1⟩; rw [hw1]; clear hw1 w1)
              | (go_at_call_of 128 n1; refine (u1 _).mono ?_; rintro e w1 ⟨rfl, hw1⟩; rw [hw1]; clear hw1 w1)
              | (go_at_call_of 128 n2; refine (u2 _).mono ?_; rintro e w1 ⟨rfl, hw1⟩; rw [hw1]; clear hw1 w1)
              | (go_at_call_of 128 n3; refine (u3 _).mono ?_; rintro e w1 ⟨rfl, hw1⟩; rw [hw1]; clear hw1 w1)
              | (go_at_call_of 128 n4; refine (u4 _).mono ?_; rintro e w1 ⟨rfl, hw1⟩; rw [hw1]; clear hw1 w1))
            go_ret
            exact ⟨_, rfl, congrArg Value.bool (by rw [HL.out]; simp), bW _⟩
          · skip
            cases p5
            · go_enter Try.func70, Try.ntmps70
              go_wp2_with (first
                | (go_at_call_of 128 n0; refine (u0 _).mono ?_; rintro e w1 ⟨rfl, hw1⟩; rw [hw1]; clear hw1 w1)
                | (go_at_call_of 128 n1; refine (u1 _).mono ?_; rintro e w1 ⟨rfl, hw1⟩; rw [hw1]; clear hw1 w1)
                | (go_at_call_of 128 n2; refine (u2 _).mono ?_; rintro e w1 ⟨rfl, hw1⟩; rw [hw1]; clear hw1 w1)
                | (go_at_call_of 128 n3; refine (u3 _).mono ?_; rintro e w1 ⟨rfl, hw1⟩; rw [hw1]; clear hw1 w1)
                | (go_at_call_of 128 n4; refine (u4 _).mono ?_; rintro e w1 ⟨rfl, hw1⟩; rw [hw1]; clear hw1 w1)
                | (go_at_call_of 128 n5; refine (u5 _).mono ?_; rintro e w1 ⟨rfl, hw1⟩; rw [hw1]; clear hw1 w1))
              go_ret
              exact ⟨_, rfl, congrArg Value.bool (by rw [HL.out]; simp), bW _⟩
            · skip
              cases p6
              · go_enter Try.func70, Try.ntmps70
                go_wp2_with (first
                  | (go_at_call_of 128 n0; refine (u0 _).mono ?_; rintro e w1 ⟨rfl, hw1⟩; rw [hw1]; clear hw1 w1)
                  | (go_at_call_of 128 n1; refine (u1 _).mono ?_; rintro e w1 ⟨rfl, hw1⟩; rw [hw1]; clear hw1 w1)
                  | (go_at_call_of 128 n2; refine (u2 _).mono ?_; rintro e w1 ⟨rfl, hw1⟩; rw [hw1]; clear hw1 w1)
                  | (go_at_call_of 128 n3; refine (u3 _).mono ?_; rintro e w1 ⟨rfl, hw1⟩; rw [hw1]; clear hw1 w1)
                  | (go_at_call_of 128 n4; refine (u4 _).mono ?_; rintro e w1 ⟨rfl, hw1⟩; rw [hw1]; clear hw1 w1)
                  | (go_at_call_of 128 n5; refine (u5 _).mono ?_; rintro e w1 ⟨rfl, hw1⟩; rw [hw1]; clear hw1 w1)
                  | (go_at_call_of 128 n6; refine (u6 _).mono ?_; rintro e w1 ⟨rfl, hw1⟩; rw [hw1]; clear hw1 w1))
                go_ret
                exact ⟨_, rfl, congrArg Value.bool (by rw [HL.out]; simp), bW _⟩
              · skip
                cases p7
                · go_enter Try.func70, Try.ntmps70
                  go_wp2_with (first
                    | (go_at_call_of 128 n0; refine (u0 _).mono ?_; rintro e w1 ⟨rfl, hw1⟩; rw [hw1]; clear hw1 w1)
                    | (go_at_call_of 128 n1; refine (u1 _).mono ?_; rintro e w1 ⟨rfl, hw1⟩; rw [hw1]; clear hw1 w1)
                    | (go_at_call_of 128 n2; refine (u2 _).mono ?_; rintro e w1 ⟨rfl, hw1⟩; rw [hw1]; clear hw1 w1)
                    | (go_at_call_of 128 n3; refine (u3 _).mono ?_; rintro e w1 ⟨rfl, hw1⟩; rw [hw1]; clear hw1 w1)
                    | (go_at_call_of 128 n4; refine (u4 _).mono ?_; rintro e w1 ⟨rfl, hw1⟩; rw [hw1]; clear hw1 w1)
                    | (go_at_call_of 128 n5; refine (u5 _).mono ?_; rintro e w1 ⟨rfl, hw1⟩; rw [hw1]; clear hw1 w1)
                    | (go_at_call_of 128 n6; refine (u6 _).mono ?_; rintro e w1 ⟨rfl, hw1⟩; rw [hw1]; clear hw1 w1)
                    | (go_at_call_of 128 n7; refine (u7 _).mono ?_; rintro e w1 ⟨rfl, hw1⟩; rw [hw1]; clear hw1 w1))
                  go_ret
                  exact ⟨_, rfl, congrArg Value.bool (by rw [HL.out]; simp), bW _⟩
                · skip
                  cases p8
                  · go_enter Try.func70, Try.ntmps70
                    go_wp2_with (first
                      | (go_at_call_of 128 n0; refine (u0 _).mono ?_; rintro e w1 ⟨rfl, hw1⟩; rw [hw1]; clear hw1 w1)
                      | (go_at_call_of 128 n1; refine (u1 _).mono ?_; rintro e w1 ⟨rfl, hw1⟩; rw [hw1]; clear hw1 w1)
                      | (go_at_call_of 128 n2; refine (u2 _).mono ?_; rintro e w1 ⟨rfl, hw1⟩; rw [hw1]; clear hw1 w1)
                      | (go_at_call_of 128 n3; refine (u3 _).mono ?_; rintro e w1 ⟨rfl, hw1⟩; rw [hw1]; clear hw1 w1)
                      | (go_at_call_of 128 n4; refine (u4 _).mono ?_; rintro e w1 ⟨rfl, hw1⟩; rw [hw1]; clear hw1 w1)
                      | (go_at_call_of 128 n5; refine (u5 _).mono ?_; rintro e w1 ⟨rfl, hw1⟩; rw [hw1]; clear hw1 w1)
                      | (go_at_call_of 128 n6; refine (u6 _).mono ?_; rintro e w1 ⟨rfl, hw1⟩; rw [hw1]; clear hw1 w1)
                      | (go_at_call_of 128 n7; refine (u7 _).mono ?_; rintro e w1 ⟨rfl, hw1⟩; rw [hw1]; clear hw1 w1)
                      | (go_at_call_of 128 n8; refine (u8 _).mono ?_; rintro e w1 ⟨rfl, hw1⟩; rw [hw1]; clear hw1 w1))
                    go_ret
                    exact ⟨_, rfl, congrArg Value.bool (by rw [HL.out]; simp), bW _⟩
                  · skip
                    cases p9
                    · go_enter Try.func70, Try.ntmps70
                      go_wp2_with (first
                        | (go_at_call_of 128 n0; refine (u0 _).mono ?_; rintro e w1 ⟨rfl, hw1⟩; rw [hw1]; clear hw1 w1)
                        | (go_at_call_of 128 n1; refine (u1 _).mono ?_; rintro e w1 ⟨rfl, hw1⟩; rw [hw1]; clear hw1 w1)
                        | (go_at_call_of 128 n2; refine (u2 _).mono ?_; rintro e w1 ⟨rfl, hw1⟩; rw [hw1]; clear hw1 w1)
                        | (go_at_call_of 128 n3; refine (u3 _).mono ?_; rintro e w1 ⟨rfl, hw1⟩; rw [hw1]; clear hw1 w1)
                        | (go_at_call_of 128 n4; refine (u4 _).mono ?_; rintro e w1 ⟨rfl, hw1⟩; rw [hw1]; clear hw1 w1)
                        | (go_at_call_of 128 n5; refine (u5 _).mono ?_; rintro e w1 ⟨rfl, hw1⟩; rw [hw1]; clear hw1 w1)
                        | (go_at_call_of 128 n6; refine (u6 _).mono ?_; rintro e w1 ⟨rfl, hw1⟩; rw [hw1]; clear hw1 w1)
                        | (go_at_call_of 128 n7; refine (u7 _).mono ?_; rintro e w1 ⟨rfl, hw1⟩; rw [hw1]; clear hw1 w1)
                        | (go_at_call_of 128 n8; refine (u8 _).mono ?_; rintro e w1 ⟨rfl, hw1⟩; rw [hw1]; clear hw1 w1)
                        | (go_at_call_of 128 n9; refine (u9 _).mono ?_; rintro e w1 ⟨rfl, hw1⟩; rw [hw1]; clear hw1 w1))
                      go_ret
                      exact ⟨_, rfl, congrArg Value.bool (by rw [HL.out]; simp), bW _⟩
                    · skip
                      cases p10
                      · go_enter Try.func70, Try.ntmps70
                        go_wp2_with (first
                          | (go_at_call_of 128 n0; refine (u0 _).mono ?_; rintro e w1 ⟨rfl, hw1⟩; rw [hw1]; clear hw1 w1)
                          | (go_at_call_of 128 n1; refine (u1 _).mono ?_; rintro e w1 ⟨rfl, hw1⟩; rw [hw1]; clear hw1 w1)
                          | (go_at_call_of 128 n2; refine (u2 _).mono ?_; rintro e w1 ⟨rfl, hw1⟩; rw [hw1]; clear hw1 w1)
                          | (go_at_call_of 128 n3; refine (u3 _).mono ?_; rintro e w1 ⟨rfl, hw1⟩; rw [hw1]; clear hw1 w1)
                          | (go_at_call_of 128 n4; refine (u4 _).mono ?_; rintro e w1 ⟨rfl, hw1⟩; rw [hw1]; clear hw1 w1)
                          | (go_at_call_of 128 n5; refine (u5 _).mono ?_; rintro e w1 ⟨rfl, hw1⟩; rw [hw1]; clear hw1 w1)
                          | (go_at_call_of 128 n6; refine (u6 _).mono ?_; rintro e w1 ⟨rfl, hw1⟩; rw [hw1]; clear hw1 w1)
                          | (go_at_call_of 128 n7; refine (u7 _).mono ?_; rintro e w1 ⟨rfl, hw1⟩; rw [hw1]; clear hw1 w1)
                          | (go_at_call_of 128 n8; refine (u8 _).mono ?_; rintro e w1 ⟨rfl, hw1⟩; rw [hw1]; clear hw1 w1)
                          | (go_at_call_of 128 n9; refine (u9 _).mono ?_; rintro e w1 ⟨rfl, hw1⟩; rw [hw1]; clear hw1 w1)
                          | (go_at_call_of 128 n10; refine (u10 _).mono ?_; rintro e w1 ⟨rfl, hw1⟩; rw [hw1]; clear hw1 w1))
                        go_ret
                        exact ⟨_, rfl, congrArg Value.bool (by rw [HL.out]; simp), bW _⟩
                      · go_enter Try.func70, Try.ntmps70
                        go_wp2_with (first
                          | (go_at_call_of 128 n0; refine (u0 _).mono ?_; rintro e w1 ⟨rfl, hw1⟩; rw [hw1]; clear hw1 w1)
                          | (go_at_call_of 128 n1; refine (u1 _).mono ?_; rintro e w1 ⟨rfl, hw1⟩; rw [hw1]; clear hw1 w1)
                          | (go_at_call_of 128 n2; refine (u2 _).mono ?_; rintro e w1 ⟨rfl, hw1⟩; rw [hw1]; clear hw1 w1)
                          | (go_at_call_of 128 n3; refine (u3 _).mono ?_; rintro e w1 ⟨rfl, hw1⟩; rw [hw1]; clear hw1 w1)
                          | (go_at_call_of 128 n4; refine (u4 _).mono ?_; rintro e w1 ⟨rfl, hw1⟩; rw [hw1]; clear hw1 w1)
                          | (go_at_call_of 128 n5; refine (u5 _).mono ?_; rintro e w1 ⟨rfl, hw1⟩; rw [hw1]; clear hw1 w1)
                          | (go_at_call_of 128 n6; refine (u6 _).mono ?_; rintro e w1 ⟨rfl, hw1⟩; rw [hw1]; clear hw1 w1)
                          | (go_at_call_of 128 n7; refine (u7 _).mono ?_; rintro e w1 ⟨rfl, hw1⟩; rw [hw1]; clear hw1 w1)
                          | (go_at_call_of 128 n8; refine (u8 _).mono ?_; rintro e w1 ⟨rfl, hw1⟩; rw [hw1]; clear hw1 w1)
                          | (go_at_call_of 128 n9; refine (u9 _).mono ?_; rintro e w1 ⟨rfl, hw1⟩; rw [hw1]; clear hw1 w1)
                          | (go_at_call_of 128 n10; refine (u10 _).mono ?_; rintro e w1 ⟨rfl, hw1⟩; rw [hw1]; clear hw1 w1))
                        go_ret
                        exact ⟨_, rfl, congrArg Value.bool (by rw [HL.out]; simp), bW _⟩
end Go.Proofs.Ytnaojlngdfolaaa.Grid
