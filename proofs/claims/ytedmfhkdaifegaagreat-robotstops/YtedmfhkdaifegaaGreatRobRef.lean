/-
  How long a move takes by the chapter; the chapter's own robot.
-/
import Derived.Test.YtedmfhkdaifegaaGreatRobNew
import Derived.Test.YtedmfhkdaifegaaGreatRkD
namespace Go.Proofs.YtedmfhkdaifegaaGreat.Rob
set_option linter.unusedVariables false
set_option linter.unusedSimpArgs false
open Go Go.RowKit Go.Shelf Go.Proofs Go.Proofs.YtedmfhkdaifegaaGreat.Lk Go.Proofs.YtedmfhkdaifegaaGreat.Plain
attribute [local go_sem] Oper.semAt_some

/- How long a move takes. -/
def lastsP (turn hoist : Int) (ku ka kv : Nat) (m : Mv) : Int := if m.kd = 1 then ((Kin.profI ku ka kv m.n).length : Nat) else if m.kd = 2 then turn else if m.kd = 3 ∨ m.kd = 4 then hoist else 0
/- A config and a move that were boxed. -/
structure Cm (w : World) (cs : Array Value) (m : Mv) (u : World) : Prop where
  cf : u.heap[w.heap.size]? = some (.cells cs 26 (0, 0))
  mv : u.heap[w.heap.size + 1]? = some (.cells (mvA m) 44 (0, 0))
  bel : Below w.heap.size w u
theorem Cm.go {w : World} {cs : Array Value} {m : Mv} {u u' : World} (h : Cm w cs m u) (b : Below u.heap.size u u') : Cm w cs m u' :=
  ⟨(b.block _ (Array.getElem?_eq_some_iff.1 h.cf).1).trans h.cf, (b.block _ (Array.getElem?_eq_some_iff.1 h.mv).1).trans h.mv, bcat h.bel b⟩
section
variable (c : Grid.Conf) (v1 v2 v3 v4 : Value) (ku ka kv : Nat) (w : World)
set_option maxRecDepth 100000 in
set_option maxHeartbeats 2000000 in
theorem kinR_any : Calls Tryz.prog 59 #[.agg #[.int .i64 c.W, .int .i64 c.H, .int .i64 c.height, v1, v2, v3, v4, .int .i64 ku, .int .i64 ka, .int .i64 kv, .int .i64 c.turn, .int .i64 c.hoist, .int .i64 c.queue, .int .i64 c.resend, .int .i64 c.budget, .bool c.back]] w fun e w' => ∃ z, e = .returned z ∧ (z = .agg #[.int .i64 ku, .int .i64 ka, .int .i64 kv] ∧ Below w.heap.size w w') := by
  go_enter Tryz.func59, Tryz.ntmps59
  go_wp2
  exact bodyPost_ret (results_cell_row rfl _ _ (w.heap.size + 1) 99 _ (0, 0) _ rfl (Grid.heap_new2 _ _ _) Tryz.underlying99 rfl (by kernel_rfl)) rfl ⟨_, rfl, rfl, Grid.below_two _ _ _⟩
theorem time_ret (ok : Kin.Ok ku ka kv) (n : Int) (u : World) : Calls Tryz.prog 60 #[.agg #[.int .i64 ku, .int .i64 ka, .int .i64 kv], .int .i64 n] u fun e w' => ∃ z, e = .returned z ∧ (z = .int .i64 ((Kin.profI ku ka kv n).length : Nat) ∧ Below u.heap.size u w') :=
  (Kin.refTime_any ku ka kv n u ok).mono fun e w' ⟨a, b⟩ => ⟨_, a, rfl, b⟩
set_option maxRecDepth 100000 in
set_option maxHeartbeats 2000000 in
theorem lasts_any (ok : Kin.Ok ku ka kv) (m : Mv) : Calls Tryz.prog 28 #[.agg #[.int .i64 c.W, .int .i64 c.H, .int .i64 c.height, v1, v2, v3, v4, .int .i64 ku, .int .i64 ka, .int .i64 kv, .int .i64 c.turn, .int .i64 c.hoist, .int .i64 c.queue, .int .i64 c.resend, .int .i64 c.budget, .bool c.back], .agg (mvA m)] w fun e w' => ∃ z, e = .returned z ∧ (z = .int .i64 (lastsP c.turn c.hoist ku ka kv m) ∧ Below w.heap.size w w') := by
  obtain ⟨w1, hw1⟩ : ∃ w1, w1 = w.alloc (.cells #[.int .i64 c.W, .int .i64 c.H, .int .i64 c.height, v1, v2, v3, v4, .int .i64 ku, .int .i64 ka, .int .i64 kv, .int .i64 c.turn, .int .i64 c.hoist, .int .i64 c.queue, .int .i64 c.resend, .int .i64 c.budget, .bool c.back] 26) := ⟨_, rfl⟩
  have s1 : w1.heap.size = w.heap.size + 1 := by rw [hw1]; simp
  obtain ⟨w2, hw2⟩ : ∃ w2, w2 = w1.alloc (.cells (mvA m) 44) := ⟨_, rfl⟩
  have C2 : Cm w #[.int .i64 c.W, .int .i64 c.H, .int .i64 c.height, v1, v2, v3, v4, .int .i64 ku, .int .i64 ka, .int .i64 kv, .int .i64 c.turn, .int .i64 c.hoist, .int .i64 c.queue, .int .i64 c.resend, .int .i64 c.budget, .bool c.back] m w2 := by
    have q := Grid.heap_new2 w (.cells #[.int .i64 c.W, .int .i64 c.H, .int .i64 c.height, v1, v2, v3, v4, .int .i64 ku, .int .i64 ka, .int .i64 kv, .int .i64 c.turn, .int .i64 c.hoist, .int .i64 c.queue, .int .i64 c.resend, .int .i64 c.budget, .bool c.back] 26 (0, 0)) (.cells (mvA m) 44 (0, 0))
    have b1 : Below w.heap.size w w1 := by rw [hw1]; exact (Below.refl _ _).alloc (Nat.le_refl _) _
    have b2 : Below w1.heap.size w1 w2 := by rw [hw2]; exact (Below.refl _ _).alloc (Nat.le_refl _) _
    refine ⟨?_, ?_, bcat b1 b2⟩
    · exact (b2.block _ (by omega)).trans (by rw [hw1]; exact World.alloc_heap_new _ _)
    · rw [hw2, ← s1]; exact World.alloc_heap_new _ _
  have k0 : w2.cell? ⟨w.heap.size + 1, 0, none⟩ = some (.int .i64 m.kd) := mv_cell C2.mv 0
  have k10 : w2.cell? ⟨w.heap.size, 10, none⟩ = some (.int .i64 c.turn) := cell_of' C2.cf 10
  have k11 : w2.cell? ⟨w.heap.size, 11, none⟩ = some (.int .i64 c.hoist) := cell_of' C2.cf 11
  have HC : Hid (Cm w #[.int .i64 c.W, .int .i64 c.H, .int .i64 c.height, v1, v2, v3, v4, .int .i64 ku, .int .i64 ka, .int .i64 kv, .int .i64 c.turn, .int .i64 c.hoist, .int .i64 c.queue, .int .i64 c.resend, .int .i64 c.budget, .bool c.back] m w2) := C2
  clear C2
  obtain ⟨lp, hlp⟩ : ∃ lp, lastsP c.turn c.hoist ku ka kv m = lp := ⟨_, rfl⟩
  rw [hlp]
  unfold lastsP at hlp
  by_cases h1 : m.kd = 1
  · rw [if_pos h1] at hlp
    have HL : Hid (((Kin.profI ku ka kv m.n).length : Nat) = lp) := hlp
    have q1 : (m.kd == 1) = true := by rw [beq_iff_eq]; exact h1
    clear hlp h1
    go_enter Tryz.func28, Tryz.ntmps28
    go_upto_region 3 with (first | (refine wpList_boxAt rfl 26 (.tmp 0) rfl #[.int .i64 c.W, .int .i64 c.H, .int .i64 c.height, v1, v2, v3, v4, .int .i64 ku, .int .i64 ka, .int .i64 kv, .int .i64 c.turn, .int .i64 c.hoist, .int .i64 c.queue, .int .i64 c.resend, .int .i64 c.budget, .bool c.back] rfl ?_; rw [← hw1]; clear hw1) | (refine wpList_boxAt rfl 44 (.tmp 1) rfl (mvA m) rfl ?_; rw [← hw2, s1]; clear hw2))
    refine start_held (S := Cm w #[.int .i64 c.W, .int .i64 c.H, .int .i64 c.height, v1, v2, v3, v4, .int .i64 ku, .int .i64 ka, .int .i64 kv, .int .i64 c.turn, .int .i64 c.hoist, .int .i64 c.queue, .int .i64 c.resend, .int .i64 c.budget, .bool c.back] m) 6 rfl (by kernel_rfl) (HC.out.go (Below.refl _ _).drew) ?_
    simp only [Array.replicate_succ, Array.replicate_zero, List.push_toArray, List.nil_append, List.cons_append]
    have hS0 : Cm w #[.int .i64 c.W, .int .i64 c.H, .int .i64 c.height, v1, v2, v3, v4, .int .i64 ku, .int .i64 ka, .int .i64 kv, .int .i64 c.turn, .int .i64 c.hoist, .int .i64 c.queue, .int .i64 c.resend, .int .i64 c.budget, .bool c.back] m w2.drew := HC.out.go (Below.refl _ _).drew
    clear k0 k10 k11
    generalize w2.drew = x0 at *
    refine tk 0 hS0 rfl (v := .agg #[.int .i64 c.W, .int .i64 c.H, .int .i64 c.height, v1, v2, v3, v4, .int .i64 ku, .int .i64 ka, .int .i64 kv, .int .i64 c.turn, .int .i64 c.hoist, .int .i64 c.queue, .int .i64 c.resend, .int .i64 c.budget, .bool c.back]) ?y5000 ?r5000
    case y5000 => (intro u hu; exact run_load_at 26 _ rfl ⟨w.heap.size, 0, none⟩ rfl _ (load_row_of (Cm.cf hu) (Grid.aggConf _) Grid.info_conf))
    simp only [Act.put, pA, pB, pC]
    refine tk 2 hS0 rfl (v := ?v5001) ?y5001 ?r5001
    case y5001 => (intro u hu; go_simp; try rfl)
    simp only [Act.put, pA, pB, pC]
    refine tk 3 hS0 rfl (v := ?v5002) ?y5002 ?r5002
    case y5002 => (intro u hu; have zz0 := (fun (u : World) (hu : Cm w #[.int .i64 c.W, .int .i64 c.H, .int .i64 c.height, v1, v2, v3, v4, .int .i64 ku, .int .i64 ka, .int .i64 kv, .int .i64 c.turn, .int .i64 c.hoist, .int .i64 c.queue, .int .i64 c.resend, .int .i64 c.budget, .bool c.back] m u) => (mv_cell (Cm.mv hu) 2).trans (rfl : _ = some (Value.int .i64 m.n))) u hu; go_simp; try rfl)
    simp only [Act.put, pA, pB, pC]
    refine wpAnyH_ready (rs := [1]) (by kernel_rfl) (by simp) (AllReadyH.cons ((nth_eq _ 1).trans rfl) ?_ AllReadyH.nil)
    intro K1 hK1
    refine call_in hK1 (by kernel_rfl) 59 #[.agg #[.int .i64 c.W, .int .i64 c.H, .int .i64 c.height, v1, v2, v3, v4, .int .i64 ku, .int .i64 ka, .int .i64 kv, .int .i64 c.turn, .int .i64 c.hoist, .int .i64 c.queue, .int .i64 c.resend, .int .i64 c.budget, .bool c.back]] (by go_simp) _ (kinR_any c v1 v2 v3 v4 ku ka kv x0) ?_
    rintro v1 x1 ⟨rfl, b1⟩
    have hS1 := hS0.go b1
    refine ⟨hS1, ?_⟩
    simp only [Act.put, pA, pB, pC]
    refine wpAnyH_ready (rs := [4]) (by kernel_rfl) (by simp) (AllReadyH.cons ((nth_eq _ 4).trans rfl) ?_ AllReadyH.nil)
    intro K2 hK2
    refine call_in hK2 (by kernel_rfl) 60 #[.agg #[.int .i64 ku, .int .i64 ka, .int .i64 kv], .int .i64 m.n] (by go_simp) _ (time_ret ku ka kv ok m.n x1) ?_
    rintro v2 x2 ⟨rfl, b2⟩
    have hS2 := hS1.go b2
    refine ⟨hS2, ?_⟩
    simp only [Act.put, pA, pB, pC]
    refine tk 5 hS2 rfl (v := ?v5003) ?y5003 ?r5003
    case y5003 => (intro u hu; go_simp; try rfl)
    simp only [Act.put, pA, pB, pC]
    refine done_held (by kernel_rfl) ?_ _
    go_wp2
    go_ret
    exact ⟨_, rfl, by rw [← HL.out]; exact rfl, hS2.bel⟩
  · rw [if_neg h1] at hlp
    have q1 : (m.kd == 1) = false := by rw [beq_eq_false_iff_ne]; exact h1
    clear h1
    by_cases h2 : m.kd = 2
    · rw [if_pos h2] at hlp
      have HL : Hid (c.turn = lp) := hlp
      have q2 : (m.kd == 2) = true := by rw [beq_iff_eq]; exact h2
      clear hlp h2
      go_enter Tryz.func28, Tryz.ntmps28
      go_wp2_with (first | (refine wpList_boxAt rfl 26 (.tmp 0) rfl #[.int .i64 c.W, .int .i64 c.H, .int .i64 c.height, v1, v2, v3, v4, .int .i64 ku, .int .i64 ka, .int .i64 kv, .int .i64 c.turn, .int .i64 c.hoist, .int .i64 c.queue, .int .i64 c.resend, .int .i64 c.budget, .bool c.back] rfl ?_; rw [← hw1]; clear hw1) | (refine wpList_boxAt rfl 44 (.tmp 1) rfl (mvA m) rfl ?_; rw [← hw2, s1]; clear hw2))
      go_ret
      exact ⟨_, rfl, by rw [← HL.out]; rfl, HC.out.bel⟩
    · rw [if_neg h2] at hlp
      have q2 : (m.kd == 2) = false := by rw [beq_eq_false_iff_ne]; exact h2
      clear h2
      by_cases h3 : m.kd = 3
      · rw [if_pos (Or.inl h3)] at hlp
        have HL : Hid (c.hoist = lp) := hlp
        have q3 : (m.kd == 3) = true := by rw [beq_iff_eq]; exact h3
        clear hlp h3
        go_enter Tryz.func28, Tryz.ntmps28
        go_wp2_with (first | (refine wpList_boxAt rfl 26 (.tmp 0) rfl #[.int .i64 c.W, .int .i64 c.H, .int .i64 c.height, v1, v2, v3, v4, .int .i64 ku, .int .i64 ka, .int .i64 kv, .int .i64 c.turn, .int .i64 c.hoist, .int .i64 c.queue, .int .i64 c.resend, .int .i64 c.budget, .bool c.back] rfl ?_; rw [← hw1]; clear hw1) | (refine wpList_boxAt rfl 44 (.tmp 1) rfl (mvA m) rfl ?_; rw [← hw2, s1]; clear hw2))
        go_ret
        exact ⟨_, rfl, by rw [← HL.out]; rfl, HC.out.bel⟩
      · have q3 : (m.kd == 3) = false := by rw [beq_eq_false_iff_ne]; exact h3
        by_cases h4 : m.kd = 4
        · rw [if_pos (Or.inr h4)] at hlp
          have HL : Hid (c.hoist = lp) := hlp
          have q4 : (m.kd == 4) = true := by rw [beq_iff_eq]; exact h4
          clear hlp h3 h4
          go_enter Tryz.func28, Tryz.ntmps28
          go_wp2_with (first | (refine wpList_boxAt rfl 26 (.tmp 0) rfl #[.int .i64 c.W, .int .i64 c.H, .int .i64 c.height, v1, v2, v3, v4, .int .i64 ku, .int .i64 ka, .int .i64 kv, .int .i64 c.turn, .int .i64 c.hoist, .int .i64 c.queue, .int .i64 c.resend, .int .i64 c.budget, .bool c.back] rfl ?_; rw [← hw1]; clear hw1) | (refine wpList_boxAt rfl 44 (.tmp 1) rfl (mvA m) rfl ?_; rw [← hw2, s1]; clear hw2))
          go_ret
          exact ⟨_, rfl, by rw [← HL.out]; rfl, HC.out.bel⟩
        · rw [if_neg (fun f => f.elim h3 h4)] at hlp
          have HL : Hid ((0 : Int) = lp) := hlp
          have q4 : (m.kd == 4) = false := by rw [beq_eq_false_iff_ne]; exact h4
          clear hlp h3 h4
          go_enter Tryz.func28, Tryz.ntmps28
          go_wp2_with (first | (refine wpList_boxAt rfl 26 (.tmp 0) rfl #[.int .i64 c.W, .int .i64 c.H, .int .i64 c.height, v1, v2, v3, v4, .int .i64 ku, .int .i64 ka, .int .i64 kv, .int .i64 c.turn, .int .i64 c.hoist, .int .i64 c.queue, .int .i64 c.resend, .int .i64 c.budget, .bool c.back] rfl ?_; rw [← hw1]; clear hw1) | (refine wpList_boxAt rfl 44 (.tmp 1) rfl (mvA m) rfl ?_; rw [← hw2, s1]; clear hw2))
          go_ret
          exact ⟨_, rfl, by rw [← HL.out]; rfl, HC.out.bel⟩
end
end Go.Proofs.YtedmfhkdaifegaaGreat.Rob
