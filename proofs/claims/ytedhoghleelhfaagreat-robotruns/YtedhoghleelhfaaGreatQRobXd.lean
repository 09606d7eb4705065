/-
  How long a move takes by the chapter; the chapter's own robot.
-/
import Derived.Test.YtedhoghleelhfaaGreatQRobNew
import Derived.Test.YtedhoghleelhfaaGreatQRkD
import Derived.Test.YtedhoghleelhfaaGreatQRobXc
import Derived.Test.YtedhoghleelhfaaGreatQRgL
import Derived.Test.YtedhoghleelhfaaGreatQRgK
import Derived.Test.YtedhoghleelhfaaGreatQRobXb
namespace Go.Proofs.YtedhoghleelhfaaGreat.Rob
set_option linter.unusedVariables false
set_option linter.unusedSimpArgs false
open Go Go.RowKit Go.Shelf Go.Proofs Go.Proofs.YtedhoghleelhfaaGreat.Lk Go.Proofs.YtedhoghleelhfaaGreat.Plain
attribute [local go_sem] Oper.semAt_some

/- How long a move takes. -/
def lastsP (turn hoist : Int) (ku ka kv : Nat) (m : Mv) : Int := if m.kd = 1 then ((Kin.profI ku ka kv m.n).length : Nat) else if m.kd = 2 then turn else if m.kd = 3 ∨ m.kd = 4 then hoist else 0
/- A config and a move that were boxed. -/
structure Cm (w : World) (cs : Array Value) (m : Mv) (u : World) : Prop where
  cf : u.heap[w.heap.size]? = some (.cells cs 26 (0, 0))
  mv : u.heap[w.heap.size + 1]? = some (.cells (mvA m) 44 (0, 0))
  bel : Below w.heap.size w u
theorem Cm.go {w : World} {cs : Array Value} {m : Mv} {u u' : World} (h : Cm w cs m u) (b : Below u.heap.size u u') : Cm w cs m u' :=
  ⟨(b.block _ (Array.getElem?_eq_some_iff.1 h.cf).1).trans h.cf, (b.block _ (Array.getElem?_eq_some_iff.1 h.mv).1).trans h.mv, bcat h.bel b⟩
section
variable (c : Grid.Conf) (v1 v2 v3 v4 : Value) (ku ka kv : Nat) (w : World)
set_option maxRecDepth 100000 in
set_option maxHeartbeats 2000000 in
theorem kinR_any : Calls Tryz.prog 64 #[.agg #[.int .i64 c.W, .int .i64 c.H, .int .i64 c.height, v1, v2, v3, v4, .int .i64 ku, .int .i64 ka, .int .i64 kv, .int .i64 c.turn, .int .i64 c.hoist, .int .i64 c.queue, .int .i64 c.resend, .int .i64 c.budget, .bool c.back]] w fun e w' => ∃ z, e = .returned z ∧ (z = .agg #[.int .i64 ku, .int .i64 ka, .int .i64 kv] ∧ Below w.heap.size w w') := by
  go_enter Tryz.func64, Tryz.ntmps64
  go_wp2
  exact bodyPost_ret (results_cell_row rfl _ _ (w.heap.size + 1) 121 _ (0, 0) _ rfl (Grid.heap_new2 _ _ _) Tryz.underlying121 rfl (by kernel_rfl)) rfl ⟨_, rfl, rfl, Grid.below_two _ _ _⟩
theorem time_ret (ok : Kin.Ok ku ka kv) (n : Int) (u : World) : Calls Tryz.prog 65 #[.agg #[.int .i64 ku, .int .i64 ka, .int .i64 kv], .int .i64 n] u fun e w' => ∃ z, e = .returned z ∧ (z = .int .i64 ((Kin.profI ku ka kv n).length : Nat) ∧ Below u.heap.size u w') :=
  (Kin.refTime_any ku ka kv n u ok).mono fun e w' ⟨a, b⟩ => ⟨_, a, rfl, b⟩
set_option maxRecDepth 100000 in
set_option maxHeartbeats 2000000 in
theorem lasts_any (ok : Kin.Ok ku ka kv) (m : Mv) : Calls Tryz.prog 42 #[.agg #[.int .i64 c.W, .int .i64 c.H, .int .i64 c.height, v1, v2, v3, v4, .int .i64 ku, .int .i64 ka, .int .i64 kv, .int .i64 c.turn, .int .i64 c.hoist, .int .i64 c.queue, .int .i64 c.resend, .int .i64 c.budget, .bool c.back], .agg (mvA m)] w fun e w' => ∃ z, e = .returned z ∧ (z = .int .i64 (lastsP c.turn c.hoist ku ka kv m) ∧ Below w.heap.size w w') := by
  obtain ⟨w1, hw1⟩ : ∃ w1, w1 = w.alloc (.cells #[.int .i64 c.W, .int .i64 c.H, .int .i64 c.height, v1, v2, v3, v4, .int .i64 ku, .int .i64 ka, .int .i64 kv, .int .i64 c.turn, .int .i64 c.hoist, .int .i64 c.queue, .int .i64 c.resend, .int .i64 c.budget, .bool c.back] 26) := ⟨_, rfl⟩
  have s1 : w1.heap.size = w.heap.size + 1 := by rw [hw1]; simp
  obtain ⟨w2, hw2⟩ : ∃ w2, w2 = w1.alloc (.cells (mvA m) 44) := ⟨_, rfl⟩
  have C2 : Cm w #[.int .i64 c.W, .int .i64 c.H, .int .i64 c.height, v1, v2, v3, v4, .int .i64 ku, .int .i64 ka, .int .i64 kv, .int .i64 c.turn, .int .i64 c.hoist, .int .i64 c.queue, .int .i64 c.resend, .int .i64 c.budget, .bool c.back] m w2 := by
    have q := Grid.heap_new2 w (.cells #[.int .i64 c.W, .int .i64 c.H, .int .i64 c.height, v1, v2, v3, v4, .int .i64 ku, .int .i64 ka, .int .i64 kv, .int .i64 c.turn, .int .i64 c.hoist, .int .i64 c.queue, .int .i64 c.resend, .int .i64 c.budget, .bool c.back] 26 (0, 0)) (.cells (mvA m) 44 (0, 0))
    have b1 : Below w.heap.size w w1 := by rw [hw1]; exact (Below.refl _ _).alloc (Nat.le_refl _) _
    have b2 : Below w1.heap.size w1 w2 := by rw [hw2]; exact (Below.refl _ _).alloc (Nat.le_refl _) _
    refine ⟨?_, ?_, bcat b1 b2⟩
    · exact (b2.block _ (by omega)).trans (by rw [hw1]; exact World.alloc_heap_new _ _)
    · rw [hw2, ← s1]; exact World.alloc_heap_new _ _
  have k0 : w2.cell? ⟨w.heap.size + 1, 0, none⟩ = some (.int .i64 m.kd) := mv_cell C2.mv 0
  have k10 : w2.cell? ⟨w.heap.size, 10, none⟩ = some (.int .i64 c.turn) := cell_of' C2.cf 10
  have k11 : w2.cell? ⟨w.heap.size, 11, none⟩ = some (.int .i64 c.hoist) := cell_of' C2.cf 11
  have HC : Hid (Cm w #[.int .i64 c.W, .int .i64 c.H, .int .i64 c.height, v1, v2, v3, v4, .int .i64 ku, .int .i64 ka, .int .i64 kv, .int .i64 c.turn, .int .i64 c.hoist, .int .i64 c.queue, .int .i64 c.resend, .int .i64 c.budget, .bool c.back] m w2) := C2
  clear C2
  obtain ⟨lp, hlp⟩ : ∃ lp, lastsP c.turn c.hoist ku ka kv m = lp := ⟨_, rfl⟩
  rw [hlp]
  unfold lastsP at hlp
  by_cases h1 : m.kd = 1
  · rw [if_pos h1] at hlp
    have HL : Hid (((Kin.profI ku ka kv m.n).length : Nat) = lp) := hlp
    have q1 : (m.kd == 1) = true := by rw [beq_iff_eq]; exact h1
    clear hlp h1
    go_enter Tryz.func42, Tryz.ntmps42
    go_upto_region 3 with (first | (refine wpList_boxAt rfl 26 (.tmp 0) rfl #[.int .i64 c.W, .int .i64 c.H, .int .i64 c.height, v1, v2, v3, v4, .int .i64 ku, .int .i64 ka, .int .i64 kv, .int .i64 c.turn, .int .i64 c.hoist, .int .i64 c.queue, .int .i64 c.resend, .int .i64 c.budget, .bool c.back] rfl ?_; rw [← hw1]; clear hw1) | (refine wpList_boxAt rfl 44 (.tmp 1) rfl (mvA m) rfl ?_; rw [← hw2, s1]; clear hw2))
    refine start_held (S := Cm w #[.int .i64 c.W, .int .i64 c.H, .int .i64 c.height, v1, v2, v3, v4, .int .i64 ku, .int .i64 ka, .int .i64 kv, .int .i64 c.turn, .int .i64 c.hoist, .int .i64 c.queue, .int .i64 c.resend, .int .i64 c.budget, .bool c.back] m) 6 rfl (by kernel_rfl) (HC.out.go (Below.refl _ _).drew) ?_
    simp only [Array.replicate_succ, Array.replicate_zero, List.push_toArray, List.nil_append, List.cons_append]
    have hS0 : Cm w #[.int .i64 c.W, .int .i64 c.H, .int .i64 c.height, v1, v2, v3, v4, .int .i64 ku, .int .i64 ka, .int .i64 kv, .int .i64 c.turn, .int .i64 c.hoist, .int .i64 c.queue, .int .i64 c.resend, .int .i64 c.budget, .bool c.back] m w2.drew := HC.out.go (Below.refl _ _).drew
    clear k0 k10 k11
    generalize w2.drew = x0 at *
    refine tkf 0 hS0 rfl (v := .agg #[.int .i64 c.W, .int .i64 c.H, .int .i64 c.height, v1, v2, v3, v4, .int .i64 ku, .int .i64 ka, .int .i64 kv, .int .i64 c.turn, .int .i64 c.hoist, .int .i64 c.queue, .int .i64 c.resend, .int .i64 c.budget, .bool c.back]) (fun u hu => by exact run_load_at 26 _ rfl ⟨w.heap.size, 0, none⟩ rfl _ (load_row_of (Cm.cf hu) (Grid.aggConf _) Grid.info_conf)) ?_
    refine tkq 2 hS0 ?_
    refine tkf 3 hS0 rfl (fun u hu => by have zz0 := (fun (u : World) (hu : Cm w #[.int .i64 c.W, .int .i64 c.H, .int .i64 c.height, v1, v2, v3, v4, .int .i64 ku, .int .i64 ka, .int .i64 kv, .int .i64 c.turn, .int .i64 c.hoist, .int .i64 c.queue, .int .i64 c.resend, .int .i64 c.budget, .bool c.back] m u) => (mv_cell (Cm.mv hu) 2).trans (rfl : _ = some (Value.int .i64 m.n))) u hu; go_simp; try rfl) ?_
    refine wpAnyH_ready (rs := [1]) (by kernel_rfl) (by simp) (AllReadyH.cons ((nth_eq _ 1).trans rfl) ?_ AllReadyH.nil)
    intro K1 hK1
    refine call_in hK1 (by kernel_rfl) 64 #[.agg #[.int .i64 c.W, .int .i64 c.H, .int .i64 c.height, v1, v2, v3, v4, .int .i64 ku, .int .i64 ka, .int .i64 kv, .int .i64 c.turn, .int .i64 c.hoist, .int .i64 c.queue, .int .i64 c.resend, .int .i64 c.budget, .bool c.back]] (by go_simp) _ (kinR_any c v1 v2 v3 v4 ku ka kv x0) ?_
    rintro v1 x1 ⟨rfl, b1⟩
    have hS1 := hS0.go b1
    refine ⟨hS1, ?_⟩
    simp only [Act.put, List.setIfInBounds_toArray, List.set_cons_zero, List.set_cons_succ]
    refine wpAnyH_ready (rs := [4]) (by kernel_rfl) (by simp) (AllReadyH.cons ((nth_eq _ 4).trans rfl) ?_ AllReadyH.nil)
    intro K2 hK2
    refine call_in hK2 (by kernel_rfl) 65 #[.agg #[.int .i64 ku, .int .i64 ka, .int .i64 kv], .int .i64 m.n] (by go_simp) _ (time_ret ku ka kv ok m.n x1) ?_
    rintro v2 x2 ⟨rfl, b2⟩
    have hS2 := hS1.go b2
    refine ⟨hS2, ?_⟩
    simp only [Act.put, List.setIfInBounds_toArray, List.set_cons_zero, List.set_cons_succ]
    refine tkq 5 hS2 ?_
    refine done_held (by kernel_rfl) ?_ _
    go_wp2
    go_ret
    exact ⟨_, rfl, by rw [← HL.out]; exact rfl, hS2.bel⟩
  · rw [if_neg h1] at hlp
    have q1 : (m.kd == 1) = false := by rw [beq_eq_false_iff_ne]; exact h1
    clear h1
    by_cases h2 : m.kd = 2
    · rw [if_pos h2] at hlp
      have HL : Hid (c.turn = lp) := hlp
      have q2 : (m.kd == 2) = true := by rw [beq_iff_eq]; exact h2
      clear hlp h2
      go_enter Tryz.func42, Tryz.ntmps42
      go_wp2_with (first | (refine wpList_boxAt rfl 26 (.tmp 0) rfl #[.int .i64 c.W, .int .i64 c.H, .int .i64 c.height, v1, v2, v3, v4, .int .i64 ku, .int .i64 ka, .int .i64 kv, .int .i64 c.turn, .int .i64 c.hoist, .int .i64 c.queue, .int .i64 c.resend, .int .i64 c.budget, .bool c.back] rfl ?_; rw [← hw1]; clear hw1) | (refine wpList_boxAt rfl 44 (.tmp 1) rfl (mvA m) rfl ?_; rw [← hw2, s1]; clear hw2))
      go_ret
      exact ⟨_, rfl, by rw [← HL.out]; rfl, HC.out.bel⟩
    · rw [if_neg h2] at hlp
      have q2 : (m.kd == 2) = false := by rw [beq_eq_false_iff_ne]; exact h2
      clear h2
      by_cases h3 : m.kd = 3
      · rw [if_pos (Or.inl h3)] at hlp
        have HL : Hid (c.hoist = lp) := hlp
        have q3 : (m.kd == 3) = true := by rw [beq_iff_eq]; exact h3
        clear hlp h3
        go_enter Tryz.func42, Tryz.ntmps42
        go_wp2_with (first | (refine wpList_boxAt rfl 26 (.tmp 0) rfl #[.int .i64 c.W, .int .i64 c.H, .int .i64 c.height, v1, v2, v3, v4, .int .i64 ku, .int .i64 ka, .int .i64 kv, .int .i64 c.turn, .int .i64 c.hoist, .int .i64 c.queue, .int .i64 c.resend, .int .i64 c.budget, .bool c.back] rfl ?_; rw [← hw1]; clear hw1) | (refine wpList_boxAt rfl 44 (.tmp 1) rfl (mvA m) rfl ?_; rw [← hw2, s1]; clear hw2))
        go_ret
        exact ⟨_, rfl, by rw [← HL.out]; rfl, HC.out.bel⟩
      · have q3 : (m.kd == 3) = false := by rw [beq_eq_false_iff_ne]; exact h3
        by_cases h4 : m.kd = 4
        · rw [if_pos (Or.inr h4)] at hlp
          have HL : Hid (c.hoist = lp) := hlp
          have q4 : (m.kd == 4) = true := by rw [beq_iff_eq]; exact h4
          clear hlp h3 h4
          go_enter Tryz.func42, Tryz.ntmps42
          go_wp2_with (first | (refine wpList_boxAt rfl 26 (.tmp 0) rfl #[.int .i64 c.W, .int .i64 c.H, .int .i64 c.height, v1, v2, v3, v4, .int .i64 ku, .int .i64 ka, .int .i64 kv, .int .i64 c.turn, .int .i64 c.hoist, .int .i64 c.queue, .int .i64 c.resend, .int .i64 c.budget, .bool c.back] rfl ?_; rw [← hw1]; clear hw1) | (refine wpList_boxAt rfl 44 (.tmp 1) rfl (mvA m) rfl ?_; rw [← hw2, s1]; clear hw2))
          go_ret
          exact ⟨_, rfl, by rw [← HL.out]; rfl, HC.out.bel⟩
        · rw [if_neg (fun f => f.elim h3 h4)] at hlp
          have HL : Hid ((0 : Int) = lp) := hlp
          have q4 : (m.kd == 4) = false := by rw [beq_eq_false_iff_ne]; exact h4
          clear hlp h3 h4
          go_enter Tryz.func42, Tryz.ntmps42
          go_wp2_with (first | (refine wpList_boxAt rfl 26 (.tmp 0) rfl #[.int .i64 c.W, .int .i64 c.H, .int .i64 c.height, v1, v2, v3, v4, .int .i64 ku, .int .i64 ka, .int .i64 kv, .int .i64 c.turn, .int .i64 c.hoist, .int .i64 c.queue, .int .i64 c.resend, .int .i64 c.budget, .bool c.back] rfl ?_; rw [← hw1]; clear hw1) | (refine wpList_boxAt rfl 44 (.tmp 1) rfl (mvA m) rfl ?_; rw [← hw2, s1]; clear hw2))
          go_ret
          exact ⟨_, rfl, by rw [← HL.out]; rfl, HC.out.bel⟩
end
end Go.Proofs.YtedhoghleelhfaaGreat.Rob
/-
  The go-ahead that leads a robot on from where it stands, in plain words.
-/
namespace Go.Proofs.YtedhoghleelhfaaGreat.Rob
set_option linter.unusedVariables false
set_option linter.unusedSimpArgs false
open Go Go.RowKit Go.Shelf Go.Proofs Go.Proofs.YtedhoghleelhfaaGreat.Lk Go.Proofs.YtedhoghleelhfaaGreat.Plain

def mvOf (m : Grid.Move) : Mv := ⟨m.1, m.2.1, m.2.2.1, m.2.2.2.1.1.1, m.2.2.2.1.1.2, m.2.2.2.1.2, m.2.2.2.2.1.1.1, m.2.2.2.2.1.1.2, m.2.2.2.2.1.2, m.2.2.2.2.2.1, m.2.2.2.2.2.2⟩
theorem gm_of (m : Grid.Move) : gm (mvOf m) = m := rfl
/- A move with the ticks of its beginning and its end. -/
def timed (turn hoist : Int) (ku ka kv : Nat) (b : Mv) (at_ : Int) : Mv := { b with ma := at_, me := at_ + lastsP turn hoist ku ka kv b }
/- What the law's gos says: the moves of a pose, the one picked, its beginning. -/
def gosM (turn hoist : Int) (ku ka kv : Nat) (l : List Grid.Move) (p : Grid.Pose) (n late : Int) : Mv :=
  if l = [] then ⟨3, 0, 0, p.1.1, p.1.2, p.2, p.1.1, p.1.2, p.2, 0, hoist⟩
  else timed turn hoist ku ka kv (mvOf ((l[(place n l.length).toNat]?).getD (gm mv0))) (place late 1000)
/- A go-ahead. -/
def goT (nb ep nm : Int) (m : Mv) : Tl := ⟨1, nb, ep, nm, m.kd, m.dr, m.n, m.fx, m.fy, m.fd, m.tx, m.ty, m.td, m.ma, m.me, 0, 0, false, 0⟩
/- A move that a robot at p can do, as long as it takes. -/
structure Led (W H : Int) (us : List Int) (turn hoist : Int) (ku ka kv : Nat) (p : Grid.Pose) (m : Mv) : Prop where
  frm : ((m.fx, m.fy), m.fd) = p
  legal : Grid.legalU W H us (gm m) = true
  at0 : 0 ≤ m.ma
  at1 : m.ma ≤ 1000
  en : m.me = m.ma + lastsP turn hoist ku ka kv m
  l1 : 1 ≤ lastsP turn hoist ku ka kv m
  l2 : lastsP turn hoist ku ka kv m ≤ 16000
theorem legal_times {W H : Int} {us : List Int} {m m' : Mv} (h : Grid.legalU W H us (gm m) = true) (e : m' = { m with ma := m'.ma, me := m'.me }) : Grid.legalU W H us (gm m') = true := by
  rw [e]
  exact h
theorem legal_kind {W H : Int} {us : List Int} {m : Mv} (h : Grid.legalU W H us (gm m) = true) : (m.kd = 1 ∧ 1 ≤ m.n ∧ m.n ≤ 16) ∨ m.kd = 2 ∨ m.kd = 3 ∨ m.kd = 4 := by
  unfold Grid.legalU at h
  simp only [Bool.and_eq_true] at h
  have h1 := h.1.1.1
  change (Grid.leadsP m.kd m.dr m.n ((m.fx, m.fy), m.fd)).2 = true at h1
  unfold Grid.leadsP at h1
  by_cases k1 : m.kd = 1
  · rw [if_pos k1] at h1
    simp only [Grid.mayShift, Bool.and_eq_true, decide_eq_true_eq] at h1
    exact Or.inl ⟨k1, by omega, by omega⟩
  · rw [if_neg k1] at h1
    by_cases k2 : m.kd = 2
    · exact Or.inr (Or.inl k2)
    · rw [if_neg k2] at h1
      by_cases k3 : m.kd = 3 ∨ m.kd = 4
      · exact Or.inr (Or.inr k3)
      · rw [if_neg k3] at h1
        cases h1
theorem lasts_bd {W H : Int} {us : List Int} {turn hoist : Int} {ku ka kv : Nat} (ok : Kin.Ok ku ka kv) (t1 : 1 ≤ turn) (t2 : turn ≤ 1000) (h1 : 1 ≤ hoist) (h2 : hoist ≤ 1000) {m : Mv} (h : Grid.legalU W H us (gm m) = true) : 1 ≤ lastsP turn hoist ku ka kv m ∧ lastsP turn hoist ku ka kv m ≤ 16000 := by
  unfold lastsP
  rcases legal_kind h with ⟨k, n1, n2⟩ | k | k
  · rw [if_pos k]
    obtain ⟨N, hN⟩ := Int.eq_ofNat_of_zero_le (show 0 ≤ m.n by omega)
    rw [hN, Kin.profI_in (by omega) (by omega), Kin.prof_len]
    have := Kin.spd_bd ok (n := N) (by omega) (by omega)
    omega
  · rw [if_neg (by omega), if_pos k]; omega
  · rw [if_neg (by omega), if_neg (by omega), if_pos k]; omega
theorem place_pick (n : Int) {l : List Grid.Move} (hl : l ≠ []) : ∃ i : Nat, (place n l.length).toNat = i ∧ i < l.length := by
  have h0 : 0 < l.length := List.length_pos_iff.2 hl
  have := place_bd n l.length (by omega)
  exact ⟨_, rfl, by omega⟩
end Go.Proofs.YtedhoghleelhfaaGreat.Rob
/-
  The chapter's own robot in memory; its New.
-/
namespace Go.Proofs.YtedhoghleelhfaaGreat.Rob
set_option linter.unusedVariables false
set_option linter.unusedSimpArgs false
open Go Go.RowKit Go.Shelf Go.Proofs Go.Proofs.YtedhoghleelhfaaGreat.Lk Go.Proofs.YtedhoghleelhfaaGreat.Plain
attribute [local go_sem] Oper.semAt_some

/- The chapter's own robot: its config, its numbers (the ticks gone and whether it was cut are its own). -/
def rcL (cs : List Value) (r : Rb) (gn : Int) (cu : Bool) : List Value := cs ++ ([.int .i64 r.nb, .int .i64 r.px, .int .i64 r.py, .bool r.pd, .int .i64 r.ld, .int .i64 r.ep, .int .i64 r.lt, .bool (under r)] ++ (mvL r.mv ++ [.int .i64 r.lf, .int .i64 gn, .int .i64 r.la, .bool r.st, .bool cu]))
def rcA (cs : Array Value) (r : Rb) (gn : Int) (cu : Bool) : Array Value := (rcL cs.toList r gn cu).toArray
structure RcAt (w : World) (q : Nat) (cs : Array Value) (r : Rb) (gn : Int) (cu : Bool) : Prop where
  at_ : w.heap[q]? = some (.cells (rcA cs r gn cu) 53 (0, 0))
  len : cs.size = 16
  run_ : under r = true → gn = r.gn ∧ cu = (r.st && decide (r.mv.kd = 1))
theorem RcAt.lt {w : World} {q : Nat} {cs : Array Value} {r : Rb} {gn : Int} {cu : Bool} (h : RcAt w q cs r gn cu) : q < w.heap.size := (Array.getElem?_eq_some_iff.1 h.at_).1
theorem RcAt.go {w w' : World} {q : Nat} {cs : Array Value} {r : Rb} {gn : Int} {cu : Bool} (h : RcAt w q cs r gn cu) (b : Below w.heap.size w w') : RcAt w' q cs r gn cu := ⟨(b.block _ h.lt).trans h.at_, h.len, h.run_⟩
theorem RcAt.cell {w : World} {q : Nat} {cs : Array Value} {r : Rb} {gn : Int} {cu : Bool} (h : RcAt w q cs r gn cu) (j : Nat) : w.cell? ⟨q, 16 + j, none⟩ = ([.int .i64 r.nb, .int .i64 r.px, .int .i64 r.py, .bool r.pd, .int .i64 r.ld, .int .i64 r.ep, .int .i64 r.lt, .bool (under r)] ++ (mvL r.mv ++ [.int .i64 r.lf, .int .i64 gn, .int .i64 r.la, .bool r.st, .bool cu]))[j]? := by
  rw [cell_of' h.at_]
  unfold rcA rcL
  rw [List.getElem?_toArray, List.getElem?_append_right (by rw [Array.length_toList, h.len]; omega), Array.length_toList, h.len, Nat.add_sub_cancel_left]
theorem RcAt.froz {w : World} {q : Nat} {cs : Array Value} {r : Rb} {gn : Int} {cu : Bool} (h : RcAt w q cs r gn cu) (j : Nat) : w.frozen? ⟨q, j, none⟩ = false := by simp [World.frozen?, h.at_]
theorem RcAt.nb {w : World} {q : Nat} {cs : Array Value} {r : Rb} {gn : Int} {cu : Bool} (h : RcAt w q cs r gn cu) : w.cell? ⟨q, 16, none⟩ = some (.int .i64 r.nb) := h.cell 0
theorem RcAt.ld {w : World} {q : Nat} {cs : Array Value} {r : Rb} {gn : Int} {cu : Bool} (h : RcAt w q cs r gn cu) : w.cell? ⟨q, 20, none⟩ = some (.int .i64 r.ld) := h.cell 4
theorem RcAt.ep {w : World} {q : Nat} {cs : Array Value} {r : Rb} {gn : Int} {cu : Bool} (h : RcAt w q cs r gn cu) : w.cell? ⟨q, 21, none⟩ = some (.int .i64 r.ep) := h.cell 5
theorem RcAt.nm {w : World} {q : Nat} {cs : Array Value} {r : Rb} {gn : Int} {cu : Bool} (h : RcAt w q cs r gn cu) : w.cell? ⟨q, 22, none⟩ = some (.int .i64 r.lt) := h.cell 6
theorem RcAt.un {w : World} {q : Nat} {cs : Array Value} {r : Rb} {gn : Int} {cu : Bool} (h : RcAt w q cs r gn cu) : w.cell? ⟨q, 23, none⟩ = some (.bool (under r)) := h.cell 7
theorem RcAt.kd {w : World} {q : Nat} {cs : Array Value} {r : Rb} {gn : Int} {cu : Bool} (h : RcAt w q cs r gn cu) : w.cell? ⟨q, 24, none⟩ = some (.int .i64 r.mv.kd) := h.cell 8
theorem RcAt.lf {w : World} {q : Nat} {cs : Array Value} {r : Rb} {gn : Int} {cu : Bool} (h : RcAt w q cs r gn cu) : w.cell? ⟨q, 35, none⟩ = some (.int .i64 r.lf) := h.cell 19
theorem RcAt.gn {w : World} {q : Nat} {cs : Array Value} {r : Rb} {gn : Int} {cu : Bool} (h : RcAt w q cs r gn cu) : w.cell? ⟨q, 36, none⟩ = some (.int .i64 gn) := h.cell 20
theorem RcAt.la {w : World} {q : Nat} {cs : Array Value} {r : Rb} {gn : Int} {cu : Bool} (h : RcAt w q cs r gn cu) : w.cell? ⟨q, 37, none⟩ = some (.int .i64 r.la) := h.cell 21
theorem RcAt.st {w : World} {q : Nat} {cs : Array Value} {r : Rb} {gn : Int} {cu : Bool} (h : RcAt w q cs r gn cu) : w.cell? ⟨q, 38, none⟩ = some (.bool r.st) := h.cell 22
theorem RcAt.cu {w : World} {q : Nat} {cs : Array Value} {r : Rb} {gn : Int} {cu : Bool} (h : RcAt w q cs r gn cu) : w.cell? ⟨q, 39, none⟩ = some (.bool cu) := h.cell 23
theorem RcAt.pose {w : World} {q : Nat} {cs : Array Value} {r : Rb} {gn : Int} {cu : Bool} (h : RcAt w q cs r gn cu) : (loadVar 42 ⟨q, 17, none⟩).run Tryz.prog w = .ok (.agg (poA r.px r.py r.pd)) w :=
  run_loadVar_at w _ _ _ (fun j v hv => by
    rw [Addr.add_mid, show 17 + j = 16 + (1 + j) by omega, h.cell]
    match j with
    | 0 => exact hv
    | 1 => exact hv
    | 2 => exact hv
    | j + 3 => simp [poA] at hv) (aggPose _) infoPose
theorem RcAt.move {w : World} {q : Nat} {cs : Array Value} {r : Rb} {gn : Int} {cu : Bool} (h : RcAt w q cs r gn cu) : (loadVar 44 ⟨q, 24, none⟩).run Tryz.prog w = .ok (.agg (mvA r.mv)) w :=
  run_loadVar_at w _ _ _ (fun j v hv => by
    rw [Addr.add_mid, show 24 + j = 16 + (8 + j) by omega, h.cell]
    unfold mvA at hv
    rw [List.getElem?_toArray] at hv
    exact pre_at [_, _, _, _, _, _, _, _] (mvL r.mv) [_, _, _, _, _] j v hv) (aggMove _) infoMove
theorem built_rc (c : Grid.Conf) (v1 v2 v3 v4 : Value) (i x y : Int) (d : Bool) : Tryz.prog.built 53 [(0, .agg #[.int .i64 c.W, .int .i64 c.H, .int .i64 c.height, v1, v2, v3, v4, .int .i64 c.unit, .int .i64 c.accel, .int .i64 c.speed, .int .i64 c.turn, .int .i64 c.hoist, .int .i64 c.queue, .int .i64 c.resend, .int .i64 c.budget, .bool c.back]), (1, .int .i64 i), (2, .agg (poA x y d))] = some (rcA #[.int .i64 c.W, .int .i64 c.H, .int .i64 c.height, v1, v2, v3, v4, .int .i64 c.unit, .int .i64 c.accel, .int .i64 c.speed, .int .i64 c.turn, .int .i64 c.hoist, .int .i64 c.queue, .int .i64 c.resend, .int .i64 c.budget, .bool c.back] (firstR i x y d) 0 false) := by kernel_rfl
section
variable {F : Nat → Prop} {c : Grid.Conf} {v1 v2 v3 v4 : Value} {w : World} (hA : Grid.ConfAt F c v1 v2 v3 v4 w) (hF : ∀ b, F b → b < w.heap.size)
include hA hF
set_option maxRecDepth 100000 in
set_option maxHeartbeats 2000000 in
theorem rcnew_any (i : Nat) (hi : i < c.robots.length) : Calls Tryz.prog 9 #[.agg #[.int .i64 c.W, .int .i64 c.H, .int .i64 c.height, v1, v2, v3, v4, .int .i64 c.unit, .int .i64 c.accel, .int .i64 c.speed, .int .i64 c.turn, .int .i64 c.hoist, .int .i64 c.queue, .int .i64 c.resend, .int .i64 c.budget, .bool c.back], .int .i64 i] w fun e w' => ∃ q, e = .returned (.pointer (some ⟨q, 0, none⟩)) ∧ RcAt w' q #[.int .i64 c.W, .int .i64 c.H, .int .i64 c.height, v1, v2, v3, v4, .int .i64 c.unit, .int .i64 c.accel, .int .i64 c.speed, .int .i64 c.turn, .int .i64 c.hoist, .int .i64 c.queue, .int .i64 c.resend, .int .i64 c.budget, .bool c.back] (firstR i (c.robots[i]'hi).1.1 (c.robots[i]'hi).1.2 (c.robots[i]'hi).2) 0 false ∧ w.heap.size ≤ q ∧ Below w.heap.size w w' := by
  obtain ⟨p, cs, cap, hv, hpF, hcs, hrd⟩ := hA.r.item hi
  obtain ⟨⟨⟨rx, ry⟩, rd⟩, hr⟩ : ∃ z, c.robots[i]'hi = z := ⟨_, rfl⟩
  rw [hr] at hcs ⊢
  have hcs : cs = poA rx ry rd := hcs
  subst hcs
  have hbu := built_rc c v1 v2 v3 v4
  subst hv
  have hpl : p.block < w.heap.size := hF _ hpF
  have HP : Hid (∀ u, Below w.heap.size w u → (loadVar 42 (p.add (i * 3))).run Tryz.prog u = .ok (.agg (poA rx ry rd)) u) := fun u b =>
    run_loadVar_at u _ _ _ (fun j v hj => (cell_block (by rw [Grid.block_add, Grid.block_add]; exact b.block _ hpl)).trans (hrd j v hj)) (aggPose _) infoPose
  obtain ⟨w1, hw1⟩ : ∃ w1, w1 = w.alloc (.cells #[.int .i64 c.W, .int .i64 c.H, .int .i64 c.height, v1, v2, (.slice (some p) c.robots.length cap), v4, .int .i64 c.unit, .int .i64 c.accel, .int .i64 c.speed, .int .i64 c.turn, .int .i64 c.hoist, .int .i64 c.queue, .int .i64 c.resend, .int .i64 c.budget, .bool c.back] 26) := ⟨_, rfl⟩
  have b1 : Below w.heap.size w w1 := by rw [hw1]; exact (Below.refl _ _).alloc (Nat.le_refl _) _
  have hc1 : w1.heap[w.heap.size]? = some (.cells #[.int .i64 c.W, .int .i64 c.H, .int .i64 c.height, v1, v2, (.slice (some p) c.robots.length cap), v4, .int .i64 c.unit, .int .i64 c.accel, .int .i64 c.speed, .int .i64 c.turn, .int .i64 c.hoist, .int .i64 c.queue, .int .i64 c.resend, .int .i64 c.budget, .bool c.back] 26 (0, 0)) := by rw [hw1]; exact World.alloc_heap_new _ _
  have HSS : Hid (Below w.heap.size w w1.drew ∧ w1.drew.heap[w.heap.size]? = some (.cells #[.int .i64 c.W, .int .i64 c.H, .int .i64 c.height, v1, v2, (.slice (some p) c.robots.length cap), v4, .int .i64 c.unit, .int .i64 c.accel, .int .i64 c.speed, .int .i64 c.turn, .int .i64 c.hoist, .int .i64 c.queue, .int .i64 c.resend, .int .i64 c.budget, .bool c.back] 26 (0, 0)) ∧ (loadVar 42 (p.add (i * 3))).run Tryz.prog w1.drew = .ok (.agg (poA rx ry rd)) w1.drew) := ⟨b1.drew, hc1, HP.out _ b1.drew⟩
  have hi2 : i < c.robots.length := hi
  have HBU : Hid (∀ (i x y : Int) (d : Bool), Tryz.prog.built 53 [(0, .agg #[.int .i64 c.W, .int .i64 c.H, .int .i64 c.height, v1, v2, (.slice (some p) c.robots.length cap), v4, .int .i64 c.unit, .int .i64 c.accel, .int .i64 c.speed, .int .i64 c.turn, .int .i64 c.hoist, .int .i64 c.queue, .int .i64 c.resend, .int .i64 c.budget, .bool c.back]), (1, .int .i64 i), (2, .agg (poA x y d))] = some (rcA #[.int .i64 c.W, .int .i64 c.H, .int .i64 c.height, v1, v2, (.slice (some p) c.robots.length cap), v4, .int .i64 c.unit, .int .i64 c.accel, .int .i64 c.speed, .int .i64 c.turn, .int .i64 c.hoist, .int .i64 c.queue, .int .i64 c.resend, .int .i64 c.budget, .bool c.back] (firstR i x y d) 0 false)) := hbu
  clear hA hF hpF hrd hr b1 hc1 hbu
  go_enter Tryz.func9, Tryz.ntmps9
  go_upto_region 1 with (refine wpList_boxAt rfl 26 (.tmp 0) rfl #[.int .i64 c.W, .int .i64 c.H, .int .i64 c.height, v1, v2, (.slice (some p) c.robots.length cap), v4, .int .i64 c.unit, .int .i64 c.accel, .int .i64 c.speed, .int .i64 c.turn, .int .i64 c.hoist, .int .i64 c.queue, .int .i64 c.resend, .int .i64 c.budget, .bool c.back] rfl ?_; rw [← hw1]; clear hw1)
  refine start_held (S := fun u => Below w.heap.size w u ∧ u.heap[w.heap.size]? = some (.cells #[.int .i64 c.W, .int .i64 c.H, .int .i64 c.height, v1, v2, (.slice (some p) c.robots.length cap), v4, .int .i64 c.unit, .int .i64 c.accel, .int .i64 c.speed, .int .i64 c.turn, .int .i64 c.hoist, .int .i64 c.queue, .int .i64 c.resend, .int .i64 c.budget, .bool c.back] 26 (0, 0)) ∧ (loadVar 42 (p.add (i * 3))).run Tryz.prog u = .ok (.agg (poA rx ry rd)) u) 10 rfl (by kernel_rfl) (HSS.out) ?_
  simp only [Array.replicate_succ, Array.replicate_zero, List.push_toArray, List.nil_append, List.cons_append]
  have hS0 := HSS.out
  clear HSS
  generalize w1.drew = x0 at *
  refine tkf 0 hS0 rfl (v := .agg #[.int .i64 c.W, .int .i64 c.H, .int .i64 c.height, v1, v2, (.slice (some p) c.robots.length cap), v4, .int .i64 c.unit, .int .i64 c.accel, .int .i64 c.speed, .int .i64 c.turn, .int .i64 c.hoist, .int .i64 c.queue, .int .i64 c.resend, .int .i64 c.budget, .bool c.back]) (fun u hu => by exact run_load_at 26 _ rfl ⟨w.heap.size, 0, none⟩ rfl _ (load_row_of hu.2.1 (Grid.aggConf _) Grid.info_conf)) ?_
  refine tkq 1 hS0 ?_
  refine tkq 2 hS0 ?_
  refine tkf 3 hS0 rfl (fun u hu => by have zz0 := (fun (u : World) (hu : Below w.heap.size w u ∧ u.heap[w.heap.size]? = some (.cells #[.int .i64 c.W, .int .i64 c.H, .int .i64 c.height, v1, v2, (.slice (some p) c.robots.length cap), v4, .int .i64 c.unit, .int .i64 c.accel, .int .i64 c.speed, .int .i64 c.turn, .int .i64 c.hoist, .int .i64 c.queue, .int .i64 c.resend, .int .i64 c.budget, .bool c.back] 26 (0, 0)) ∧ (loadVar 42 (p.add (i * 3))).run Tryz.prog u = .ok (.agg (poA rx ry rd)) u) => (cell_of' hu.2.1 5).trans (rfl : _ = some (Value.slice (some p) c.robots.length cap))) u hu; go_simp; try rfl) ?_
  refine tkq 4 hS0 ?_
  refine tkq 5 hS0 ?_
  refine tkf 6 hS0 rfl (v := .agg (poA rx ry rd)) (fun u hu => by exact run_load_at 42 _ rfl (p.add (i * 3)) rfl _ hu.2.2) ?_
  refine tkf 7 hS0 rfl (v := .agg (rcA #[.int .i64 c.W, .int .i64 c.H, .int .i64 c.height, v1, v2, (.slice (some p) c.robots.length cap), v4, .int .i64 c.unit, .int .i64 c.accel, .int .i64 c.speed, .int .i64 c.turn, .int .i64 c.hoist, .int .i64 c.queue, .int .i64 c.resend, .int .i64 c.budget, .bool c.back] (firstR i rx ry rd) 0 false)) (fun u hu => by refine run_build_op _ _ rfl _ _ ?_ (HBU.out i rx ry rd); simp only [List.map_toArray, List.map_cons, List.map_nil]; rfl) ?_
  refine wpAnyH_ready (rs := [8]) (by kernel_rfl) (by simp) (AllReadyH.cons ((nth_eq _ 8).trans rfl) ?_ AllReadyH.nil)
  intro K1 hK1
  obtain ⟨x1, hx1⟩ : ∃ x, x = x0.alloc (.cells (rcA #[.int .i64 c.W, .int .i64 c.H, .int .i64 c.height, v1, v2, (.slice (some p) c.robots.length cap), v4, .int .i64 c.unit, .int .i64 c.accel, .int .i64 c.speed, .int .i64 c.turn, .int .i64 c.hoist, .int .i64 c.queue, .int .i64 c.resend, .int .i64 c.budget, .bool c.back] (firstR i rx ry rd) 0 false) 53) := ⟨_, rfl⟩
  have hS1 := (show _ ∧ _ ∧ _ from ⟨hS0.1.trans ((show Below x0.heap.size x0 x1 by rw [hx1]; exact (Below.refl _ _).alloc (Nat.le_refl _) _).mono hS0.1.size), ((show Below x0.heap.size x0 x1 by rw [hx1]; exact (Below.refl _ _).alloc (Nat.le_refl _) _).block _ (Array.getElem?_eq_some_iff.1 hS0.2.1).1).trans hS0.2.1, HP.out x1 (hS0.1.trans ((show Below x0.heap.size x0 x1 by rw [hx1]; exact (Below.refl _ _).alloc (Nat.le_refl _) _).mono hS0.1.size))⟩)
  refine value_in hK1 (by kernel_rfl) (.pointer (some ⟨x0.heap.size, 0, none⟩)) x1 (by rw [hx1]; go_simp; try rfl) hS1 ?_
  simp only [Act.put, List.setIfInBounds_toArray, List.set_cons_zero, List.set_cons_succ]
  refine tkq 9 hS1 ?_
  refine done_held (by kernel_rfl) ?_ _
  go_wp2
  go_ret
  exact ⟨x0.heap.size, rfl, ⟨by rw [hx1]; exact World.alloc_heap_new _ _, rfl, fun hu => by cases hu⟩, hS0.1.size, hS1.1⟩
end
end Go.Proofs.YtedhoghleelhfaaGreat.Rob
/-
  What the law's gos tells: a go-ahead that leads a robot on.
-/
namespace Go.Proofs.YtedhoghleelhfaaGreat.Rob
set_option linter.unusedVariables false
set_option linter.unusedSimpArgs false
open Go Go.RowKit Go.Shelf Go.Proofs Go.Proofs.YtedhoghleelhfaaGreat.Lk Go.Proofs.YtedhoghleelhfaaGreat.Plain
attribute [local go_sem] Oper.semAt_some

theorem run_alloc_op {o : Oper} {a : Act} {w : World} (ty : TypeId) (h1 : o.op = .alloc ty) (cs : Array Value) (hz : (zeroValue ty).run Tryz.prog w = .ok (.agg cs) w) :
    (execOp a.eval o).run Tryz.prog w = .ok (.value (.pointer (some ⟨w.heap.size, 0, none⟩))) (w.alloc (.cells cs ty)) := by
  unfold execOp
  simp only [h1, Instr.alloc, Sem.run_bind, hz, newVar, newRow, run_newObj_alloc, Sem.run_pure, Result.andThen_ok, Value.cells]
/- The telegram that is being written. -/
theorem tl_mvs (nb ep nm : Int) (m m' : Mv) : setAll (tlA (goT nb ep nm m)) 4 (mvL m') = tlA (goT nb ep nm m') := by
  simp only [tlA, tlL, goT, mvL, setAll, List.setIfInBounds_toArray, List.set_cons_succ, List.set_cons_zero]
theorem tl_ma' (nb ep nm : Int) (m : Mv) (v : Int) : setAll (tlA (goT nb ep nm m)) 13 [.int .i64 v] = tlA (goT nb ep nm { m with ma := v }) := by
  simp only [tlA, tlL, goT, setAll, List.setIfInBounds_toArray, List.set_cons_succ, List.set_cons_zero]
theorem tl_me' (nb ep nm : Int) (m : Mv) (v : Int) : setAll (tlA (goT nb ep nm m)) 14 [.int .i64 v] = tlA (goT nb ep nm { m with me := v }) := by
  simp only [tlA, tlL, goT, setAll, List.setIfInBounds_toArray, List.set_cons_succ, List.set_cons_zero]
theorem tl_put (t : Tl) : setAll (tlA tl0) 0 (tlL t) = tlA t := by
  simp only [tlA, tlL, tl0, setAll, List.setIfInBounds_toArray, List.set_cons_succ, List.set_cons_zero]
theorem built_gos (nb ep nm : Int) : Tryz.prog.built 46 [(0, .int .i64 1), (1, .int .i64 nb), (2, .int .i64 ep), (3, .int .i64 nm)] = some (tlA (goT nb ep nm mv0)) := by kernel_rfl
def liftM (x y : Int) (d : Bool) (e : Int) : Mv := ⟨3, 0, 0, x, y, d, x, y, d, 0, e⟩
theorem built_lift (x y : Int) (d : Bool) (e : Int) : Tryz.prog.built 44 [(0, .int .i64 3), (3, .agg (poA x y d)), (4, .agg (poA x y d)), (6, .int .i64 e)] = some (mvA (liftM x y d e)) := by kernel_rfl
theorem Below.only {w u u' : World} {g : Nat} (h : Below w.heap.size w u) (o : Only g u u') (hg : w.heap.size ≤ g) : Below w.heap.size w u' :=
  ⟨o.os.trans h.os, o.tape.trans h.tape, o.output.trans h.output, by rw [o.size]; exact h.size, fun i hi => (o.block i (by omega)).trans (h.block i hi)⟩
/- What stands in memory while gos goes on: the config, the place of the result, the chapter's robot. -/
structure Gs (w : World) (CS : Array Value) (r : Rb) (q : Nat) (gn : Int) (cu : Bool) (u : World) : Prop where
  bel : Below w.heap.size w u
  cf : u.heap[w.heap.size]? = some (.cells CS 26 (0, 0))
  rs : u.heap[w.heap.size + 1]? = some (.cells (tlA tl0) 46 (0, 0))
  rc : RcAt u q CS r gn cu
  ql : q < w.heap.size
theorem Gs.go {w : World} {CS : Array Value} {r : Rb} {q : Nat} {gn : Int} {cu : Bool} {u u' : World} (h : Gs w CS r q gn cu u) (b : Below u.heap.size u u') : Gs w CS r q gn cu u' :=
  ⟨bcat h.bel b, (b.block _ (Array.getElem?_eq_some_iff.1 h.cf).1).trans h.cf, (b.block _ (Array.getElem?_eq_some_iff.1 h.rs).1).trans h.rs, h.rc.go b, h.ql⟩
theorem Gs.only {w : World} {CS : Array Value} {r : Rb} {q : Nat} {gn : Int} {cu : Bool} {u u' : World} {g : Nat} (h : Gs w CS r q gn cu u) (o : Only g u u') (hg : w.heap.size + 2 ≤ g) : Gs w CS r q gn cu u' :=
  ⟨Below.only h.bel o (by omega), (o.block _ (by omega)).trans h.cf, (o.block _ (by omega)).trans h.rs, ⟨(o.block _ (by have := h.ql; omega)).trans h.rc.at_, h.rc.len, h.rc.run_⟩, h.ql⟩
structure Gv (w : World) (CS : Array Value) (r : Rb) (q : Nat) (gn : Int) (cu : Bool) (g : Nat) (t : Tl) (u : World) : Prop where
  gs : Gs w CS r q gn cu u
  tl : u.heap[g]? = some (.cells (tlA t) 46 (0, 0))
  far : w.heap.size + 2 ≤ g
theorem Gv.go {w : World} {CS : Array Value} {r : Rb} {q : Nat} {gn : Int} {cu : Bool} {g : Nat} {t : Tl} {u u' : World} (h : Gv w CS r q gn cu g t u) (b : Below u.heap.size u u') : Gv w CS r q gn cu g t u' :=
  ⟨h.gs.go b, (b.block _ (Array.getElem?_eq_some_iff.1 h.tl).1).trans h.tl, h.far⟩
theorem Gv.put {w : World} {CS : Array Value} {r : Rb} {q : Nat} {gn : Int} {cu : Bool} {g : Nat} {t : Tl} {u : World} (h : Gv w CS r q gn cu g t u) (o : Nat) (vs : List Value) (t' : Tl) (e : setAll (tlA t) o vs = tlA t') : Gv w CS r q gn cu g t' (u.setCells g o vs) :=
  ⟨h.gs.only (Only.setCells _ _ _ _) h.far, by rw [← e]; exact setCells_same g _ _ vs o u _ h.tl, h.far⟩
/- The place of the result, filled. -/
theorem Gv.told {w : World} {CS : Array Value} {r : Rb} {q : Nat} {gn : Int} {cu : Bool} {g : Nat} {t : Tl} {u : World} (h : Gv w CS r q gn cu g t u) : (u.setCells (w.heap.size + 1) 0 (tlL t)).heap[w.heap.size + 1]? = some (.cells (tlA t) 46 (0, 0)) ∧ Below w.heap.size w (u.setCells (w.heap.size + 1) 0 (tlL t)) :=
  ⟨by rw [← tl_put]; exact setCells_same _ _ _ (tlL t) 0 u _ h.gs.rs, Below.only h.gs.bel (Only.setCells _ _ _ _) (by omega)⟩
/- An element of the list of moves. -/
theorem pick_move {w : World} {B : Nat} {v : Value} {l : List Grid.Move} (h : w.ownsRow B 44 11 v l.length (Grid.rowL Grid.moveL l)) {i : Nat} (hi : i < l.length) : ∃ p cap, v = .slice (some p) l.length cap ∧ ∀ u, Below w.heap.size w u → (loadVar 44 (p.add (i * 11))).run Tryz.prog u = .ok (.agg (mvA (mvOf (l[i]'hi)))) u := by
  obtain ⟨p, cs, cap, hv, hpF, hcs, hrd⟩ := (Grid.list_of_own Grid.kindMove.len h).item hi
  have hcs : cs = mvA (mvOf (l[i]'hi)) := hcs
  subst hcs
  exact ⟨p, cap, hv, fun u b => run_loadVar_at u _ _ _ (fun j z hj => (cell_block (by rw [Grid.block_add, Grid.block_add]; exact b.block _ hpF.2)).trans (hrd j z hj)) (aggMove _) infoMove⟩
theorem moves_form {w : World} {B : Nat} {v : Value} {l : List Grid.Move} (h : w.ownsRow B 44 11 v l.length (Grid.rowL Grid.moveL l)) : ∃ a cap, v = .slice a l.length cap := by
  obtain ⟨a, cap, h, _⟩ := (Grid.list_of_own Grid.kindMove.len h).form
  exact ⟨a, cap, h⟩
theorem Bn.only {N : Nat} {w u u' : World} {g : Nat} (h : Below N w u) (o : Only g u u') (hg : N ≤ g) : Below N w u' :=
  ⟨o.os.trans h.os, o.tape.trans h.tape, o.output.trans h.output, by rw [o.size]; exact h.size, fun i hi => (o.block i (by omega)).trans (h.block i hi)⟩
section
variable (c : Grid.Conf) (va vb vc vd : Value) (w : World) (hA : Grid.ConfAt (Grid.Old w) c va vb vc vd w) (l1 : c.blocked.length ≤ 8796093022208) (l2 : c.ports.length ≤ 8796093022208) (l3 : c.robots.length ≤ 5864062014805) (l4 : c.stacks.length ≤ 3518437208880) (l5 : ∀ s ∈ c.stacks, s.2.length ≤ 17592186044416) {G : Grid.GS} (hN : Grid.newP c = some G) (ku ka kv : Nat) (ok : Kin.Ok ku ka kv) (hku : (ku : Int) = c.unit) (hka : (ka : Int) = c.accel) (hkv : (kv : Int) = c.speed)
include ok hku hka hkv
theorem lasts_conf (m : Mv) (u : World) : Calls Tryz.prog 42 #[.agg #[.int .i64 c.W, .int .i64 c.H, .int .i64 c.height, va, vb, vc, vd, .int .i64 c.unit, .int .i64 c.accel, .int .i64 c.speed, .int .i64 c.turn, .int .i64 c.hoist, .int .i64 c.queue, .int .i64 c.resend, .int .i64 c.budget, .bool c.back], .agg (mvA m)] u fun e w' => ∃ z, e = .returned z ∧ (z = .int .i64 (lastsP c.turn c.hoist ku ka kv m) ∧ Below u.heap.size u w') := by
  rw [← hku, ← hka, ← hkv]
  exact lasts_any c va vb vc vd ku ka kv u ok m
include hA l1 l2 l3 l4 l5 hN
set_option maxRecDepth 100000 in
set_option maxHeartbeats 4000000 in
theorem gos_any (q : Nat) (r : Rb) (gn : Int) (cu : Bool) (hq : RcAt w q #[.int .i64 c.W, .int .i64 c.H, .int .i64 c.height, va, vb, vc, vd, .int .i64 c.unit, .int .i64 c.accel, .int .i64 c.speed, .int .i64 c.turn, .int .i64 c.hoist, .int .i64 c.queue, .int .i64 c.resend, .int .i64 c.budget, .bool c.back] r gn cu) (t0 : 0 ≤ r.lt) (t1 : r.lt ≤ 4000000000000000000) (n late : Int) :
    Calls Tryz.prog 13 #[.agg #[.int .i64 c.W, .int .i64 c.H, .int .i64 c.height, va, vb, vc, vd, .int .i64 c.unit, .int .i64 c.accel, .int .i64 c.speed, .int .i64 c.turn, .int .i64 c.hoist, .int .i64 c.queue, .int .i64 c.resend, .int .i64 c.budget, .bool c.back], .pointer (some ⟨q, 0, none⟩), .int .i64 n, .int .i64 late] w fun e w' => ∃ z, e = .returned z ∧ (z = .agg (tlA (goT r.nb r.ep (r.lt + 1) (gosM c.turn c.hoist ku ka kv (Grid.movesP c.W c.H G.uses (posR r)) (posR r) n late))) ∧ Below w.heap.size w w') := by
  have hsd := (Grid.new_some hN).1.1
  have HWH : Hid (c.W ≤ 16 ∧ c.H ≤ 16) := ⟨(Grid.limited_sides hsd).2.1, (Grid.limited_sides hsd).2.2.2.1⟩
  have hnm := limited_nums hsd
  have HTH : Hid (1 ≤ c.turn ∧ c.turn ≤ 1000 ∧ 1 ≤ c.hoist ∧ c.hoist ≤ 1000) := hnm.2.2.2.2.2.2
  obtain ⟨w1, hw1⟩ : ∃ w1, w1 = w.alloc (.cells #[.int .i64 c.W, .int .i64 c.H, .int .i64 c.height, va, vb, vc, vd, .int .i64 c.unit, .int .i64 c.accel, .int .i64 c.speed, .int .i64 c.turn, .int .i64 c.hoist, .int .i64 c.queue, .int .i64 c.resend, .int .i64 c.budget, .bool c.back] 26) := ⟨_, rfl⟩
  have s1 : w1.heap.size = w.heap.size + 1 := by rw [hw1]; simp
  obtain ⟨w2, hw2⟩ : ∃ w2, w2 = w1.alloc (.cells (tlA tl0) 46) := ⟨_, rfl⟩
  have s2 : w2.heap.size = w.heap.size + 2 := by rw [hw2]; simp [s1]
  have G2 : Gs w #[.int .i64 c.W, .int .i64 c.H, .int .i64 c.height, va, vb, vc, vd, .int .i64 c.unit, .int .i64 c.accel, .int .i64 c.speed, .int .i64 c.turn, .int .i64 c.hoist, .int .i64 c.queue, .int .i64 c.resend, .int .i64 c.budget, .bool c.back] r q gn cu w2 := by
    have b1 : Below w.heap.size w w1 := by rw [hw1]; exact (Below.refl _ _).alloc (Nat.le_refl _) _
    have b2 : Below w1.heap.size w1 w2 := by rw [hw2]; exact (Below.refl _ _).alloc (Nat.le_refl _) _
    exact ⟨bcat b1 b2, (b2.block _ (by omega)).trans (by rw [hw1]; exact World.alloc_heap_new _ _), by rw [hw2, ← s1]; exact World.alloc_heap_new _ _, hq.go (bcat b1 b2), hq.lt⟩
  have HGS : Hid (Gs w #[.int .i64 c.W, .int .i64 c.H, .int .i64 c.height, va, vb, vc, vd, .int .i64 c.unit, .int .i64 c.accel, .int .i64 c.speed, .int .i64 c.turn, .int .i64 c.hoist, .int .i64 c.queue, .int .i64 c.resend, .int .i64 c.budget, .bool c.back] r q gn cu w2.drew) := G2.go (Below.refl _ _).drew
  have HLT : Hid (IntKind.i64.wrap (r.lt + 1) = r.lt + 1) := by show IntKind.i64.wrap (r.lt + 1) = r.lt + 1; rw [IntKind.wrap_i64]; omega
  have HS2 : Hid (w.heap.size + 2 ≤ w2.drew.heap.size) := Nat.le_of_eq s2.symm
  clear G2 t0 t1 hsd hnm hq s2
  go_enter Tryz.func13, Tryz.ntmps13
  go_upto_region 1 with (first | (refine wpList_boxAt rfl 26 (.tmp 0) rfl #[.int .i64 c.W, .int .i64 c.H, .int .i64 c.height, va, vb, vc, vd, .int .i64 c.unit, .int .i64 c.accel, .int .i64 c.speed, .int .i64 c.turn, .int .i64 c.hoist, .int .i64 c.queue, .int .i64 c.resend, .int .i64 c.budget, .bool c.back] rfl ?_; rw [← hw1]; clear hw1) | (refine wpList_allocAs rfl 46 rfl (tlA tl0) (zeroTele _) ?_; rw [← hw2, s1]; clear hw2 s1))
  refine start_held (S := fun u => Below w2.drew.heap.size w2.drew u) 7 rfl (by kernel_rfl) (Below.refl _ _) ?_
  simp only [Array.replicate_succ, Array.replicate_zero, List.push_toArray, List.nil_append, List.cons_append]
  have hS0 := Below.refl w2.drew.heap.size w2.drew
  generalize w2.drew = x0 at *
  refine tkf 0 hS0 rfl (v := .agg #[.int .i64 c.W, .int .i64 c.H, .int .i64 c.height, va, vb, vc, vd, .int .i64 c.unit, .int .i64 c.accel, .int .i64 c.speed, .int .i64 c.turn, .int .i64 c.hoist, .int .i64 c.queue, .int .i64 c.resend, .int .i64 c.budget, .bool c.back]) (fun u hu => by exact run_load_at 26 _ rfl ⟨w.heap.size, 0, none⟩ rfl _ (load_row_of (HGS.out.go hu).cf (Grid.aggConf _) Grid.info_conf)) ?_
  refine tkq 1 hS0 ?_
  refine tkq 2 hS0 ?_
  refine tkq 3 hS0 ?_
  refine tkf 4 hS0 rfl (v := .agg (poA r.px r.py r.pd)) (fun u hu => by exact run_load_at 42 _ rfl ⟨q, 17, none⟩ rfl _ ((HGS.out.go hu).rc.pose)) ?_
  refine wpAnyH_ready (rs := [5]) (by kernel_rfl) (by simp) (AllReadyH.cons ((nth_eq _ 5).trans rfl) ?_ AllReadyH.nil)
  intro K11 hK11
  refine call_in hK11 (by kernel_rfl) 41 #[.agg #[.int .i64 c.W, .int .i64 c.H, .int .i64 c.height, va, vb, vc, vd, .int .i64 c.unit, .int .i64 c.accel, .int .i64 c.speed, .int .i64 c.turn, .int .i64 c.hoist, .int .i64 c.queue, .int .i64 c.resend, .int .i64 c.budget, .bool c.back], .agg (poA r.px r.py r.pd)] (by go_simp) _ (Grid.rmoves_any c va vb vc vd x0 (Grid.old_go hA (HGS.out.go hS0).bel) l1 l2 l3 l4 l5 hN r.px r.py r.pd) ?_
  rintro v11 x11 ⟨hmv, b11⟩
  have hS11 := hS0.trans (b11.mono hS0.size)
  refine ⟨hS11, ?_⟩
  simp only [Act.put, List.setIfInBounds_toArray, List.set_cons_zero, List.set_cons_succ]
  refine tkq 6 hS11 ?_
  refine done_held (by kernel_rfl) ?_ _
  obtain ⟨ml, hml⟩ : ∃ ml, (Grid.movesP c.W c.H G.uses (posR r)) = ml := ⟨_, rfl⟩
  rw [show Grid.movesP c.W c.H G.uses ((r.px, r.py), r.pd) = ml from hml] at hmv
  have HML : Hid ((Grid.movesP c.W c.H G.uses (posR r)) = ml) := hml
  have HLM : Hid (ml.length ≤ 65) := by show ml.length ≤ 65; rw [← hml]; exact Grid.moves_len
  clear hml
  have HGT : Hid (Gs w #[.int .i64 c.W, .int .i64 c.H, .int .i64 c.height, va, vb, vc, vd, .int .i64 c.unit, .int .i64 c.accel, .int .i64 c.speed, .int .i64 c.turn, .int .i64 c.hoist, .int .i64 c.queue, .int .i64 c.resend, .int .i64 c.budget, .bool c.back] r q gn cu x11.drew) := (HGS.out.go hS11).go (Below.refl _ _).drew
  have HS1 : Hid (w.heap.size + 2 ≤ x11.drew.heap.size) := by show w.heap.size + 2 ≤ x11.drew.heap.size; exact Nat.le_trans HS2.out hS11.size
  have HY : Hid (Below x11.heap.size x11 x11.drew) := (Below.refl _ _).drew
  clear hS0 HGS HS2 hS11 b11
  go_upto_region 2 with fail
  refine start_held (S := fun u => Below x11.drew.heap.size x11.drew u) 16 rfl (by kernel_rfl) (Below.refl _ _) ?_
  simp only [Array.replicate_succ, Array.replicate_zero, List.push_toArray, List.nil_append, List.cons_append]
  have hS0 := Below.refl x11.drew.heap.size x11.drew
  generalize x11.drew = y0 at *
  refine tkq 0 hS0 ?_
  refine tkq 1 hS0 ?_
  refine tkq 2 hS0 ?_
  refine tkf 3 hS0 rfl (fun u hu => by have zz0 := (fun (u : World) (hu : Below y0.heap.size y0 u) => (HGT.out.go hu).rc.nb) u hu; go_simp; try rfl) ?_
  refine tkq 4 hS0 ?_
  refine tkq 5 hS0 ?_
  refine tkq 6 hS0 ?_
  refine tkf 7 hS0 rfl (fun u hu => by have zz0 := (fun (u : World) (hu : Below y0.heap.size y0 u) => (HGT.out.go hu).rc.ep) u hu; go_simp; try rfl) ?_
  refine tkq 8 hS0 ?_
  refine tkq 9 hS0 ?_
  refine tkq 10 hS0 ?_
  refine tkf 11 hS0 rfl (fun u hu => by have zz0 := (fun (u : World) (hu : Below y0.heap.size y0 u) => (HGT.out.go hu).rc.nm) u hu; go_simp; try rfl) ?_
  refine tkq 12 hS0 ?_
  refine tkf 13 hS0 rfl (v := .agg (tlA (goT r.nb r.ep (IntKind.i64.wrap (r.lt + 1)) mv0))) (fun u hu => by refine run_build_op _ _ rfl _ _ ?_ (built_gos r.nb r.ep (IntKind.i64.wrap (r.lt + 1))); simp only [List.map_toArray, List.map_cons, List.map_nil]; rfl) ?_
  refine wpAnyH_ready (rs := [14]) (by kernel_rfl) (by simp) (AllReadyH.cons ((nth_eq _ 14).trans rfl) ?_ AllReadyH.nil)
  intro K1 hK1
  obtain ⟨x1, hx1⟩ : ∃ x, x = y0.alloc (.cells (tlA tl0) 46) := ⟨_, rfl⟩
  have hS1 := (show Below y0.heap.size y0 x1 by rw [hx1]; exact (Below.refl _ _).alloc (Nat.le_refl _) _)
  have ha1 : x1.heap[y0.heap.size]? = some (.cells (tlA tl0) 46 (0, 0)) := by rw [hx1]; exact World.alloc_heap_new _ _
  refine value_in hK1 (by kernel_rfl) (.pointer (some ⟨y0.heap.size, 0, none⟩)) x1 (by rw [hx1]; exact run_alloc_op 46 rfl (tlA tl0) (zeroTele _)) hS1 ?_
  simp only [Act.put, List.setIfInBounds_toArray, List.set_cons_zero, List.set_cons_succ]
  refine wpAnyH_ready (rs := [15]) (by kernel_rfl) (by simp) (AllReadyH.cons ((nth_eq _ 15).trans rfl) ?_ AllReadyH.nil)
  intro K2 hK2
  obtain ⟨x2, hx2⟩ : ∃ x, x = x1.setCells y0.heap.size 0 (tlL (goT r.nb r.ep (IntKind.i64.wrap (r.lt + 1)) mv0)) := ⟨_, rfl⟩
  have hS2 := (show Below y0.heap.size y0 x2 by rw [hx2]; exact Bn.only hS1 (Only.setCells _ _ _ _) (Nat.le_refl _))
  have hb2 : x2.heap[y0.heap.size]? = some (.cells (tlA (goT r.nb r.ep (IntKind.i64.wrap (r.lt + 1)) mv0)) 46 (0, 0)) := by rw [hx2, ← tl_put]; exact setCells_same _ _ _ (tlL (goT r.nb r.ep (IntKind.i64.wrap (r.lt + 1)) mv0)) 0 _ _ ha1
  refine skip_in hK2 (by kernel_rfl) x2 (by rw [hx2]; exact run_store_mid_op 46 _ _ rfl y0.heap.size 0 (tlA (goT r.nb r.ep (IntKind.i64.wrap (r.lt + 1)) mv0)) rfl rfl (there_of ha1 0 19 (Nat.le_refl _)) infoTele (tlA_one _)) hS2 ?_
  simp only [Act.put, List.setIfInBounds_toArray, List.set_cons_zero, List.set_cons_succ]
  refine done_held (by kernel_rfl) ?_ _
  have HV : Hid (Gv w #[.int .i64 c.W, .int .i64 c.H, .int .i64 c.height, va, vb, vc, vd, .int .i64 c.unit, .int .i64 c.accel, .int .i64 c.speed, .int .i64 c.turn, .int .i64 c.hoist, .int .i64 c.queue, .int .i64 c.resend, .int .i64 c.budget, .bool c.back] r q gn cu y0.heap.size (goT r.nb r.ep (r.lt + 1) mv0) x2) := by
    show Gv w #[.int .i64 c.W, .int .i64 c.H, .int .i64 c.height, va, vb, vc, vd, .int .i64 c.unit, .int .i64 c.accel, .int .i64 c.speed, .int .i64 c.turn, .int .i64 c.hoist, .int .i64 c.queue, .int .i64 c.resend, .int .i64 c.budget, .bool c.back] r q gn cu y0.heap.size (goT r.nb r.ep (r.lt + 1) mv0) x2
    rw [HLT.out] at hb2
    exact ⟨HGT.out.go hS2, hb2, HS1.out⟩
  have HBX : Hid (Below x11.heap.size x11 x2) := HY.out.trans (hS2.mono HY.out.size)
  obtain ⟨g, hg⟩ : ∃ g, y0.heap.size = g := ⟨_, rfl⟩
  rw [hg] at HV ⊢
  clear hx1 hx2 ha1 hb2 hS1 hS2 hS0
  by_cases hl : ml = []
  · have q0 : ((ml.length : Int) == 0) = true := by rw [hl]; rfl
    have HR : Hid (Value.agg (tlA (goT r.nb r.ep (r.lt + 1) (liftM r.px r.py r.pd c.hoist))) = .agg (tlA (goT r.nb r.ep (r.lt + 1) (gosM c.turn c.hoist ku ka kv (Grid.movesP c.W c.H G.uses (posR r)) (posR r) n late)))) := by
      show Value.agg _ = Value.agg _
      unfold gosM
      rw [HML.out, if_pos hl]
      rfl
    obtain ⟨am, capm, hvm⟩ := moves_form hmv
    clear hl hmv
    subst hvm
    go_upto_region 4 with fail
    refine start_held (S := fun u => Gs w #[.int .i64 c.W, .int .i64 c.H, .int .i64 c.height, va, vb, vc, vd, .int .i64 c.unit, .int .i64 c.accel, .int .i64 c.speed, .int .i64 c.turn, .int .i64 c.hoist, .int .i64 c.queue, .int .i64 c.resend, .int .i64 c.budget, .bool c.back] r q gn cu u) 13 rfl (by kernel_rfl) ((HV.out.go (Below.refl _ _).drew).gs) ?_
    simp only [Array.replicate_succ, Array.replicate_zero, List.push_toArray, List.nil_append, List.cons_append]
    replace HV : Hid (Gv w #[.int .i64 c.W, .int .i64 c.H, .int .i64 c.height, va, vb, vc, vd, .int .i64 c.unit, .int .i64 c.accel, .int .i64 c.speed, .int .i64 c.turn, .int .i64 c.hoist, .int .i64 c.queue, .int .i64 c.resend, .int .i64 c.budget, .bool c.back] r q gn cu g (goT r.nb r.ep (r.lt + 1) mv0) x2.drew) := HV.out.go (Below.refl _ _).drew
    have hS0 := HV.out.gs
    generalize x2.drew = z0 at *
    refine tkq 0 hS0 ?_
    refine tkq 1 hS0 ?_
    refine tkq 2 hS0 ?_
    refine tkf 3 hS0 rfl (v := .agg (poA r.px r.py r.pd)) (fun u hu => by exact run_load_at 42 _ rfl ⟨q, 17, none⟩ rfl _ (hu.rc.pose)) ?_
    refine tkq 4 hS0 ?_
    refine tkq 5 hS0 ?_
    refine tkq 6 hS0 ?_
    refine tkf 7 hS0 rfl (v := .agg (poA r.px r.py r.pd)) (fun u hu => by exact run_load_at 42 _ rfl ⟨q, 17, none⟩ rfl _ (hu.rc.pose)) ?_
    refine tkq 8 hS0 ?_
    refine tkf 9 hS0 rfl (fun u hu => by have zz0 := (fun (u : World) (hu : Gs w #[.int .i64 c.W, .int .i64 c.H, .int .i64 c.height, va, vb, vc, vd, .int .i64 c.unit, .int .i64 c.accel, .int .i64 c.speed, .int .i64 c.turn, .int .i64 c.hoist, .int .i64 c.queue, .int .i64 c.resend, .int .i64 c.budget, .bool c.back] r q gn cu u) => (cell_of' hu.cf 11).trans (rfl : _ = some (Value.int .i64 c.hoist))) u hu; go_simp; try rfl) ?_
    refine tkf 10 hS0 rfl (v := .agg (mvA (liftM r.px r.py r.pd c.hoist))) (fun u hu => by refine run_build_op _ _ rfl _ _ ?_ (built_lift r.px r.py r.pd c.hoist); simp only [List.map_toArray, List.map_cons, List.map_nil]; rfl) ?_
    refine tkq 11 hS0 ?_
    refine wpAnyH_ready (rs := [12]) (by kernel_rfl) (by simp) (AllReadyH.cons ((nth_eq _ 12).trans rfl) ?_ AllReadyH.nil)
    intro K1 hK1
    obtain ⟨x1, hx1⟩ : ∃ x, x = z0.setCells g 4 (mvL (liftM r.px r.py r.pd c.hoist)) := ⟨_, rfl⟩
    have hS1 := (show Gs w #[.int .i64 c.W, .int .i64 c.H, .int .i64 c.height, va, vb, vc, vd, .int .i64 c.unit, .int .i64 c.accel, .int .i64 c.speed, .int .i64 c.turn, .int .i64 c.hoist, .int .i64 c.queue, .int .i64 c.resend, .int .i64 c.budget, .bool c.back] r q gn cu x1 by rw [hx1]; exact HV.out.gs.only (Only.setCells _ _ _ _) HV.out.far)
    refine skip_in hK1 (by kernel_rfl) x1 (by rw [hx1]; exact run_store_mid_op 44 _ _ rfl g 4 (mvA (liftM r.px r.py r.pd c.hoist)) rfl rfl (there_of HV.out.tl 4 11 (by show 4 + 11 ≤ 19; omega)) infoMove (mvA_one _)) hS1 ?_
    simp only [Act.put, List.setIfInBounds_toArray, List.set_cons_zero, List.set_cons_succ]
    refine done_held (by kernel_rfl) ?_ _
    have HE : Hid (Gv w #[.int .i64 c.W, .int .i64 c.H, .int .i64 c.height, va, vb, vc, vd, .int .i64 c.unit, .int .i64 c.accel, .int .i64 c.speed, .int .i64 c.turn, .int .i64 c.hoist, .int .i64 c.queue, .int .i64 c.resend, .int .i64 c.budget, .bool c.back] r q gn cu g (goT r.nb r.ep (r.lt + 1) (liftM r.px r.py r.pd c.hoist)) x1) := by show Gv w #[.int .i64 c.W, .int .i64 c.H, .int .i64 c.height, va, vb, vc, vd, .int .i64 c.unit, .int .i64 c.accel, .int .i64 c.speed, .int .i64 c.turn, .int .i64 c.hoist, .int .i64 c.queue, .int .i64 c.resend, .int .i64 c.budget, .bool c.back] r q gn cu g (goT r.nb r.ep (r.lt + 1) (liftM r.px r.py r.pd c.hoist)) x1; rw [hx1]; exact HV.out.put 4 _ _ (tl_mvs _ _ _ _ _)
    clear HV hx1
    go_wp2_with (first
      | (refine wpList_load_at rfl 46 _ rfl ⟨g, 0, none⟩ rfl (tlA (goT r.nb r.ep (r.lt + 1) (liftM r.px r.py r.pd c.hoist))) (load_tele HE.out.tl) ?_)
      | (refine wpList_store_mid rfl 46 _ _ rfl (w.heap.size + 1) 0 (tlA (goT r.nb r.ep (r.lt + 1) (liftM r.px r.py r.pd c.hoist))) rfl rfl (there_of HE.out.gs.rs 0 19 (Nat.le_refl _)) infoTele (tlA_one _) ?_))
    exact bodyPost_ret (results_one Tryz.results13 _ _ (w.heap.size + 1) (tlA (goT r.nb r.ep (r.lt + 1) (liftM r.px r.py r.pd c.hoist))) rfl (load_row_of (cs := tlA (goT r.nb r.ep (r.lt + 1) (liftM r.px r.py r.pd c.hoist))) HE.out.told.1 (aggTele _) infoTele)) rfl ⟨_, rfl, HR.out, HE.out.told.2⟩
  · have q0 : ((ml.length : Int) == 0) = false := by rw [beq_eq_false_iff_ne]; have := List.length_pos_iff.2 hl; omega
    obtain ⟨i, hi, hil⟩ := place_pick n hl
    obtain ⟨p, capp, hvp, hld⟩ := pick_move hmv hil
    obtain ⟨mb, hmb⟩ : ∃ mb, mvOf (ml[i]'hil) = mb := ⟨_, rfl⟩
    rw [hmb] at hld
    have hpi : place n (ml.length : Int) = (i : Int) := by have := place_bd n ml.length (by have := List.length_pos_iff.2 hl; omega); omega
    have cP1 := fun w => place_any n ml.length w (by have := List.length_pos_iff.2 hl; omega) (by have := HLM.out; omega)
    rw [hpi] at cP1
    obtain ⟨la, hla⟩ : ∃ la, place late 1000 = la := ⟨_, rfl⟩
    have cP2 := fun w => place_any late 1000 w (by decide) (by decide)
    rw [hla] at cP2
    have hlb := place_bd late 1000 (by decide)
    rw [hla] at hlb
    have hlg : Grid.legalU c.W c.H G.uses (gm mb) = true := by
      rw [← hmb, gm_of]
      have hmem : ml[i]'hil ∈ (Grid.movesP c.W c.H G.uses (posR r)) := by rw [HML.out]; exact List.getElem_mem hil
      exact (Grid.back_all HWH.out.1 HWH.out.2 hmem).legal
    obtain ⟨m1, hm1⟩ : ∃ m1 : Mv, { mb with ma := la } = m1 := ⟨_, rfl⟩
    have hbd := lasts_bd ok HTH.out.1 HTH.out.2.1 HTH.out.2.2.1 HTH.out.2.2.2 (legal_times (m' := m1) hlg (by rw [← hm1]))
    have cLa := fun u => lasts_conf c va vb vc vd ku ka kv ok hku hka hkv m1 u
    obtain ⟨ls, hls⟩ : ∃ ls, lastsP c.turn c.hoist ku ka kv m1 = ls := ⟨_, rfl⟩
    rw [hls] at cLa hbd
    have HLA : Hid (∀ u, Calls Tryz.prog 42 #[.agg #[.int .i64 c.W, .int .i64 c.H, .int .i64 c.height, va, vb, vc, vd, .int .i64 c.unit, .int .i64 c.accel, .int .i64 c.speed, .int .i64 c.turn, .int .i64 c.hoist, .int .i64 c.queue, .int .i64 c.resend, .int .i64 c.budget, .bool c.back], .agg (mvA m1)] u fun e w' => ∃ z, e = .returned z ∧ (z = .int .i64 ls ∧ Below u.heap.size u w')) := cLa
    have hwr : (IntKind.i64.wrap (la + ls)) = la + ls := by rw [IntKind.wrap_i64]; omega
    have HR : Hid (Value.agg (tlA (goT r.nb r.ep (r.lt + 1) { m1 with me := (IntKind.i64.wrap (la + ls)) })) = .agg (tlA (goT r.nb r.ep (r.lt + 1) (gosM c.turn c.hoist ku ka kv (Grid.movesP c.W c.H G.uses (posR r)) (posR r) n late)))) := by
      show Value.agg _ = Value.agg _
      rw [hwr]
      unfold gosM
      rw [HML.out, if_neg hl, hi, List.getElem?_eq_getElem hil, Option.getD_some, hmb, hla, ← hls, ← hm1]
      rfl
    have HLD : Hid (∀ u, Below x11.heap.size x11 u → (loadVar 44 (p.add (i * 11))).run Tryz.prog u = .ok (.agg (mvA mb)) u) := hld
    subst hvp
    obtain ⟨x3, hx3⟩ : ∃ x3, x2.setCells g 4 (mvA mb).toList = x3 := ⟨_, rfl⟩
    have HV3 : Hid (Gv w #[.int .i64 c.W, .int .i64 c.H, .int .i64 c.height, va, vb, vc, vd, .int .i64 c.unit, .int .i64 c.accel, .int .i64 c.speed, .int .i64 c.turn, .int .i64 c.hoist, .int .i64 c.queue, .int .i64 c.resend, .int .i64 c.budget, .bool c.back] r q gn cu g (goT r.nb r.ep (r.lt + 1) mb) x3) := by show Gv w #[.int .i64 c.W, .int .i64 c.H, .int .i64 c.height, va, vb, vc, vd, .int .i64 c.unit, .int .i64 c.accel, .int .i64 c.speed, .int .i64 c.turn, .int .i64 c.hoist, .int .i64 c.queue, .int .i64 c.resend, .int .i64 c.budget, .bool c.back] r q gn cu g (goT r.nb r.ep (r.lt + 1) mb) x3; rw [← hx3]; exact HV.out.put 4 _ _ (tl_mvs _ _ _ _ _)
    obtain ⟨x4, hx4⟩ : ∃ x4, x3.setCell ⟨g, 13, none⟩ (.int .i64 la) = x4 := ⟨_, rfl⟩
    have HV4 : Hid (Gv w #[.int .i64 c.W, .int .i64 c.H, .int .i64 c.height, va, vb, vc, vd, .int .i64 c.unit, .int .i64 c.accel, .int .i64 c.speed, .int .i64 c.turn, .int .i64 c.hoist, .int .i64 c.queue, .int .i64 c.resend, .int .i64 c.budget, .bool c.back] r q gn cu g (goT r.nb r.ep (r.lt + 1) m1) x4) := by
      show Gv w #[.int .i64 c.W, .int .i64 c.H, .int .i64 c.height, va, vb, vc, vd, .int .i64 c.unit, .int .i64 c.accel, .int .i64 c.speed, .int .i64 c.turn, .int .i64 c.hoist, .int .i64 c.queue, .int .i64 c.resend, .int .i64 c.budget, .bool c.back] r q gn cu g (goT r.nb r.ep (r.lt + 1) m1) x4
      have e4 : x3.setCells g 13 [.int .i64 la] = x4 := hx4
      rw [← e4, ← hm1]
      exact HV3.out.put 13 _ _ (tl_ma' _ _ _ _ _)
    have k13 : x3.cell? ⟨g, 13, none⟩ = some (.int .i64 mb.ma) := tl_ma HV3.out.tl
    have f13 : x3.frozen? ⟨g, 13, none⟩ = false := by simp [World.frozen?, HV3.out.tl]
    have g13 : (i : Int) < (ml.length : Int) := by omega
    have HMA : Hid (∀ u : World, u.heap[g]? = some (.cells (tlA (goT r.nb r.ep (r.lt + 1) m1)) 46 (0, 0)) → u.cell? ⟨g, 13, none⟩ = some (.int .i64 la)) := fun u h => (tl_ma h).trans (by rw [← hm1]; rfl)
    have HMB : Hid (∀ (u : World) (e : Int), u.heap[g]? = some (.cells (tlA (goT r.nb r.ep (r.lt + 1) { m1 with me := e })) 46 (0, 0)) → u.cell? ⟨g, 13, none⟩ = some (.int .i64 la)) := fun u e h => (tl_ma h).trans (by rw [← hm1]; rfl)
    clear hl hmv hld hmb hpi hla hlb hlg hm1 hbd hls cLa hwr hi
    go_upto_region 8 with (first
      | (go_at_call_of 34 n; refine (cP1 _).mono ?_; rintro e yp ⟨rfl, hyp⟩; rw [hyp]; clear hyp)
      | (go_at_call 34; refine (cP2 _).mono ?_; rintro e yp ⟨rfl, hyp⟩; rw [hyp]; clear hyp)
      | (refine wpList_load_at rfl 44 (.tmp 52) rfl (p.add (i * 11)) rfl (mvA mb) (HLD.out _ HBX.out) ?_)
      | (refine wpList_store_mid rfl 44 _ _ rfl g 4 (mvA mb) rfl rfl (there_of HV.out.tl 4 11 (by show 4 + 11 ≤ 19; omega)) infoMove (mvA_one _) ?_; rw [hx3]; clear hx3))
    clear HV HV3 k13 f13
    have HV := HV4
    clear HV4
    refine start_held (S := fun u => Gs w #[.int .i64 c.W, .int .i64 c.H, .int .i64 c.height, va, vb, vc, vd, .int .i64 c.unit, .int .i64 c.accel, .int .i64 c.speed, .int .i64 c.turn, .int .i64 c.hoist, .int .i64 c.queue, .int .i64 c.resend, .int .i64 c.budget, .bool c.back] r q gn cu u ∧ u.cell? ⟨g, 13, none⟩ = some (.int .i64 la)) 11 rfl (by kernel_rfl) (⟨(HV.out.go (Below.refl _ _).drew).gs, HMA.out _ (HV.out.go (Below.refl _ _).drew).tl⟩) ?_
    simp only [Array.replicate_succ, Array.replicate_zero, List.push_toArray, List.nil_append, List.cons_append]
    replace HV : Hid (Gv w #[.int .i64 c.W, .int .i64 c.H, .int .i64 c.height, va, vb, vc, vd, .int .i64 c.unit, .int .i64 c.accel, .int .i64 c.speed, .int .i64 c.turn, .int .i64 c.hoist, .int .i64 c.queue, .int .i64 c.resend, .int .i64 c.budget, .bool c.back] r q gn cu g (goT r.nb r.ep (r.lt + 1) m1) x4.drew) := HV.out.go (Below.refl _ _).drew
    have hS0 : Gs w #[.int .i64 c.W, .int .i64 c.H, .int .i64 c.height, va, vb, vc, vd, .int .i64 c.unit, .int .i64 c.accel, .int .i64 c.speed, .int .i64 c.turn, .int .i64 c.hoist, .int .i64 c.queue, .int .i64 c.resend, .int .i64 c.budget, .bool c.back] r q gn cu x4.drew ∧ x4.drew.cell? ⟨g, 13, none⟩ = some (.int .i64 la) := ⟨HV.out.gs, HMA.out _ HV.out.tl⟩
    generalize x4.drew = z0 at *
    refine tkq 0 hS0 ?_
    refine tkq 1 hS0 ?_
    refine tkf 2 hS0 rfl (fun u hu => by have zz0 := (fun (u : World) (hu : Gs w #[.int .i64 c.W, .int .i64 c.H, .int .i64 c.height, va, vb, vc, vd, .int .i64 c.unit, .int .i64 c.accel, .int .i64 c.speed, .int .i64 c.turn, .int .i64 c.hoist, .int .i64 c.queue, .int .i64 c.resend, .int .i64 c.budget, .bool c.back] r q gn cu u ∧ u.cell? ⟨g, 13, none⟩ = some (.int .i64 la)) => hu.2) u hu; go_simp; try rfl) ?_
    refine tkf 3 hS0 rfl (v := .agg #[.int .i64 c.W, .int .i64 c.H, .int .i64 c.height, va, vb, vc, vd, .int .i64 c.unit, .int .i64 c.accel, .int .i64 c.speed, .int .i64 c.turn, .int .i64 c.hoist, .int .i64 c.queue, .int .i64 c.resend, .int .i64 c.budget, .bool c.back]) (fun u hu => by exact run_load_at 26 _ rfl ⟨w.heap.size, 0, none⟩ rfl _ (load_row_of hu.1.cf (Grid.aggConf _) Grid.info_conf)) ?_
    refine tkq 4 hS0 ?_
    refine wpAnyH_ready (rs := [5]) (by kernel_rfl) (by simp) (AllReadyH.cons ((nth_eq _ 5).trans rfl) ?_ AllReadyH.nil)
    intro K1 hK1
    refine value_in hK1 (by kernel_rfl) (.agg (mvA m1)) z0 (by exact run_load_at 44 _ rfl ⟨g, 4, none⟩ rfl _ (tl_move HV.out.tl)) hS0 ?_
    simp only [Act.put, List.setIfInBounds_toArray, List.set_cons_zero, List.set_cons_succ]
    refine wpAnyH_ready (rs := [6]) (by kernel_rfl) (by simp) (AllReadyH.cons ((nth_eq _ 6).trans rfl) ?_ AllReadyH.nil)
    intro K2 hK2
    refine call_in hK2 (by kernel_rfl) 42 #[.agg #[.int .i64 c.W, .int .i64 c.H, .int .i64 c.height, va, vb, vc, vd, .int .i64 c.unit, .int .i64 c.accel, .int .i64 c.speed, .int .i64 c.turn, .int .i64 c.hoist, .int .i64 c.queue, .int .i64 c.resend, .int .i64 c.budget, .bool c.back], .agg (mvA m1)] (by go_simp) _ (HLA.out z0) ?_
    rintro v2 x2 ⟨rfl, b2⟩
    have hS2 := (show Gs w #[.int .i64 c.W, .int .i64 c.H, .int .i64 c.height, va, vb, vc, vd, .int .i64 c.unit, .int .i64 c.accel, .int .i64 c.speed, .int .i64 c.turn, .int .i64 c.hoist, .int .i64 c.queue, .int .i64 c.resend, .int .i64 c.budget, .bool c.back] r q gn cu x2 ∧ x2.cell? ⟨g, 13, none⟩ = some (.int .i64 la) from ⟨hS0.1.go b2, HMA.out _ (HV.out.go b2).tl⟩)
    have HV2 : Hid (Gv w #[.int .i64 c.W, .int .i64 c.H, .int .i64 c.height, va, vb, vc, vd, .int .i64 c.unit, .int .i64 c.accel, .int .i64 c.speed, .int .i64 c.turn, .int .i64 c.hoist, .int .i64 c.queue, .int .i64 c.resend, .int .i64 c.budget, .bool c.back] r q gn cu g (goT r.nb r.ep (r.lt + 1) m1) x2) := HV.out.go b2
    refine ⟨hS2, ?_⟩
    simp only [Act.put, List.setIfInBounds_toArray, List.set_cons_zero, List.set_cons_succ]
    refine tkq 7 hS2 ?_
    refine tkq 8 hS2 ?_
    refine tkq 9 hS2 ?_
    refine wpAnyH_ready (rs := [10]) (by kernel_rfl) (by simp) (AllReadyH.cons ((nth_eq _ 10).trans rfl) ?_ AllReadyH.nil)
    intro K3 hK3
    obtain ⟨x3, hx3⟩ : ∃ x, x = x2.setCells g 14 [.int .i64 (IntKind.i64.wrap (la + ls))] := ⟨_, rfl⟩
    have hS3 := (show Gs w #[.int .i64 c.W, .int .i64 c.H, .int .i64 c.height, va, vb, vc, vd, .int .i64 c.unit, .int .i64 c.accel, .int .i64 c.speed, .int .i64 c.turn, .int .i64 c.hoist, .int .i64 c.queue, .int .i64 c.resend, .int .i64 c.budget, .bool c.back] r q gn cu x3 ∧ x3.cell? ⟨g, 13, none⟩ = some (.int .i64 la) by rw [hx3]; exact ⟨HV2.out.gs.only (Only.setCells _ _ _ _) HV2.out.far, HMB.out _ _ (HV2.out.put 14 _ _ (tl_me' _ _ _ _ (IntKind.i64.wrap (la + ls)))).tl⟩)
    refine skip_in hK3 (by kernel_rfl) x3 (by rw [hx3]; have zc := tl_me HV2.out.tl; have zf : x2.frozen? ⟨g, 14, none⟩ = false := (by simp [World.frozen?, HV2.out.tl]); go_simp; try rfl) hS3 ?_
    simp only [Act.put, List.setIfInBounds_toArray, List.set_cons_zero, List.set_cons_succ]
    refine done_held (by kernel_rfl) ?_ _
    have HE : Hid (Gv w #[.int .i64 c.W, .int .i64 c.H, .int .i64 c.height, va, vb, vc, vd, .int .i64 c.unit, .int .i64 c.accel, .int .i64 c.speed, .int .i64 c.turn, .int .i64 c.hoist, .int .i64 c.queue, .int .i64 c.resend, .int .i64 c.budget, .bool c.back] r q gn cu g (goT r.nb r.ep (r.lt + 1) { m1 with me := (IntKind.i64.wrap (la + ls)) }) x3) := by show Gv w #[.int .i64 c.W, .int .i64 c.H, .int .i64 c.height, va, vb, vc, vd, .int .i64 c.unit, .int .i64 c.accel, .int .i64 c.speed, .int .i64 c.turn, .int .i64 c.hoist, .int .i64 c.queue, .int .i64 c.resend, .int .i64 c.budget, .bool c.back] r q gn cu g (goT r.nb r.ep (r.lt + 1) { m1 with me := (IntKind.i64.wrap (la + ls)) }) x3; rw [hx3]; exact HV2.out.put 14 _ _ (tl_me' _ _ _ _ (IntKind.i64.wrap (la + ls)))
    clear HV hx3
    go_wp2_with (first
      | (refine wpList_load_at rfl 46 _ rfl ⟨g, 0, none⟩ rfl (tlA (goT r.nb r.ep (r.lt + 1) { m1 with me := (IntKind.i64.wrap (la + ls)) })) (load_tele HE.out.tl) ?_)
      | (refine wpList_store_mid rfl 46 _ _ rfl (w.heap.size + 1) 0 (tlA (goT r.nb r.ep (r.lt + 1) { m1 with me := (IntKind.i64.wrap (la + ls)) })) rfl rfl (there_of HE.out.gs.rs 0 19 (Nat.le_refl _)) infoTele (tlA_one _) ?_))
    exact bodyPost_ret (results_one Tryz.results13 _ _ (w.heap.size + 1) (tlA (goT r.nb r.ep (r.lt + 1) { m1 with me := (IntKind.i64.wrap (la + ls)) })) rfl (load_row_of (cs := tlA (goT r.nb r.ep (r.lt + 1) { m1 with me := (IntKind.i64.wrap (la + ls)) })) HE.out.told.1 (aggTele _) infoTele)) rfl ⟨_, rfl, HR.out, HE.out.told.2⟩
end
end Go.Proofs.YtedhoghleelhfaaGreat.Rob
