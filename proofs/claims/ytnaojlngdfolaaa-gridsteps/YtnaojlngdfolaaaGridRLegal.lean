/-
  The chapter's own answer, further: whether a move is legal.
-/
import Derived.Test.YtnaojlngdfolaaaGridPort
import Derived.Test.YtnaojlngdfolaaaGridPoseR
import Derived.Test.YtnaojlngdfolaaaGridIn2
import Derived.Test.YtnaojlngdfolaaaGridSwept2
import Derived.Test.YtnaojlngdfolaaaGridBackPlain
namespace Go.Proofs.Ytnaojlngdfolaaa.Grid
set_option linter.unusedVariables false
set_option linter.unusedSimpArgs false
open Go Go.RowKit Go.Shelf Go.Proofs
attribute [local go_sem] Oper.semAt_some

theorem fits_told {c : Conf} {G : GS} (h : newP c = some G) (p : Pose) : fitsU c.W c.H G.uses p = decide (fitsR c p) := by
  rw [Bool.eq_iff_iff, decide_eq_true_eq]
  unfold fitsU
  rw [open_same h, open_same h, Bool.and_eq_true, decide_eq_true_eq, decide_eq_true_eq]
  exact Iff.rfl
/- What the chapter asks of a move, case by case. -/
theorem legal_nofit {W H : Int} {us : List Int} {m : Move} (h : fitsU W H us m.2.2.2.1 = false) : legalU W H us m = false := by
  unfold legalU; rw [h]; simp
theorem legal_far {W H : Int} {us : List Int} {m : Move} (h1 : m.1 = 1) (h : (decide (1 ≤ m.2.2.1) && decide (m.2.2.1 ≤ 16)) = false ∨ (decide (0 ≤ m.2.1) && decide (m.2.1 ≤ 3)) = false) : legalU W H us m = false := by
  unfold legalU leadsP mayShift
  rw [if_pos h1]
  rw [Bool.eq_false_iff]
  intro q
  simp only [Bool.and_eq_true, decide_eq_true_eq] at q
  rcases h with h | h <;> (rw [Bool.eq_false_iff] at h; apply h; simp only [Bool.and_eq_true, decide_eq_true_eq]; omega)
theorem legal_else {W H : Int} {us : List Int} {m : Move} (h1 : m.1 = 1) (hd : 0 ≤ m.2.1 ∧ m.2.1 ≤ 3) (hn : 1 ≤ m.2.2.1 ∧ m.2.2.1 ≤ 16) (h : m.2.2.2.2.1 ≠ shiftP m.2.2.2.1 m.2.1 m.2.2.1) : legalU W H us m = false := by
  have hm : mayShift m.2.1 m.2.2.1 = true := by unfold mayShift; simp; omega
  unfold legalU leadsP shiftR
  rw [if_pos h1, if_pos hm, decide_eq_false h]
  simp
theorem legal_run2 {W H : Int} {us : List Int} {m : Move} (hW : W ≤ 16) (hH : H ≤ 16) (h1 : m.1 = 1) (hd : 0 ≤ m.2.1 ∧ m.2.1 ≤ 3) (hn : 1 ≤ m.2.2.1 ∧ m.2.2.1 ≤ 16) (h : m.2.2.2.2.1 = shiftP m.2.2.2.1 m.2.1 m.2.2.1) (hf : fitsU W H us m.2.2.2.1 = true) :
    legalU W H us m = true ↔ ∀ k, 1 ≤ k → k ≤ m.2.2.1 → fitsU W H us (shiftP m.2.2.2.1 m.2.1 k) = true := by
  obtain ⟨kd, dir, n, f, to, ma, me⟩ := m
  simp only at *
  subst h1 h
  have := legal_run (us := us) (p := f) hW hH hd hn
  rw [show legalU W H us (1, dir, n, f, shiftP f dir n, ma, me) = legalU W H us (runM f dir n) from rfl, this]
  exact ⟨fun q => q.2, fun q => ⟨hf, q⟩⟩
theorem legal_other {W H : Int} {us : List Int} {m : Move} (h1 : m.1 ≠ 1) (h2 : m.1 ≠ 2) (h3 : m.1 ≠ 3) (h4 : m.1 ≠ 4) : legalU W H us m = false := by
  unfold legalU leadsP
  rw [if_neg h1, if_neg h2, if_neg (by omega)]
  simp
theorem legal_turn {W H : Int} {us : List Int} {m : Move} (hW : W ≤ 16) (hH : H ≤ 16) (h2 : m.1 = 2) (hf : fitsU W H us m.2.2.2.1 = true) :
    legalU W H us m = (openU W H us m.2.2.2.1.1 && openU W H us (m.2.2.2.1.1.1 + 1, m.2.2.2.1.1.2) && openU W H us (m.2.2.2.1.1.1, m.2.2.2.1.1.2 + 1) && openU W H us (m.2.2.2.1.1.1 + 1, m.2.2.2.1.1.2 + 1) && decide (m.2.2.1 = 0) && decide (m.2.1 = 0) && decide (m.2.2.2.2.1 = (m.2.2.2.1.1, !m.2.2.2.1.2))) := by
  obtain ⟨kd, dir, n, ⟨⟨x, y⟩, b⟩, to, ma, me⟩ := m
  simp only at *
  subst h2
  obtain ⟨n1, n2, n3, n4⟩ := fits_near hW hH hf
  simp only at n1 n2 n3 n4
  unfold legalU leadsP
  simp only [show ¬ (2 : Int) = 1 by decide, if_false, if_true]
  rw [hf, Bool.and_true]
  have e : (boxOf ((x, y), b) (turnP ((x, y), b))).all (openU W H us) = (openU W H us (x, y) && openU W H us (x + 1, y) && openU W H us (x, y + 1) && openU W H us (x + 1, y + 1)) := by
    have hsp := second_small (p := ((x, y), b)) (by simp only; omega) (by simp only; omega) (by simp only; omega) (by simp only; omega)
    have hst := second_small (p := turnP ((x, y), b)) (by show -200 ≤ x; omega) (by show x ≤ 200; omega) (by show -200 ≤ y; omega) (by show y ≤ 200; omega)
    rw [Bool.eq_iff_iff, List.all_eq_true]
    simp only [Bool.and_eq_true, and_assoc]
    unfold boxOf spanP
    rw [hsp, hst]
    constructor
    · intro q
      refine ⟨q _ ?_, q _ ?_, q _ ?_, q _ ?_⟩ <;> (rw [mem_boxList]; cases b <;> simp [turnP] <;> omega)
    · rintro ⟨q1, q2, q3, q4⟩ ⟨cx, cy⟩ hm
      rw [mem_boxList] at hm
      have hx : (cx = x ∨ cx = x + 1) ∧ (cy = y ∨ cy = y + 1) := by
        cases b <;> simp [turnP] at hm <;> omega
      rcases hx with ⟨rfl | rfl, rfl | rfl⟩ <;> assumption
  rw [e]
  unfold still turnP
  simp only
  cases openU W H us (x, y) <;> cases openU W H us (x + 1, y) <;> cases openU W H us (x, y + 1) <;> cases openU W H us (x + 1, y + 1) <;> simp [Bool.and_comm, Bool.and_assoc]
theorem legal_still {W H : Int} {us : List Int} {m : Move} (hW : W ≤ 16) (hH : H ≤ 16) (h3 : m.1 = 3 ∨ m.1 = 4) (hf : fitsU W H us m.2.2.2.1 = true) :
    legalU W H us m = (decide (m.2.2.1 = 0) && decide (m.2.1 = 0) && decide (m.2.2.2.2.1 = m.2.2.2.1)) := by
  obtain ⟨kd, dir, n, p, to, ma, me⟩ := m
  simp only at *
  obtain ⟨n1, n2, n3, n4⟩ := fits_near hW hH hf
  have hsp := second_small (p := p) (by omega) (by omega) (by omega) (by omega)
  have ho := fits_iff.1 hf
  have e : (boxOf p p).all (openU W H us) = true := by
    rw [List.all_eq_true]
    rintro ⟨cx, cy⟩ hm
    unfold boxOf spanP at hm
    rw [hsp] at hm ho
    rw [mem_boxList] at hm
    obtain ⟨⟨x, y⟩, b⟩ := p
    have hx : (cx, cy) = (x, y) ∨ (cx, cy) = (if b = true then (x, y + 1) else (x + 1, y)) := by
      cases b <;> simp at hm ⊢ <;> omega
    rcases hx with e | e
    · rw [e]; exact ho.1
    · rw [e]; cases b <;> simpa using ho.2
  unfold legalU leadsP
  rw [if_neg (by simp only; omega), if_neg (by simp only; omega), if_pos h3]
  simp only
  rw [hf, e]
  unfold still
  simp [Bool.and_comm]
theorem pose_at2 {w : World} {b : Nat} {cs : Array Value} {t : TypeId} {x y : Int} {d : Bool} (h : w.heap[b]? = some (.cells cs t (0, 0))) (o : Nat) (h0 : cs[o]? = some (.int .i64 x)) (h1 : cs[o + 1]? = some (.int .i64 y)) (h2 : cs[o + 2]? = some (.bool d)) : ∀ j z, #[Value.int .i64 x, .int .i64 y, .bool d][j]? = some z → w.cell? ((⟨b, o, none⟩ : Addr).add j) = some z := by
  intro j z hj
  rw [Addr.add_lit]
  match j with
  | 0 => simp at hj; rw [← hj]; exact (cell_of h _).trans h0
  | 1 => simp at hj; rw [← hj]; exact (cell_of h _).trans h1
  | 2 => simp at hj; rw [← hj]; exact (cell_of h _).trans h2
  | j + 3 => simp at hj
theorem pose_below2 {w u : World} {b : Nat} {cs : Array Value} {t : TypeId} {x y : Int} {d : Bool} (h : w.heap[b]? = some (.cells cs t (0, 0))) (o : Nat) (h0 : cs[o]? = some (.int .i64 x)) (h1 : cs[o + 1]? = some (.int .i64 y)) (h2 : cs[o + 2]? = some (.bool d)) (hu : Below w.heap.size w u) : ∀ j z, #[Value.int .i64 x, .int .i64 y, .bool d][j]? = some z → u.cell? ((⟨b, o, none⟩ : Addr).add j) = some z :=
  pose_at2 ((hu.block _ (lt_of_heap h)).trans h) o h0 h1 h2
theorem within_call (v lo hi : Int) (w : World) : Calls Try.prog 128 #[.int .i64 v, .int .i64 lo, .int .i64 hi] w fun e w' => ∃ r, e = .returned r ∧ (r = .bool (decide (lo ≤ v) && decide (v ≤ hi)) ∧ Below w.heap.size w w') :=
  (withinR_any v lo hi w).mono fun e w' ⟨h1, h2⟩ => ⟨_, h1, rfl, by rw [h2]; exact Below.refl _ _⟩
theorem eqPose4 (x y : Int) (d : Bool) (x' y' : Int) (d' : Bool) (w : World) : (Op.equalIn 10000 30 (.agg #[.int .i64 x, .int .i64 y, .bool d]) (.agg #[.int .i64 x', .int .i64 y', .bool d'])).run Try.prog w = .ok (decide (((x, y), d) = ((x', y'), d'))) w := by
  go_simp
  repeat' split
  all_goals simp_all
theorem guardPose4 : Try.prog.eqGuardType Try.prog.depth 30 = false := by kernel_rfl
theorem run_neq_pose4 {o : Oper} {a : Act} {w : World} (x y : Operand) (ho : o.op = .binOp .neq 30 x y 30) (p q : Int) (d : Bool) (p' q' : Int) (d' : Bool) (hx : a.eval x = .agg #[.int .i64 p, .int .i64 q, .bool d]) (hy : a.eval y = .agg #[.int .i64 p', .int .i64 q', .bool d']) :
    (execOp a.eval o).run Try.prog w = .ok (.value (.bool (!decide (((p, q), d) = ((p', q'), d'))))) w := by
  unfold execOp
  simp only [ho, hx, hy, Sem.run_bind, Sem.run_pure, Result.andThen_ok, run_eqGuard_agg _ _ _ _ _ _ _ guardPose4, run_neq_struct, eqPose4]
set_option maxRecDepth 100000 in
set_option maxHeartbeats 4000000 in
theorem rlegal_nofit (c : Conf) (vb vp vr vs : Value) (w : World) (hA : ConfAt (Old w) c vb vp vr vs w) (l1 : c.blocked.length ≤ 8796093022208) (l2 : c.ports.length ≤ 8796093022208) (l3 : c.robots.length ≤ 5864062014805) (l4 : c.stacks.length ≤ 3518437208880) (l5 : ∀ s ∈ c.stacks, s.2.length ≤ 17592186044416) (dir n fx fy tx ty ma me kd : Int) (fd td : Bool) (hf0 : decide (fitsR c ((fx, fy), fd)) = false) : Calls Try.prog 85 #[.agg #[.int .i64 c.W, .int .i64 c.H, .int .i64 c.height, vb, vp, vr, vs, .int .i64 c.unit, .int .i64 c.accel, .int .i64 c.speed, .int .i64 c.turn, .int .i64 c.hoist, .int .i64 c.queue, .int .i64 c.resend, .int .i64 c.budget, .bool c.back], .agg #[.int .i64 kd, .int .i64 dir, .int .i64 n, .int .i64 fx, .int .i64 fy, .bool fd, .int .i64 tx, .int .i64 ty, .bool td, .int .i64 ma, .int .i64 me]] w fun e w' => ∃ r, e = .returned r ∧ (r = .bool false ∧ Below w.heap.size w w') := by
  have L := fun (u : World) (b : Below w.heap.size w u) g (hg : Old w g) => Nat.lt_of_lt_of_le hg b.size
  have hAu := fun u (b : Below w.heap.size w u) => hA.go (fun _ h => h) b
  have Q0 := two_new w #[.int .i64 c.W, .int .i64 c.H, .int .i64 c.height, vb, vp, vr, vs, .int .i64 c.unit, .int .i64 c.accel, .int .i64 c.speed, .int .i64 c.turn, .int .i64 c.hoist, .int .i64 c.queue, .int .i64 c.resend, .int .i64 c.budget, .bool c.back] #[.int .i64 kd, .int .i64 dir, .int .i64 n, .int .i64 fx, .int .i64 fy, .bool fd, .int .i64 tx, .int .i64 ty, .bool td, .int .i64 ma, .int .i64 me] 56
  have cF := fun u (b : Below w.heap.size w u) => fitsR_any (Old w) c vb vp vr vs fx fy fd u (hAu u b) (L u b) (by omega)
  rw [hf0] at cF
  clear hA L hAu
  go_enter Try.func85, Try.ntmps85
  go_wp2_with (first
    | (refine wpList_load_row rfl 26 (.tmp 2) rfl w.heap.size rfl 26 #[.int .i64 c.W, .int .i64 c.H, .int .i64 c.height, vb, vp, vr, vs, .int .i64 c.unit, .int .i64 c.accel, .int .i64 c.speed, .int .i64 c.turn, .int .i64 c.hoist, .int .i64 c.queue, .int .i64 c.resend, .int .i64 c.budget, .bool c.back] (0, 0) _ Q0.a Try.underlying26 rfl info_conf ?_)
    | (go_at_call 75; refine (cF _ Q0.below).mono ?_; rintro e w1 ⟨r1, rfl, rfl, b1⟩; have Q1 := Q0.go b1; have q0 := cell_of Q1.b 0; have q1 := cell_of Q1.b 1; have q2 := cell_of Q1.b 2; have q3 := cell_of Q1.b 3; have q4 := cell_of Q1.b 4; have q5 := cell_of Q1.b 5; have q6 := cell_of Q1.b 6; have q7 := cell_of Q1.b 7; have q8 := cell_of Q1.b 8))
  go_ret
  exact ⟨_, rfl, rfl, Q1.below⟩
set_option maxRecDepth 100000 in
set_option maxHeartbeats 4000000 in
theorem rlegal_other (c : Conf) (vb vp vr vs : Value) (w : World) (hA : ConfAt (Old w) c vb vp vr vs w) (l1 : c.blocked.length ≤ 8796093022208) (l2 : c.ports.length ≤ 8796093022208) (l3 : c.robots.length ≤ 5864062014805) (l4 : c.stacks.length ≤ 3518437208880) (l5 : ∀ s ∈ c.stacks, s.2.length ≤ 17592186044416) (dir n fx fy tx ty ma me kd : Int) (fd td : Bool) (hf1 : decide (fitsR c ((fx, fy), fd)) = true) (h1 : (kd == 1) = false) (h2 : (kd == 2) = false) (h3 : (kd == 3) = false) (h4 : (kd == 4) = false) : Calls Try.prog 85 #[.agg #[.int .i64 c.W, .int .i64 c.H, .int .i64 c.height, vb, vp, vr, vs, .int .i64 c.unit, .int .i64 c.accel, .int .i64 c.speed, .int .i64 c.turn, .int .i64 c.hoist, .int .i64 c.queue, .int .i64 c.resend, .int .i64 c.budget, .bool c.back], .agg #[.int .i64 kd, .int .i64 dir, .int .i64 n, .int .i64 fx, .int .i64 fy, .bool fd, .int .i64 tx, .int .i64 ty, .bool td, .int .i64 ma, .int .i64 me]] w fun e w' => ∃ r, e = .returned r ∧ (r = .bool false ∧ Below w.heap.size w w') := by
  have L := fun (u : World) (b : Below w.heap.size w u) g (hg : Old w g) => Nat.lt_of_lt_of_le hg b.size
  have hAu := fun u (b : Below w.heap.size w u) => hA.go (fun _ h => h) b
  have Q0 := two_new w #[.int .i64 c.W, .int .i64 c.H, .int .i64 c.height, vb, vp, vr, vs, .int .i64 c.unit, .int .i64 c.accel, .int .i64 c.speed, .int .i64 c.turn, .int .i64 c.hoist, .int .i64 c.queue, .int .i64 c.resend, .int .i64 c.budget, .bool c.back] #[.int .i64 kd, .int .i64 dir, .int .i64 n, .int .i64 fx, .int .i64 fy, .bool fd, .int .i64 tx, .int .i64 ty, .bool td, .int .i64 ma, .int .i64 me] 56
  have cF := fun u (b : Below w.heap.size w u) => fitsR_any (Old w) c vb vp vr vs fx fy fd u (hAu u b) (L u b) (by omega)
  rw [hf1] at cF
  clear hA 
  go_enter Try.func85, Try.ntmps85
  go_wp2_with (first
    | (refine wpList_load_row rfl 26 (.tmp 2) rfl w.heap.size rfl 26 #[.int .i64 c.W, .int .i64 c.H, .int .i64 c.height, vb, vp, vr, vs, .int .i64 c.unit, .int .i64 c.accel, .int .i64 c.speed, .int .i64 c.turn, .int .i64 c.hoist, .int .i64 c.queue, .int .i64 c.resend, .int .i64 c.budget, .bool c.back] (0, 0) _ Q0.a Try.underlying26 rfl info_conf ?_)
    | (go_at_call 75; refine (cF _ Q0.below).mono ?_; rintro e w1 ⟨r1, rfl, rfl, b1⟩; have Q1 := Q0.go b1; have q0 := cell_of Q1.b 0; have q1 := cell_of Q1.b 1; have q2 := cell_of Q1.b 2; have q3 := cell_of Q1.b 3; have q4 := cell_of Q1.b 4; have q5 := cell_of Q1.b 5; have q6 := cell_of Q1.b 6; have q7 := cell_of Q1.b 7; have q8 := cell_of Q1.b 8))
  go_ret
  exact ⟨_, rfl, rfl, Q1.below⟩
set_option maxRecDepth 100000 in
set_option maxHeartbeats 4000000 in
theorem rlegal_far (c : Conf) (vb vp vr vs : Value) (w : World) (hA : ConfAt (Old w) c vb vp vr vs w) (l1 : c.blocked.length ≤ 8796093022208) (l2 : c.ports.length ≤ 8796093022208) (l3 : c.robots.length ≤ 5864062014805) (l4 : c.stacks.length ≤ 3518437208880) (l5 : ∀ s ∈ c.stacks, s.2.length ≤ 17592186044416) (dir n fx fy tx ty ma me : Int) (fd td : Bool) (hf1 : decide (fitsR c ((fx, fy), fd)) = true) (hw1 : (decide (1 ≤ n) && decide (n ≤ 16)) = false) : Calls Try.prog 85 #[.agg #[.int .i64 c.W, .int .i64 c.H, .int .i64 c.height, vb, vp, vr, vs, .int .i64 c.unit, .int .i64 c.accel, .int .i64 c.speed, .int .i64 c.turn, .int .i64 c.hoist, .int .i64 c.queue, .int .i64 c.resend, .int .i64 c.budget, .bool c.back], .agg #[.int .i64 1, .int .i64 dir, .int .i64 n, .int .i64 fx, .int .i64 fy, .bool fd, .int .i64 tx, .int .i64 ty, .bool td, .int .i64 ma, .int .i64 me]] w fun e w' => ∃ r, e = .returned r ∧ (r = .bool false ∧ Below w.heap.size w w') := by
  have L := fun (u : World) (b : Below w.heap.size w u) g (hg : Old w g) => Nat.lt_of_lt_of_le hg b.size
  have hAu := fun u (b : Below w.heap.size w u) => hA.go (fun _ h => h) b
  have Q0 := two_new w #[.int .i64 c.W, .int .i64 c.H, .int .i64 c.height, vb, vp, vr, vs, .int .i64 c.unit, .int .i64 c.accel, .int .i64 c.speed, .int .i64 c.turn, .int .i64 c.hoist, .int .i64 c.queue, .int .i64 c.resend, .int .i64 c.budget, .bool c.back] #[.int .i64 1, .int .i64 dir, .int .i64 n, .int .i64 fx, .int .i64 fy, .bool fd, .int .i64 tx, .int .i64 ty, .bool td, .int .i64 ma, .int .i64 me] 56
  have cF := fun u (b : Below w.heap.size w u) => fitsR_any (Old w) c vb vp vr vs fx fy fd u (hAu u b) (L u b) (by omega)
  have cW1 := fun u => within_call n 1 16 u
  rw [hw1] at cW1
  rw [hf1] at cF
  clear hA 
  go_enter Try.func85, Try.ntmps85
  go_wp2_with (first
    | (refine wpList_load_row rfl 26 (.tmp 2) rfl w.heap.size rfl 26 #[.int .i64 c.W, .int .i64 c.H, .int .i64 c.height, vb, vp, vr, vs, .int .i64 c.unit, .int .i64 c.accel, .int .i64 c.speed, .int .i64 c.turn, .int .i64 c.hoist, .int .i64 c.queue, .int .i64 c.resend, .int .i64 c.budget, .bool c.back] (0, 0) _ Q0.a Try.underlying26 rfl info_conf ?_)
    | (go_at_call 75; refine (cF _ Q0.below).mono ?_; rintro e w1 ⟨r1, rfl, rfl, b1⟩; have Q1 := Q0.go b1; have q0 := cell_of Q1.b 0; have q1 := cell_of Q1.b 1; have q2 := cell_of Q1.b 2; have q3 := cell_of Q1.b 3; have q4 := cell_of Q1.b 4; have q5 := cell_of Q1.b 5; have q6 := cell_of Q1.b 6; have q7 := cell_of Q1.b 7; have q8 := cell_of Q1.b 8))
  have B := Q1.below
  have eB := Q1.b
  obtain ⟨IH, hIH⟩ : ∃ I : World → Prop, I = Below w1.heap.size w1 := ⟨_, rfl⟩
  have kI : ∀ u, IH u → Below w1.heap.size w1 u := fun u hu => by rw [hIH] at hu; exact hu
  have hS : IH w1.drew := by rw [hIH]; exact (Below.refl _ _).drew
  have D0 : Below w1.heap.size w1 w1.drew := (Below.refl _ _).drew
  have z1 : ∀ u, IH u → u.cell? ⟨w.heap.size + 1, 1, none⟩ = some (.int .i64 dir) := fun u hu => cell_below q1 (kI u hu)
  have z2 : ∀ u, IH u → u.cell? ⟨w.heap.size + 1, 2, none⟩ = some (.int .i64 n) := fun u hu => cell_below q2 (kI u hu)
  have HF : Hid (∀ u, IH u → ∀ j z, #[Value.int .i64 fx, .int .i64 fy, .bool fd][j]? = some z → u.cell? ((⟨w.heap.size + 1, 3, none⟩ : Addr).add j) = some z) := fun u hu => pose_below2 eB 3 rfl rfl rfl (kI u hu)
  have HT : Hid (∀ u, IH u → ∀ j z, #[Value.int .i64 tx, .int .i64 ty, .bool td][j]? = some z → u.cell? ((⟨w.heap.size + 1, 6, none⟩ : Addr).add j) = some z) := fun u hu => pose_below2 eB 6 rfl rfl rfl (kI u hu)
  clear q0 q1 q2 q3 q4 q5 q6 q7 q8 eB
  refine start_held (S := IH) 22 rfl (by kernel_rfl) (hS) ?_
  simp only [Array.replicate_succ, Array.replicate_zero, List.push_toArray, List.nil_append, List.cons_append]
  refine take_held 0 (by assumption) rfl (by kernel_rfl) (by kernel_rfl) (by kernel_rfl) (fun _ _ _ h => h) (by kernel_rfl) (v := ?v0) ?y0 ?r0
  case y0 => (intro u hu; go_simp; try rfl)
  simp only [Act.put, List.setIfInBounds_toArray, List.set_cons_zero, List.set_cons_succ]
  refine take_held 1 (by assumption) rfl (by kernel_rfl) (by kernel_rfl) (by kernel_rfl) (fun _ _ _ h => h) (by kernel_rfl) (v := ?v1) ?y1 ?r1
  case y1 => (intro u hu; have zz0 := z2 u hu; go_simp; try rfl)
  simp only [Act.put, List.setIfInBounds_toArray, List.set_cons_zero, List.set_cons_succ]
  refine wpAnyH_ready (rs := [2]) (by kernel_rfl) (by simp) (AllReadyH.cons ((nth_eq _ 2).trans rfl) ?_ AllReadyH.nil)
  intro K' hK
  refine call_in hK (by kernel_rfl) 128 #[.int .i64 n, .int .i64 1, .int .i64 16] (by go_simp) _ (cW1 _) ?_
  rintro v w5 ⟨rfl, b5⟩
  have D5 := bcat D0 b5 (Nat.le_refl _)
  have hS5 : IH w5 := by rw [hIH]; exact D5
  refine ⟨hS5, ?_⟩
  simp only [Act.put, List.setIfInBounds_toArray, List.set_cons_zero, List.set_cons_succ]
  refine take_held 3 (by assumption) rfl (by kernel_rfl) (by kernel_rfl) (by kernel_rfl) (fun _ _ _ h => h) (by kernel_rfl) (v := ?v2) ?y2 ?r2
  case y2 => (intro u hu; go_simp; try rfl)
  simp only [Act.put, List.setIfInBounds_toArray, List.set_cons_zero, List.set_cons_succ]
  refine take_held 4 (by assumption) rfl (by kernel_rfl) (by kernel_rfl) (by kernel_rfl) (fun _ _ _ h => h) (by kernel_rfl) (v := ?v3) ?y3 ?r3
  case y3 => (intro u hu; go_simp; try rfl)
  simp only [Act.put, List.setIfInBounds_toArray, List.set_cons_zero, List.set_cons_succ]
  refine skip_held 5 (by assumption) rfl (by kernel_rfl) (by kernel_rfl) (by kernel_rfl) (fun _ _ _ h => h) (by kernel_rfl) ?_
  simp only [Act.put, List.setIfInBounds_toArray, List.set_cons_zero, List.set_cons_succ]
  refine skip_held 6 (by assumption) rfl (by kernel_rfl) (by kernel_rfl) (by kernel_rfl) (fun _ _ _ h => h) (by kernel_rfl) ?_
  simp only [Act.put, List.setIfInBounds_toArray, List.set_cons_zero, List.set_cons_succ]
  refine skip_held 7 (by assumption) rfl (by kernel_rfl) (by kernel_rfl) (by kernel_rfl) (fun _ _ _ h => h) (by kernel_rfl) ?_
  simp only [Act.put, List.setIfInBounds_toArray, List.set_cons_zero, List.set_cons_succ]
  refine skip_held 8 (by assumption) rfl (by kernel_rfl) (by kernel_rfl) (by kernel_rfl) (fun _ _ _ h => h) (by kernel_rfl) ?_
  simp only [Act.put, List.setIfInBounds_toArray, List.set_cons_zero, List.set_cons_succ]
  refine take_held 9 (by assumption) rfl (by kernel_rfl) (by kernel_rfl) (by kernel_rfl) (fun _ _ _ h => h) (by kernel_rfl) (v := ?v4) ?y4 ?r4
  case y4 => (intro u hu; go_simp; try rfl)
  simp only [Act.put, List.setIfInBounds_toArray, List.set_cons_zero, List.set_cons_succ]
  refine take_held 10 (by assumption) rfl (by kernel_rfl) (by kernel_rfl) (by kernel_rfl) (fun _ _ _ h => h) (by kernel_rfl) (v := ?v5) ?y5 ?r5
  case y5 => (intro u hu; go_simp; try rfl)
  simp only [Act.put, List.setIfInBounds_toArray, List.set_cons_zero, List.set_cons_succ]
  refine skip_held 11 (by assumption) rfl (by kernel_rfl) (by kernel_rfl) (by kernel_rfl) (fun _ _ _ h => h) (by kernel_rfl) ?_
  simp only [Act.put, List.setIfInBounds_toArray, List.set_cons_zero, List.set_cons_succ]
  refine skip_held 12 (by assumption) rfl (by kernel_rfl) (by kernel_rfl) (by kernel_rfl) (fun _ _ _ h => h) (by kernel_rfl) ?_
  simp only [Act.put, List.setIfInBounds_toArray, List.set_cons_zero, List.set_cons_succ]
  refine skip_held 13 (by assumption) rfl (by kernel_rfl) (by kernel_rfl) (by kernel_rfl) (fun _ _ _ h => h) (by kernel_rfl) ?_
  simp only [Act.put, List.setIfInBounds_toArray, List.set_cons_zero, List.set_cons_succ]
  refine skip_held 14 (by assumption) rfl (by kernel_rfl) (by kernel_rfl) (by kernel_rfl) (fun _ _ _ h => h) (by kernel_rfl) ?_
  simp only [Act.put, List.setIfInBounds_toArray, List.set_cons_zero, List.set_cons_succ]
  refine skip_held 15 (by assumption) rfl (by kernel_rfl) (by kernel_rfl) (by kernel_rfl) (fun _ _ _ h => h) (by kernel_rfl) ?_
  simp only [Act.put, List.setIfInBounds_toArray, List.set_cons_zero, List.set_cons_succ]
  refine skip_held 16 (by assumption) rfl (by kernel_rfl) (by kernel_rfl) (by kernel_rfl) (fun _ _ _ h => h) (by kernel_rfl) ?_
  simp only [Act.put, List.setIfInBounds_toArray, List.set_cons_zero, List.set_cons_succ]
  refine skip_held 17 (by assumption) rfl (by kernel_rfl) (by kernel_rfl) (by kernel_rfl) (fun _ _ _ h => h) (by kernel_rfl) ?_
  simp only [Act.put, List.setIfInBounds_toArray, List.set_cons_zero, List.set_cons_succ]
  refine skip_held 18 (by assumption) rfl (by kernel_rfl) (by kernel_rfl) (by kernel_rfl) (fun _ _ _ h => h) (by kernel_rfl) ?_
  simp only [Act.put, List.setIfInBounds_toArray, List.set_cons_zero, List.set_cons_succ]
  refine skip_held 19 (by assumption) rfl (by kernel_rfl) (by kernel_rfl) (by kernel_rfl) (fun _ _ _ h => h) (by kernel_rfl) ?_
  simp only [Act.put, List.setIfInBounds_toArray, List.set_cons_zero, List.set_cons_succ]
  refine skip_held 20 (by assumption) rfl (by kernel_rfl) (by kernel_rfl) (by kernel_rfl) (fun _ _ _ h => h) (by kernel_rfl) ?_
  simp only [Act.put, List.setIfInBounds_toArray, List.set_cons_zero, List.set_cons_succ]
  refine take_held 21 (by assumption) rfl (by kernel_rfl) (by kernel_rfl) (by kernel_rfl) (fun _ _ _ h => h) (by kernel_rfl) (v := ?v6) ?y6 ?r6
  case y6 => (intro u hu; go_simp; try rfl)
  simp only [Act.put, List.setIfInBounds_toArray, List.set_cons_zero, List.set_cons_succ]
  refine done_held (by kernel_rfl) ?_ _
  go_wp2
  go_ret
  exact ⟨_, rfl, rfl, bcat B D5 (Nat.le_refl _)⟩
set_option maxRecDepth 100000 in
set_option maxHeartbeats 4000000 in
theorem rlegal_dir (c : Conf) (vb vp vr vs : Value) (w : World) (hA : ConfAt (Old w) c vb vp vr vs w) (l1 : c.blocked.length ≤ 8796093022208) (l2 : c.ports.length ≤ 8796093022208) (l3 : c.robots.length ≤ 5864062014805) (l4 : c.stacks.length ≤ 3518437208880) (l5 : ∀ s ∈ c.stacks, s.2.length ≤ 17592186044416) (dir n fx fy tx ty ma me : Int) (fd td : Bool) (hf1 : decide (fitsR c ((fx, fy), fd)) = true) (hw1 : (decide (1 ≤ n) && decide (n ≤ 16)) = true) (hw2 : (decide (0 ≤ dir) && decide (dir ≤ 3)) = false) : Calls Try.prog 85 #[.agg #[.int .i64 c.W, .int .i64 c.H, .int .i64 c.height, vb, vp, vr, vs, .int .i64 c.unit, .int .i64 c.accel, .int .i64 c.speed, .int .i64 c.turn, .int .i64 c.hoist, .int .i64 c.queue, .int .i64 c.resend, .int .i64 c.budget, .bool c.back], .agg #[.int .i64 1, .int .i64 dir, .int .i64 n, .int .i64 fx, .int .i64 fy, .bool fd, .int .i64 tx, .int .i64 ty, .bool td, .int .i64 ma, .int .i64 me]] w fun e w' => ∃ r, e = .returned r ∧ (r = .bool false ∧ Below w.heap.size w w') := by
  have L := fun (u : World) (b : Below w.heap.size w u) g (hg : Old w g) => Nat.lt_of_lt_of_le hg b.size
  have hAu := fun u (b : Below w.heap.size w u) => hA.go (fun _ h => h) b
  have Q0 := two_new w #[.int .i64 c.W, .int .i64 c.H, .int .i64 c.height, vb, vp, vr, vs, .int .i64 c.unit, .int .i64 c.accel, .int .i64 c.speed, .int .i64 c.turn, .int .i64 c.hoist, .int .i64 c.queue, .int .i64 c.resend, .int .i64 c.budget, .bool c.back] #[.int .i64 1, .int .i64 dir, .int .i64 n, .int .i64 fx, .int .i64 fy, .bool fd, .int .i64 tx, .int .i64 ty, .bool td, .int .i64 ma, .int .i64 me] 56
  have cF := fun u (b : Below w.heap.size w u) => fitsR_any (Old w) c vb vp vr vs fx fy fd u (hAu u b) (L u b) (by omega)
  have cW1 := fun u => within_call n 1 16 u
  rw [hw1] at cW1
  have cW2 := fun u => within_call dir 0 3 u
  rw [hw2] at cW2
  rw [hf1] at cF
  clear hA 
  go_enter Try.func85, Try.ntmps85
  go_wp2_with (first
    | (refine wpList_load_row rfl 26 (.tmp 2) rfl w.heap.size rfl 26 #[.int .i64 c.W, .int .i64 c.H, .int .i64 c.height, vb, vp, vr, vs, .int .i64 c.unit, .int .i64 c.accel, .int .i64 c.speed, .int .i64 c.turn, .int .i64 c.hoist, .int .i64 c.queue, .int .i64 c.resend, .int .i64 c.budget, .bool c.back] (0, 0) _ Q0.a Try.underlying26 rfl info_conf ?_)
    | (go_at_call 75; refine (cF _ Q0.below).mono ?_; rintro e w1 ⟨r1, rfl, rfl, b1⟩; have Q1 := Q0.go b1; have q0 := cell_of Q1.b 0; have q1 := cell_of Q1.b 1; have q2 := cell_of Q1.b 2; have q3 := cell_of Q1.b 3; have q4 := cell_of Q1.b 4; have q5 := cell_of Q1.b 5; have q6 := cell_of Q1.b 6; have q7 := cell_of Q1.b 7; have q8 := cell_of Q1.b 8))
  have B := Q1.below
  have eB := Q1.b
  obtain ⟨IH, hIH⟩ : ∃ I : World → Prop, I = Below w1.heap.size w1 := ⟨_, rfl⟩
  have kI : ∀ u, IH u → Below w1.heap.size w1 u := fun u hu => by rw [hIH] at hu; exact hu
  have hS : IH w1.drew := by rw [hIH]; exact (Below.refl _ _).drew
  have D0 : Below w1.heap.size w1 w1.drew := (Below.refl _ _).drew
  have z1 : ∀ u, IH u → u.cell? ⟨w.heap.size + 1, 1, none⟩ = some (.int .i64 dir) := fun u hu => cell_below q1 (kI u hu)
  have z2 : ∀ u, IH u → u.cell? ⟨w.heap.size + 1, 2, none⟩ = some (.int .i64 n) := fun u hu => cell_below q2 (kI u hu)
  have HF : Hid (∀ u, IH u → ∀ j z, #[Value.int .i64 fx, .int .i64 fy, .bool fd][j]? = some z → u.cell? ((⟨w.heap.size + 1, 3, none⟩ : Addr).add j) = some z) := fun u hu => pose_below2 eB 3 rfl rfl rfl (kI u hu)
  have HT : Hid (∀ u, IH u → ∀ j z, #[Value.int .i64 tx, .int .i64 ty, .bool td][j]? = some z → u.cell? ((⟨w.heap.size + 1, 6, none⟩ : Addr).add j) = some z) := fun u hu => pose_below2 eB 6 rfl rfl rfl (kI u hu)
  clear q0 q1 q2 q3 q4 q5 q6 q7 q8 eB
  refine start_held (S := IH) 22 rfl (by kernel_rfl) (hS) ?_
  simp only [Array.replicate_succ, Array.replicate_zero, List.push_toArray, List.nil_append, List.cons_append]
  refine take_held 0 (by assumption) rfl (by kernel_rfl) (by kernel_rfl) (by kernel_rfl) (fun _ _ _ h => h) (by kernel_rfl) (v := ?v7) ?y7 ?r7
  case y7 => (intro u hu; go_simp; try rfl)
  simp only [Act.put, List.setIfInBounds_toArray, List.set_cons_zero, List.set_cons_succ]
  refine take_held 1 (by assumption) rfl (by kernel_rfl) (by kernel_rfl) (by kernel_rfl) (fun _ _ _ h => h) (by kernel_rfl) (v := ?v8) ?y8 ?r8
  case y8 => (intro u hu; have zz0 := z2 u hu; go_simp; try rfl)
  simp only [Act.put, List.setIfInBounds_toArray, List.set_cons_zero, List.set_cons_succ]
  refine wpAnyH_ready (rs := [2]) (by kernel_rfl) (by simp) (AllReadyH.cons ((nth_eq _ 2).trans rfl) ?_ AllReadyH.nil)
  intro K' hK
  refine call_in hK (by kernel_rfl) 128 #[.int .i64 n, .int .i64 1, .int .i64 16] (by go_simp) _ (cW1 _) ?_
  rintro v w5 ⟨rfl, b5⟩
  have D5 := bcat D0 b5 (Nat.le_refl _)
  have hS5 : IH w5 := by rw [hIH]; exact D5
  refine ⟨hS5, ?_⟩
  simp only [Act.put, List.setIfInBounds_toArray, List.set_cons_zero, List.set_cons_succ]
  refine take_held 3 (by assumption) rfl (by kernel_rfl) (by kernel_rfl) (by kernel_rfl) (fun _ _ _ h => h) (by kernel_rfl) (v := ?v9) ?y9 ?r9
  case y9 => (intro u hu; go_simp; try rfl)
  simp only [Act.put, List.setIfInBounds_toArray, List.set_cons_zero, List.set_cons_succ]
  refine take_held 4 (by assumption) rfl (by kernel_rfl) (by kernel_rfl) (by kernel_rfl) (fun _ _ _ h => h) (by kernel_rfl) (v := ?v10) ?y10 ?r10
  case y10 => (intro u hu; go_simp; try rfl)
  simp only [Act.put, List.setIfInBounds_toArray, List.set_cons_zero, List.set_cons_succ]
  refine take_held 5 (by assumption) rfl (by kernel_rfl) (by kernel_rfl) (by kernel_rfl) (fun _ _ _ h => h) (by kernel_rfl) (v := ?v11) ?y11 ?r11
  case y11 => (intro u hu; go_simp; try rfl)
  simp only [Act.put, List.setIfInBounds_toArray, List.set_cons_zero, List.set_cons_succ]
  refine take_held 6 (by assumption) rfl (by kernel_rfl) (by kernel_rfl) (by kernel_rfl) (fun _ _ _ h => h) (by kernel_rfl) (v := ?v12) ?y12 ?r12
  case y12 => (intro u hu; have zz0 := z1 u hu; go_simp; try rfl)
  simp only [Act.put, List.setIfInBounds_toArray, List.set_cons_zero, List.set_cons_succ]
  refine wpAnyH_ready (rs := [7]) (by kernel_rfl) (by simp) (AllReadyH.cons ((nth_eq _ 7).trans rfl) ?_ AllReadyH.nil)
  intro K' hK
  refine call_in hK (by kernel_rfl) 128 #[.int .i64 dir, .int .i64 0, .int .i64 3] (by go_simp) _ (cW2 _) ?_
  rintro v w6 ⟨rfl, b6⟩
  have D6 := bcat D5 b6 (Nat.le_refl _)
  have hS6 : IH w6 := by rw [hIH]; exact D6
  refine ⟨hS6, ?_⟩
  simp only [Act.put, List.setIfInBounds_toArray, List.set_cons_zero, List.set_cons_succ]
  refine take_held 8 (by assumption) rfl (by kernel_rfl) (by kernel_rfl) (by kernel_rfl) (fun _ _ _ h => h) (by kernel_rfl) (v := ?v13) ?y13 ?r13
  case y13 => (intro u hu; go_simp; try rfl)
  simp only [Act.put, List.setIfInBounds_toArray, List.set_cons_zero, List.set_cons_succ]
  refine take_held 9 (by assumption) rfl (by kernel_rfl) (by kernel_rfl) (by kernel_rfl) (fun _ _ _ h => h) (by kernel_rfl) (v := ?v14) ?y14 ?r14
  case y14 => (intro u hu; go_simp; try rfl)
  simp only [Act.put, List.setIfInBounds_toArray, List.set_cons_zero, List.set_cons_succ]
  refine take_held 10 (by assumption) rfl (by kernel_rfl) (by kernel_rfl) (by kernel_rfl) (fun _ _ _ h => h) (by kernel_rfl) (v := ?v15) ?y15 ?r15
  case y15 => (intro u hu; go_simp; try rfl)
  simp only [Act.put, List.setIfInBounds_toArray, List.set_cons_zero, List.set_cons_succ]
  refine skip_held 11 (by assumption) rfl (by kernel_rfl) (by kernel_rfl) (by kernel_rfl) (fun _ _ _ h => h) (by kernel_rfl) ?_
  simp only [Act.put, List.setIfInBounds_toArray, List.set_cons_zero, List.set_cons_succ]
  refine skip_held 12 (by assumption) rfl (by kernel_rfl) (by kernel_rfl) (by kernel_rfl) (fun _ _ _ h => h) (by kernel_rfl) ?_
  simp only [Act.put, List.setIfInBounds_toArray, List.set_cons_zero, List.set_cons_succ]
  refine skip_held 13 (by assumption) rfl (by kernel_rfl) (by kernel_rfl) (by kernel_rfl) (fun _ _ _ h => h) (by kernel_rfl) ?_
  simp only [Act.put, List.setIfInBounds_toArray, List.set_cons_zero, List.set_cons_succ]
  refine skip_held 14 (by assumption) rfl (by kernel_rfl) (by kernel_rfl) (by kernel_rfl) (fun _ _ _ h => h) (by kernel_rfl) ?_
  simp only [Act.put, List.setIfInBounds_toArray, List.set_cons_zero, List.set_cons_succ]
  refine skip_held 15 (by assumption) rfl (by kernel_rfl) (by kernel_rfl) (by kernel_rfl) (fun _ _ _ h => h) (by kernel_rfl) ?_
  simp only [Act.put, List.setIfInBounds_toArray, List.set_cons_zero, List.set_cons_succ]
  refine skip_held 16 (by assumption) rfl (by kernel_rfl) (by kernel_rfl) (by kernel_rfl) (fun _ _ _ h => h) (by kernel_rfl) ?_
  simp only [Act.put, List.setIfInBounds_toArray, List.set_cons_zero, List.set_cons_succ]
  refine skip_held 17 (by assumption) rfl (by kernel_rfl) (by kernel_rfl) (by kernel_rfl) (fun _ _ _ h => h) (by kernel_rfl) ?_
  simp only [Act.put, List.setIfInBounds_toArray, List.set_cons_zero, List.set_cons_succ]
  refine skip_held 18 (by assumption) rfl (by kernel_rfl) (by kernel_rfl) (by kernel_rfl) (fun _ _ _ h => h) (by kernel_rfl) ?_
  simp only [Act.put, List.setIfInBounds_toArray, List.set_cons_zero, List.set_cons_succ]
  refine skip_held 19 (by assumption) rfl (by kernel_rfl) (by kernel_rfl) (by kernel_rfl) (fun _ _ _ h => h) (by kernel_rfl) ?_
  simp only [Act.put, List.setIfInBounds_toArray, List.set_cons_zero, List.set_cons_succ]
  refine skip_held 20 (by assumption) rfl (by kernel_rfl) (by kernel_rfl) (by kernel_rfl) (fun _ _ _ h => h) (by kernel_rfl) ?_
  simp only [Act.put, List.setIfInBounds_toArray, List.set_cons_zero, List.set_cons_succ]
  refine take_held 21 (by assumption) rfl (by kernel_rfl) (by kernel_rfl) (by kernel_rfl) (fun _ _ _ h => h) (by kernel_rfl) (v := ?v16) ?y16 ?r16
  case y16 => (intro u hu; go_simp; try rfl)
  simp only [Act.put, List.setIfInBounds_toArray, List.set_cons_zero, List.set_cons_succ]
  refine done_held (by kernel_rfl) ?_ _
  go_wp2
  go_ret
  exact ⟨_, rfl, rfl, bcat B D6 (Nat.le_refl _)⟩
set_option maxRecDepth 100000 in
set_option maxHeartbeats 4000000 in
theorem rlegal_else (c : Conf) (vb vp vr vs : Value) (w : World) (hA : ConfAt (Old w) c vb vp vr vs w) (l1 : c.blocked.length ≤ 8796093022208) (l2 : c.ports.length ≤ 8796093022208) (l3 : c.robots.length ≤ 5864062014805) (l4 : c.stacks.length ≤ 3518437208880) (l5 : ∀ s ∈ c.stacks, s.2.length ≤ 17592186044416) (dir n fx fy tx ty ma me : Int) (fd td : Bool) (hf1 : decide (fitsR c ((fx, fy), fd)) = true) (hw1 : (decide (1 ≤ n) && decide (n ≤ 16)) = true) (hw2 : (decide (0 ≤ dir) && decide (dir ≤ 3)) = true) (px py : Int) (pd : Bool) (hsh : shiftP ((fx, fy), fd) dir n = ((px, py), pd)) (hne : decide (((tx, ty), td) = ((px, py), pd)) = false) : Calls Try.prog 85 #[.agg #[.int .i64 c.W, .int .i64 c.H, .int .i64 c.height, vb, vp, vr, vs, .int .i64 c.unit, .int .i64 c.accel, .int .i64 c.speed, .int .i64 c.turn, .int .i64 c.hoist, .int .i64 c.queue, .int .i64 c.resend, .int .i64 c.budget, .bool c.back], .agg #[.int .i64 1, .int .i64 dir, .int .i64 n, .int .i64 fx, .int .i64 fy, .bool fd, .int .i64 tx, .int .i64 ty, .bool td, .int .i64 ma, .int .i64 me]] w fun e w' => ∃ r, e = .returned r ∧ (r = .bool false ∧ Below w.heap.size w w') := by
  have L := fun (u : World) (b : Below w.heap.size w u) g (hg : Old w g) => Nat.lt_of_lt_of_le hg b.size
  have hAu := fun u (b : Below w.heap.size w u) => hA.go (fun _ h => h) b
  have Q0 := two_new w #[.int .i64 c.W, .int .i64 c.H, .int .i64 c.height, vb, vp, vr, vs, .int .i64 c.unit, .int .i64 c.accel, .int .i64 c.speed, .int .i64 c.turn, .int .i64 c.hoist, .int .i64 c.queue, .int .i64 c.resend, .int .i64 c.budget, .bool c.back] #[.int .i64 1, .int .i64 dir, .int .i64 n, .int .i64 fx, .int .i64 fy, .bool fd, .int .i64 tx, .int .i64 ty, .bool td, .int .i64 ma, .int .i64 me] 56
  have cF := fun u (b : Below w.heap.size w u) => fitsR_any (Old w) c vb vp vr vs fx fy fd u (hAu u b) (L u b) (by omega)
  have cW1 := fun u => within_call n 1 16 u
  rw [hw1] at cW1
  have cW2 := fun u => within_call dir 0 3 u
  rw [hw2] at cW2
  have cSh := fun u => shiftS_any fx fy fd dir n u
  rw [hsh] at cSh
  unfold poseCs at cSh
  simp only at cSh
  rw [hf1] at cF
  clear hA 
  go_enter Try.func85, Try.ntmps85
  go_wp2_with (first
    | (refine wpList_load_row rfl 26 (.tmp 2) rfl w.heap.size rfl 26 #[.int .i64 c.W, .int .i64 c.H, .int .i64 c.height, vb, vp, vr, vs, .int .i64 c.unit, .int .i64 c.accel, .int .i64 c.speed, .int .i64 c.turn, .int .i64 c.hoist, .int .i64 c.queue, .int .i64 c.resend, .int .i64 c.budget, .bool c.back] (0, 0) _ Q0.a Try.underlying26 rfl info_conf ?_)
    | (go_at_call 75; refine (cF _ Q0.below).mono ?_; rintro e w1 ⟨r1, rfl, rfl, b1⟩; have Q1 := Q0.go b1; have q0 := cell_of Q1.b 0; have q1 := cell_of Q1.b 1; have q2 := cell_of Q1.b 2; have q3 := cell_of Q1.b 3; have q4 := cell_of Q1.b 4; have q5 := cell_of Q1.b 5; have q6 := cell_of Q1.b 6; have q7 := cell_of Q1.b 7; have q8 := cell_of Q1.b 8))
  have B := Q1.below
  have eB := Q1.b
  obtain ⟨IH, hIH⟩ : ∃ I : World → Prop, I = Below w1.heap.size w1 := ⟨_, rfl⟩
  have kI : ∀ u, IH u → Below w1.heap.size w1 u := fun u hu => by rw [hIH] at hu; exact hu
  have hS : IH w1.drew := by rw [hIH]; exact (Below.refl _ _).drew
  have D0 : Below w1.heap.size w1 w1.drew := (Below.refl _ _).drew
  have z1 : ∀ u, IH u → u.cell? ⟨w.heap.size + 1, 1, none⟩ = some (.int .i64 dir) := fun u hu => cell_below q1 (kI u hu)
  have z2 : ∀ u, IH u → u.cell? ⟨w.heap.size + 1, 2, none⟩ = some (.int .i64 n) := fun u hu => cell_below q2 (kI u hu)
  have HF : Hid (∀ u, IH u → ∀ j z, #[Value.int .i64 fx, .int .i64 fy, .bool fd][j]? = some z → u.cell? ((⟨w.heap.size + 1, 3, none⟩ : Addr).add j) = some z) := fun u hu => pose_below2 eB 3 rfl rfl rfl (kI u hu)
  have HT : Hid (∀ u, IH u → ∀ j z, #[Value.int .i64 tx, .int .i64 ty, .bool td][j]? = some z → u.cell? ((⟨w.heap.size + 1, 6, none⟩ : Addr).add j) = some z) := fun u hu => pose_below2 eB 6 rfl rfl rfl (kI u hu)
  clear q0 q1 q2 q3 q4 q5 q6 q7 q8 eB
  refine start_held (S := IH) 22 rfl (by kernel_rfl) (hS) ?_
  simp only [Array.replicate_succ, Array.replicate_zero, List.push_toArray, List.nil_append, List.cons_append]
  refine take_held 0 (by assumption) rfl (by kernel_rfl) (by kernel_rfl) (by kernel_rfl) (fun _ _ _ h => h) (by kernel_rfl) (v := ?v17) ?y17 ?r17
  case y17 => (intro u hu; go_simp; try rfl)
  simp only [Act.put, List.setIfInBounds_toArray, List.set_cons_zero, List.set_cons_succ]
  refine take_held 1 (by assumption) rfl (by kernel_rfl) (by kernel_rfl) (by kernel_rfl) (fun _ _ _ h => h) (by kernel_rfl) (v := ?v18) ?y18 ?r18
  case y18 => (intro u hu; have zz0 := z2 u hu; go_simp; try rfl)
  simp only [Act.put, List.setIfInBounds_toArray, List.set_cons_zero, List.set_cons_succ]
  refine wpAnyH_ready (rs := [2]) (by kernel_rfl) (by simp) (AllReadyH.cons ((nth_eq _ 2).trans rfl) ?_ AllReadyH.nil)
  intro K' hK
  refine call_in hK (by kernel_rfl) 128 #[.int .i64 n, .int .i64 1, .int .i64 16] (by go_simp) _ (cW1 _) ?_
  rintro v w5 ⟨rfl, b5⟩
  have D5 := bcat D0 b5 (Nat.le_refl _)
  have hS5 : IH w5 := by rw [hIH]; exact D5
  refine ⟨hS5, ?_⟩
  simp only [Act.put, List.setIfInBounds_toArray, List.set_cons_zero, List.set_cons_succ]
  refine take_held 3 (by assumption) rfl (by kernel_rfl) (by kernel_rfl) (by kernel_rfl) (fun _ _ _ h => h) (by kernel_rfl) (v := ?v19) ?y19 ?r19
  case y19 => (intro u hu; go_simp; try rfl)
  simp only [Act.put, List.setIfInBounds_toArray, List.set_cons_zero, List.set_cons_succ]
  refine take_held 4 (by assumption) rfl (by kernel_rfl) (by kernel_rfl) (by kernel_rfl) (fun _ _ _ h => h) (by kernel_rfl) (v := ?v20) ?y20 ?r20
  case y20 => (intro u hu; go_simp; try rfl)
  simp only [Act.put, List.setIfInBounds_toArray, List.set_cons_zero, List.set_cons_succ]
  refine take_held 5 (by assumption) rfl (by kernel_rfl) (by kernel_rfl) (by kernel_rfl) (fun _ _ _ h => h) (by kernel_rfl) (v := ?v21) ?y21 ?r21
  case y21 => (intro u hu; go_simp; try rfl)
  simp only [Act.put, List.setIfInBounds_toArray, List.set_cons_zero, List.set_cons_succ]
  refine take_held 6 (by assumption) rfl (by kernel_rfl) (by kernel_rfl) (by kernel_rfl) (fun _ _ _ h => h) (by kernel_rfl) (v := ?v22) ?y22 ?r22
  case y22 => (intro u hu; have zz0 := z1 u hu; go_simp; try rfl)
  simp only [Act.put, List.setIfInBounds_toArray, List.set_cons_zero, List.set_cons_succ]
  refine wpAnyH_ready (rs := [7]) (by kernel_rfl) (by simp) (AllReadyH.cons ((nth_eq _ 7).trans rfl) ?_ AllReadyH.nil)
  intro K' hK
  refine call_in hK (by kernel_rfl) 128 #[.int .i64 dir, .int .i64 0, .int .i64 3] (by go_simp) _ (cW2 _) ?_
  rintro v w6 ⟨rfl, b6⟩
  have D6 := bcat D5 b6 (Nat.le_refl _)
  have hS6 : IH w6 := by rw [hIH]; exact D6
  refine ⟨hS6, ?_⟩
  simp only [Act.put, List.setIfInBounds_toArray, List.set_cons_zero, List.set_cons_succ]
  refine take_held 8 (by assumption) rfl (by kernel_rfl) (by kernel_rfl) (by kernel_rfl) (fun _ _ _ h => h) (by kernel_rfl) (v := ?v23) ?y23 ?r23
  case y23 => (intro u hu; go_simp; try rfl)
  simp only [Act.put, List.setIfInBounds_toArray, List.set_cons_zero, List.set_cons_succ]
  refine take_held 9 (by assumption) rfl (by kernel_rfl) (by kernel_rfl) (by kernel_rfl) (fun _ _ _ h => h) (by kernel_rfl) (v := ?v24) ?y24 ?r24
  case y24 => (intro u hu; go_simp; try rfl)
  simp only [Act.put, List.setIfInBounds_toArray, List.set_cons_zero, List.set_cons_succ]
  refine take_held 10 (by assumption) rfl (by kernel_rfl) (by kernel_rfl) (by kernel_rfl) (fun _ _ _ h => h) (by kernel_rfl) (v := ?v25) ?y25 ?r25
  case y25 => (intro u hu; go_simp; try rfl)
  simp only [Act.put, List.setIfInBounds_toArray, List.set_cons_zero, List.set_cons_succ]
  refine take_held 11 (by assumption) rfl (by kernel_rfl) (by kernel_rfl) (by kernel_rfl) (fun _ _ _ h => h) (by kernel_rfl) (v := ?v26) ?y26 ?r26
  case y26 => (intro u hu; go_simp; try rfl)
  simp only [Act.put, List.setIfInBounds_toArray, List.set_cons_zero, List.set_cons_succ]
  refine take_held 12 (by assumption) rfl (by kernel_rfl) (by kernel_rfl) (by kernel_rfl) (fun _ _ _ h => h) (by kernel_rfl) (v := .agg #[.int .i64 tx, .int .i64 ty, .bool td]) ?y27 ?r27
  case y27 => (intro u hu; exact run_load_op 30 _ rfl ⟨w.heap.size + 1, 6, none⟩ _ rfl (HT.out u hu) (aggPose u) infoPose2)
  simp only [Act.put, List.setIfInBounds_toArray, List.set_cons_zero, List.set_cons_succ]
  refine take_held 13 (by assumption) rfl (by kernel_rfl) (by kernel_rfl) (by kernel_rfl) (fun _ _ _ h => h) (by kernel_rfl) (v := ?v28) ?y28 ?r28
  case y28 => (intro u hu; go_simp; try rfl)
  simp only [Act.put, List.setIfInBounds_toArray, List.set_cons_zero, List.set_cons_succ]
  refine take_held 14 (by assumption) rfl (by kernel_rfl) (by kernel_rfl) (by kernel_rfl) (fun _ _ _ h => h) (by kernel_rfl) (v := .agg #[.int .i64 fx, .int .i64 fy, .bool fd]) ?y29 ?r29
  case y29 => (intro u hu; exact run_load_op 30 _ rfl ⟨w.heap.size + 1, 3, none⟩ _ rfl (HF.out u hu) (aggPose u) infoPose2)
  simp only [Act.put, List.setIfInBounds_toArray, List.set_cons_zero, List.set_cons_succ]
  refine take_held 15 (by assumption) rfl (by kernel_rfl) (by kernel_rfl) (by kernel_rfl) (fun _ _ _ h => h) (by kernel_rfl) (v := ?v30) ?y30 ?r30
  case y30 => (intro u hu; go_simp; try rfl)
  simp only [Act.put, List.setIfInBounds_toArray, List.set_cons_zero, List.set_cons_succ]
  refine take_held 16 (by assumption) rfl (by kernel_rfl) (by kernel_rfl) (by kernel_rfl) (fun _ _ _ h => h) (by kernel_rfl) (v := ?v31) ?y31 ?r31
  case y31 => (intro u hu; have zz0 := z1 u hu; go_simp; try rfl)
  simp only [Act.put, List.setIfInBounds_toArray, List.set_cons_zero, List.set_cons_succ]
  refine take_held 17 (by assumption) rfl (by kernel_rfl) (by kernel_rfl) (by kernel_rfl) (fun _ _ _ h => h) (by kernel_rfl) (v := ?v32) ?y32 ?r32
  case y32 => (intro u hu; go_simp; try rfl)
  simp only [Act.put, List.setIfInBounds_toArray, List.set_cons_zero, List.set_cons_succ]
  refine take_held 18 (by assumption) rfl (by kernel_rfl) (by kernel_rfl) (by kernel_rfl) (fun _ _ _ h => h) (by kernel_rfl) (v := ?v33) ?y33 ?r33
  case y33 => (intro u hu; have zz0 := z2 u hu; go_simp; try rfl)
  simp only [Act.put, List.setIfInBounds_toArray, List.set_cons_zero, List.set_cons_succ]
  refine wpAnyH_ready (rs := [19]) (by kernel_rfl) (by simp) (AllReadyH.cons ((nth_eq _ 19).trans rfl) ?_ AllReadyH.nil)
  intro K' hK
  refine call_in hK (by kernel_rfl) 84 #[.agg #[.int .i64 fx, .int .i64 fy, .bool fd], .int .i64 dir, .int .i64 n] (by go_simp) _ (cSh _) ?_
  rintro v w7 ⟨rfl, b7⟩
  have D7 := bcat D6 b7 (Nat.le_refl _)
  have hS7 : IH w7 := by rw [hIH]; exact D7
  refine ⟨hS7, ?_⟩
  simp only [Act.put, List.setIfInBounds_toArray, List.set_cons_zero, List.set_cons_succ]
  refine take_held 20 (by assumption) rfl (by kernel_rfl) (by kernel_rfl) (by kernel_rfl) (fun _ _ _ h => h) (by kernel_rfl) (v := .bool true) ?y34 ?r34
  case y34 => (intro u hu; exact (run_neq_pose4 _ _ rfl tx ty td px py pd rfl rfl).trans (by rw [hne]; rfl))
  simp only [Act.put, List.setIfInBounds_toArray, List.set_cons_zero, List.set_cons_succ]
  refine take_held 21 (by assumption) rfl (by kernel_rfl) (by kernel_rfl) (by kernel_rfl) (fun _ _ _ h => h) (by kernel_rfl) (v := ?v35) ?y35 ?r35
  case y35 => (intro u hu; go_simp; try rfl)
  simp only [Act.put, List.setIfInBounds_toArray, List.set_cons_zero, List.set_cons_succ]
  refine done_held (by kernel_rfl) ?_ _
  go_wp2
  go_ret
  exact ⟨_, rfl, rfl, bcat B D7 (Nat.le_refl _)⟩
set_option maxRecDepth 100000 in
set_option maxHeartbeats 4000000 in
theorem rlegal_run (c : Conf) (vb vp vr vs : Value) (w : World) (hA : ConfAt (Old w) c vb vp vr vs w) (l1 : c.blocked.length ≤ 8796093022208) (l2 : c.ports.length ≤ 8796093022208) (l3 : c.robots.length ≤ 5864062014805) (l4 : c.stacks.length ≤ 3518437208880) (l5 : ∀ s ∈ c.stacks, s.2.length ≤ 17592186044416) (dir n fx fy tx ty ma me : Int) (fd td : Bool) (hf1 : decide (fitsR c ((fx, fy), fd)) = true) (hw1 : (decide (1 ≤ n) && decide (n ≤ 16)) = true) (hw2 : (decide (0 ≤ dir) && decide (dir ≤ 3)) = true) (hn1 : 1 ≤ n) (hn2 : n ≤ 16) (hsh : shiftP ((fx, fy), fd) dir n = ((tx, ty), td)) (LB : Bool) (hlb : Hid ((∀ k : Int, 1 ≤ k → k ≤ n → fitsR c (shiftP ((fx, fy), fd) dir k)) ↔ LB = true)) : Calls Try.prog 85 #[.agg #[.int .i64 c.W, .int .i64 c.H, .int .i64 c.height, vb, vp, vr, vs, .int .i64 c.unit, .int .i64 c.accel, .int .i64 c.speed, .int .i64 c.turn, .int .i64 c.hoist, .int .i64 c.queue, .int .i64 c.resend, .int .i64 c.budget, .bool c.back], .agg #[.int .i64 1, .int .i64 dir, .int .i64 n, .int .i64 fx, .int .i64 fy, .bool fd, .int .i64 tx, .int .i64 ty, .bool td, .int .i64 ma, .int .i64 me]] w fun e w' => ∃ r, e = .returned r ∧ (r = .bool LB ∧ Below w.heap.size w w') := by
  have L := fun (u : World) (b : Below w.heap.size w u) g (hg : Old w g) => Nat.lt_of_lt_of_le hg b.size
  have hAu := fun u (b : Below w.heap.size w u) => hA.go (fun _ h => h) b
  have Q0 := two_new w #[.int .i64 c.W, .int .i64 c.H, .int .i64 c.height, vb, vp, vr, vs, .int .i64 c.unit, .int .i64 c.accel, .int .i64 c.speed, .int .i64 c.turn, .int .i64 c.hoist, .int .i64 c.queue, .int .i64 c.resend, .int .i64 c.budget, .bool c.back] #[.int .i64 1, .int .i64 dir, .int .i64 n, .int .i64 fx, .int .i64 fy, .bool fd, .int .i64 tx, .int .i64 ty, .bool td, .int .i64 ma, .int .i64 me] 56
  have cF := fun u (b : Below w.heap.size w u) => fitsR_any (Old w) c vb vp vr vs fx fy fd u (hAu u b) (L u b) (by omega)
  have cW1 := fun u => within_call n 1 16 u
  rw [hw1] at cW1
  have cW2 := fun u => within_call dir 0 3 u
  rw [hw2] at cW2
  have cSh := fun u => shiftS_any fx fy fd dir n u
  rw [hsh] at cSh
  unfold poseCs at cSh
  simp only at cSh
  rw [hf1] at cF
  clear hA 
  go_enter Try.func85, Try.ntmps85
  go_wp2_with (first
    | (refine wpList_load_row rfl 26 (.tmp 2) rfl w.heap.size rfl 26 #[.int .i64 c.W, .int .i64 c.H, .int .i64 c.height, vb, vp, vr, vs, .int .i64 c.unit, .int .i64 c.accel, .int .i64 c.speed, .int .i64 c.turn, .int .i64 c.hoist, .int .i64 c.queue, .int .i64 c.resend, .int .i64 c.budget, .bool c.back] (0, 0) _ Q0.a Try.underlying26 rfl info_conf ?_)
    | (go_at_call 75; refine (cF _ Q0.below).mono ?_; rintro e w1 ⟨r1, rfl, rfl, b1⟩; have Q1 := Q0.go b1; have q0 := cell_of Q1.b 0; have q1 := cell_of Q1.b 1; have q2 := cell_of Q1.b 2; have q3 := cell_of Q1.b 3; have q4 := cell_of Q1.b 4; have q5 := cell_of Q1.b 5; have q6 := cell_of Q1.b 6; have q7 := cell_of Q1.b 7; have q8 := cell_of Q1.b 8))
  have B := Q1.below
  have eB := Q1.b
  obtain ⟨IH, hIH⟩ : ∃ I : World → Prop, I = Below w1.heap.size w1 := ⟨_, rfl⟩
  have kI : ∀ u, IH u → Below w1.heap.size w1 u := fun u hu => by rw [hIH] at hu; exact hu
  have hS : IH w1.drew := by rw [hIH]; exact (Below.refl _ _).drew
  have D0 : Below w1.heap.size w1 w1.drew := (Below.refl _ _).drew
  have z1 : ∀ u, IH u → u.cell? ⟨w.heap.size + 1, 1, none⟩ = some (.int .i64 dir) := fun u hu => cell_below q1 (kI u hu)
  have z2 : ∀ u, IH u → u.cell? ⟨w.heap.size + 1, 2, none⟩ = some (.int .i64 n) := fun u hu => cell_below q2 (kI u hu)
  have HF : Hid (∀ u, IH u → ∀ j z, #[Value.int .i64 fx, .int .i64 fy, .bool fd][j]? = some z → u.cell? ((⟨w.heap.size + 1, 3, none⟩ : Addr).add j) = some z) := fun u hu => pose_below2 eB 3 rfl rfl rfl (kI u hu)
  have HT : Hid (∀ u, IH u → ∀ j z, #[Value.int .i64 tx, .int .i64 ty, .bool td][j]? = some z → u.cell? ((⟨w.heap.size + 1, 6, none⟩ : Addr).add j) = some z) := fun u hu => pose_below2 eB 6 rfl rfl rfl (kI u hu)
  have eA := Q1.a
  have HC : Hid (∀ u, IH u → ∀ j z, #[.int .i64 c.W, .int .i64 c.H, .int .i64 c.height, vb, vp, vr, vs, .int .i64 c.unit, .int .i64 c.accel, .int .i64 c.speed, .int .i64 c.turn, .int .i64 c.hoist, .int .i64 c.queue, .int .i64 c.resend, .int .i64 c.budget, .bool c.back][j]? = some z → u.cell? ((⟨w.heap.size, 0, none⟩ : Addr).add j) = some z) := fun u hu => row_below eA (kI u hu)
  clear eA q0 q1 q2 q3 q4 q5 q6 q7 q8 eB
  refine start_held (S := IH) 22 rfl (by kernel_rfl) (hS) ?_
  simp only [Array.replicate_succ, Array.replicate_zero, List.push_toArray, List.nil_append, List.cons_append]
  refine take_held 0 (by assumption) rfl (by kernel_rfl) (by kernel_rfl) (by kernel_rfl) (fun _ _ _ h => h) (by kernel_rfl) (v := ?v36) ?y36 ?r36
  case y36 => (intro u hu; go_simp; try rfl)
  simp only [Act.put, List.setIfInBounds_toArray, List.set_cons_zero, List.set_cons_succ]
  refine take_held 1 (by assumption) rfl (by kernel_rfl) (by kernel_rfl) (by kernel_rfl) (fun _ _ _ h => h) (by kernel_rfl) (v := ?v37) ?y37 ?r37
  case y37 => (intro u hu; have zz0 := z2 u hu; go_simp; try rfl)
  simp only [Act.put, List.setIfInBounds_toArray, List.set_cons_zero, List.set_cons_succ]
  refine wpAnyH_ready (rs := [2]) (by kernel_rfl) (by simp) (AllReadyH.cons ((nth_eq _ 2).trans rfl) ?_ AllReadyH.nil)
  intro K' hK
  refine call_in hK (by kernel_rfl) 128 #[.int .i64 n, .int .i64 1, .int .i64 16] (by go_simp) _ (cW1 _) ?_
  rintro v w5 ⟨rfl, b5⟩
  have D5 := bcat D0 b5 (Nat.le_refl _)
  have hS5 : IH w5 := by rw [hIH]; exact D5
  refine ⟨hS5, ?_⟩
  simp only [Act.put, List.setIfInBounds_toArray, List.set_cons_zero, List.set_cons_succ]
  refine take_held 3 (by assumption) rfl (by kernel_rfl) (by kernel_rfl) (by kernel_rfl) (fun _ _ _ h => h) (by kernel_rfl) (v := ?v38) ?y38 ?r38
  case y38 => (intro u hu; go_simp; try rfl)
  simp only [Act.put, List.setIfInBounds_toArray, List.set_cons_zero, List.set_cons_succ]
  refine take_held 4 (by assumption) rfl (by kernel_rfl) (by kernel_rfl) (by kernel_rfl) (fun _ _ _ h => h) (by kernel_rfl) (v := ?v39) ?y39 ?r39
  case y39 => (intro u hu; go_simp; try rfl)
  simp only [Act.put, List.setIfInBounds_toArray, List.set_cons_zero, List.set_cons_succ]
  refine take_held 5 (by assumption) rfl (by kernel_rfl) (by kernel_rfl) (by kernel_rfl) (fun _ _ _ h => h) (by kernel_rfl) (v := ?v40) ?y40 ?r40
  case y40 => (intro u hu; go_simp; try rfl)
  simp only [Act.put, List.setIfInBounds_toArray, List.set_cons_zero, List.set_cons_succ]
  refine take_held 6 (by assumption) rfl (by kernel_rfl) (by kernel_rfl) (by kernel_rfl) (fun _ _ _ h => h) (by kernel_rfl) (v := ?v41) ?y41 ?r41
  case y41 => (intro u hu; have zz0 := z1 u hu; go_simp; try rfl)
  simp only [Act.put, List.setIfInBounds_toArray, List.set_cons_zero, List.set_cons_succ]
  refine wpAnyH_ready (rs := [7]) (by kernel_rfl) (by simp) (AllReadyH.cons ((nth_eq _ 7).trans rfl) ?_ AllReadyH.nil)
  intro K' hK
  refine call_in hK (by kernel_rfl) 128 #[.int .i64 dir, .int .i64 0, .int .i64 3] (by go_simp) _ (cW2 _) ?_
  rintro v w6 ⟨rfl, b6⟩
  have D6 := bcat D5 b6 (Nat.le_refl _)
  have hS6 : IH w6 := by rw [hIH]; exact D6
  refine ⟨hS6, ?_⟩
  simp only [Act.put, List.setIfInBounds_toArray, List.set_cons_zero, List.set_cons_succ]
  refine take_held 8 (by assumption) rfl (by kernel_rfl) (by kernel_rfl) (by kernel_rfl) (fun _ _ _ h => h) (by kernel_rfl) (v := ?v42) ?y42 ?r42
  case y42 => (intro u hu; go_simp; try rfl)
  simp only [Act.put, List.setIfInBounds_toArray, List.set_cons_zero, List.set_cons_succ]
  refine take_held 9 (by assumption) rfl (by kernel_rfl) (by kernel_rfl) (by kernel_rfl) (fun _ _ _ h => h) (by kernel_rfl) (v := ?v43) ?y43 ?r43
  case y43 => (intro u hu; go_simp; try rfl)
  simp only [Act.put, List.setIfInBounds_toArray, List.set_cons_zero, List.set_cons_succ]
  refine take_held 10 (by assumption) rfl (by kernel_rfl) (by kernel_rfl) (by kernel_rfl) (fun _ _ _ h => h) (by kernel_rfl) (v := ?v44) ?y44 ?r44
  case y44 => (intro u hu; go_simp; try rfl)
  simp only [Act.put, List.setIfInBounds_toArray, List.set_cons_zero, List.set_cons_succ]
  refine take_held 11 (by assumption) rfl (by kernel_rfl) (by kernel_rfl) (by kernel_rfl) (fun _ _ _ h => h) (by kernel_rfl) (v := ?v45) ?y45 ?r45
  case y45 => (intro u hu; go_simp; try rfl)
  simp only [Act.put, List.setIfInBounds_toArray, List.set_cons_zero, List.set_cons_succ]
  refine take_held 12 (by assumption) rfl (by kernel_rfl) (by kernel_rfl) (by kernel_rfl) (fun _ _ _ h => h) (by kernel_rfl) (v := .agg #[.int .i64 tx, .int .i64 ty, .bool td]) ?y46 ?r46
  case y46 => (intro u hu; exact run_load_op 30 _ rfl ⟨w.heap.size + 1, 6, none⟩ _ rfl (HT.out u hu) (aggPose u) infoPose2)
  simp only [Act.put, List.setIfInBounds_toArray, List.set_cons_zero, List.set_cons_succ]
  refine take_held 13 (by assumption) rfl (by kernel_rfl) (by kernel_rfl) (by kernel_rfl) (fun _ _ _ h => h) (by kernel_rfl) (v := ?v47) ?y47 ?r47
  case y47 => (intro u hu; go_simp; try rfl)
  simp only [Act.put, List.setIfInBounds_toArray, List.set_cons_zero, List.set_cons_succ]
  refine take_held 14 (by assumption) rfl (by kernel_rfl) (by kernel_rfl) (by kernel_rfl) (fun _ _ _ h => h) (by kernel_rfl) (v := .agg #[.int .i64 fx, .int .i64 fy, .bool fd]) ?y48 ?r48
  case y48 => (intro u hu; exact run_load_op 30 _ rfl ⟨w.heap.size + 1, 3, none⟩ _ rfl (HF.out u hu) (aggPose u) infoPose2)
  simp only [Act.put, List.setIfInBounds_toArray, List.set_cons_zero, List.set_cons_succ]
  refine take_held 15 (by assumption) rfl (by kernel_rfl) (by kernel_rfl) (by kernel_rfl) (fun _ _ _ h => h) (by kernel_rfl) (v := ?v49) ?y49 ?r49
  case y49 => (intro u hu; go_simp; try rfl)
  simp only [Act.put, List.setIfInBounds_toArray, List.set_cons_zero, List.set_cons_succ]
  refine take_held 16 (by assumption) rfl (by kernel_rfl) (by kernel_rfl) (by kernel_rfl) (fun _ _ _ h => h) (by kernel_rfl) (v := ?v50) ?y50 ?r50
  case y50 => (intro u hu; have zz0 := z1 u hu; go_simp; try rfl)
  simp only [Act.put, List.setIfInBounds_toArray, List.set_cons_zero, List.set_cons_succ]
  refine take_held 17 (by assumption) rfl (by kernel_rfl) (by kernel_rfl) (by kernel_rfl) (fun _ _ _ h => h) (by kernel_rfl) (v := ?v51) ?y51 ?r51
  case y51 => (intro u hu; go_simp; try rfl)
  simp only [Act.put, List.setIfInBounds_toArray, List.set_cons_zero, List.set_cons_succ]
  refine take_held 18 (by assumption) rfl (by kernel_rfl) (by kernel_rfl) (by kernel_rfl) (fun _ _ _ h => h) (by kernel_rfl) (v := ?v52) ?y52 ?r52
  case y52 => (intro u hu; have zz0 := z2 u hu; go_simp; try rfl)
  simp only [Act.put, List.setIfInBounds_toArray, List.set_cons_zero, List.set_cons_succ]
  refine wpAnyH_ready (rs := [19]) (by kernel_rfl) (by simp) (AllReadyH.cons ((nth_eq _ 19).trans rfl) ?_ AllReadyH.nil)
  intro K' hK
  refine call_in hK (by kernel_rfl) 84 #[.agg #[.int .i64 fx, .int .i64 fy, .bool fd], .int .i64 dir, .int .i64 n] (by go_simp) _ (cSh _) ?_
  rintro v w7 ⟨rfl, b7⟩
  have D7 := bcat D6 b7 (Nat.le_refl _)
  have hS7 : IH w7 := by rw [hIH]; exact D7
  refine ⟨hS7, ?_⟩
  simp only [Act.put, List.setIfInBounds_toArray, List.set_cons_zero, List.set_cons_succ]
  refine take_held 20 (by assumption) rfl (by kernel_rfl) (by kernel_rfl) (by kernel_rfl) (fun _ _ _ h => h) (by kernel_rfl) (v := .bool false) ?y53 ?r53
  case y53 => (intro u hu; exact (run_neq_pose4 _ _ rfl tx ty td tx ty td rfl rfl).trans (by simp))
  simp only [Act.put, List.setIfInBounds_toArray, List.set_cons_zero, List.set_cons_succ]
  refine take_held 21 (by assumption) rfl (by kernel_rfl) (by kernel_rfl) (by kernel_rfl) (fun _ _ _ h => h) (by kernel_rfl) (v := ?v54) ?y54 ?r54
  case y54 => (intro u hu; go_simp; try rfl)
  simp only [Act.put, List.setIfInBounds_toArray, List.set_cons_zero, List.set_cons_succ]
  refine done_held (by kernel_rfl) ?_ _
  have HW0 : Hid (IH w7) := hS7
  go_wp2
  go_loopw [5] (fun i wq => ∃ k : Nat, 1 ≤ k ∧ (k : Int) ≤ n + 1 ∧ i = .int .i64 k ∧ Hid (∀ j : Int, 1 ≤ j → j < k → fitsR c (shiftP ((fx, fy), fd) dir j)) ∧ Hid (IH wq)) (fun i _ => (n + 1).toNat - (intOf i).toNat)
  case atStart => exact ⟨1, by omega, by omega, rfl, fun j a b => by omega, HW0⟩
  case round =>
    obtain ⟨k, hk1, hk2, rfl, HJ, HI⟩ := hrel
    clear HW0
    have y2 := z2 _ HI.out
    by_cases hlt : (k : Int) ≤ n
    · obtain ⟨⟨⟨sx, sy⟩, sd⟩, hse⟩ : ∃ q, shiftP ((fx, fy), fd) dir (k : Int) = q := ⟨_, rfl⟩
      have cS2 := fun u => shiftS_any fx fy fd dir (k : Int) u
      rw [hse] at cS2
      unfold poseCs at cS2
      simp only at cS2
      have cF2 := fun u (b : Below w.heap.size w u) => fitsR_any (Old w) c vb vp vr vs sx sy sd u (hAu u b) (L u b) (by omega)
      by_cases hfk : fitsR c ((sx, sy), sd)
      · rw [decide_eq_true hfk] at cF2
        go_wp2
        have Dr : Below w1.heap.size w1 wr.drew := bcat (kI _ HI.out) (Below.refl _ _).drew (Nat.le_refl _)
        have hSd : IH wr.drew := by rw [hIH]; exact Dr
        refine start_held (S := IH) 9 rfl (by kernel_rfl) (hSd) ?_
        simp only [Array.replicate_succ, Array.replicate_zero, List.push_toArray, List.nil_append, List.cons_append]
        refine take_held 0 (by assumption) rfl (by kernel_rfl) (by kernel_rfl) (by kernel_rfl) (fun _ _ _ h => h) (by kernel_rfl) (v := .agg #[.int .i64 c.W, .int .i64 c.H, .int .i64 c.height, vb, vp, vr, vs, .int .i64 c.unit, .int .i64 c.accel, .int .i64 c.speed, .int .i64 c.turn, .int .i64 c.hoist, .int .i64 c.queue, .int .i64 c.resend, .int .i64 c.budget, .bool c.back]) ?y55 ?r55
        case y55 => (intro u hu; exact run_load_op 26 _ rfl ⟨w.heap.size, 0, none⟩ _ rfl (HC.out u hu) (aggConf u) info_conf)
        simp only [Act.put, List.setIfInBounds_toArray, List.set_cons_zero, List.set_cons_succ]
        refine take_held 1 (by assumption) rfl (by kernel_rfl) (by kernel_rfl) (by kernel_rfl) (fun _ _ _ h => h) (by kernel_rfl) (v := ?v56) ?y56 ?r56
        case y56 => (intro u hu; go_simp; try rfl)
        simp only [Act.put, List.setIfInBounds_toArray, List.set_cons_zero, List.set_cons_succ]
        refine take_held 2 (by assumption) rfl (by kernel_rfl) (by kernel_rfl) (by kernel_rfl) (fun _ _ _ h => h) (by kernel_rfl) (v := .agg #[.int .i64 fx, .int .i64 fy, .bool fd]) ?y57 ?r57
        case y57 => (intro u hu; exact run_load_op 30 _ rfl ⟨w.heap.size + 1, 3, none⟩ _ rfl (HF.out u hu) (aggPose u) infoPose2)
        simp only [Act.put, List.setIfInBounds_toArray, List.set_cons_zero, List.set_cons_succ]
        refine take_held 3 (by assumption) rfl (by kernel_rfl) (by kernel_rfl) (by kernel_rfl) (fun _ _ _ h => h) (by kernel_rfl) (v := ?v58) ?y58 ?r58
        case y58 => (intro u hu; go_simp; try rfl)
        simp only [Act.put, List.setIfInBounds_toArray, List.set_cons_zero, List.set_cons_succ]
        refine take_held 4 (by assumption) rfl (by kernel_rfl) (by kernel_rfl) (by kernel_rfl) (fun _ _ _ h => h) (by kernel_rfl) (v := ?v59) ?y59 ?r59
        case y59 => (intro u hu; have zz0 := z1 u hu; go_simp; try rfl)
        simp only [Act.put, List.setIfInBounds_toArray, List.set_cons_zero, List.set_cons_succ]
        refine take_held 5 (by assumption) rfl (by kernel_rfl) (by kernel_rfl) (by kernel_rfl) (fun _ _ _ h => h) (by kernel_rfl) (v := ?v60) ?y60 ?r60
        case y60 => (intro u hu; go_simp; try rfl)
        simp only [Act.put, List.setIfInBounds_toArray, List.set_cons_zero, List.set_cons_succ]
        refine wpAnyH_ready (rs := [6]) (by kernel_rfl) (by simp) (AllReadyH.cons ((nth_eq _ 6).trans rfl) ?_ AllReadyH.nil)
        intro K' hK
        refine call_in hK (by kernel_rfl) 84 #[.agg #[.int .i64 fx, .int .i64 fy, .bool fd], .int .i64 dir, .int .i64 (k : Int)] (by go_simp) _ (cS2 _) ?_
        rintro v w20 ⟨rfl, b20⟩
        have D20 := bcat Dr b20 (Nat.le_refl _)
        have hS20 : IH w20 := by rw [hIH]; exact D20
        refine ⟨hS20, ?_⟩
        simp only [Act.put, List.setIfInBounds_toArray, List.set_cons_zero, List.set_cons_succ]
        refine wpAnyH_ready (rs := [7]) (by kernel_rfl) (by simp) (AllReadyH.cons ((nth_eq _ 7).trans rfl) ?_ AllReadyH.nil)
        intro K' hK
        refine call_in hK (by kernel_rfl) 75 #[.agg #[.int .i64 c.W, .int .i64 c.H, .int .i64 c.height, vb, vp, vr, vs, .int .i64 c.unit, .int .i64 c.accel, .int .i64 c.speed, .int .i64 c.turn, .int .i64 c.hoist, .int .i64 c.queue, .int .i64 c.resend, .int .i64 c.budget, .bool c.back], .agg #[.int .i64 sx, .int .i64 sy, .bool sd]] (by go_simp) _ (cF2 _ (bcat B D20 (Nat.le_refl _))) ?_
        rintro v w21 ⟨rfl, b21⟩
        have D21 := bcat D20 b21 (Nat.le_refl _)
        have hS21 : IH w21 := by rw [hIH]; exact D21
        refine ⟨hS21, ?_⟩
        simp only [Act.put, List.setIfInBounds_toArray, List.set_cons_zero, List.set_cons_succ]
        refine take_held 8 (by assumption) rfl (by kernel_rfl) (by kernel_rfl) (by kernel_rfl) (fun _ _ _ h => h) (by kernel_rfl) (v := ?v61) ?y61 ?r61
        case y61 => (intro u hu; go_simp; try rfl)
        simp only [Act.put, List.setIfInBounds_toArray, List.set_cons_zero, List.set_cons_succ]
        refine done_held (by kernel_rfl) ?_ _
        have HI9 : Hid (IH w21) := hS21
        go_wp2
        go_roundw
        case rel =>
          refine ⟨k + 1, by omega, by omega, by go_num, ?_, HI9⟩
          intro j a b
          by_cases e : j = k
          · rw [e, hse]; exact hfk
          · exact HJ.out j a (by omega)
        case measure => simp [intOf]; omega
      · rw [decide_eq_false hfk] at cF2
        go_wp2
        have Dr : Below w1.heap.size w1 wr.drew := bcat (kI _ HI.out) (Below.refl _ _).drew (Nat.le_refl _)
        have hSd : IH wr.drew := by rw [hIH]; exact Dr
        refine start_held (S := IH) 9 rfl (by kernel_rfl) (hSd) ?_
        simp only [Array.replicate_succ, Array.replicate_zero, List.push_toArray, List.nil_append, List.cons_append]
        refine take_held 0 (by assumption) rfl (by kernel_rfl) (by kernel_rfl) (by kernel_rfl) (fun _ _ _ h => h) (by kernel_rfl) (v := .agg #[.int .i64 c.W, .int .i64 c.H, .int .i64 c.height, vb, vp, vr, vs, .int .i64 c.unit, .int .i64 c.accel, .int .i64 c.speed, .int .i64 c.turn, .int .i64 c.hoist, .int .i64 c.queue, .int .i64 c.resend, .int .i64 c.budget, .bool c.back]) ?y62 ?r62
        case y62 => (intro u hu; exact run_load_op 26 _ rfl ⟨w.heap.size, 0, none⟩ _ rfl (HC.out u hu) (aggConf u) info_conf)
        simp only [Act.put, List.setIfInBounds_toArray, List.set_cons_zero, List.set_cons_succ]
        refine take_held 1 (by assumption) rfl (by kernel_rfl) (by kernel_rfl) (by kernel_rfl) (fun _ _ _ h => h) (by kernel_rfl) (v := ?v63) ?y63 ?r63
        case y63 => (intro u hu; go_simp; try rfl)
        simp only [Act.put, List.setIfInBounds_toArray, List.set_cons_zero, List.set_cons_succ]
        refine take_held 2 (by assumption) rfl (by kernel_rfl) (by kernel_rfl) (by kernel_rfl) (fun _ _ _ h => h) (by kernel_rfl) (v := .agg #[.int .i64 fx, .int .i64 fy, .bool fd]) ?y64 ?r64
        case y64 => (intro u hu; exact run_load_op 30 _ rfl ⟨w.heap.size + 1, 3, none⟩ _ rfl (HF.out u hu) (aggPose u) infoPose2)
        simp only [Act.put, List.setIfInBounds_toArray, List.set_cons_zero, List.set_cons_succ]
        refine take_held 3 (by assumption) rfl (by kernel_rfl) (by kernel_rfl) (by kernel_rfl) (fun _ _ _ h => h) (by kernel_rfl) (v := ?v65) ?y65 ?r65
        case y65 => (intro u hu; go_simp; try rfl)
        simp only [Act.put, List.setIfInBounds_toArray, List.set_cons_zero, List.set_cons_succ]
        refine take_held 4 (by assumption) rfl (by kernel_rfl) (by kernel_rfl) (by kernel_rfl) (fun _ _ _ h => h) (by kernel_rfl) (v := ?v66) ?y66 ?r66
        case y66 => (intro u hu; have zz0 := z1 u hu; go_simp; try rfl)
        simp only [Act.put, List.setIfInBounds_toArray, List.set_cons_zero, List.set_cons_succ]
        refine take_held 5 (by assumption) rfl (by kernel_rfl) (by kernel_rfl) (by kernel_rfl) (fun _ _ _ h => h) (by kernel_rfl) (v := ?v67) ?y67 ?r67
        case y67 => (intro u hu; go_simp; try rfl)
        simp only [Act.put, List.setIfInBounds_toArray, List.set_cons_zero, List.set_cons_succ]
        refine wpAnyH_ready (rs := [6]) (by kernel_rfl) (by simp) (AllReadyH.cons ((nth_eq _ 6).trans rfl) ?_ AllReadyH.nil)
        intro K' hK
        refine call_in hK (by kernel_rfl) 84 #[.agg #[.int .i64 fx, .int .i64 fy, .bool fd], .int .i64 dir, .int .i64 (k : Int)] (by go_simp) _ (cS2 _) ?_
        rintro v w20 ⟨rfl, b20⟩
        have D20 := bcat Dr b20 (Nat.le_refl _)
        have hS20 : IH w20 := by rw [hIH]; exact D20
        refine ⟨hS20, ?_⟩
        simp only [Act.put, List.setIfInBounds_toArray, List.set_cons_zero, List.set_cons_succ]
        refine wpAnyH_ready (rs := [7]) (by kernel_rfl) (by simp) (AllReadyH.cons ((nth_eq _ 7).trans rfl) ?_ AllReadyH.nil)
        intro K' hK
        refine call_in hK (by kernel_rfl) 75 #[.agg #[.int .i64 c.W, .int .i64 c.H, .int .i64 c.height, vb, vp, vr, vs, .int .i64 c.unit, .int .i64 c.accel, .int .i64 c.speed, .int .i64 c.turn, .int .i64 c.hoist, .int .i64 c.queue, .int .i64 c.resend, .int .i64 c.budget, .bool c.back], .agg #[.int .i64 sx, .int .i64 sy, .bool sd]] (by go_simp) _ (cF2 _ (bcat B D20 (Nat.le_refl _))) ?_
        rintro v w21 ⟨rfl, b21⟩
        have D21 := bcat D20 b21 (Nat.le_refl _)
        have hS21 : IH w21 := by rw [hIH]; exact D21
        refine ⟨hS21, ?_⟩
        simp only [Act.put, List.setIfInBounds_toArray, List.set_cons_zero, List.set_cons_succ]
        refine take_held 8 (by assumption) rfl (by kernel_rfl) (by kernel_rfl) (by kernel_rfl) (fun _ _ _ h => h) (by kernel_rfl) (v := ?v68) ?y68 ?r68
        case y68 => (intro u hu; go_simp; try rfl)
        simp only [Act.put, List.setIfInBounds_toArray, List.set_cons_zero, List.set_cons_succ]
        refine done_held (by kernel_rfl) ?_ _
        have hLf : LB = false := by
          cases LB
          · rfl
          · exact absurd (hlb.out.2 rfl k (by omega) hlt) (by rw [hse]; exact hfk)
        go_wp2
        go_ret
        exact ⟨_, rfl, by first | (rw [hLf]; rfl) | rfl, bcat B D21 (Nat.le_refl _)⟩
    · have hLt : LB = true := hlb.out.1 fun j a e => HJ.out j a (by omega)
      have bI := kI _ HI.out
      go_wp2
      go_ret
      exact ⟨_, rfl, by first | (rw [hLt]; rfl) | rfl, bcat B bI (Nat.le_refl _)⟩
end Go.Proofs.Ytnaojlngdfolaaa.Grid
