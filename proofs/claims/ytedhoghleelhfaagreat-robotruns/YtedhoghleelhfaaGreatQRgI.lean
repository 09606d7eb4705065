/-
  The chapter's own May, in plain words: each of its tests, and what all of them come to.
  Which port a cell is: slices.Index, Port; the chapter's own number of a cell.
  Poses: their cells, where they are when they are shifted, by the chapter's own words too; whether two lists of cells are the same.
-/
import Derived.Test.YtedhoghleelhfaaGreatQGridRef8
import Derived.Test.YtedhoghleelhfaaGreatQRgF
namespace Go.Proofs.YtedhoghleelhfaaGreat.Grid
set_option linter.unusedVariables false
set_option linter.unusedSimpArgs false
open Go Go.RowKit Go.Shelf Go.Proofs

theorem may_iff (c : Conf) : mayR c ↔ (newP c).isSome = true := by
  refine ⟨fun h => ?_, fun h => ?_⟩
  · cases e : newP c with
    | none => exact absurd h (new_none e)
    | some G => rfl
  · cases e : newP c with
    | none => rw [e] at h; cases h
    | some G => exact (new_some e).1
theorem may_not {c : Conf} (h : ¬ mayR c) : (newP c).isSome = false := by
  cases e : (newP c).isSome
  · rfl
  · exact absurd ((may_iff c).2 e) h
section
variable {c : Conf}
theorem may_limited (h : limited c = false) : (newP c).isSome = false := may_not fun q => by rw [q.1] at h; cases h
theorem may_ports (h : ¬ c.ports.length ≤ 8) : (newP c).isSome = false := may_not fun q => h q.2.1
theorem may_robots (h : ¬ c.robots.length ≤ 8) : (newP c).isSome = false := may_not fun q => h q.2.2.1
theorem may_blocked (h : ¬ c.blocked.length ≤ 256) : (newP c).isSome = false := may_not fun q => h (new_few q).1
theorem may_b {b : Cell} (hb : b ∈ c.blocked) (h : ¬ (In c.W c.H b ∧ c.blocked.count b ≤ 1 ∧ c.ports.count b = 0)) : (newP c).isSome = false := may_not fun q => h ⟨(q.2.2.2.1 b hb).1, List.nodup_iff_count.1 q.2.2.2.2.1 b, List.count_eq_zero.2 (q.2.2.2.1 b hb).2⟩
theorem may_p {b : Cell} (hb : b ∈ c.ports) (h : ¬ (In c.W c.H b ∧ c.ports.count b ≤ 1 ∧ b ∉ homes c ∧ besideR c b)) : (newP c).isSome = false := may_not fun q => h ⟨(q.2.2.2.2.2.1 b hb).1, List.nodup_iff_count.1 q.2.2.2.2.2.2.1 b, (q.2.2.2.2.2.1 b hb).2⟩
theorem may_r {r : Pose} (hr : r ∈ c.robots) (h : ¬ fitsR c r) : (newP c).isSome = false := may_not fun q => h (q.2.2.2.2.2.2.2.1 r hr)
theorem may_h {b : Cell} (h : ¬ (homes c).count b ≤ 1) : (newP c).isSome = false := may_not fun q => h (List.nodup_iff_count.1 q.2.2.2.2.2.2.2.2.1 b)
theorem nodup_of {l : List Cell} (h : ∀ b ∈ l, l.count b ≤ 1) : l.Nodup := List.nodup_iff_count.2 fun b => by
  by_cases q : b ∈ l
  · exact h b q
  · rw [List.count_eq_zero.2 q]; omega
theorem may_all (h1 : limited c = true) (h2 : c.ports.length ≤ 8) (h3 : c.robots.length ≤ 8) (h4 : ∀ b ∈ c.blocked, In c.W c.H b ∧ c.blocked.count b ≤ 1 ∧ c.ports.count b = 0)
    (h5 : ∀ b ∈ c.ports, In c.W c.H b ∧ c.ports.count b ≤ 1 ∧ b ∉ homes c ∧ besideR c b) (h6 : ∀ r ∈ c.robots, fitsR c r) (h7 : ∀ b ∈ homes c, (homes c).count b ≤ 1) : (newP c).isSome = decide (binsP c) := by
  rw [Bool.eq_iff_iff, ← may_iff, decide_eq_true_eq]
  refine ⟨fun q => ⟨by have := (new_few q).2; omega, q.2.2.2.2.2.2.2.2.2.1, q.2.2.2.2.2.2.2.2.2.2.1, q.2.2.2.2.2.2.2.2.2.2.2⟩, fun q => ⟨h1, h2, h3, fun b hb => ⟨(h4 b hb).1, List.count_eq_zero.1 (h4 b hb).2.2⟩, nodup_of fun b hb => (h4 b hb).2.1, fun b hb => ⟨(h5 b hb).1, (h5 b hb).2.2⟩, nodup_of fun b hb => (h5 b hb).2.1, h6, nodup_of h7, q.2.1, q.2.2.1, q.2.2.2⟩⟩
end
end Go.Proofs.YtedhoghleelhfaaGreat.Grid
namespace Go.Proofs.YtedhoghleelhfaaGreat.Grid
set_option linter.unusedVariables false
set_option linter.unusedSimpArgs false
open Go Go.RowKit Go.Shelf Go.Proofs
attribute [local go_sem] Oper.semAt_some

/- What the grid tells of a cell is what the chapter says. -/
section
variable {c : Conf} {G : GS} (h : newP c = some G) (x : Cell)
include h
theorem open_same : openU c.W c.H G.uses x = decide (openR c x) := by
  obtain ⟨hm, _, _, _, hU⟩ := new_some h
  rw [Bool.eq_iff_iff, decide_eq_true_eq, openU_iff hU]
  unfold openF openR
  refine and_congr Iff.rfl ?_
  have h4 := hm.2.2.2.1
  unfold useR
  by_cases q1 : x ∈ homes c
  · rw [if_pos q1]
    refine iff_of_true (by decide) fun hb => ?_
    obtain ⟨r, hr, e⟩ := flat_mem.1 q1
    have hf := hm.2.2.2.2.2.2.2.1 r hr
    rcases e with e | e
    · exact hf.1.2 (e ▸ hb)
    · exact hf.2.2 (e ▸ hb)
  · rw [if_neg q1]
    by_cases q2 : x ∈ c.ports
    · rw [if_pos q2]
      exact iff_of_true (by decide) fun hb => (h4 x hb).2 q2
    · rw [if_neg q2]
      by_cases q3 : x ∈ c.blocked
      · rw [if_pos q3]; simp [q3]
      · rw [if_neg q3]
        refine iff_of_true ?_ q3
        split <;> decide
end
end Go.Proofs.YtedhoghleelhfaaGreat.Grid
namespace Go.Proofs.YtedhoghleelhfaaGreat.Grid
set_option linter.unusedVariables false
set_option linter.unusedSimpArgs false
open Go Go.RowKit Go.Shelf Go.Proofs
attribute [local go_sem] Oper.semAt_some

set_option maxRecDepth 100000 in
set_option maxHeartbeats 4000000 in
theorem shiftS_any (x y : Int) (d : Bool) (dir n : Int) (w : World) : Calls Tryz.prog 62 #[.agg #[.int .i64 x, .int .i64 y, .bool d], .int .i64 dir, .int .i64 n] w fun e w' => ∃ r, e = .returned r ∧ r = .agg (poseCs (shiftP ((x, y), d) dir n)) ∧ Below w.heap.size w w' := by
  by_cases hd : 0 ≤ dir ∧ dir ≤ 3
  · obtain rfl | rfl | rfl | rfl : dir = 0 ∨ dir = 1 ∨ dir = 2 ∨ dir = 3 := by omega
    all_goals
      go_enter Tryz.func62, Tryz.ntmps62
      go_wp2
      exact bodyPost_ret (results_cell_row rfl _ _ (w.heap.size + 1) 42 _ (0, 0) _ rfl (heap_new2 _ _ _) Tryz.underlying42 rfl infoPose2) rfl ⟨_, rfl, by simp only [shiftP, poseCs, w64_wrap]; rfl, below_two _ _ _⟩
  · have d0 : (dir == 0) = false := by rw [beq_eq_false_iff_ne]; omega
    have d1 : (dir == 1) = false := by rw [beq_eq_false_iff_ne]; omega
    have d2 : (dir == 2) = false := by rw [beq_eq_false_iff_ne]; omega
    have d3 : (dir == 3) = false := by rw [beq_eq_false_iff_ne]; omega
    have e : shiftP ((x, y), d) dir n = ((x, y), d) := by unfold shiftP; rw [if_neg (by omega), if_neg (by omega), if_neg (by omega), if_neg (by omega)]
    rw [e]
    clear e hd
    go_enter Tryz.func62, Tryz.ntmps62
    go_wp2
    exact bodyPost_ret (results_cell_row rfl _ _ (w.heap.size + 1) 42 _ (0, 0) _ rfl (heap_new2 _ _ _) Tryz.underlying42 rfl infoPose2) rfl ⟨_, rfl, rfl, below_two _ _ _⟩
set_option maxRecDepth 100000 in
set_option maxHeartbeats 4000000 in
theorem shiftRef_any (x y : Int) (d : Bool) (dir n : Int) (w : World) : Calls Tryz.prog 81 #[.agg #[.int .i64 x, .int .i64 y, .bool d], .int .i64 dir, .int .i64 n] w fun e w' => e = .returned (.tuple #[.agg (poseCs (shiftR ((x, y), d) dir n)), .bool (mayShift dir n)]) ∧ Below w.heap.size w w' := by
  have cW1 := fun u => withinR_any n 0 16 u
  have cW2 := fun u => withinR_any dir 0 3 u
  have cS := fun u => shiftS_any x y d dir n u
  have HM : Hid (mayShift dir n = ((decide (0 ≤ n) && decide (n ≤ 16)) && (decide (0 ≤ dir) && decide (dir ≤ 3)))) := by show mayShift dir n = _; unfold mayShift; simp only [Bool.and_assoc]
  unfold shiftR
  generalize shiftP ((x, y), d) dir n = sp at *
  obtain ⟨⟨sx, sy⟩, sd⟩ := sp
  generalize (decide (0 ≤ n) && decide (n ≤ 16)) = A at *
  generalize (decide (0 ≤ dir) && decide (dir ≤ 3)) = B at *
  rw [HM.out]
  clear HM
  cases A
  · go_enter Tryz.func81, Tryz.ntmps81
    go_wp2_with (first
      | fail
      | (go_at_call 50; refine (cW1 _).mono ?_; rintro e w1 ⟨rfl, hw1⟩; rw [hw1]; clear hw1 w1))
    exact bodyPost_ret (results_cell_tmp Tryz.results81 _ _ (w.heap.size + 1) _ rfl (load_pose _ _ _ rfl (heap_new2 _ _ _))) rfl ⟨rfl, below_two _ _ _⟩
  · cases B
    · go_enter Tryz.func81, Tryz.ntmps81
      go_wp2_with (first
        | (have X' := K1; go_at_call 50; refine (cW2 _).mono ?_; rintro e w2 ⟨rfl, hw2⟩; rw [hw2]; clear hw2 w2)
        | (go_at_call 50; refine (cW1 _).mono ?_; rintro e w1 ⟨rfl, hw1⟩; rw [hw1]; clear hw1 w1; have K1 : True := trivial))
      exact bodyPost_ret (results_cell_tmp Tryz.results81 _ _ (w.heap.size + 1) _ rfl (load_pose _ _ _ rfl (heap_new2 _ _ _))) rfl ⟨rfl, below_two _ _ _⟩
    · go_enter Tryz.func81, Tryz.ntmps81
      go_wp2_with (first
        | (have X' := K1; go_at_call 50; refine (cW2 _).mono ?_; rintro e w2 ⟨rfl, hw2⟩; rw [hw2]; clear hw2 w2)
        | (go_at_call 50; refine (cW1 _).mono ?_; rintro e w1 ⟨rfl, hw1⟩; rw [hw1]; clear hw1 w1; have K1 : True := trivial)
        | (go_at_call 62; refine (cS _).mono ?_; rintro e w3 ⟨r3, rfl, rfl, b3⟩; have B3 := bcat (below_two w _ _) b3 (Nat.le_refl _); have e3 := (b3.block (w.heap.size + 1) (by simp)).trans (heap_new2 w _ _))
        | (refine wpList_store_row rfl 42 (.tmp 6) (.tmp 20) rfl (w.heap.size + 1) (poseCs ((sx, sy), sd)) rfl rfl 42 #[.int .i64 0, .int .i64 0, .bool false] e3 infoPose2 rfl (by simp [Value.oneCell', poseCs]) ?_))
      exact bodyPost_ret (results_cell_tmp Tryz.results81 _ _ (w.heap.size + 1) _ rfl (load_pose _ _ _ rfl (setRow_heap _ _ _ _ _ _ e3))) rfl ⟨rfl, below_row B3 (by omega) _⟩
end Go.Proofs.YtedhoghleelhfaaGreat.Grid
