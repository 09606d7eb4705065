/-
  Whether a move may be.
-/
import Derived.Test.YtnaojlngdfolaaaGridSeq
namespace Go.Proofs.Ytnaojlngdfolaaa.Grid
set_option linter.unusedVariables false
set_option linter.unusedSimpArgs false
open Go Go.RowKit Go.Shelf Go.Proofs

attribute [local go_sem] Oper.semAt_some

theorem if_ok (c : Prop) [Decidable c] (b : Bool) (w : World) : (if c then (Result.ok b w : Result Bool) else .ok false w) = .ok (decide c && b) w := by
  by_cases h : c
  · rw [if_pos h, decide_eq_true h, Bool.true_and]
  · rw [if_neg h, decide_eq_false h, Bool.false_and]
theorem eqPose (x y x' y' : Int) (d d' : Bool) (w : World) : (Op.equalIn 10000 30 (.agg #[.int .i64 x, .int .i64 y, .bool d]) (.agg #[.int .i64 x', .int .i64 y', .bool d'])).run Try.prog w = .ok (decide (((x, y), d) = ((x', y'), d'))) w := by
  go_simp
  repeat' split
  all_goals simp_all
def boxOf (a b : Pose) : List Cell := boxList (spanP a b).1.1 (spanP a b).1.2 (spanP a b).2.1 (spanP a b).2.2
def legalU (W H : Int) (us : List Int) (m : Move) : Bool :=
  (leadsP m.1 m.2.1 m.2.2.1 m.2.2.2.1).2 && decide (m.2.2.2.2.1 = (leadsP m.1 m.2.1 m.2.2.1 m.2.2.2.1).1) && fitsU W H us m.2.2.2.1 && (boxOf m.2.2.2.1 (leadsP m.1 m.2.1 m.2.2.1 m.2.2.2.1).1).all (openU W H us)
/- Three boxes at the beginning, and what was made behind them. -/
theorem three_frame (w : World) (c1 : Array Value) (t1 : TypeId) (c2 : Array Value) (t2 : TypeId) (c3 : Array Value) (t3 : TypeId) (w1 : World) (b1 : Below (((w.alloc (.cells c1 t1)).alloc (.cells c2 t2)).alloc (.cells c3 t3)).heap.size (((w.alloc (.cells c1 t1)).alloc (.cells c2 t2)).alloc (.cells c3 t3)) w1) :
    Below w.heap.size w w1 ∧ w1.heap[w.heap.size]? = some (.cells c1 t1 (0, 0)) ∧ w1.heap[w.heap.size + 1]? = some (.cells c2 t2 (0, 0)) ∧ w1.heap[w.heap.size + 1 + 1]? = some (.cells c3 t3 (0, 0)) ∧ w.heap.size + 3 ≤ w1.heap.size := by
  have hs2 : ((w.alloc (.cells c1 t1)).alloc (.cells c2 t2)).heap.size = w.heap.size + 2 := by simp
  have hs : (((w.alloc (.cells c1 t1)).alloc (.cells c2 t2)).alloc (.cells c3 t3)).heap.size = w.heap.size + 3 := by simp
  refine ⟨(below_new (below_two _ _ _) _).trans (b1.mono (by rw [hs]; omega)), (b1.block _ (by rw [hs]; omega)).trans ((alloc_old _ _ _ (by rw [hs2]; omega)).trans ((alloc_old _ _ _ (by simp)).trans (heap_alloc_new w _))), (b1.block _ (by rw [hs]; omega)).trans ((alloc_old _ _ _ (by rw [hs2]; omega)).trans (heap_new2 _ _ _)), ?_, ?_⟩
  · refine (b1.block _ (by rw [hs]; omega)).trans ?_
    have := heap_alloc_new ((w.alloc (.cells c1 t1)).alloc (.cells c2 t2)) (.cells c3 t3)
    rwa [hs2] at this
  · have := b1.size
    omega
/- A result that lies in a block of its own. -/
theorem res_bool {fn : Func} {p : Tmp} (h : fn.results = #[.cell p 4]) {tmps : Array Value} {w : World} {N : Nat} {b : Bool} (hp : tmps.getD p undef = .pointer (some ⟨N, 0, none⟩)) (hg : w.heap[N]? = some (.cells #[.bool b] 4 (0, 0))) : (results fn tmps).run Try.prog w = .ok (.bool b) w := by
  have hp' : tmps[p]?.getD undef = .pointer (some ⟨N, 0, none⟩) := by simpa using hp
  have hc : w.cell? ⟨N, 0, none⟩ = some (.bool b) := cell_of hg 0
  have hl : (loadVar 4 ⟨N, 0, none⟩).run Try.prog w = .ok (.bool b) w := by simp [loadVar, isAgg, go_sem, hc, Try.underlying4]
  simp [results, h, hp', asAddr, hl]
theorem set_same {w : World} {N : Nat} {a b : Bool} (h : w.heap[N]? = some (.cells #[.bool a] 4 (0, 0))) : (w.setCell ⟨N, 0, none⟩ (.bool b)).heap[N]? = some (.cells #[.bool b] 4 (0, 0)) := by
  rw [heap_setCell_same _ _ _ _ _ _ h]; rfl
set_option maxRecDepth 100000 in
set_option maxHeartbeats 2000000 in
/- Where it is refused ahead of the cells. -/
theorem legal_no (g u : Nat) (W H : Int) (us : List Int) (vp : Value) (kd dir n fx fy : Int) (fd : Bool) (tx ty : Int) (td : Bool) (ma me : Int) (w : World) (hG : GridAt w g u W H us vp)
    (hno : ((leadsP kd dir n ((fx, fy), fd)).2 && decide (((tx, ty), td) = (leadsP kd dir n ((fx, fy), fd)).1) && fitsU W H us ((fx, fy), fd)) = false) :
    CallsIn Fence.wide 9 Try.prog 29 #[.pointer (some ⟨g, 0, none⟩), .agg #[.int .i64 kd, .int .i64 dir, .int .i64 n, .int .i64 fx, .int .i64 fy, .bool fd, .int .i64 tx, .int .i64 ty, .bool td, .int .i64 ma, .int .i64 me]] w fun e w' => e = .returned (.bool false) ∧ Below w.heap.size w w' := by
  have cL := fun u => leads_any (.pointer (some ⟨g, 0, none⟩)) kd dir n fx fy fd tx ty td ma me u
  have cF := fun wx (hb : Below w.heap.size w wx) => fits_any g u W H us vp fx fy fd wx (hG.go hb)
  generalize (leadsP kd dir n ((fx, fy), fd)).2 = ok at *
  generalize (leadsP kd dir n ((fx, fy), fd)).1 = to at *
  obtain ⟨⟨px, py⟩, pd⟩ := to
  unfold poseCs at cL
  simp only at cL
  generalize fitsU W H us ((fx, fy), fd) = ft at *
  have eP := fun w => eqPose tx ty px py td pd w
  generalize decide (((tx, ty), td) = ((px, py), pd)) = eq at *
  refine callsIn_of_wp_marks Try.func29 rfl trivial ?_ rfl
  simp only [Try.ntmps29, List.size_toArray, List.length_cons, List.length_nil, Nat.reduceAdd, Nat.reduceSub, Array.replicate_succ, Array.replicate_zero, List.push_toArray, List.append_toArray, List.nil_append, List.cons_append]
  cases ok
  · gi_wp2_with (first
      | (refine ⟨trivial, ?_⟩; gi_at_call 88; refine (callsIn_wide.2 (cL _)).mono ?_; rintro e w1 ⟨rfl, b1⟩; obtain ⟨B1, m0, m1, m2, s1⟩ := three_frame w _ _ _ _ _ _ w1 b1; clear b1; have M0 := (alloc_old w1 (.cells #[.int .i64 px, .int .i64 py, .bool pd] 30) (w.heap.size) (by omega)).trans m0; have M1 := (alloc_old w1 (.cells #[.int .i64 px, .int .i64 py, .bool pd] 30) (w.heap.size + 1) (by omega)).trans m1; have M2 := (alloc_old w1 (.cells #[.int .i64 px, .int .i64 py, .bool pd] 30) (w.heap.size + 1 + 1) (by omega)).trans m2; have g0 : (w1.alloc (.cells #[.int .i64 px, .int .i64 py, .bool pd] 30)).cell? ⟨w.heap.size, 0, none⟩ = some (.pointer (some ⟨g, 0, none⟩)) := cell_of M0 0; have q3 : (w1.alloc (.cells #[.int .i64 px, .int .i64 py, .bool pd] 30)).cell? ⟨w.heap.size + 1, 3, none⟩ = some (.int .i64 fx) := cell_of M1 3; have q4 : (w1.alloc (.cells #[.int .i64 px, .int .i64 py, .bool pd] 30)).cell? ⟨w.heap.size + 1, 4, none⟩ = some (.int .i64 fy) := cell_of M1 4; have q5 : (w1.alloc (.cells #[.int .i64 px, .int .i64 py, .bool pd] 30)).cell? ⟨w.heap.size + 1, 5, none⟩ = some (.bool fd) := cell_of M1 5; have q6 : (w1.alloc (.cells #[.int .i64 px, .int .i64 py, .bool pd] 30)).cell? ⟨w.heap.size + 1, 6, none⟩ = some (.int .i64 tx) := cell_of M1 6; have q7 : (w1.alloc (.cells #[.int .i64 px, .int .i64 py, .bool pd] 30)).cell? ⟨w.heap.size + 1, 7, none⟩ = some (.int .i64 ty) := cell_of M1 7; have q8 : (w1.alloc (.cells #[.int .i64 px, .int .i64 py, .bool pd] 30)).cell? ⟨w.heap.size + 1, 8, none⟩ = some (.bool td) := cell_of M1 8; have R2 : (w1.alloc (.cells #[.int .i64 px, .int .i64 py, .bool pd] 30)).cell? ⟨w.heap.size + 1 + 1, 0, none⟩ = some (.bool false) := cell_of M2 0; have Z2 := frozen_of M2 0; clear m0 m1)
      | (refine ⟨trivial, ?_⟩))
    exact ⟨_, res_bool rfl rfl (set_same M2), rfl, below_set (below_new B1 _) (by omega) _ _⟩
  · cases eq
    · gi_wp2_with (first
        | (refine ⟨trivial, ?_⟩; gi_at_call 88; refine (callsIn_wide.2 (cL _)).mono ?_; rintro e w1 ⟨rfl, b1⟩; obtain ⟨B1, m0, m1, m2, s1⟩ := three_frame w _ _ _ _ _ _ w1 b1; clear b1; have M0 := (alloc_old w1 (.cells #[.int .i64 px, .int .i64 py, .bool pd] 30) (w.heap.size) (by omega)).trans m0; have M1 := (alloc_old w1 (.cells #[.int .i64 px, .int .i64 py, .bool pd] 30) (w.heap.size + 1) (by omega)).trans m1; have M2 := (alloc_old w1 (.cells #[.int .i64 px, .int .i64 py, .bool pd] 30) (w.heap.size + 1 + 1) (by omega)).trans m2; have g0 : (w1.alloc (.cells #[.int .i64 px, .int .i64 py, .bool pd] 30)).cell? ⟨w.heap.size, 0, none⟩ = some (.pointer (some ⟨g, 0, none⟩)) := cell_of M0 0; have q3 : (w1.alloc (.cells #[.int .i64 px, .int .i64 py, .bool pd] 30)).cell? ⟨w.heap.size + 1, 3, none⟩ = some (.int .i64 fx) := cell_of M1 3; have q4 : (w1.alloc (.cells #[.int .i64 px, .int .i64 py, .bool pd] 30)).cell? ⟨w.heap.size + 1, 4, none⟩ = some (.int .i64 fy) := cell_of M1 4; have q5 : (w1.alloc (.cells #[.int .i64 px, .int .i64 py, .bool pd] 30)).cell? ⟨w.heap.size + 1, 5, none⟩ = some (.bool fd) := cell_of M1 5; have q6 : (w1.alloc (.cells #[.int .i64 px, .int .i64 py, .bool pd] 30)).cell? ⟨w.heap.size + 1, 6, none⟩ = some (.int .i64 tx) := cell_of M1 6; have q7 : (w1.alloc (.cells #[.int .i64 px, .int .i64 py, .bool pd] 30)).cell? ⟨w.heap.size + 1, 7, none⟩ = some (.int .i64 ty) := cell_of M1 7; have q8 : (w1.alloc (.cells #[.int .i64 px, .int .i64 py, .bool pd] 30)).cell? ⟨w.heap.size + 1, 8, none⟩ = some (.bool td) := cell_of M1 8; have R2 : (w1.alloc (.cells #[.int .i64 px, .int .i64 py, .bool pd] 30)).cell? ⟨w.heap.size + 1 + 1, 0, none⟩ = some (.bool false) := cell_of M2 0; have Z2 := frozen_of M2 0; clear m0 m1)
        | (refine ⟨trivial, ?_⟩))
      exact ⟨_, res_bool rfl rfl (set_same M2), rfl, below_set (below_new B1 _) (by omega) _ _⟩
    · obtain rfl : ft = false := by simpa using hno
      gi_wp2_with (first
        | (refine ⟨trivial, ?_⟩; gi_at_call 88; refine (callsIn_wide.2 (cL _)).mono ?_; rintro e w1 ⟨rfl, b1⟩; obtain ⟨B1, m0, m1, m2, s1⟩ := three_frame w _ _ _ _ _ _ w1 b1; clear b1; have M0 := (alloc_old w1 (.cells #[.int .i64 px, .int .i64 py, .bool pd] 30) (w.heap.size) (by omega)).trans m0; have M1 := (alloc_old w1 (.cells #[.int .i64 px, .int .i64 py, .bool pd] 30) (w.heap.size + 1) (by omega)).trans m1; have M2 := (alloc_old w1 (.cells #[.int .i64 px, .int .i64 py, .bool pd] 30) (w.heap.size + 1 + 1) (by omega)).trans m2; have g0 : (w1.alloc (.cells #[.int .i64 px, .int .i64 py, .bool pd] 30)).cell? ⟨w.heap.size, 0, none⟩ = some (.pointer (some ⟨g, 0, none⟩)) := cell_of M0 0; have q3 : (w1.alloc (.cells #[.int .i64 px, .int .i64 py, .bool pd] 30)).cell? ⟨w.heap.size + 1, 3, none⟩ = some (.int .i64 fx) := cell_of M1 3; have q4 : (w1.alloc (.cells #[.int .i64 px, .int .i64 py, .bool pd] 30)).cell? ⟨w.heap.size + 1, 4, none⟩ = some (.int .i64 fy) := cell_of M1 4; have q5 : (w1.alloc (.cells #[.int .i64 px, .int .i64 py, .bool pd] 30)).cell? ⟨w.heap.size + 1, 5, none⟩ = some (.bool fd) := cell_of M1 5; have q6 : (w1.alloc (.cells #[.int .i64 px, .int .i64 py, .bool pd] 30)).cell? ⟨w.heap.size + 1, 6, none⟩ = some (.int .i64 tx) := cell_of M1 6; have q7 : (w1.alloc (.cells #[.int .i64 px, .int .i64 py, .bool pd] 30)).cell? ⟨w.heap.size + 1, 7, none⟩ = some (.int .i64 ty) := cell_of M1 7; have q8 : (w1.alloc (.cells #[.int .i64 px, .int .i64 py, .bool pd] 30)).cell? ⟨w.heap.size + 1, 8, none⟩ = some (.bool td) := cell_of M1 8; have R2 : (w1.alloc (.cells #[.int .i64 px, .int .i64 py, .bool pd] 30)).cell? ⟨w.heap.size + 1 + 1, 0, none⟩ = some (.bool false) := cell_of M2 0; have Z2 := frozen_of M2 0; clear m0 m1)
        | (refine ⟨trivial, ?_⟩; gi_at_call 80; refine (callsIn_wide.2 (cF _ (below_new B1 _))).mono ?_; rintro e w2 ⟨rfl, b2⟩; have B2 := bcat (below_new B1 _) b2 (Nat.le_refl _); have M3 := (b2.block (w.heap.size + 1 + 1) (lt_of_heap M2)).trans M2; have r3 : w2.cell? ⟨w.heap.size + 1 + 1, 0, none⟩ = some (.bool false) := cell_of M3 0; have z3 := frozen_of M3 0)
        | (refine ⟨trivial, ?_⟩))
      exact ⟨_, res_bool rfl rfl (set_same M3), rfl, below_set B2 (by omega) _ _⟩

theorem all_pre {α : Type} {f : α → Bool} {p l : List α} (h : p <+: l) (hp : p.all f = false) : l.all f = false := by
  obtain ⟨r, rfl⟩ := h
  rw [List.all_append, hp, Bool.false_and]
theorem keeps_below (B : Nat) {w w' : World} (h : Below w.heap.size w w') : KeepsFrom B w w' := ⟨h.size, fun k o _ hk ho => (h.block k (lt_of_heap hk)).trans hk⟩
theorem below_same {B N : Nat} {w w' : World} (h : Below B w w') (hN : w'.heap[N]? = some (.cells #[.bool false] 4 (0, 0))) : Below B w (w'.setCell ⟨N, 0, none⟩ (.bool false)) := by
  refine ⟨h.os, h.tape, h.output, by simp; exact h.size, fun k hk => ?_⟩
  by_cases e : k = N
  · subst e; rw [set_same hN, ← h.block k hk, hN]
  · rw [heap_setCell_other _ _ _ _ e]; exact h.block k hk
set_option maxRecDepth 100000 in
set_option maxHeartbeats 2000000 in
/- Where the cells are gone through. -/
theorem legal_go (g u : Nat) (W H : Int) (us : List Int) (vp : Value) (kd dir n fx fy : Int) (fd : Bool) (tx ty : Int) (td : Bool) (ma me : Int) (w : World) (hG : GridAt w g u W H us vp) (px py : Int) (pd : Bool) (x0 y0 x1 y1 : Int)
    (hto : leadsP kd dir n ((fx, fy), fd) = (((px, py), pd), true)) (heq : ((tx, ty), td) = ((px, py), pd)) (hft : fitsU W H us ((fx, fy), fd) = true) (hsp : spanP ((fx, fy), fd) ((px, py), pd) = ((x0, y0), (x1, y1))) (hx0 : -1000 ≤ x0) (hy0 : -1000 ≤ y0) (hx1 : x1 ≤ 1000) (hy1 : y1 ≤ 1000) :
    CallsIn Fence.wide 9 Try.prog 29 #[.pointer (some ⟨g, 0, none⟩), .agg #[.int .i64 kd, .int .i64 dir, .int .i64 n, .int .i64 fx, .int .i64 fy, .bool fd, .int .i64 tx, .int .i64 ty, .bool td, .int .i64 ma, .int .i64 me]] w fun e w' => e = .returned (.bool ((boxList x0 y0 x1 y1).all (openU W H us))) ∧ Below w.heap.size w w' := by
  have cL := fun u => leads_any (.pointer (some ⟨g, 0, none⟩)) kd dir n fx fy fd tx ty td ma me u
  have cF := fun wx (hb : Below w.heap.size w wx) => fits_any g u W H us vp fx fy fd wx (hG.go hb)
  have cS := fun u => span_any fx fy fd px py pd u
  rw [hto] at cL
  rw [hft] at cF
  rw [hsp] at cS
  unfold poseCs at cL
  simp only at cL cS
  have eP := fun w => eqPose tx ty px py td pd w
  rw [decide_eq_true heq] at eP
  clear hto heq hft hsp
  refine callsIn_of_wp_marks Try.func29 rfl trivial ?_ rfl
  simp only [Try.ntmps29, List.size_toArray, List.length_cons, List.length_nil, Nat.reduceAdd, Nat.reduceSub, Array.replicate_succ, Array.replicate_zero, List.push_toArray, List.append_toArray, List.nil_append, List.cons_append]
  gi_wp2_with (first
    | (refine ⟨trivial, ?_⟩; gi_at_call 88; refine (callsIn_wide.2 (cL _)).mono ?_; rintro e w1 ⟨rfl, b1⟩; obtain ⟨B1, m0, m1, m2, s1⟩ := three_frame w _ _ _ _ _ _ w1 b1; clear b1; have M0 := (alloc_old w1 (.cells #[.int .i64 px, .int .i64 py, .bool pd] 30) (w.heap.size) (by omega)).trans m0; have M1 := (alloc_old w1 (.cells #[.int .i64 px, .int .i64 py, .bool pd] 30) (w.heap.size + 1) (by omega)).trans m1; have M2 := (alloc_old w1 (.cells #[.int .i64 px, .int .i64 py, .bool pd] 30) (w.heap.size + 1 + 1) (by omega)).trans m2; have g0 : (w1.alloc (.cells #[.int .i64 px, .int .i64 py, .bool pd] 30)).cell? ⟨w.heap.size, 0, none⟩ = some (.pointer (some ⟨g, 0, none⟩)) := cell_of M0 0; have q3 : (w1.alloc (.cells #[.int .i64 px, .int .i64 py, .bool pd] 30)).cell? ⟨w.heap.size + 1, 3, none⟩ = some (.int .i64 fx) := cell_of M1 3; have q4 : (w1.alloc (.cells #[.int .i64 px, .int .i64 py, .bool pd] 30)).cell? ⟨w.heap.size + 1, 4, none⟩ = some (.int .i64 fy) := cell_of M1 4; have q5 : (w1.alloc (.cells #[.int .i64 px, .int .i64 py, .bool pd] 30)).cell? ⟨w.heap.size + 1, 5, none⟩ = some (.bool fd) := cell_of M1 5; have q6 : (w1.alloc (.cells #[.int .i64 px, .int .i64 py, .bool pd] 30)).cell? ⟨w.heap.size + 1, 6, none⟩ = some (.int .i64 tx) := cell_of M1 6; have q7 : (w1.alloc (.cells #[.int .i64 px, .int .i64 py, .bool pd] 30)).cell? ⟨w.heap.size + 1, 7, none⟩ = some (.int .i64 ty) := cell_of M1 7; have q8 : (w1.alloc (.cells #[.int .i64 px, .int .i64 py, .bool pd] 30)).cell? ⟨w.heap.size + 1, 8, none⟩ = some (.bool td) := cell_of M1 8; have R2 : (w1.alloc (.cells #[.int .i64 px, .int .i64 py, .bool pd] 30)).cell? ⟨w.heap.size + 1 + 1, 0, none⟩ = some (.bool false) := cell_of M2 0; have Z2 := frozen_of M2 0; clear m0 m1)
    | (refine ⟨trivial, ?_⟩; gi_at_call 80; refine (callsIn_wide.2 (cF _ (below_new B1 _))).mono ?_; rintro e w2 ⟨rfl, b2⟩; have B2 := bcat (below_new B1 _) b2 (Nat.le_refl _); have N0 := (b2.block _ (lt_of_heap M0)).trans M0; have N1 := (b2.block _ (lt_of_heap M1)).trans M1; have N2 := (b2.block _ (lt_of_heap M2)).trans M2; have N3 := (b2.block _ (by simp)).trans (heap_alloc_new w1 (.cells #[.int .i64 px, .int .i64 py, .bool pd] 30)); have p3 : w2.cell? ⟨w.heap.size + 1, 3, none⟩ = some (.int .i64 fx) := cell_of N1 3; have p4 : w2.cell? ⟨w.heap.size + 1, 4, none⟩ = some (.int .i64 fy) := cell_of N1 4; have p5 : w2.cell? ⟨w.heap.size + 1, 5, none⟩ = some (.bool fd) := cell_of N1 5; have o0 : w2.cell? ⟨w1.heap.size, 0, none⟩ = some (.int .i64 px) := cell_of N3 0; have o1 : w2.cell? ⟨w1.heap.size, 1, none⟩ = some (.int .i64 py) := cell_of N3 1; have o2 : w2.cell? ⟨w1.heap.size, 2, none⟩ = some (.bool pd) := cell_of N3 2)
    | (refine ⟨trivial, ?_⟩; gi_at_call 89; refine (callsIn_wide.2 (cS _)).mono ?_; rintro e w3 ⟨rfl, b3⟩)
    | (refine ⟨trivial, ?_⟩; gi_at_call 90; refine (callsIn_wide.2 (cells_any x0 y0 x1 y1 w3)).mono ?_; rintro e w4 ⟨rfl, rfl⟩)
    | (refine ⟨trivial, ?_⟩))
  have B3 := bcat B2 b3 (Nat.le_refl _)
  have O0 := (alloc_old w3 (.cells #[.int .i64 x0, .int .i64 y0, .int .i64 x1, .int .i64 y1] 126) _ (by have := b3.size; have := lt_of_heap N0; omega)).trans ((b3.block _ (lt_of_heap N0)).trans N0)
  have O2 := (alloc_old w3 (.cells #[.int .i64 x0, .int .i64 y0, .int .i64 x1, .int .i64 y1] 126) _ (by have := b3.size; have := lt_of_heap N2; omega)).trans ((b3.block _ (lt_of_heap N2)).trans N2)
  have OB := heap_alloc_new w3 (.cells #[.int .i64 x0, .int .i64 y0, .int .i64 x1, .int .i64 y1] 126)
  have BV : Below w.heap.size w (w3.alloc (.cells #[.int .i64 x0, .int .i64 y0, .int .i64 x1, .int .i64 y1] 126)) := below_new B3 _
  obtain ⟨Bn, hBn⟩ : ∃ Bn, w3.heap.size = Bn := ⟨_, rfl⟩
  have sV : (w3.alloc (.cells #[.int .i64 x0, .int .i64 y0, .int .i64 x1, .int .i64 y1] 126)).heap.size = Bn + 1 := by rw [← hBn]; simp
  have hwB : w.heap.size + 1 + 1 < Bn := by rw [← hBn]; have := b3.size; have := lt_of_heap N2; omega
  generalize hV : w3.alloc (.cells #[.int .i64 x0, .int .i64 y0, .int .i64 x1, .int .i64 y1] 126) = V at *
  rw [hBn] at OB ⊢
  clear hV b3 b2 N0 N1 N2 N3 M0 M1 M2 p3 p4 p5 o0 o1 o2 q3 q4 q5 q6 q7 q8 g0 R2 Z2
  have hGV := hG.go BV
  refine wpIn_rangeFunc_ownH rfl (by omega) (gf := 130) (lb := #[.pointer (some ⟨Bn, 0, none⟩)]) rfl trivial (enters_of Try.func130 (by kernel_rfl) rfl)
    (cells_stops 8 (by omega) Bn x0 y0 x1 y1 hx0 hy0 hx1 hy1 V OB) KB.trans ?kb (Below.refl _ _) (fun _ => rfl)
    (fun pre V' => Below V.heap.size V V' ∧ pre.all (openU W H us) = true) (fun c pre V' => Below V.heap.size V V' ∧ pre.all (openU W H us) = false ∧ c = .ret)
    (fun pre X Y row h hg hr => ⟨h.1.grown hg h.1.size (fun k e => (hr k e).1), h.2⟩) (fun c pre X Y row h hg hr => ⟨h.1.grown hg h.1.size (fun k e => (hr k e).1), h.2⟩)
    ⟨Below.refl _ _, rfl⟩
    (fun x a' V' => ∃ Bx, V.heap.size ≤ Bx ∧ V'.heap[Bx]? = some (.cells #[.int .i64 x.1, .int .i64 x.2] 28 (0, 0)) ∧ a' = { tmps := #[.pointer (some ⟨g, 0, none⟩), .agg #[.int .i64 kd, .int .i64 dir, .int .i64 n, .int .i64 fx, .int .i64 fy, .bool fd, .int .i64 tx, .int .i64 ty, .bool td, .int .i64 ma, .int .i64 me], .pointer (some ⟨w.heap.size, 0, none⟩), .pointer (some ⟨w.heap.size + 1, 0, none⟩), .pointer (some ⟨w.heap.size + 1 + 1, 0, none⟩), .pointer (some ⟨w1.heap.size, 0, none⟩), .bool true, .pointer (some ⟨Bx, 0, none⟩), .tuple #[.agg #[.int .i64 px, .int .i64 py, .bool pd], .bool true], .pointer (some ⟨g, 0, none⟩), .agg #[.int .i64 kd, .int .i64 dir, .int .i64 n, .int .i64 fx, .int .i64 fy, .bool fd, .int .i64 tx, .int .i64 ty, .bool td, .int .i64 ma, .int .i64 me], .tuple #[.agg #[.int .i64 px, .int .i64 py, .bool pd], .bool true], .agg #[.int .i64 px, .int .i64 py, .bool pd], .bool true, .bool true, .bool false, .bool false, .pointer (some ⟨w.heap.size + 1, 6, none⟩), .agg #[.int .i64 tx, .int .i64 ty, .bool td], .agg #[.int .i64 px, .int .i64 py, .bool pd], .bool false, .bool false, .bool false, .pointer (some ⟨g, 0, none⟩), .pointer (some ⟨w.heap.size + 1, 3, none⟩), .agg #[.int .i64 fx, .int .i64 fy, .bool fd], .bool true, .bool false, .bool false, .pointer (some ⟨w.heap.size + 1, 3, none⟩), .agg #[.int .i64 fx, .int .i64 fy, .bool fd], .agg #[.int .i64 px, .int .i64 py, .bool pd], .agg #[.int .i64 x0, .int .i64 y0, .int .i64 x1, .int .i64 y1], .func (.func 130) #[] #[.pointer (some ⟨Bn, 0, none⟩)], .agg #[.int .i64 x.1, .int .i64 x.2], undef, undef, undef, undef], defers := [] })
    (fun x a' _ X Y row h hg hr => by
      obtain ⟨Bx, h1, h2, h3⟩ := h
      refine ⟨Bx, h1, (hg.block Bx (lt_of_heap h2) (fun e => ?_)).trans h2, h3⟩
      obtain ⟨o, ho, hc⟩ := (hr Bx e.symm).2
      rw [h2] at ho; cases ho; cases hc)
    ?assign ?body ?done ?stop
  case kb =>
    intro W' l o o' hl ho _ _
    exact (grownBy_putObj' W' l o').block _ (by have := (Array.getElem?_eq_some_iff.1 ho).1; omega) (fun e => by cases e; omega)
  case assign =>
    rintro l pre x V' K ⟨hb, hp⟩ hK
    simp only [encC]
    gi_wp2
    exact hK _ _ ((KeepsOthers.alloc _ _).from _) (alloc_old _ _ _ (by have := hb.size; omega)) ⟨below_new hb _, hp⟩ ⟨V'.heap.size, hb.size, heap_alloc_new _ _, rfl⟩
  case body =>
    rintro l pre x a' V' hl hr ⟨hb, hp⟩ ⟨Bx, hBx, hx, rfl⟩ hlt
    have d0 : V'.cell? ⟨w.heap.size, 0, none⟩ = some (.pointer (some ⟨g, 0, none⟩)) := cell_of ((hb.block _ (lt_of_heap O0)).trans O0) 0
    have dx0 : V'.cell? ⟨Bx, 0, none⟩ = some (.int .i64 x.1) := cell_of hx 0
    have dx1 : V'.cell? ⟨Bx, 1, none⟩ = some (.int .i64 x.2) := cell_of hx 1
    have cO := open_any g u W H us vp x.1 x.2 V' (hGV.go hb)
    have HP : Hid (∀ b, openU W H us x = b → (pre ++ [x]).all (openU W H us) = b) := fun b e => by rw [List.all_append, hp, Bool.true_and]; simp [e]
    have HX : Hid (openU W H us (x.1, x.2) = openU W H us x) := rfl
    cases ho : openU W H us (x.1, x.2)
    · rw [ho] at cO
      have HQ := HP.out false (by rw [← HX.out]; exact ho)
      gi_wp2_with (refine ⟨trivial, ?_⟩; gi_at_call 91; refine (CallsIn.inRound l (callsIn_wide.2 cO)).mono ?_; rintro e v1 ⟨rfl, b1⟩; have D2 := (b1.block _ (by have := hb.size; omega)).trans ((hb.block _ (lt_of_heap O2)).trans O2); have r3 : v1.cell? ⟨w.heap.size + 1 + 1, 0, none⟩ = some (.bool false) := cell_of D2 0; have z3 := frozen_of D2 0)
      exact ⟨(keeps_below _ b1).trans ((KeepsOthers.setCell _ _ _).from _), below_same (bcat hb b1 (Nat.le_refl _)) D2, HQ, rfl⟩
    · rw [ho] at cO
      have HQ := HP.out true (by rw [← HX.out]; exact ho)
      gi_wp2_with (refine ⟨trivial, ?_⟩; gi_at_call 91; refine (CallsIn.inRound l (callsIn_wide.2 cO)).mono ?_; rintro e v1 ⟨rfl, b1⟩)
      exact ⟨keeps_below _ b1, b1.block _ (by have := hb.size; omega), bcat hb b1 (Nat.le_refl _), HQ⟩
  case done =>
    rintro D ys V' hD hS ⟨hb, hp⟩ hK
    subst hS
    have D2 := (hb.block _ (lt_of_heap O2)).trans O2
    have r3 : V'.cell? ⟨w.heap.size + 1 + 1, 0, none⟩ = some (.bool false) := cell_of D2 0
    have z3 := frozen_of D2 0
    gi_wp2
    have hD2 : w.heap.size + 1 + 1 ≠ D := by omega
    have q1 : (V'.setCell ⟨w.heap.size + 1 + 1, 0, none⟩ (.bool true)).heap[D]? = some (.deferred (some [])) := (heap_setCell_other _ _ _ _ (fun e => hD2 e.symm)).trans hK
    refine ⟨by simp, .inl ⟨_, _, rfl, run_takeDeferred q1, ?_⟩⟩
    have gp := grownBy_putObj' (V'.setCell ⟨w.heap.size + 1 + 1, 0, none⟩ (.bool true)) D (.deferred none)
    have q2 := (gp.block _ (lt_of_heap (set_same (b := true) D2)) (fun e => by cases e; omega)).trans (set_same (b := true) D2)
    exact ⟨_, res_bool rfl rfl q2, by rw [hp], (below_set (bcat BV hb (by have := BV.size; omega)) (by omega) _ _).grown gp (by have := (below_set (bcat BV hb (by have := BV.size; omega)) (show w.heap.size ≤ w.heap.size + 1 + 1 by omega) 0 (.bool true)).size; exact this) (fun k e => by cases e; have := BV.size; omega)⟩
  case stop =>
    rintro D c pre V' hD hpre ⟨hb, hp, rfl⟩ hK
    have D2 := (hb.block _ (lt_of_heap O2)).trans O2
    gi_wp2
    refine ⟨by simp, .inl ⟨_, _, rfl, run_takeDeferred hK, ?_⟩⟩
    have gp := grownBy_putObj' V' D (.deferred none)
    have q2 := (gp.block _ (lt_of_heap D2) (fun e => by cases e; omega)).trans D2
    exact ⟨_, res_bool rfl rfl q2, by rw [all_pre hpre hp], (bcat BV hb (by have := BV.size; omega)).grown gp (by have := hb.size; have := BV.size; omega) (fun k e => by cases e; have := BV.size; omega)⟩
end Go.Proofs.Ytnaojlngdfolaaa.Grid
