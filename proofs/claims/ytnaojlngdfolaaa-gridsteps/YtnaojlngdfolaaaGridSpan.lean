/-
  The least box with the cells of two poses.
-/
import Derived.Test.YtnaojlngdfolaaaGridLeads
namespace Go.Proofs.Ytnaojlngdfolaaa.Grid
set_option linter.unusedVariables false
set_option linter.unusedSimpArgs false
open Go Go.RowKit

/- Both poses, and the box to be, in memory. -/
structure SpanIn (w : World) (ca cb : Array Value) (W : World) : Prop where
  below : Below w.heap.size w W
  a : W.heap[w.heap.size]? = some (.cells ca 30 (0, 0))
  b : W.heap[w.heap.size + 1]? = some (.cells cb 30 (0, 0))
  r : W.heap[w.heap.size + 2]? = some (.cells #[.int .i64 0, .int .i64 0, .int .i64 0, .int .i64 0] 126 (0, 0))
  sz : w.heap.size + 3 ≤ W.heap.size
theorem SpanIn.go {w : World} {ca cb : Array Value} {W W' : World} (h : SpanIn w ca cb W) (hb : Below W.heap.size W W') : SpanIn w ca cb W' :=
  ⟨bcat h.below hb (by have := h.sz; omega), (hb.block _ (lt_of_heap h.a)).trans h.a, (hb.block _ (lt_of_heap h.b)).trans h.b, (hb.block _ (lt_of_heap h.r)).trans h.r, Nat.le_trans h.sz hb.size⟩
theorem SpanIn.alloc {w : World} {ca cb : Array Value} {W : World} (h : SpanIn w ca cb W) (o : Obj) : SpanIn w ca cb (W.alloc o) := h.go (below_new (Below.refl _ _) _)
theorem SpanIn.setRow {w : World} {ca cb : Array Value} {W : World} (h : SpanIn w ca cb W) (cs : Array Value) {g : Nat} (hg : w.heap.size + 3 ≤ g) : SpanIn w ca cb (W.setRow g cs) :=
  ⟨below_row h.below (by omega) _, (setRow_other _ _ _ _ (by omega)).trans h.a, (setRow_other _ _ _ _ (by omega)).trans h.b, (setRow_other _ _ _ _ (by omega)).trans h.r, by rw [setRow_size]; exact h.sz⟩
theorem info_box : (Try.prog.info? 126).map (·.size) = some 4 := by kernel_rfl
theorem second_call (x y : Int) (d : Bool) (cx cy : Int) (e1 : (second ((x, y), d)).1 = cx) (e2 : (second ((x, y), d)).2 = cy) (w : World) : Calls Try.prog 125 #[.agg #[.int .i64 x, .int .i64 y, .bool d]] w fun e w' => ∃ v, e = .returned v ∧ v = .agg #[.int .i64 cx, .int .i64 cy] ∧ Below w.heap.size w w' := by
  subst e1 e2
  refine (second_any x y d w).mono ?_
  rintro e w' ⟨rfl, b⟩
  exact ⟨_, rfl, rfl, b⟩
def spanP (a b : Pose) : Cell × Cell := ((min a.1.1 b.1.1, min a.1.2 b.1.2), (max (second a).1 (second b).1, max (second a).2 (second b).2))
set_option maxRecDepth 100000 in
set_option maxHeartbeats 4000000 in
theorem span_any (ax ay : Int) (ad : Bool) (bx by_ : Int) (bd : Bool) (w : World) :
    Calls Try.prog 89 #[.agg #[.int .i64 ax, .int .i64 ay, .bool ad], .agg #[.int .i64 bx, .int .i64 by_, .bool bd]] w fun e w' => e = .returned (.agg #[.int .i64 (spanP ((ax, ay), ad) ((bx, by_), bd)).1.1, .int .i64 (spanP ((ax, ay), ad) ((bx, by_), bd)).1.2, .int .i64 (spanP ((ax, ay), ad) ((bx, by_), bd)).2.1, .int .i64 (spanP ((ax, ay), ad) ((bx, by_), bd)).2.2]) ∧ Below w.heap.size w w' := by
  unfold spanP
  simp only
  have cA := fun u => second_call ax ay ad _ _ rfl rfl u
  have cB := fun u => second_call bx by_ bd _ _ rfl rfl u
  generalize (second ((ax, ay), ad)).1 = cx at *
  generalize (second ((ax, ay), ad)).2 = cy at *
  generalize (second ((bx, by_), bd)).1 = dx at *
  generalize (second ((bx, by_), bd)).2 = dy at *
  have S0 : SpanIn w #[.int .i64 ax, .int .i64 ay, .bool ad] #[.int .i64 bx, .int .i64 by_, .bool bd] (((w.alloc (.cells #[.int .i64 ax, .int .i64 ay, .bool ad] 30)).alloc (.cells #[.int .i64 bx, .int .i64 by_, .bool bd] 30)).alloc (.cells #[.int .i64 0, .int .i64 0, .int .i64 0, .int .i64 0] 126)) := by
    refine ⟨below_new (below_two _ _ _) _, (alloc_old _ _ _ (by simp; omega)).trans ((alloc_old _ _ _ (by simp)).trans (heap_alloc_new w _)), (alloc_old _ _ _ (by simp)).trans (heap_new2 _ _ _), ?_, by simp⟩
    have := heap_alloc_new ((w.alloc (.cells #[.int .i64 ax, .int .i64 ay, .bool ad] 30)).alloc (.cells #[.int .i64 bx, .int .i64 by_, .bool bd] 30)) (.cells #[.int .i64 0, .int .i64 0, .int .i64 0, .int .i64 0] 126)
    rwa [show ((w.alloc (.cells #[.int .i64 ax, .int .i64 ay, .bool ad] 30)).alloc (.cells #[.int .i64 bx, .int .i64 by_, .bool bd] 30)).heap.size = w.heap.size + 2 by simp] at this
  have ka0 : ∀ u, SpanIn w #[.int .i64 ax, .int .i64 ay, .bool ad] #[.int .i64 bx, .int .i64 by_, .bool bd] u → u.cell? ⟨w.heap.size, 0, none⟩ = some (.int .i64 ax) := fun u h => cell_of h.a 0
  have ka1 : ∀ u, SpanIn w #[.int .i64 ax, .int .i64 ay, .bool ad] #[.int .i64 bx, .int .i64 by_, .bool bd] u → u.cell? ⟨w.heap.size, 1, none⟩ = some (.int .i64 ay) := fun u h => cell_of h.a 1
  have ka2 : ∀ u, SpanIn w #[.int .i64 ax, .int .i64 ay, .bool ad] #[.int .i64 bx, .int .i64 by_, .bool bd] u → u.cell? ⟨w.heap.size, 2, none⟩ = some (.bool ad) := fun u h => cell_of h.a 2
  have kb0 : ∀ u, SpanIn w #[.int .i64 ax, .int .i64 ay, .bool ad] #[.int .i64 bx, .int .i64 by_, .bool bd] u → u.cell? ⟨w.heap.size + 1, 0, none⟩ = some (.int .i64 bx) := fun u h => cell_of h.b 0
  have kb1 : ∀ u, SpanIn w #[.int .i64 ax, .int .i64 ay, .bool ad] #[.int .i64 bx, .int .i64 by_, .bool bd] u → u.cell? ⟨w.heap.size + 1, 1, none⟩ = some (.int .i64 by_) := fun u h => cell_of h.b 1
  have kb2 : ∀ u, SpanIn w #[.int .i64 ax, .int .i64 ay, .bool ad] #[.int .i64 bx, .int .i64 by_, .bool bd] u → u.cell? ⟨w.heap.size + 1, 2, none⟩ = some (.bool bd) := fun u h => cell_of h.b 2
  go_enter Try.func89, Try.ntmps89
  go_wp2
  generalize hQ : Exit.then _ _ = QQ
  have rest : ∀ (W5 : World) (c5 c6 : Nat), SpanIn w #[.int .i64 ax, .int .i64 ay, .bool ad] #[.int .i64 bx, .int .i64 by_, .bool bd] W5 → W5.heap[c5]? = some (.cells #[.int .i64 cx, .int .i64 cy] 28 (0, 0)) → W5.heap[c6]? = some (.cells #[.int .i64 dx, .int .i64 dy] 28 (0, 0)) → QQ .normal ⟨#[.agg #[.int .i64 ax, .int .i64 ay, .bool ad], .agg #[.int .i64 bx, .int .i64 by_, .bool bd], .pointer (some ⟨w.heap.size, 0, none⟩), .pointer (some ⟨w.heap.size + 1, 0, none⟩), .pointer (some ⟨w.heap.size + 2, 0, none⟩), .pointer (some ⟨c5, 0, none⟩), .pointer (some ⟨c6, 0, none⟩), .agg #[.int .i64 ax, .int .i64 ay, .bool ad], .agg #[.int .i64 cx, .int .i64 cy], .agg #[.int .i64 bx, .int .i64 by_, .bool bd], .agg #[.int .i64 dx, .int .i64 dy], undef, undef, undef, undef, undef, undef, undef, undef, undef, undef, undef, undef, undef, undef, undef, undef, undef, undef, undef, undef, undef, undef, undef, undef, undef, undef, undef], []⟩ W5 := by
    intro W5 c5 c6 hs h5 h6
    have a0 := ka0 _ hs
    have a1 := ka1 _ hs
    have b0 := kb0 _ hs
    have b1 := kb1 _ hs
    have s0 := (cell_of h5 0).trans rfl
    have s1 := (cell_of h5 1).trans rfl
    have t0 := (cell_of h6 0).trans rfl
    have t1 := (cell_of h6 1).trans rfl
    rw [← hQ]
    go_wp2_with (refine wpList_store_row rfl 126 (.tmp 4) (.tmp 37) rfl (w.heap.size + 2) #[.int .i64 (min ax bx), .int .i64 (min ay by_), .int .i64 (max cx dx), .int .i64 (max cy dy)] rfl rfl 126 #[.int .i64 0, .int .i64 0, .int .i64 0, .int .i64 0] hs.r info_box rfl (by simp [Value.oneCell']) ?_)
    exact bodyPost_ret (results_cell_row rfl _ _ (w.heap.size + 2) 126 _ (0, 0) _ rfl (setRow_heap _ _ _ _ _ _ hs.r) Try.underlying126 rfl info_box) rfl ⟨rfl, below_row hs.below (by omega) _⟩
  refine start_held (S := SpanIn w #[.int .i64 ax, .int .i64 ay, .bool ad] #[.int .i64 bx, .int .i64 by_, .bool bd]) 8 rfl (by kernel_rfl) (S0.go (Below.refl _ _).drew) ?_
  simp only [Array.replicate_succ, Array.replicate_zero, List.push_toArray, List.nil_append, List.cons_append]
  have S1 := S0.go (Below.refl _ _).drew
  generalize hW0 : (((w.alloc (.cells #[.int .i64 ax, .int .i64 ay, .bool ad] 30)).alloc (.cells #[.int .i64 bx, .int .i64 by_, .bool bd] 30)).alloc (.cells #[.int .i64 0, .int .i64 0, .int .i64 0, .int .i64 0] 126)).drew = W0 at *
  refine take_held 0 (by assumption) rfl (by kernel_rfl) (by kernel_rfl) (by kernel_rfl) (fun _ _ _ h => by rw [← hQ] at h ⊢; exact h) (by kernel_rfl) (v := ?v0) ?y0 ?r0
  case y0 => (intro u hu; have z0 := ka0 u hu; have z1 := ka1 u hu; have z2 := ka2 u hu; go_simp; try rfl)
  simp only [Act.put, List.setIfInBounds_toArray, List.set_cons_zero, List.set_cons_succ]
  refine take_held 2 (by assumption) rfl (by kernel_rfl) (by kernel_rfl) (by kernel_rfl) (fun _ _ _ h => by rw [← hQ] at h ⊢; exact h) (by kernel_rfl) (v := ?v1) ?y1 ?r1
  case y1 => (intro u hu; have z0 := kb0 u hu; have z1 := kb1 u hu; have z2 := kb2 u hu; go_simp; try rfl)
  simp only [Act.put, List.setIfInBounds_toArray, List.set_cons_zero, List.set_cons_succ]
  refine wpAnyH_ready (rs := [1, 4, 5]) (by kernel_rfl) (by simp) (AllReadyH.cons ((nth_eq _ 1).trans rfl) ?_ (AllReadyH.cons ((nth_eq _ 4).trans rfl) ?_ (AllReadyH.cons ((nth_eq _ 5).trans rfl) ?_ AllReadyH.nil)))
  · intro K' hK
    refine call_in hK (by kernel_rfl) 125 #[.agg #[.int .i64 ax, .int .i64 ay, .bool ad]] (by go_simp) _ (cA W0) ?_
    rintro v u0 ⟨rfl, b0⟩
    have S0 := S1.go b0
    refine ⟨S0, ?_⟩
    simp only [Act.put, List.setIfInBounds_toArray, List.set_cons_zero, List.set_cons_succ]
    refine wpAnyH_ready (rs := [3, 4, 5]) (by kernel_rfl) (by simp) (AllReadyH.cons ((nth_eq _ 3).trans rfl) ?_ (AllReadyH.cons ((nth_eq _ 4).trans rfl) ?_ (AllReadyH.cons ((nth_eq _ 5).trans rfl) ?_ AllReadyH.nil)))
    · intro K' hK
      refine call_in hK (by kernel_rfl) 125 #[.agg #[.int .i64 bx, .int .i64 by_, .bool bd]] (by go_simp) _ (cB u0) ?_
      rintro v u1 ⟨rfl, b1⟩
      have S1 := S0.go b1
      refine ⟨S1, ?_⟩
      simp only [Act.put, List.setIfInBounds_toArray, List.set_cons_zero, List.set_cons_succ]
      refine wpAnyH_ready (rs := [4, 5]) (by kernel_rfl) (by simp) (AllReadyH.cons ((nth_eq _ 4).trans rfl) ?_ (AllReadyH.cons ((nth_eq _ 5).trans rfl) ?_ AllReadyH.nil))
      · intro K' hK
        have S2 := S1.alloc (.cells #[.int .i64 0, .int .i64 0] 28)
        refine value_in hK (by kernel_rfl) (.pointer (some ⟨u1.heap.size, 0, none⟩)) (u1.alloc (.cells #[.int .i64 0, .int .i64 0] 28)) (by go_simp; try rfl) S2 ?_
        simp only [Act.put, List.setIfInBounds_toArray, List.set_cons_zero, List.set_cons_succ]
        have h4_2 : (u1.alloc (.cells #[.int .i64 0, .int .i64 0] 28)).heap[u1.heap.size]? = some (.cells #[.int .i64 0, .int .i64 0] 28 (0, 0)) := heap_alloc_new _ _
        have g4_2 := S1.sz
        generalize hz2 : u1.heap.size = z2 at *
        generalize hW2 : (u1.alloc (.cells #[.int .i64 0, .int .i64 0] 28)) = u2 at *
        clear hW2
        refine wpAnyH_ready (rs := [5]) (by kernel_rfl) (by simp) (AllReadyH.cons ((nth_eq _ 5).trans rfl) ?_ AllReadyH.nil)
        · intro K' hK
          have S3 := S2.alloc (.cells #[.int .i64 0, .int .i64 0] 28)
          refine value_in hK (by kernel_rfl) (.pointer (some ⟨u2.heap.size, 0, none⟩)) (u2.alloc (.cells #[.int .i64 0, .int .i64 0] 28)) (by go_simp; try rfl) S3 ?_
          simp only [Act.put, List.setIfInBounds_toArray, List.set_cons_zero, List.set_cons_succ]
          have h5_3 : (u2.alloc (.cells #[.int .i64 0, .int .i64 0] 28)).heap[u2.heap.size]? = some (.cells #[.int .i64 0, .int .i64 0] 28 (0, 0)) := heap_alloc_new _ _
          have g5_3 := S2.sz
          have h4_3 := (alloc_old u2 (.cells #[.int .i64 0, .int .i64 0] 28) _ (lt_of_heap h4_2)).trans h4_2
          have ne3 : u2.heap.size ≠ z2 := Nat.ne_of_gt (lt_of_heap h4_2)
          generalize hz3 : u2.heap.size = z3 at *
          generalize hW3 : (u2.alloc (.cells #[.int .i64 0, .int .i64 0] 28)) = u3 at *
          clear hW3
          have st6 : (storeVar 28 ⟨z2, 0, none⟩ (.agg #[.int .i64 cx, .int .i64 cy])).run Try.prog u3 = .ok () (u3.setRow z2 #[.int .i64 cx, .int .i64 cy]) := run_storeVar_row _ _ 28 _ #[.int .i64 0, .int .i64 0] _ h4_3 info_cell rfl (by simp [Value.oneCell'])
          have hs6 := S3.setRow #[.int .i64 cx, .int .i64 cy] (g := z2) g4_2
          refine store_held 6 rfl (by kernel_rfl) (by kernel_rfl) _ (run_store_op 28 (.tmp 5) (.tmp 8) rfl z2 _ rfl rfl st6) hs6 ?_
          simp only [Act.put, List.setIfInBounds_toArray, List.set_cons_zero, List.set_cons_succ]
          have h56 : z3 ≠ z2 := ne3
          have m5 := (setRow_other u3 z2 z3 #[.int .i64 cx, .int .i64 cy] h56).trans h5_3
          have m4 := setRow_heap u3 z2 _ #[.int .i64 cx, .int .i64 cy] _ _ h4_3
          have st7 : (storeVar 28 ⟨z3, 0, none⟩ (.agg #[.int .i64 dx, .int .i64 dy])).run Try.prog (u3.setRow z2 #[.int .i64 cx, .int .i64 cy]) = .ok () ((u3.setRow z2 #[.int .i64 cx, .int .i64 cy]).setRow z3 #[.int .i64 dx, .int .i64 dy]) := run_storeVar_row _ _ 28 _ #[.int .i64 0, .int .i64 0] _ m5 info_cell rfl (by simp [Value.oneCell'])
          have hs7 := hs6.setRow #[.int .i64 dx, .int .i64 dy] (g := z3) g5_3
          refine store_held 7 rfl (by kernel_rfl) (by kernel_rfl) _ (run_store_op 28 (.tmp 6) (.tmp 10) rfl z3 _ rfl rfl st7) hs7 ?_
          simp only [Act.put, List.setIfInBounds_toArray, List.set_cons_zero, List.set_cons_succ]
          refine done_held (by kernel_rfl) ?_ _
          exact rest _ z2 z3 hs7 ((setRow_other _ _ _ _ h56.symm).trans m4) (setRow_heap _ _ _ _ _ _ m5)
      · intro K' hK
        have S5 := S1.alloc (.cells #[.int .i64 0, .int .i64 0] 28)
        refine value_in hK (by kernel_rfl) (.pointer (some ⟨u1.heap.size, 0, none⟩)) (u1.alloc (.cells #[.int .i64 0, .int .i64 0] 28)) (by go_simp; try rfl) S5 ?_
        simp only [Act.put, List.setIfInBounds_toArray, List.set_cons_zero, List.set_cons_succ]
        have h5_5 : (u1.alloc (.cells #[.int .i64 0, .int .i64 0] 28)).heap[u1.heap.size]? = some (.cells #[.int .i64 0, .int .i64 0] 28 (0, 0)) := heap_alloc_new _ _
        have g5_5 := S1.sz
        generalize hz5 : u1.heap.size = z5 at *
        generalize hW5 : (u1.alloc (.cells #[.int .i64 0, .int .i64 0] 28)) = u5 at *
        clear hW5
        refine wpAnyH_ready (rs := [4]) (by kernel_rfl) (by simp) (AllReadyH.cons ((nth_eq _ 4).trans rfl) ?_ AllReadyH.nil)
        · intro K' hK
          have S6 := S5.alloc (.cells #[.int .i64 0, .int .i64 0] 28)
          refine value_in hK (by kernel_rfl) (.pointer (some ⟨u5.heap.size, 0, none⟩)) (u5.alloc (.cells #[.int .i64 0, .int .i64 0] 28)) (by go_simp; try rfl) S6 ?_
          simp only [Act.put, List.setIfInBounds_toArray, List.set_cons_zero, List.set_cons_succ]
          have h4_6 : (u5.alloc (.cells #[.int .i64 0, .int .i64 0] 28)).heap[u5.heap.size]? = some (.cells #[.int .i64 0, .int .i64 0] 28 (0, 0)) := heap_alloc_new _ _
          have g4_6 := S5.sz
          have h5_6 := (alloc_old u5 (.cells #[.int .i64 0, .int .i64 0] 28) _ (lt_of_heap h5_5)).trans h5_5
          have ne6 : z5 ≠ u5.heap.size := Nat.ne_of_lt (lt_of_heap h5_5)
          generalize hz6 : u5.heap.size = z6 at *
          generalize hW6 : (u5.alloc (.cells #[.int .i64 0, .int .i64 0] 28)) = u6 at *
          clear hW6
          have st6 : (storeVar 28 ⟨z6, 0, none⟩ (.agg #[.int .i64 cx, .int .i64 cy])).run Try.prog u6 = .ok () (u6.setRow z6 #[.int .i64 cx, .int .i64 cy]) := run_storeVar_row _ _ 28 _ #[.int .i64 0, .int .i64 0] _ h4_6 info_cell rfl (by simp [Value.oneCell'])
          have hs6 := S6.setRow #[.int .i64 cx, .int .i64 cy] (g := z6) g4_6
          refine store_held 6 rfl (by kernel_rfl) (by kernel_rfl) _ (run_store_op 28 (.tmp 5) (.tmp 8) rfl z6 _ rfl rfl st6) hs6 ?_
          simp only [Act.put, List.setIfInBounds_toArray, List.set_cons_zero, List.set_cons_succ]
          have h56 : z5 ≠ z6 := ne6
          have m5 := (setRow_other u6 z6 z5 #[.int .i64 cx, .int .i64 cy] h56).trans h5_6
          have m4 := setRow_heap u6 z6 _ #[.int .i64 cx, .int .i64 cy] _ _ h4_6
          have st7 : (storeVar 28 ⟨z5, 0, none⟩ (.agg #[.int .i64 dx, .int .i64 dy])).run Try.prog (u6.setRow z6 #[.int .i64 cx, .int .i64 cy]) = .ok () ((u6.setRow z6 #[.int .i64 cx, .int .i64 cy]).setRow z5 #[.int .i64 dx, .int .i64 dy]) := run_storeVar_row _ _ 28 _ #[.int .i64 0, .int .i64 0] _ m5 info_cell rfl (by simp [Value.oneCell'])
          have hs7 := hs6.setRow #[.int .i64 dx, .int .i64 dy] (g := z5) g5_5
          refine store_held 7 rfl (by kernel_rfl) (by kernel_rfl) _ (run_store_op 28 (.tmp 6) (.tmp 10) rfl z5 _ rfl rfl st7) hs7 ?_
          simp only [Act.put, List.setIfInBounds_toArray, List.set_cons_zero, List.set_cons_succ]
          refine done_held (by kernel_rfl) ?_ _
          exact rest _ z6 z5 hs7 ((setRow_other _ _ _ _ h56.symm).trans m4) (setRow_heap _ _ _ _ _ _ m5)
    · intro K' hK
      have S8 := S0.alloc (.cells #[.int .i64 0, .int .i64 0] 28)
      refine value_in hK (by kernel_rfl) (.pointer (some ⟨u0.heap.size, 0, none⟩)) (u0.alloc (.cells #[.int .i64 0, .int .i64 0] 28)) (by go_simp; try rfl) S8 ?_
      simp only [Act.put, List.setIfInBounds_toArray, List.set_cons_zero, List.set_cons_succ]
      have h4_8 : (u0.alloc (.cells #[.int .i64 0, .int .i64 0] 28)).heap[u0.heap.size]? = some (.cells #[.int .i64 0, .int .i64 0] 28 (0, 0)) := heap_alloc_new _ _
      have g4_8 := S0.sz
      generalize hz8 : u0.heap.size = z8 at *
      generalize hW8 : (u0.alloc (.cells #[.int .i64 0, .int .i64 0] 28)) = u8 at *
      clear hW8
      refine wpAnyH_ready (rs := [3, 5]) (by kernel_rfl) (by simp) (AllReadyH.cons ((nth_eq _ 3).trans rfl) ?_ (AllReadyH.cons ((nth_eq _ 5).trans rfl) ?_ AllReadyH.nil))
      · intro K' hK
        refine call_in hK (by kernel_rfl) 125 #[.agg #[.int .i64 bx, .int .i64 by_, .bool bd]] (by go_simp) _ (cB u8) ?_
        rintro v u9 ⟨rfl, b9⟩
        have S9 := S8.go b9
        have h4_9 := (b9.block _ (lt_of_heap h4_8)).trans h4_8
        refine ⟨S9, ?_⟩
        simp only [Act.put, List.setIfInBounds_toArray, List.set_cons_zero, List.set_cons_succ]
        refine wpAnyH_ready (rs := [5]) (by kernel_rfl) (by simp) (AllReadyH.cons ((nth_eq _ 5).trans rfl) ?_ AllReadyH.nil)
        · intro K' hK
          have S10 := S9.alloc (.cells #[.int .i64 0, .int .i64 0] 28)
          refine value_in hK (by kernel_rfl) (.pointer (some ⟨u9.heap.size, 0, none⟩)) (u9.alloc (.cells #[.int .i64 0, .int .i64 0] 28)) (by go_simp; try rfl) S10 ?_
          simp only [Act.put, List.setIfInBounds_toArray, List.set_cons_zero, List.set_cons_succ]
          have h5_10 : (u9.alloc (.cells #[.int .i64 0, .int .i64 0] 28)).heap[u9.heap.size]? = some (.cells #[.int .i64 0, .int .i64 0] 28 (0, 0)) := heap_alloc_new _ _
          have g5_10 := S9.sz
          have h4_10 := (alloc_old u9 (.cells #[.int .i64 0, .int .i64 0] 28) _ (lt_of_heap h4_9)).trans h4_9
          have ne10 : u9.heap.size ≠ z8 := Nat.ne_of_gt (lt_of_heap h4_9)
          generalize hz10 : u9.heap.size = z10 at *
          generalize hW10 : (u9.alloc (.cells #[.int .i64 0, .int .i64 0] 28)) = u10 at *
          clear hW10
          have st6 : (storeVar 28 ⟨z8, 0, none⟩ (.agg #[.int .i64 cx, .int .i64 cy])).run Try.prog u10 = .ok () (u10.setRow z8 #[.int .i64 cx, .int .i64 cy]) := run_storeVar_row _ _ 28 _ #[.int .i64 0, .int .i64 0] _ h4_10 info_cell rfl (by simp [Value.oneCell'])
          have hs6 := S10.setRow #[.int .i64 cx, .int .i64 cy] (g := z8) g4_8
          refine store_held 6 rfl (by kernel_rfl) (by kernel_rfl) _ (run_store_op 28 (.tmp 5) (.tmp 8) rfl z8 _ rfl rfl st6) hs6 ?_
          simp only [Act.put, List.setIfInBounds_toArray, List.set_cons_zero, List.set_cons_succ]
          have h56 : z10 ≠ z8 := ne10
          have m5 := (setRow_other u10 z8 z10 #[.int .i64 cx, .int .i64 cy] h56).trans h5_10
          have m4 := setRow_heap u10 z8 _ #[.int .i64 cx, .int .i64 cy] _ _ h4_10
          have st7 : (storeVar 28 ⟨z10, 0, none⟩ (.agg #[.int .i64 dx, .int .i64 dy])).run Try.prog (u10.setRow z8 #[.int .i64 cx, .int .i64 cy]) = .ok () ((u10.setRow z8 #[.int .i64 cx, .int .i64 cy]).setRow z10 #[.int .i64 dx, .int .i64 dy]) := run_storeVar_row _ _ 28 _ #[.int .i64 0, .int .i64 0] _ m5 info_cell rfl (by simp [Value.oneCell'])
          have hs7 := hs6.setRow #[.int .i64 dx, .int .i64 dy] (g := z10) g5_10
          refine store_held 7 rfl (by kernel_rfl) (by kernel_rfl) _ (run_store_op 28 (.tmp 6) (.tmp 10) rfl z10 _ rfl rfl st7) hs7 ?_
          simp only [Act.put, List.setIfInBounds_toArray, List.set_cons_zero, List.set_cons_succ]
          refine done_held (by kernel_rfl) ?_ _
          exact rest _ z8 z10 hs7 ((setRow_other _ _ _ _ h56.symm).trans m4) (setRow_heap _ _ _ _ _ _ m5)
      · intro K' hK
        have S12 := S8.alloc (.cells #[.int .i64 0, .int .i64 0] 28)
        refine value_in hK (by kernel_rfl) (.pointer (some ⟨u8.heap.size, 0, none⟩)) (u8.alloc (.cells #[.int .i64 0, .int .i64 0] 28)) (by go_simp; try rfl) S12 ?_
        simp only [Act.put, List.setIfInBounds_toArray, List.set_cons_zero, List.set_cons_succ]
        have h5_12 : (u8.alloc (.cells #[.int .i64 0, .int .i64 0] 28)).heap[u8.heap.size]? = some (.cells #[.int .i64 0, .int .i64 0] 28 (0, 0)) := heap_alloc_new _ _
        have g5_12 := S8.sz
        have h4_12 := (alloc_old u8 (.cells #[.int .i64 0, .int .i64 0] 28) _ (lt_of_heap h4_8)).trans h4_8
        have ne12 : u8.heap.size ≠ z8 := Nat.ne_of_gt (lt_of_heap h4_8)
        generalize hz12 : u8.heap.size = z12 at *
        generalize hW12 : (u8.alloc (.cells #[.int .i64 0, .int .i64 0] 28)) = u12 at *
        clear hW12
        refine wpAnyH_ready (rs := [3]) (by kernel_rfl) (by simp) (AllReadyH.cons ((nth_eq _ 3).trans rfl) ?_ AllReadyH.nil)
        · intro K' hK
          refine call_in hK (by kernel_rfl) 125 #[.agg #[.int .i64 bx, .int .i64 by_, .bool bd]] (by go_simp) _ (cB u12) ?_
          rintro v u13 ⟨rfl, b13⟩
          have S13 := S12.go b13
          have h4_13 := (b13.block _ (lt_of_heap h4_12)).trans h4_12
          have h5_13 := (b13.block _ (lt_of_heap h5_12)).trans h5_12
          refine ⟨S13, ?_⟩
          simp only [Act.put, List.setIfInBounds_toArray, List.set_cons_zero, List.set_cons_succ]
          have st6 : (storeVar 28 ⟨z8, 0, none⟩ (.agg #[.int .i64 cx, .int .i64 cy])).run Try.prog u13 = .ok () (u13.setRow z8 #[.int .i64 cx, .int .i64 cy]) := run_storeVar_row _ _ 28 _ #[.int .i64 0, .int .i64 0] _ h4_13 info_cell rfl (by simp [Value.oneCell'])
          have hs6 := S13.setRow #[.int .i64 cx, .int .i64 cy] (g := z8) g4_8
          refine store_held 6 rfl (by kernel_rfl) (by kernel_rfl) _ (run_store_op 28 (.tmp 5) (.tmp 8) rfl z8 _ rfl rfl st6) hs6 ?_
          simp only [Act.put, List.setIfInBounds_toArray, List.set_cons_zero, List.set_cons_succ]
          have h56 : z12 ≠ z8 := ne12
          have m5 := (setRow_other u13 z8 z12 #[.int .i64 cx, .int .i64 cy] h56).trans h5_13
          have m4 := setRow_heap u13 z8 _ #[.int .i64 cx, .int .i64 cy] _ _ h4_13
          have st7 : (storeVar 28 ⟨z12, 0, none⟩ (.agg #[.int .i64 dx, .int .i64 dy])).run Try.prog (u13.setRow z8 #[.int .i64 cx, .int .i64 cy]) = .ok () ((u13.setRow z8 #[.int .i64 cx, .int .i64 cy]).setRow z12 #[.int .i64 dx, .int .i64 dy]) := run_storeVar_row _ _ 28 _ #[.int .i64 0, .int .i64 0] _ m5 info_cell rfl (by simp [Value.oneCell'])
          have hs7 := hs6.setRow #[.int .i64 dx, .int .i64 dy] (g := z12) g5_12
          refine store_held 7 rfl (by kernel_rfl) (by kernel_rfl) _ (run_store_op 28 (.tmp 6) (.tmp 10) rfl z12 _ rfl rfl st7) hs7 ?_
          simp only [Act.put, List.setIfInBounds_toArray, List.set_cons_zero, List.set_cons_succ]
          refine done_held (by kernel_rfl) ?_ _
          exact rest _ z8 z12 hs7 ((setRow_other _ _ _ _ h56.symm).trans m4) (setRow_heap _ _ _ _ _ _ m5)
    · intro K' hK
      have S15 := S0.alloc (.cells #[.int .i64 0, .int .i64 0] 28)
      refine value_in hK (by kernel_rfl) (.pointer (some ⟨u0.heap.size, 0, none⟩)) (u0.alloc (.cells #[.int .i64 0, .int .i64 0] 28)) (by go_simp; try rfl) S15 ?_
      simp only [Act.put, List.setIfInBounds_toArray, List.set_cons_zero, List.set_cons_succ]
      have h5_15 : (u0.alloc (.cells #[.int .i64 0, .int .i64 0] 28)).heap[u0.heap.size]? = some (.cells #[.int .i64 0, .int .i64 0] 28 (0, 0)) := heap_alloc_new _ _
      have g5_15 := S0.sz
      generalize hz15 : u0.heap.size = z15 at *
      generalize hW15 : (u0.alloc (.cells #[.int .i64 0, .int .i64 0] 28)) = u15 at *
      clear hW15
      refine wpAnyH_ready (rs := [3, 4]) (by kernel_rfl) (by simp) (AllReadyH.cons ((nth_eq _ 3).trans rfl) ?_ (AllReadyH.cons ((nth_eq _ 4).trans rfl) ?_ AllReadyH.nil))
      · intro K' hK
        refine call_in hK (by kernel_rfl) 125 #[.agg #[.int .i64 bx, .int .i64 by_, .bool bd]] (by go_simp) _ (cB u15) ?_
        rintro v u16 ⟨rfl, b16⟩
        have S16 := S15.go b16
        have h5_16 := (b16.block _ (lt_of_heap h5_15)).trans h5_15
        refine ⟨S16, ?_⟩
        simp only [Act.put, List.setIfInBounds_toArray, List.set_cons_zero, List.set_cons_succ]
        refine wpAnyH_ready (rs := [4]) (by kernel_rfl) (by simp) (AllReadyH.cons ((nth_eq _ 4).trans rfl) ?_ AllReadyH.nil)
        · intro K' hK
          have S17 := S16.alloc (.cells #[.int .i64 0, .int .i64 0] 28)
          refine value_in hK (by kernel_rfl) (.pointer (some ⟨u16.heap.size, 0, none⟩)) (u16.alloc (.cells #[.int .i64 0, .int .i64 0] 28)) (by go_simp; try rfl) S17 ?_
          simp only [Act.put, List.setIfInBounds_toArray, List.set_cons_zero, List.set_cons_succ]
          have h4_17 : (u16.alloc (.cells #[.int .i64 0, .int .i64 0] 28)).heap[u16.heap.size]? = some (.cells #[.int .i64 0, .int .i64 0] 28 (0, 0)) := heap_alloc_new _ _
          have g4_17 := S16.sz
          have h5_17 := (alloc_old u16 (.cells #[.int .i64 0, .int .i64 0] 28) _ (lt_of_heap h5_16)).trans h5_16
          have ne17 : z15 ≠ u16.heap.size := Nat.ne_of_lt (lt_of_heap h5_16)
          generalize hz17 : u16.heap.size = z17 at *
          generalize hW17 : (u16.alloc (.cells #[.int .i64 0, .int .i64 0] 28)) = u17 at *
          clear hW17
          have st6 : (storeVar 28 ⟨z17, 0, none⟩ (.agg #[.int .i64 cx, .int .i64 cy])).run Try.prog u17 = .ok () (u17.setRow z17 #[.int .i64 cx, .int .i64 cy]) := run_storeVar_row _ _ 28 _ #[.int .i64 0, .int .i64 0] _ h4_17 info_cell rfl (by simp [Value.oneCell'])
          have hs6 := S17.setRow #[.int .i64 cx, .int .i64 cy] (g := z17) g4_17
          refine store_held 6 rfl (by kernel_rfl) (by kernel_rfl) _ (run_store_op 28 (.tmp 5) (.tmp 8) rfl z17 _ rfl rfl st6) hs6 ?_
          simp only [Act.put, List.setIfInBounds_toArray, List.set_cons_zero, List.set_cons_succ]
          have h56 : z15 ≠ z17 := ne17
          have m5 := (setRow_other u17 z17 z15 #[.int .i64 cx, .int .i64 cy] h56).trans h5_17
          have m4 := setRow_heap u17 z17 _ #[.int .i64 cx, .int .i64 cy] _ _ h4_17
          have st7 : (storeVar 28 ⟨z15, 0, none⟩ (.agg #[.int .i64 dx, .int .i64 dy])).run Try.prog (u17.setRow z17 #[.int .i64 cx, .int .i64 cy]) = .ok () ((u17.setRow z17 #[.int .i64 cx, .int .i64 cy]).setRow z15 #[.int .i64 dx, .int .i64 dy]) := run_storeVar_row _ _ 28 _ #[.int .i64 0, .int .i64 0] _ m5 info_cell rfl (by simp [Value.oneCell'])
          have hs7 := hs6.setRow #[.int .i64 dx, .int .i64 dy] (g := z15) g5_15
          refine store_held 7 rfl (by kernel_rfl) (by kernel_rfl) _ (run_store_op 28 (.tmp 6) (.tmp 10) rfl z15 _ rfl rfl st7) hs7 ?_
          simp only [Act.put, List.setIfInBounds_toArray, List.set_cons_zero, List.set_cons_succ]
          refine done_held (by kernel_rfl) ?_ _
          exact rest _ z17 z15 hs7 ((setRow_other _ _ _ _ h56.symm).trans m4) (setRow_heap _ _ _ _ _ _ m5)
      · intro K' hK
        have S19 := S15.alloc (.cells #[.int .i64 0, .int .i64 0] 28)
        refine value_in hK (by kernel_rfl) (.pointer (some ⟨u15.heap.size, 0, none⟩)) (u15.alloc (.cells #[.int .i64 0, .int .i64 0] 28)) (by go_simp; try rfl) S19 ?_
        simp only [Act.put, List.setIfInBounds_toArray, List.set_cons_zero, List.set_cons_succ]
        have h4_19 : (u15.alloc (.cells #[.int .i64 0, .int .i64 0] 28)).heap[u15.heap.size]? = some (.cells #[.int .i64 0, .int .i64 0] 28 (0, 0)) := heap_alloc_new _ _
        have g4_19 := S15.sz
        have h5_19 := (alloc_old u15 (.cells #[.int .i64 0, .int .i64 0] 28) _ (lt_of_heap h5_15)).trans h5_15
        have ne19 : z15 ≠ u15.heap.size := Nat.ne_of_lt (lt_of_heap h5_15)
        generalize hz19 : u15.heap.size = z19 at *
        generalize hW19 : (u15.alloc (.cells #[.int .i64 0, .int .i64 0] 28)) = u19 at *
        clear hW19
        refine wpAnyH_ready (rs := [3]) (by kernel_rfl) (by simp) (AllReadyH.cons ((nth_eq _ 3).trans rfl) ?_ AllReadyH.nil)
        · intro K' hK
          refine call_in hK (by kernel_rfl) 125 #[.agg #[.int .i64 bx, .int .i64 by_, .bool bd]] (by go_simp) _ (cB u19) ?_
          rintro v u20 ⟨rfl, b20⟩
          have S20 := S19.go b20
          have h4_20 := (b20.block _ (lt_of_heap h4_19)).trans h4_19
          have h5_20 := (b20.block _ (lt_of_heap h5_19)).trans h5_19
          refine ⟨S20, ?_⟩
          simp only [Act.put, List.setIfInBounds_toArray, List.set_cons_zero, List.set_cons_succ]
          have st6 : (storeVar 28 ⟨z19, 0, none⟩ (.agg #[.int .i64 cx, .int .i64 cy])).run Try.prog u20 = .ok () (u20.setRow z19 #[.int .i64 cx, .int .i64 cy]) := run_storeVar_row _ _ 28 _ #[.int .i64 0, .int .i64 0] _ h4_20 info_cell rfl (by simp [Value.oneCell'])
          have hs6 := S20.setRow #[.int .i64 cx, .int .i64 cy] (g := z19) g4_19
          refine store_held 6 rfl (by kernel_rfl) (by kernel_rfl) _ (run_store_op 28 (.tmp 5) (.tmp 8) rfl z19 _ rfl rfl st6) hs6 ?_
          simp only [Act.put, List.setIfInBounds_toArray, List.set_cons_zero, List.set_cons_succ]
          have h56 : z15 ≠ z19 := ne19
          have m5 := (setRow_other u20 z19 z15 #[.int .i64 cx, .int .i64 cy] h56).trans h5_20
          have m4 := setRow_heap u20 z19 _ #[.int .i64 cx, .int .i64 cy] _ _ h4_20
          have st7 : (storeVar 28 ⟨z15, 0, none⟩ (.agg #[.int .i64 dx, .int .i64 dy])).run Try.prog (u20.setRow z19 #[.int .i64 cx, .int .i64 cy]) = .ok () ((u20.setRow z19 #[.int .i64 cx, .int .i64 cy]).setRow z15 #[.int .i64 dx, .int .i64 dy]) := run_storeVar_row _ _ 28 _ #[.int .i64 0, .int .i64 0] _ m5 info_cell rfl (by simp [Value.oneCell'])
          have hs7 := hs6.setRow #[.int .i64 dx, .int .i64 dy] (g := z15) g5_15
          refine store_held 7 rfl (by kernel_rfl) (by kernel_rfl) _ (run_store_op 28 (.tmp 6) (.tmp 10) rfl z15 _ rfl rfl st7) hs7 ?_
          simp only [Act.put, List.setIfInBounds_toArray, List.set_cons_zero, List.set_cons_succ]
          refine done_held (by kernel_rfl) ?_ _
          exact rest _ z19 z15 hs7 ((setRow_other _ _ _ _ h56.symm).trans m4) (setRow_heap _ _ _ _ _ _ m5)
  · intro K' hK
    have S22 := S1.alloc (.cells #[.int .i64 0, .int .i64 0] 28)
    refine value_in hK (by kernel_rfl) (.pointer (some ⟨W0.heap.size, 0, none⟩)) (W0.alloc (.cells #[.int .i64 0, .int .i64 0] 28)) (by go_simp; try rfl) S22 ?_
    simp only [Act.put, List.setIfInBounds_toArray, List.set_cons_zero, List.set_cons_succ]
    have h4_22 : (W0.alloc (.cells #[.int .i64 0, .int .i64 0] 28)).heap[W0.heap.size]? = some (.cells #[.int .i64 0, .int .i64 0] 28 (0, 0)) := heap_alloc_new _ _
    have g4_22 := S1.sz
    generalize hz22 : W0.heap.size = z22 at *
    generalize hW22 : (W0.alloc (.cells #[.int .i64 0, .int .i64 0] 28)) = u22 at *
    clear hW22
    refine wpAnyH_ready (rs := [1, 5]) (by kernel_rfl) (by simp) (AllReadyH.cons ((nth_eq _ 1).trans rfl) ?_ (AllReadyH.cons ((nth_eq _ 5).trans rfl) ?_ AllReadyH.nil))
    · intro K' hK
      refine call_in hK (by kernel_rfl) 125 #[.agg #[.int .i64 ax, .int .i64 ay, .bool ad]] (by go_simp) _ (cA u22) ?_
      rintro v u23 ⟨rfl, b23⟩
      have S23 := S22.go b23
      have h4_23 := (b23.block _ (lt_of_heap h4_22)).trans h4_22
      refine ⟨S23, ?_⟩
      simp only [Act.put, List.setIfInBounds_toArray, List.set_cons_zero, List.set_cons_succ]
      refine wpAnyH_ready (rs := [3, 5]) (by kernel_rfl) (by simp) (AllReadyH.cons ((nth_eq _ 3).trans rfl) ?_ (AllReadyH.cons ((nth_eq _ 5).trans rfl) ?_ AllReadyH.nil))
      · intro K' hK
        refine call_in hK (by kernel_rfl) 125 #[.agg #[.int .i64 bx, .int .i64 by_, .bool bd]] (by go_simp) _ (cB u23) ?_
        rintro v u24 ⟨rfl, b24⟩
        have S24 := S23.go b24
        have h4_24 := (b24.block _ (lt_of_heap h4_23)).trans h4_23
        refine ⟨S24, ?_⟩
        simp only [Act.put, List.setIfInBounds_toArray, List.set_cons_zero, List.set_cons_succ]
        refine wpAnyH_ready (rs := [5]) (by kernel_rfl) (by simp) (AllReadyH.cons ((nth_eq _ 5).trans rfl) ?_ AllReadyH.nil)
        · intro K' hK
          have S25 := S24.alloc (.cells #[.int .i64 0, .int .i64 0] 28)
          refine value_in hK (by kernel_rfl) (.pointer (some ⟨u24.heap.size, 0, none⟩)) (u24.alloc (.cells #[.int .i64 0, .int .i64 0] 28)) (by go_simp; try rfl) S25 ?_
          simp only [Act.put, List.setIfInBounds_toArray, List.set_cons_zero, List.set_cons_succ]
          have h5_25 : (u24.alloc (.cells #[.int .i64 0, .int .i64 0] 28)).heap[u24.heap.size]? = some (.cells #[.int .i64 0, .int .i64 0] 28 (0, 0)) := heap_alloc_new _ _
          have g5_25 := S24.sz
          have h4_25 := (alloc_old u24 (.cells #[.int .i64 0, .int .i64 0] 28) _ (lt_of_heap h4_24)).trans h4_24
          have ne25 : u24.heap.size ≠ z22 := Nat.ne_of_gt (lt_of_heap h4_24)
          generalize hz25 : u24.heap.size = z25 at *
          generalize hW25 : (u24.alloc (.cells #[.int .i64 0, .int .i64 0] 28)) = u25 at *
          clear hW25
          have st6 : (storeVar 28 ⟨z22, 0, none⟩ (.agg #[.int .i64 cx, .int .i64 cy])).run Try.prog u25 = .ok () (u25.setRow z22 #[.int .i64 cx, .int .i64 cy]) := run_storeVar_row _ _ 28 _ #[.int .i64 0, .int .i64 0] _ h4_25 info_cell rfl (by simp [Value.oneCell'])
          have hs6 := S25.setRow #[.int .i64 cx, .int .i64 cy] (g := z22) g4_22
          refine store_held 6 rfl (by kernel_rfl) (by kernel_rfl) _ (run_store_op 28 (.tmp 5) (.tmp 8) rfl z22 _ rfl rfl st6) hs6 ?_
          simp only [Act.put, List.setIfInBounds_toArray, List.set_cons_zero, List.set_cons_succ]
          have h56 : z25 ≠ z22 := ne25
          have m5 := (setRow_other u25 z22 z25 #[.int .i64 cx, .int .i64 cy] h56).trans h5_25
          have m4 := setRow_heap u25 z22 _ #[.int .i64 cx, .int .i64 cy] _ _ h4_25
          have st7 : (storeVar 28 ⟨z25, 0, none⟩ (.agg #[.int .i64 dx, .int .i64 dy])).run Try.prog (u25.setRow z22 #[.int .i64 cx, .int .i64 cy]) = .ok () ((u25.setRow z22 #[.int .i64 cx, .int .i64 cy]).setRow z25 #[.int .i64 dx, .int .i64 dy]) := run_storeVar_row _ _ 28 _ #[.int .i64 0, .int .i64 0] _ m5 info_cell rfl (by simp [Value.oneCell'])
          have hs7 := hs6.setRow #[.int .i64 dx, .int .i64 dy] (g := z25) g5_25
          refine store_held 7 rfl (by kernel_rfl) (by kernel_rfl) _ (run_store_op 28 (.tmp 6) (.tmp 10) rfl z25 _ rfl rfl st7) hs7 ?_
          simp only [Act.put, List.setIfInBounds_toArray, List.set_cons_zero, List.set_cons_succ]
          refine done_held (by kernel_rfl) ?_ _
          exact rest _ z22 z25 hs7 ((setRow_other _ _ _ _ h56.symm).trans m4) (setRow_heap _ _ _ _ _ _ m5)
      · intro K' hK
        have S27 := S23.alloc (.cells #[.int .i64 0, .int .i64 0] 28)
        refine value_in hK (by kernel_rfl) (.pointer (some ⟨u23.heap.size, 0, none⟩)) (u23.alloc (.cells #[.int .i64 0, .int .i64 0] 28)) (by go_simp; try rfl) S27 ?_
        simp only [Act.put, List.setIfInBounds_toArray, List.set_cons_zero, List.set_cons_succ]
        have h5_27 : (u23.alloc (.cells #[.int .i64 0, .int .i64 0] 28)).heap[u23.heap.size]? = some (.cells #[.int .i64 0, .int .i64 0] 28 (0, 0)) := heap_alloc_new _ _
        have g5_27 := S23.sz
        have h4_27 := (alloc_old u23 (.cells #[.int .i64 0, .int .i64 0] 28) _ (lt_of_heap h4_23)).trans h4_23
        have ne27 : u23.heap.size ≠ z22 := Nat.ne_of_gt (lt_of_heap h4_23)
        generalize hz27 : u23.heap.size = z27 at *
        generalize hW27 : (u23.alloc (.cells #[.int .i64 0, .int .i64 0] 28)) = u27 at *
        clear hW27
        refine wpAnyH_ready (rs := [3]) (by kernel_rfl) (by simp) (AllReadyH.cons ((nth_eq _ 3).trans rfl) ?_ AllReadyH.nil)
        · intro K' hK
          refine call_in hK (by kernel_rfl) 125 #[.agg #[.int .i64 bx, .int .i64 by_, .bool bd]] (by go_simp) _ (cB u27) ?_
          rintro v u28 ⟨rfl, b28⟩
          have S28 := S27.go b28
          have h4_28 := (b28.block _ (lt_of_heap h4_27)).trans h4_27
          have h5_28 := (b28.block _ (lt_of_heap h5_27)).trans h5_27
          refine ⟨S28, ?_⟩
          simp only [Act.put, List.setIfInBounds_toArray, List.set_cons_zero, List.set_cons_succ]
          have st6 : (storeVar 28 ⟨z22, 0, none⟩ (.agg #[.int .i64 cx, .int .i64 cy])).run Try.prog u28 = .ok () (u28.setRow z22 #[.int .i64 cx, .int .i64 cy]) := run_storeVar_row _ _ 28 _ #[.int .i64 0, .int .i64 0] _ h4_28 info_cell rfl (by simp [Value.oneCell'])
          have hs6 := S28.setRow #[.int .i64 cx, .int .i64 cy] (g := z22) g4_22
          refine store_held 6 rfl (by kernel_rfl) (by kernel_rfl) _ (run_store_op 28 (.tmp 5) (.tmp 8) rfl z22 _ rfl rfl st6) hs6 ?_
          simp only [Act.put, List.setIfInBounds_toArray, List.set_cons_zero, List.set_cons_succ]
          have h56 : z27 ≠ z22 := ne27
          have m5 := (setRow_other u28 z22 z27 #[.int .i64 cx, .int .i64 cy] h56).trans h5_28
          have m4 := setRow_heap u28 z22 _ #[.int .i64 cx, .int .i64 cy] _ _ h4_28
          have st7 : (storeVar 28 ⟨z27, 0, none⟩ (.agg #[.int .i64 dx, .int .i64 dy])).run Try.prog (u28.setRow z22 #[.int .i64 cx, .int .i64 cy]) = .ok () ((u28.setRow z22 #[.int .i64 cx, .int .i64 cy]).setRow z27 #[.int .i64 dx, .int .i64 dy]) := run_storeVar_row _ _ 28 _ #[.int .i64 0, .int .i64 0] _ m5 info_cell rfl (by simp [Value.oneCell'])
          have hs7 := hs6.setRow #[.int .i64 dx, .int .i64 dy] (g := z27) g5_27
          refine store_held 7 rfl (by kernel_rfl) (by kernel_rfl) _ (run_store_op 28 (.tmp 6) (.tmp 10) rfl z27 _ rfl rfl st7) hs7 ?_
          simp only [Act.put, List.setIfInBounds_toArray, List.set_cons_zero, List.set_cons_succ]
          refine done_held (by kernel_rfl) ?_ _
          exact rest _ z22 z27 hs7 ((setRow_other _ _ _ _ h56.symm).trans m4) (setRow_heap _ _ _ _ _ _ m5)
    · intro K' hK
      have S30 := S22.alloc (.cells #[.int .i64 0, .int .i64 0] 28)
      refine value_in hK (by kernel_rfl) (.pointer (some ⟨u22.heap.size, 0, none⟩)) (u22.alloc (.cells #[.int .i64 0, .int .i64 0] 28)) (by go_simp; try rfl) S30 ?_
      simp only [Act.put, List.setIfInBounds_toArray, List.set_cons_zero, List.set_cons_succ]
      have h5_30 : (u22.alloc (.cells #[.int .i64 0, .int .i64 0] 28)).heap[u22.heap.size]? = some (.cells #[.int .i64 0, .int .i64 0] 28 (0, 0)) := heap_alloc_new _ _
      have g5_30 := S22.sz
      have h4_30 := (alloc_old u22 (.cells #[.int .i64 0, .int .i64 0] 28) _ (lt_of_heap h4_22)).trans h4_22
      have ne30 : u22.heap.size ≠ z22 := Nat.ne_of_gt (lt_of_heap h4_22)
      generalize hz30 : u22.heap.size = z30 at *
      generalize hW30 : (u22.alloc (.cells #[.int .i64 0, .int .i64 0] 28)) = u30 at *
      clear hW30
      refine wpAnyH_ready (rs := [1]) (by kernel_rfl) (by simp) (AllReadyH.cons ((nth_eq _ 1).trans rfl) ?_ AllReadyH.nil)
      · intro K' hK
        refine call_in hK (by kernel_rfl) 125 #[.agg #[.int .i64 ax, .int .i64 ay, .bool ad]] (by go_simp) _ (cA u30) ?_
        rintro v u31 ⟨rfl, b31⟩
        have S31 := S30.go b31
        have h4_31 := (b31.block _ (lt_of_heap h4_30)).trans h4_30
        have h5_31 := (b31.block _ (lt_of_heap h5_30)).trans h5_30
        refine ⟨S31, ?_⟩
        simp only [Act.put, List.setIfInBounds_toArray, List.set_cons_zero, List.set_cons_succ]
        refine wpAnyH_ready (rs := [3]) (by kernel_rfl) (by simp) (AllReadyH.cons ((nth_eq _ 3).trans rfl) ?_ AllReadyH.nil)
        · intro K' hK
          refine call_in hK (by kernel_rfl) 125 #[.agg #[.int .i64 bx, .int .i64 by_, .bool bd]] (by go_simp) _ (cB u31) ?_
          rintro v u32 ⟨rfl, b32⟩
          have S32 := S31.go b32
          have h4_32 := (b32.block _ (lt_of_heap h4_31)).trans h4_31
          have h5_32 := (b32.block _ (lt_of_heap h5_31)).trans h5_31
          refine ⟨S32, ?_⟩
          simp only [Act.put, List.setIfInBounds_toArray, List.set_cons_zero, List.set_cons_succ]
          have st6 : (storeVar 28 ⟨z22, 0, none⟩ (.agg #[.int .i64 cx, .int .i64 cy])).run Try.prog u32 = .ok () (u32.setRow z22 #[.int .i64 cx, .int .i64 cy]) := run_storeVar_row _ _ 28 _ #[.int .i64 0, .int .i64 0] _ h4_32 info_cell rfl (by simp [Value.oneCell'])
          have hs6 := S32.setRow #[.int .i64 cx, .int .i64 cy] (g := z22) g4_22
          refine store_held 6 rfl (by kernel_rfl) (by kernel_rfl) _ (run_store_op 28 (.tmp 5) (.tmp 8) rfl z22 _ rfl rfl st6) hs6 ?_
          simp only [Act.put, List.setIfInBounds_toArray, List.set_cons_zero, List.set_cons_succ]
          have h56 : z30 ≠ z22 := ne30
          have m5 := (setRow_other u32 z22 z30 #[.int .i64 cx, .int .i64 cy] h56).trans h5_32
          have m4 := setRow_heap u32 z22 _ #[.int .i64 cx, .int .i64 cy] _ _ h4_32
          have st7 : (storeVar 28 ⟨z30, 0, none⟩ (.agg #[.int .i64 dx, .int .i64 dy])).run Try.prog (u32.setRow z22 #[.int .i64 cx, .int .i64 cy]) = .ok () ((u32.setRow z22 #[.int .i64 cx, .int .i64 cy]).setRow z30 #[.int .i64 dx, .int .i64 dy]) := run_storeVar_row _ _ 28 _ #[.int .i64 0, .int .i64 0] _ m5 info_cell rfl (by simp [Value.oneCell'])
          have hs7 := hs6.setRow #[.int .i64 dx, .int .i64 dy] (g := z30) g5_30
          refine store_held 7 rfl (by kernel_rfl) (by kernel_rfl) _ (run_store_op 28 (.tmp 6) (.tmp 10) rfl z30 _ rfl rfl st7) hs7 ?_
          simp only [Act.put, List.setIfInBounds_toArray, List.set_cons_zero, List.set_cons_succ]
          refine done_held (by kernel_rfl) ?_ _
          exact rest _ z22 z30 hs7 ((setRow_other _ _ _ _ h56.symm).trans m4) (setRow_heap _ _ _ _ _ _ m5)
  · intro K' hK
    have S34 := S1.alloc (.cells #[.int .i64 0, .int .i64 0] 28)
    refine value_in hK (by kernel_rfl) (.pointer (some ⟨W0.heap.size, 0, none⟩)) (W0.alloc (.cells #[.int .i64 0, .int .i64 0] 28)) (by go_simp; try rfl) S34 ?_
    simp only [Act.put, List.setIfInBounds_toArray, List.set_cons_zero, List.set_cons_succ]
    have h5_34 : (W0.alloc (.cells #[.int .i64 0, .int .i64 0] 28)).heap[W0.heap.size]? = some (.cells #[.int .i64 0, .int .i64 0] 28 (0, 0)) := heap_alloc_new _ _
    have g5_34 := S1.sz
    generalize hz34 : W0.heap.size = z34 at *
    generalize hW34 : (W0.alloc (.cells #[.int .i64 0, .int .i64 0] 28)) = u34 at *
    clear hW34
    refine wpAnyH_ready (rs := [1, 4]) (by kernel_rfl) (by simp) (AllReadyH.cons ((nth_eq _ 1).trans rfl) ?_ (AllReadyH.cons ((nth_eq _ 4).trans rfl) ?_ AllReadyH.nil))
    · intro K' hK
      refine call_in hK (by kernel_rfl) 125 #[.agg #[.int .i64 ax, .int .i64 ay, .bool ad]] (by go_simp) _ (cA u34) ?_
      rintro v u35 ⟨rfl, b35⟩
      have S35 := S34.go b35
      have h5_35 := (b35.block _ (lt_of_heap h5_34)).trans h5_34
      refine ⟨S35, ?_⟩
      simp only [Act.put, List.setIfInBounds_toArray, List.set_cons_zero, List.set_cons_succ]
      refine wpAnyH_ready (rs := [3, 4]) (by kernel_rfl) (by simp) (AllReadyH.cons ((nth_eq _ 3).trans rfl) ?_ (AllReadyH.cons ((nth_eq _ 4).trans rfl) ?_ AllReadyH.nil))
      · intro K' hK
        refine call_in hK (by kernel_rfl) 125 #[.agg #[.int .i64 bx, .int .i64 by_, .bool bd]] (by go_simp) _ (cB u35) ?_
        rintro v u36 ⟨rfl, b36⟩
        have S36 := S35.go b36
        have h5_36 := (b36.block _ (lt_of_heap h5_35)).trans h5_35
        refine ⟨S36, ?_⟩
        simp only [Act.put, List.setIfInBounds_toArray, List.set_cons_zero, List.set_cons_succ]
        refine wpAnyH_ready (rs := [4]) (by kernel_rfl) (by simp) (AllReadyH.cons ((nth_eq _ 4).trans rfl) ?_ AllReadyH.nil)
        · intro K' hK
          have S37 := S36.alloc (.cells #[.int .i64 0, .int .i64 0] 28)
          refine value_in hK (by kernel_rfl) (.pointer (some ⟨u36.heap.size, 0, none⟩)) (u36.alloc (.cells #[.int .i64 0, .int .i64 0] 28)) (by go_simp; try rfl) S37 ?_
          simp only [Act.put, List.setIfInBounds_toArray, List.set_cons_zero, List.set_cons_succ]
          have h4_37 : (u36.alloc (.cells #[.int .i64 0, .int .i64 0] 28)).heap[u36.heap.size]? = some (.cells #[.int .i64 0, .int .i64 0] 28 (0, 0)) := heap_alloc_new _ _
          have g4_37 := S36.sz
          have h5_37 := (alloc_old u36 (.cells #[.int .i64 0, .int .i64 0] 28) _ (lt_of_heap h5_36)).trans h5_36
          have ne37 : z34 ≠ u36.heap.size := Nat.ne_of_lt (lt_of_heap h5_36)
          generalize hz37 : u36.heap.size = z37 at *
          generalize hW37 : (u36.alloc (.cells #[.int .i64 0, .int .i64 0] 28)) = u37 at *
          clear hW37
          have st6 : (storeVar 28 ⟨z37, 0, none⟩ (.agg #[.int .i64 cx, .int .i64 cy])).run Try.prog u37 = .ok () (u37.setRow z37 #[.int .i64 cx, .int .i64 cy]) := run_storeVar_row _ _ 28 _ #[.int .i64 0, .int .i64 0] _ h4_37 info_cell rfl (by simp [Value.oneCell'])
          have hs6 := S37.setRow #[.int .i64 cx, .int .i64 cy] (g := z37) g4_37
          refine store_held 6 rfl (by kernel_rfl) (by kernel_rfl) _ (run_store_op 28 (.tmp 5) (.tmp 8) rfl z37 _ rfl rfl st6) hs6 ?_
          simp only [Act.put, List.setIfInBounds_toArray, List.set_cons_zero, List.set_cons_succ]
          have h56 : z34 ≠ z37 := ne37
          have m5 := (setRow_other u37 z37 z34 #[.int .i64 cx, .int .i64 cy] h56).trans h5_37
          have m4 := setRow_heap u37 z37 _ #[.int .i64 cx, .int .i64 cy] _ _ h4_37
          have st7 : (storeVar 28 ⟨z34, 0, none⟩ (.agg #[.int .i64 dx, .int .i64 dy])).run Try.prog (u37.setRow z37 #[.int .i64 cx, .int .i64 cy]) = .ok () ((u37.setRow z37 #[.int .i64 cx, .int .i64 cy]).setRow z34 #[.int .i64 dx, .int .i64 dy]) := run_storeVar_row _ _ 28 _ #[.int .i64 0, .int .i64 0] _ m5 info_cell rfl (by simp [Value.oneCell'])
          have hs7 := hs6.setRow #[.int .i64 dx, .int .i64 dy] (g := z34) g5_34
          refine store_held 7 rfl (by kernel_rfl) (by kernel_rfl) _ (run_store_op 28 (.tmp 6) (.tmp 10) rfl z34 _ rfl rfl st7) hs7 ?_
          simp only [Act.put, List.setIfInBounds_toArray, List.set_cons_zero, List.set_cons_succ]
          refine done_held (by kernel_rfl) ?_ _
          exact rest _ z37 z34 hs7 ((setRow_other _ _ _ _ h56.symm).trans m4) (setRow_heap _ _ _ _ _ _ m5)
      · intro K' hK
        have S39 := S35.alloc (.cells #[.int .i64 0, .int .i64 0] 28)
        refine value_in hK (by kernel_rfl) (.pointer (some ⟨u35.heap.size, 0, none⟩)) (u35.alloc (.cells #[.int .i64 0, .int .i64 0] 28)) (by go_simp; try rfl) S39 ?_
        simp only [Act.put, List.setIfInBounds_toArray, List.set_cons_zero, List.set_cons_succ]
        have h4_39 : (u35.alloc (.cells #[.int .i64 0, .int .i64 0] 28)).heap[u35.heap.size]? = some (.cells #[.int .i64 0, .int .i64 0] 28 (0, 0)) := heap_alloc_new _ _
        have g4_39 := S35.sz
        have h5_39 := (alloc_old u35 (.cells #[.int .i64 0, .int .i64 0] 28) _ (lt_of_heap h5_35)).trans h5_35
        have ne39 : z34 ≠ u35.heap.size := Nat.ne_of_lt (lt_of_heap h5_35)
        generalize hz39 : u35.heap.size = z39 at *
        generalize hW39 : (u35.alloc (.cells #[.int .i64 0, .int .i64 0] 28)) = u39 at *
        clear hW39
        refine wpAnyH_ready (rs := [3]) (by kernel_rfl) (by simp) (AllReadyH.cons ((nth_eq _ 3).trans rfl) ?_ AllReadyH.nil)
        · intro K' hK
          refine call_in hK (by kernel_rfl) 125 #[.agg #[.int .i64 bx, .int .i64 by_, .bool bd]] (by go_simp) _ (cB u39) ?_
          rintro v u40 ⟨rfl, b40⟩
          have S40 := S39.go b40
          have h4_40 := (b40.block _ (lt_of_heap h4_39)).trans h4_39
          have h5_40 := (b40.block _ (lt_of_heap h5_39)).trans h5_39
          refine ⟨S40, ?_⟩
          simp only [Act.put, List.setIfInBounds_toArray, List.set_cons_zero, List.set_cons_succ]
          have st6 : (storeVar 28 ⟨z39, 0, none⟩ (.agg #[.int .i64 cx, .int .i64 cy])).run Try.prog u40 = .ok () (u40.setRow z39 #[.int .i64 cx, .int .i64 cy]) := run_storeVar_row _ _ 28 _ #[.int .i64 0, .int .i64 0] _ h4_40 info_cell rfl (by simp [Value.oneCell'])
          have hs6 := S40.setRow #[.int .i64 cx, .int .i64 cy] (g := z39) g4_39
          refine store_held 6 rfl (by kernel_rfl) (by kernel_rfl) _ (run_store_op 28 (.tmp 5) (.tmp 8) rfl z39 _ rfl rfl st6) hs6 ?_
          simp only [Act.put, List.setIfInBounds_toArray, List.set_cons_zero, List.set_cons_succ]
          have h56 : z34 ≠ z39 := ne39
          have m5 := (setRow_other u40 z39 z34 #[.int .i64 cx, .int .i64 cy] h56).trans h5_40
          have m4 := setRow_heap u40 z39 _ #[.int .i64 cx, .int .i64 cy] _ _ h4_40
          have st7 : (storeVar 28 ⟨z34, 0, none⟩ (.agg #[.int .i64 dx, .int .i64 dy])).run Try.prog (u40.setRow z39 #[.int .i64 cx, .int .i64 cy]) = .ok () ((u40.setRow z39 #[.int .i64 cx, .int .i64 cy]).setRow z34 #[.int .i64 dx, .int .i64 dy]) := run_storeVar_row _ _ 28 _ #[.int .i64 0, .int .i64 0] _ m5 info_cell rfl (by simp [Value.oneCell'])
          have hs7 := hs6.setRow #[.int .i64 dx, .int .i64 dy] (g := z34) g5_34
          refine store_held 7 rfl (by kernel_rfl) (by kernel_rfl) _ (run_store_op 28 (.tmp 6) (.tmp 10) rfl z34 _ rfl rfl st7) hs7 ?_
          simp only [Act.put, List.setIfInBounds_toArray, List.set_cons_zero, List.set_cons_succ]
          refine done_held (by kernel_rfl) ?_ _
          exact rest _ z39 z34 hs7 ((setRow_other _ _ _ _ h56.symm).trans m4) (setRow_heap _ _ _ _ _ _ m5)
    · intro K' hK
      have S42 := S34.alloc (.cells #[.int .i64 0, .int .i64 0] 28)
      refine value_in hK (by kernel_rfl) (.pointer (some ⟨u34.heap.size, 0, none⟩)) (u34.alloc (.cells #[.int .i64 0, .int .i64 0] 28)) (by go_simp; try rfl) S42 ?_
      simp only [Act.put, List.setIfInBounds_toArray, List.set_cons_zero, List.set_cons_succ]
      have h4_42 : (u34.alloc (.cells #[.int .i64 0, .int .i64 0] 28)).heap[u34.heap.size]? = some (.cells #[.int .i64 0, .int .i64 0] 28 (0, 0)) := heap_alloc_new _ _
      have g4_42 := S34.sz
      have h5_42 := (alloc_old u34 (.cells #[.int .i64 0, .int .i64 0] 28) _ (lt_of_heap h5_34)).trans h5_34
      have ne42 : z34 ≠ u34.heap.size := Nat.ne_of_lt (lt_of_heap h5_34)
      generalize hz42 : u34.heap.size = z42 at *
      generalize hW42 : (u34.alloc (.cells #[.int .i64 0, .int .i64 0] 28)) = u42 at *
      clear hW42
      refine wpAnyH_ready (rs := [1]) (by kernel_rfl) (by simp) (AllReadyH.cons ((nth_eq _ 1).trans rfl) ?_ AllReadyH.nil)
      · intro K' hK
        refine call_in hK (by kernel_rfl) 125 #[.agg #[.int .i64 ax, .int .i64 ay, .bool ad]] (by go_simp) _ (cA u42) ?_
        rintro v u43 ⟨rfl, b43⟩
        have S43 := S42.go b43
        have h4_43 := (b43.block _ (lt_of_heap h4_42)).trans h4_42
        have h5_43 := (b43.block _ (lt_of_heap h5_42)).trans h5_42
        refine ⟨S43, ?_⟩
        simp only [Act.put, List.setIfInBounds_toArray, List.set_cons_zero, List.set_cons_succ]
        refine wpAnyH_ready (rs := [3]) (by kernel_rfl) (by simp) (AllReadyH.cons ((nth_eq _ 3).trans rfl) ?_ AllReadyH.nil)
        · intro K' hK
          refine call_in hK (by kernel_rfl) 125 #[.agg #[.int .i64 bx, .int .i64 by_, .bool bd]] (by go_simp) _ (cB u43) ?_
          rintro v u44 ⟨rfl, b44⟩
          have S44 := S43.go b44
          have h4_44 := (b44.block _ (lt_of_heap h4_43)).trans h4_43
          have h5_44 := (b44.block _ (lt_of_heap h5_43)).trans h5_43
          refine ⟨S44, ?_⟩
          simp only [Act.put, List.setIfInBounds_toArray, List.set_cons_zero, List.set_cons_succ]
          have st6 : (storeVar 28 ⟨z42, 0, none⟩ (.agg #[.int .i64 cx, .int .i64 cy])).run Try.prog u44 = .ok () (u44.setRow z42 #[.int .i64 cx, .int .i64 cy]) := run_storeVar_row _ _ 28 _ #[.int .i64 0, .int .i64 0] _ h4_44 info_cell rfl (by simp [Value.oneCell'])
          have hs6 := S44.setRow #[.int .i64 cx, .int .i64 cy] (g := z42) g4_42
          refine store_held 6 rfl (by kernel_rfl) (by kernel_rfl) _ (run_store_op 28 (.tmp 5) (.tmp 8) rfl z42 _ rfl rfl st6) hs6 ?_
          simp only [Act.put, List.setIfInBounds_toArray, List.set_cons_zero, List.set_cons_succ]
          have h56 : z34 ≠ z42 := ne42
          have m5 := (setRow_other u44 z42 z34 #[.int .i64 cx, .int .i64 cy] h56).trans h5_44
          have m4 := setRow_heap u44 z42 _ #[.int .i64 cx, .int .i64 cy] _ _ h4_44
          have st7 : (storeVar 28 ⟨z34, 0, none⟩ (.agg #[.int .i64 dx, .int .i64 dy])).run Try.prog (u44.setRow z42 #[.int .i64 cx, .int .i64 cy]) = .ok () ((u44.setRow z42 #[.int .i64 cx, .int .i64 cy]).setRow z34 #[.int .i64 dx, .int .i64 dy]) := run_storeVar_row _ _ 28 _ #[.int .i64 0, .int .i64 0] _ m5 info_cell rfl (by simp [Value.oneCell'])
          have hs7 := hs6.setRow #[.int .i64 dx, .int .i64 dy] (g := z34) g5_34
          refine store_held 7 rfl (by kernel_rfl) (by kernel_rfl) _ (run_store_op 28 (.tmp 6) (.tmp 10) rfl z34 _ rfl rfl st7) hs7 ?_
          simp only [Act.put, List.setIfInBounds_toArray, List.set_cons_zero, List.set_cons_succ]
          refine done_held (by kernel_rfl) ?_ _
          exact rest _ z42 z34 hs7 ((setRow_other _ _ _ _ h56.symm).trans m4) (setRow_heap _ _ _ _ _ _ m5)
end Go.Proofs.Ytnaojlngdfolaaa.Grid
