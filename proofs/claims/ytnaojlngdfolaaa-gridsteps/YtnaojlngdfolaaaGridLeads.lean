/-
  Where a move leads.
-/
import Derived.Test.YtnaojlngdfolaaaGridPose
namespace Go.Proofs.Ytnaojlngdfolaaa.Grid
set_option linter.unusedVariables false
set_option linter.unusedSimpArgs false
open Go Go.RowKit

def still (dir n : Int) : Bool := decide (dir = 0) && decide (n = 0)
def leadsP (kd dir n : Int) (f : Pose) : Pose × Bool :=
  if kd = 1 then (shiftR f dir n, mayShift dir n && decide (0 < n)) else if kd = 2 then (turnP f, still dir n) else if kd = 3 ∨ kd = 4 then (f, still dir n) else (zeroP, false)
theorem two_frame (w : World) (c1 : Array Value) (t1 : TypeId) (c2 : Array Value) (t2 : TypeId) (w1 : World) (b1 : Below ((w.alloc (.cells c1 t1)).alloc (.cells c2 t2)).heap.size ((w.alloc (.cells c1 t1)).alloc (.cells c2 t2)) w1) :
    Below w.heap.size w w1 ∧ w1.heap[w.heap.size]? = some (.cells c1 t1 (0, 0)) ∧ w1.heap[w.heap.size + 1]? = some (.cells c2 t2 (0, 0)) ∧ w.heap.size + 2 ≤ w1.heap.size := by
  have hs : ((w.alloc (.cells c1 t1)).alloc (.cells c2 t2)).heap.size = w.heap.size + 2 := by simp
  refine ⟨(below_two _ _ _).trans (b1.mono (by rw [hs]; omega)), (b1.block _ (by rw [hs]; omega)).trans ((alloc_old _ _ _ (by simp)).trans (heap_alloc_new w _)), (b1.block _ (by rw [hs]; omega)).trans (heap_new2 _ _ _), ?_⟩
  have := b1.size
  omega
set_option maxRecDepth 100000 in
set_option maxHeartbeats 2000000 in
theorem leads_run (v : Value) (dir n fx fy : Int) (fd : Bool) (tx ty : Int) (td : Bool) (ma me : Int) (w : World) :
    Calls Try.prog 88 #[v, .agg #[.int .i64 1, .int .i64 dir, .int .i64 n, .int .i64 fx, .int .i64 fy, .bool fd, .int .i64 tx, .int .i64 ty, .bool td, .int .i64 ma, .int .i64 me]] w fun e w' => e = .returned (.tuple #[.agg (poseCs (leadsP 1 dir n ((fx, fy), fd)).1), .bool (leadsP 1 dir n ((fx, fy), fd)).2]) ∧ Below w.heap.size w w' := by
  have eL : leadsP 1 dir n ((fx, fy), fd) = (shiftR ((fx, fy), fd) dir n, mayShift dir n && decide (0 < n)) := rfl
  rw [eL]
  have cS := fun u => shift_any v fx fy fd dir n u
  unfold poseCs at cS ⊢
  generalize (shiftR ((fx, fy), fd) dir n).1.1 = px at *
  generalize (shiftR ((fx, fy), fd) dir n).1.2 = py at *
  generalize (shiftR ((fx, fy), fd) dir n).2 = pd at *
  clear eL
  by_cases hdz : dir = 0
  · subst hdz
    cases hms : mayShift 0 n
    · rw [hms] at cS
      clear hms
      go_enter Try.func88, Try.ntmps88
      go_wp2_with (first | (go_at_call 28; refine (cS _).mono ?_; rintro e w1 ⟨rfl, b1⟩))
      obtain ⟨B1, mM, mR, s1⟩ := two_frame w _ _ _ _ w1 b1
      obtain ⟨IH, hIH⟩ : ∃ I : World → Prop, I = fun u => u.heap[w.heap.size]? = some (.cells #[.int .i64 1, .int .i64 0, .int .i64 n, .int .i64 fx, .int .i64 fy, .bool fd, .int .i64 tx, .int .i64 ty, .bool td, .int .i64 ma, .int .i64 me] 56 (0, 0)) ∧ u.heap[w1.heap.size]? = some (.cells #[.int .i64 px, .int .i64 py, .bool pd] 30 (0, 0)) := ⟨_, rfl⟩
      have kN : ∀ u, IH u → u.cell? ⟨w.heap.size, 2, none⟩ = some (.int .i64 n) := fun u hu => by rw [hIH] at hu; exact cell_of hu.1 2
      have t0 : ∀ u, IH u → u.cell? ⟨w1.heap.size, 0, none⟩ = some (.int .i64 px) := fun u hu => by rw [hIH] at hu; exact cell_of hu.2 0
      have t1 : ∀ u, IH u → u.cell? ⟨w1.heap.size, 1, none⟩ = some (.int .i64 py) := fun u hu => by rw [hIH] at hu; exact cell_of hu.2 1
      have t2 : ∀ u, IH u → u.cell? ⟨w1.heap.size, 2, none⟩ = some (.bool pd) := fun u hu => by rw [hIH] at hu; exact cell_of hu.2 2
      have hS : IH (w1.alloc (.cells #[.int .i64 px, .int .i64 py, .bool pd] 30)).drew := by rw [hIH]; exact ⟨(alloc_old _ _ _ (by omega)).trans mM, heap_alloc_new _ _⟩
      have mR2 : (w1.alloc (.cells #[.int .i64 px, .int .i64 py, .bool pd] 30)).drew.heap[w.heap.size + 1]? = some (.cells #[.int .i64 0, .int .i64 0, .bool false] 30 (0, 0)) := (alloc_old _ _ _ (by omega)).trans mR
      have hst : (storeVar 30 ⟨w.heap.size + 1, 0, none⟩ (.agg #[.int .i64 px, .int .i64 py, .bool pd])).run Try.prog (w1.alloc (.cells #[.int .i64 px, .int .i64 py, .bool pd] 30)).drew = .ok () ((w1.alloc (.cells #[.int .i64 px, .int .i64 py, .bool pd] 30)).drew.setRow (w.heap.size + 1) #[.int .i64 px, .int .i64 py, .bool pd]) :=
        run_storeVar_row _ _ 30 _ #[.int .i64 0, .int .i64 0, .bool false] _ mR2 info_pose rfl (by simp [Value.oneCell'])
      have hS2 : IH ((w1.alloc (.cells #[.int .i64 px, .int .i64 py, .bool pd] 30)).drew.setRow (w.heap.size + 1) #[.int .i64 px, .int .i64 py, .bool pd]) := by rw [hIH] at hS ⊢; exact ⟨(setRow_other _ _ _ _ (by omega)).trans hS.1, (setRow_other _ _ _ _ (by omega)).trans hS.2⟩
      clear b1
      refine start_held (S := IH) 9 rfl (by kernel_rfl) (hS) ?_
      simp only [Array.replicate_succ, Array.replicate_zero, List.push_toArray, List.nil_append, List.cons_append]
      refine take_held 0 (by assumption) rfl (by kernel_rfl) (by kernel_rfl) (by kernel_rfl) (fun _ _ _ h => h) (by kernel_rfl) (v := ?v0) ?y0 ?r0
      case y0 => (intro u hu; have z0 := t0 u hu; have z1 := t1 u hu; have z2 := t2 u hu; go_simp; try rfl)
      simp only [Act.put, List.setIfInBounds_toArray, List.set_cons_zero, List.set_cons_succ]
      refine take_held 1 (by assumption) rfl (by kernel_rfl) (by kernel_rfl) (by kernel_rfl) (fun _ _ _ h => h) (by kernel_rfl) (v := ?v1) ?y1 ?r1
      case y1 => (intro u hu; go_simp; try rfl)
      simp only [Act.put, List.setIfInBounds_toArray, List.set_cons_zero, List.set_cons_succ]
      refine take_held 2 (by assumption) rfl (by kernel_rfl) (by kernel_rfl) (by kernel_rfl) (fun _ _ _ h => h) (by kernel_rfl) (v := ?v2) ?y2 ?r2
      case y2 => (intro u hu; go_simp; try rfl)
      simp only [Act.put, List.setIfInBounds_toArray, List.set_cons_zero, List.set_cons_succ]
      refine skip_held 3 (by assumption) rfl (by kernel_rfl) (by kernel_rfl) (by kernel_rfl) (fun _ _ _ h => h) (by kernel_rfl) ?_
      simp only [Act.put, List.setIfInBounds_toArray, List.set_cons_zero, List.set_cons_succ]
      refine skip_held 4 (by assumption) rfl (by kernel_rfl) (by kernel_rfl) (by kernel_rfl) (fun _ _ _ h => h) (by kernel_rfl) ?_
      simp only [Act.put, List.setIfInBounds_toArray, List.set_cons_zero, List.set_cons_succ]
      refine skip_held 5 (by assumption) rfl (by kernel_rfl) (by kernel_rfl) (by kernel_rfl) (fun _ _ _ h => h) (by kernel_rfl) ?_
      simp only [Act.put, List.setIfInBounds_toArray, List.set_cons_zero, List.set_cons_succ]
      refine take_held 6 (by assumption) rfl (by kernel_rfl) (by kernel_rfl) (by kernel_rfl) (fun _ _ _ h => h) (by kernel_rfl) (v := ?v3) ?y3 ?r3
      case y3 => (intro u hu; go_simp; try rfl)
      simp only [Act.put, List.setIfInBounds_toArray, List.set_cons_zero, List.set_cons_succ]
      refine store_held 7 rfl (by kernel_rfl) (by kernel_rfl) _ (run_store_op 30 (.tmp 4) (.tmp 32) rfl (w.heap.size + 1) _ rfl rfl hst) hS2 ?_
      simp only [Act.put, List.setIfInBounds_toArray, List.set_cons_zero, List.set_cons_succ]
      refine take_held 8 (by assumption) rfl (by kernel_rfl) (by kernel_rfl) (by kernel_rfl) (fun _ _ _ h => h) (by kernel_rfl) (v := ?v4) ?y4 ?r4
      case y4 => (intro u hu; go_simp; try rfl)
      simp only [Act.put, List.setIfInBounds_toArray, List.set_cons_zero, List.set_cons_succ]
      refine done_held (by kernel_rfl) ?_ _
      go_wp2
      exact bodyPost_ret (results_cell_tmp Try.results88 _ _ (w.heap.size + 1) _ rfl (load_pose _ _ _ rfl (setRow_heap _ _ _ _ _ _ mR2))) rfl ⟨rfl, below_row (below_new B1 _).drew (by omega) _⟩
    · rw [hms] at cS
      clear hms
      go_enter Try.func88, Try.ntmps88
      go_wp2_with (first | (go_at_call 28; refine (cS _).mono ?_; rintro e w1 ⟨rfl, b1⟩))
      obtain ⟨B1, mM, mR, s1⟩ := two_frame w _ _ _ _ w1 b1
      obtain ⟨IH, hIH⟩ : ∃ I : World → Prop, I = fun u => u.heap[w.heap.size]? = some (.cells #[.int .i64 1, .int .i64 0, .int .i64 n, .int .i64 fx, .int .i64 fy, .bool fd, .int .i64 tx, .int .i64 ty, .bool td, .int .i64 ma, .int .i64 me] 56 (0, 0)) ∧ u.heap[w1.heap.size]? = some (.cells #[.int .i64 px, .int .i64 py, .bool pd] 30 (0, 0)) := ⟨_, rfl⟩
      have kN : ∀ u, IH u → u.cell? ⟨w.heap.size, 2, none⟩ = some (.int .i64 n) := fun u hu => by rw [hIH] at hu; exact cell_of hu.1 2
      have t0 : ∀ u, IH u → u.cell? ⟨w1.heap.size, 0, none⟩ = some (.int .i64 px) := fun u hu => by rw [hIH] at hu; exact cell_of hu.2 0
      have t1 : ∀ u, IH u → u.cell? ⟨w1.heap.size, 1, none⟩ = some (.int .i64 py) := fun u hu => by rw [hIH] at hu; exact cell_of hu.2 1
      have t2 : ∀ u, IH u → u.cell? ⟨w1.heap.size, 2, none⟩ = some (.bool pd) := fun u hu => by rw [hIH] at hu; exact cell_of hu.2 2
      have hS : IH (w1.alloc (.cells #[.int .i64 px, .int .i64 py, .bool pd] 30)).drew := by rw [hIH]; exact ⟨(alloc_old _ _ _ (by omega)).trans mM, heap_alloc_new _ _⟩
      have mR2 : (w1.alloc (.cells #[.int .i64 px, .int .i64 py, .bool pd] 30)).drew.heap[w.heap.size + 1]? = some (.cells #[.int .i64 0, .int .i64 0, .bool false] 30 (0, 0)) := (alloc_old _ _ _ (by omega)).trans mR
      have hst : (storeVar 30 ⟨w.heap.size + 1, 0, none⟩ (.agg #[.int .i64 px, .int .i64 py, .bool pd])).run Try.prog (w1.alloc (.cells #[.int .i64 px, .int .i64 py, .bool pd] 30)).drew = .ok () ((w1.alloc (.cells #[.int .i64 px, .int .i64 py, .bool pd] 30)).drew.setRow (w.heap.size + 1) #[.int .i64 px, .int .i64 py, .bool pd]) :=
        run_storeVar_row _ _ 30 _ #[.int .i64 0, .int .i64 0, .bool false] _ mR2 info_pose rfl (by simp [Value.oneCell'])
      have hS2 : IH ((w1.alloc (.cells #[.int .i64 px, .int .i64 py, .bool pd] 30)).drew.setRow (w.heap.size + 1) #[.int .i64 px, .int .i64 py, .bool pd]) := by rw [hIH] at hS ⊢; exact ⟨(setRow_other _ _ _ _ (by omega)).trans hS.1, (setRow_other _ _ _ _ (by omega)).trans hS.2⟩
      clear b1
      refine start_held (S := IH) 9 rfl (by kernel_rfl) (hS) ?_
      simp only [Array.replicate_succ, Array.replicate_zero, List.push_toArray, List.nil_append, List.cons_append]
      refine take_held 0 (by assumption) rfl (by kernel_rfl) (by kernel_rfl) (by kernel_rfl) (fun _ _ _ h => h) (by kernel_rfl) (v := ?v5) ?y5 ?r5
      case y5 => (intro u hu; have z0 := t0 u hu; have z1 := t1 u hu; have z2 := t2 u hu; go_simp; try rfl)
      simp only [Act.put, List.setIfInBounds_toArray, List.set_cons_zero, List.set_cons_succ]
      refine take_held 1 (by assumption) rfl (by kernel_rfl) (by kernel_rfl) (by kernel_rfl) (fun _ _ _ h => h) (by kernel_rfl) (v := ?v6) ?y6 ?r6
      case y6 => (intro u hu; go_simp; try rfl)
      simp only [Act.put, List.setIfInBounds_toArray, List.set_cons_zero, List.set_cons_succ]
      refine take_held 2 (by assumption) rfl (by kernel_rfl) (by kernel_rfl) (by kernel_rfl) (fun _ _ _ h => h) (by kernel_rfl) (v := ?v7) ?y7 ?r7
      case y7 => (intro u hu; go_simp; try rfl)
      simp only [Act.put, List.setIfInBounds_toArray, List.set_cons_zero, List.set_cons_succ]
      refine take_held 3 (by assumption) rfl (by kernel_rfl) (by kernel_rfl) (by kernel_rfl) (fun _ _ _ h => h) (by kernel_rfl) (v := ?v8) ?y8 ?r8
      case y8 => (intro u hu; go_simp; try rfl)
      simp only [Act.put, List.setIfInBounds_toArray, List.set_cons_zero, List.set_cons_succ]
      refine take_held 4 (by assumption) rfl (by kernel_rfl) (by kernel_rfl) (by kernel_rfl) (fun _ _ _ h => h) (by kernel_rfl) (v := ?v9) ?y9 ?r9
      case y9 => (intro u hu; have z0 := kN u hu; go_simp; try rfl)
      simp only [Act.put, List.setIfInBounds_toArray, List.set_cons_zero, List.set_cons_succ]
      refine take_held 5 (by assumption) rfl (by kernel_rfl) (by kernel_rfl) (by kernel_rfl) (fun _ _ _ h => h) (by kernel_rfl) (v := ?v10) ?y10 ?r10
      case y10 => (intro u hu; go_simp; try rfl)
      simp only [Act.put, List.setIfInBounds_toArray, List.set_cons_zero, List.set_cons_succ]
      refine take_held 6 (by assumption) rfl (by kernel_rfl) (by kernel_rfl) (by kernel_rfl) (fun _ _ _ h => h) (by kernel_rfl) (v := ?v11) ?y11 ?r11
      case y11 => (intro u hu; go_simp; try rfl)
      simp only [Act.put, List.setIfInBounds_toArray, List.set_cons_zero, List.set_cons_succ]
      refine store_held 7 rfl (by kernel_rfl) (by kernel_rfl) _ (run_store_op 30 (.tmp 4) (.tmp 32) rfl (w.heap.size + 1) _ rfl rfl hst) hS2 ?_
      simp only [Act.put, List.setIfInBounds_toArray, List.set_cons_zero, List.set_cons_succ]
      refine take_held 8 (by assumption) rfl (by kernel_rfl) (by kernel_rfl) (by kernel_rfl) (fun _ _ _ h => h) (by kernel_rfl) (v := ?v12) ?y12 ?r12
      case y12 => (intro u hu; go_simp; try rfl)
      simp only [Act.put, List.setIfInBounds_toArray, List.set_cons_zero, List.set_cons_succ]
      refine done_held (by kernel_rfl) ?_ _
      go_wp2
      exact bodyPost_ret (results_cell_tmp Try.results88 _ _ (w.heap.size + 1) _ rfl (load_pose _ _ _ rfl (setRow_heap _ _ _ _ _ _ mR2))) rfl ⟨rfl, below_row (below_new B1 _).drew (by omega) _⟩
  · have hd0 : (dir == 0) = false := by rw [beq_eq_false_iff_ne]; exact hdz
    clear hdz
    cases hms : mayShift dir n
    · rw [hms] at cS
      clear hms
      go_enter Try.func88, Try.ntmps88
      go_wp2_with (first | (go_at_call 28; refine (cS _).mono ?_; rintro e w1 ⟨rfl, b1⟩))
      obtain ⟨B1, mM, mR, s1⟩ := two_frame w _ _ _ _ w1 b1
      obtain ⟨IH, hIH⟩ : ∃ I : World → Prop, I = fun u => u.heap[w.heap.size]? = some (.cells #[.int .i64 1, .int .i64 dir, .int .i64 n, .int .i64 fx, .int .i64 fy, .bool fd, .int .i64 tx, .int .i64 ty, .bool td, .int .i64 ma, .int .i64 me] 56 (0, 0)) ∧ u.heap[w1.heap.size]? = some (.cells #[.int .i64 px, .int .i64 py, .bool pd] 30 (0, 0)) := ⟨_, rfl⟩
      have kN : ∀ u, IH u → u.cell? ⟨w.heap.size, 2, none⟩ = some (.int .i64 n) := fun u hu => by rw [hIH] at hu; exact cell_of hu.1 2
      have t0 : ∀ u, IH u → u.cell? ⟨w1.heap.size, 0, none⟩ = some (.int .i64 px) := fun u hu => by rw [hIH] at hu; exact cell_of hu.2 0
      have t1 : ∀ u, IH u → u.cell? ⟨w1.heap.size, 1, none⟩ = some (.int .i64 py) := fun u hu => by rw [hIH] at hu; exact cell_of hu.2 1
      have t2 : ∀ u, IH u → u.cell? ⟨w1.heap.size, 2, none⟩ = some (.bool pd) := fun u hu => by rw [hIH] at hu; exact cell_of hu.2 2
      have hS : IH (w1.alloc (.cells #[.int .i64 px, .int .i64 py, .bool pd] 30)).drew := by rw [hIH]; exact ⟨(alloc_old _ _ _ (by omega)).trans mM, heap_alloc_new _ _⟩
      have mR2 : (w1.alloc (.cells #[.int .i64 px, .int .i64 py, .bool pd] 30)).drew.heap[w.heap.size + 1]? = some (.cells #[.int .i64 0, .int .i64 0, .bool false] 30 (0, 0)) := (alloc_old _ _ _ (by omega)).trans mR
      have hst : (storeVar 30 ⟨w.heap.size + 1, 0, none⟩ (.agg #[.int .i64 px, .int .i64 py, .bool pd])).run Try.prog (w1.alloc (.cells #[.int .i64 px, .int .i64 py, .bool pd] 30)).drew = .ok () ((w1.alloc (.cells #[.int .i64 px, .int .i64 py, .bool pd] 30)).drew.setRow (w.heap.size + 1) #[.int .i64 px, .int .i64 py, .bool pd]) :=
        run_storeVar_row _ _ 30 _ #[.int .i64 0, .int .i64 0, .bool false] _ mR2 info_pose rfl (by simp [Value.oneCell'])
      have hS2 : IH ((w1.alloc (.cells #[.int .i64 px, .int .i64 py, .bool pd] 30)).drew.setRow (w.heap.size + 1) #[.int .i64 px, .int .i64 py, .bool pd]) := by rw [hIH] at hS ⊢; exact ⟨(setRow_other _ _ _ _ (by omega)).trans hS.1, (setRow_other _ _ _ _ (by omega)).trans hS.2⟩
      clear b1
      refine start_held (S := IH) 9 rfl (by kernel_rfl) (hS) ?_
      simp only [Array.replicate_succ, Array.replicate_zero, List.push_toArray, List.nil_append, List.cons_append]
      refine take_held 0 (by assumption) rfl (by kernel_rfl) (by kernel_rfl) (by kernel_rfl) (fun _ _ _ h => h) (by kernel_rfl) (v := ?v13) ?y13 ?r13
      case y13 => (intro u hu; have z0 := t0 u hu; have z1 := t1 u hu; have z2 := t2 u hu; go_simp; try rfl)
      simp only [Act.put, List.setIfInBounds_toArray, List.set_cons_zero, List.set_cons_succ]
      refine take_held 1 (by assumption) rfl (by kernel_rfl) (by kernel_rfl) (by kernel_rfl) (fun _ _ _ h => h) (by kernel_rfl) (v := ?v14) ?y14 ?r14
      case y14 => (intro u hu; go_simp; try rfl)
      simp only [Act.put, List.setIfInBounds_toArray, List.set_cons_zero, List.set_cons_succ]
      refine take_held 2 (by assumption) rfl (by kernel_rfl) (by kernel_rfl) (by kernel_rfl) (fun _ _ _ h => h) (by kernel_rfl) (v := ?v15) ?y15 ?r15
      case y15 => (intro u hu; go_simp; try rfl)
      simp only [Act.put, List.setIfInBounds_toArray, List.set_cons_zero, List.set_cons_succ]
      refine skip_held 3 (by assumption) rfl (by kernel_rfl) (by kernel_rfl) (by kernel_rfl) (fun _ _ _ h => h) (by kernel_rfl) ?_
      simp only [Act.put, List.setIfInBounds_toArray, List.set_cons_zero, List.set_cons_succ]
      refine skip_held 4 (by assumption) rfl (by kernel_rfl) (by kernel_rfl) (by kernel_rfl) (fun _ _ _ h => h) (by kernel_rfl) ?_
      simp only [Act.put, List.setIfInBounds_toArray, List.set_cons_zero, List.set_cons_succ]
      refine skip_held 5 (by assumption) rfl (by kernel_rfl) (by kernel_rfl) (by kernel_rfl) (fun _ _ _ h => h) (by kernel_rfl) ?_
      simp only [Act.put, List.setIfInBounds_toArray, List.set_cons_zero, List.set_cons_succ]
      refine take_held 6 (by assumption) rfl (by kernel_rfl) (by kernel_rfl) (by kernel_rfl) (fun _ _ _ h => h) (by kernel_rfl) (v := ?v16) ?y16 ?r16
      case y16 => (intro u hu; go_simp; try rfl)
      simp only [Act.put, List.setIfInBounds_toArray, List.set_cons_zero, List.set_cons_succ]
      refine store_held 7 rfl (by kernel_rfl) (by kernel_rfl) _ (run_store_op 30 (.tmp 4) (.tmp 32) rfl (w.heap.size + 1) _ rfl rfl hst) hS2 ?_
      simp only [Act.put, List.setIfInBounds_toArray, List.set_cons_zero, List.set_cons_succ]
      refine take_held 8 (by assumption) rfl (by kernel_rfl) (by kernel_rfl) (by kernel_rfl) (fun _ _ _ h => h) (by kernel_rfl) (v := ?v17) ?y17 ?r17
      case y17 => (intro u hu; go_simp; try rfl)
      simp only [Act.put, List.setIfInBounds_toArray, List.set_cons_zero, List.set_cons_succ]
      refine done_held (by kernel_rfl) ?_ _
      go_wp2
      exact bodyPost_ret (results_cell_tmp Try.results88 _ _ (w.heap.size + 1) _ rfl (load_pose _ _ _ rfl (setRow_heap _ _ _ _ _ _ mR2))) rfl ⟨rfl, below_row (below_new B1 _).drew (by omega) _⟩
    · rw [hms] at cS
      clear hms
      go_enter Try.func88, Try.ntmps88
      go_wp2_with (first | (go_at_call 28; refine (cS _).mono ?_; rintro e w1 ⟨rfl, b1⟩))
      obtain ⟨B1, mM, mR, s1⟩ := two_frame w _ _ _ _ w1 b1
      obtain ⟨IH, hIH⟩ : ∃ I : World → Prop, I = fun u => u.heap[w.heap.size]? = some (.cells #[.int .i64 1, .int .i64 dir, .int .i64 n, .int .i64 fx, .int .i64 fy, .bool fd, .int .i64 tx, .int .i64 ty, .bool td, .int .i64 ma, .int .i64 me] 56 (0, 0)) ∧ u.heap[w1.heap.size]? = some (.cells #[.int .i64 px, .int .i64 py, .bool pd] 30 (0, 0)) := ⟨_, rfl⟩
      have kN : ∀ u, IH u → u.cell? ⟨w.heap.size, 2, none⟩ = some (.int .i64 n) := fun u hu => by rw [hIH] at hu; exact cell_of hu.1 2
      have t0 : ∀ u, IH u → u.cell? ⟨w1.heap.size, 0, none⟩ = some (.int .i64 px) := fun u hu => by rw [hIH] at hu; exact cell_of hu.2 0
      have t1 : ∀ u, IH u → u.cell? ⟨w1.heap.size, 1, none⟩ = some (.int .i64 py) := fun u hu => by rw [hIH] at hu; exact cell_of hu.2 1
      have t2 : ∀ u, IH u → u.cell? ⟨w1.heap.size, 2, none⟩ = some (.bool pd) := fun u hu => by rw [hIH] at hu; exact cell_of hu.2 2
      have hS : IH (w1.alloc (.cells #[.int .i64 px, .int .i64 py, .bool pd] 30)).drew := by rw [hIH]; exact ⟨(alloc_old _ _ _ (by omega)).trans mM, heap_alloc_new _ _⟩
      have mR2 : (w1.alloc (.cells #[.int .i64 px, .int .i64 py, .bool pd] 30)).drew.heap[w.heap.size + 1]? = some (.cells #[.int .i64 0, .int .i64 0, .bool false] 30 (0, 0)) := (alloc_old _ _ _ (by omega)).trans mR
      have hst : (storeVar 30 ⟨w.heap.size + 1, 0, none⟩ (.agg #[.int .i64 px, .int .i64 py, .bool pd])).run Try.prog (w1.alloc (.cells #[.int .i64 px, .int .i64 py, .bool pd] 30)).drew = .ok () ((w1.alloc (.cells #[.int .i64 px, .int .i64 py, .bool pd] 30)).drew.setRow (w.heap.size + 1) #[.int .i64 px, .int .i64 py, .bool pd]) :=
        run_storeVar_row _ _ 30 _ #[.int .i64 0, .int .i64 0, .bool false] _ mR2 info_pose rfl (by simp [Value.oneCell'])
      have hS2 : IH ((w1.alloc (.cells #[.int .i64 px, .int .i64 py, .bool pd] 30)).drew.setRow (w.heap.size + 1) #[.int .i64 px, .int .i64 py, .bool pd]) := by rw [hIH] at hS ⊢; exact ⟨(setRow_other _ _ _ _ (by omega)).trans hS.1, (setRow_other _ _ _ _ (by omega)).trans hS.2⟩
      clear b1
      refine start_held (S := IH) 9 rfl (by kernel_rfl) (hS) ?_
      simp only [Array.replicate_succ, Array.replicate_zero, List.push_toArray, List.nil_append, List.cons_append]
      refine take_held 0 (by assumption) rfl (by kernel_rfl) (by kernel_rfl) (by kernel_rfl) (fun _ _ _ h => h) (by kernel_rfl) (v := ?v18) ?y18 ?r18
      case y18 => (intro u hu; have z0 := t0 u hu; have z1 := t1 u hu; have z2 := t2 u hu; go_simp; try rfl)
      simp only [Act.put, List.setIfInBounds_toArray, List.set_cons_zero, List.set_cons_succ]
      refine take_held 1 (by assumption) rfl (by kernel_rfl) (by kernel_rfl) (by kernel_rfl) (fun _ _ _ h => h) (by kernel_rfl) (v := ?v19) ?y19 ?r19
      case y19 => (intro u hu; go_simp; try rfl)
      simp only [Act.put, List.setIfInBounds_toArray, List.set_cons_zero, List.set_cons_succ]
      refine take_held 2 (by assumption) rfl (by kernel_rfl) (by kernel_rfl) (by kernel_rfl) (fun _ _ _ h => h) (by kernel_rfl) (v := ?v20) ?y20 ?r20
      case y20 => (intro u hu; go_simp; try rfl)
      simp only [Act.put, List.setIfInBounds_toArray, List.set_cons_zero, List.set_cons_succ]
      refine take_held 3 (by assumption) rfl (by kernel_rfl) (by kernel_rfl) (by kernel_rfl) (fun _ _ _ h => h) (by kernel_rfl) (v := ?v21) ?y21 ?r21
      case y21 => (intro u hu; go_simp; try rfl)
      simp only [Act.put, List.setIfInBounds_toArray, List.set_cons_zero, List.set_cons_succ]
      refine take_held 4 (by assumption) rfl (by kernel_rfl) (by kernel_rfl) (by kernel_rfl) (fun _ _ _ h => h) (by kernel_rfl) (v := ?v22) ?y22 ?r22
      case y22 => (intro u hu; have z0 := kN u hu; go_simp; try rfl)
      simp only [Act.put, List.setIfInBounds_toArray, List.set_cons_zero, List.set_cons_succ]
      refine take_held 5 (by assumption) rfl (by kernel_rfl) (by kernel_rfl) (by kernel_rfl) (fun _ _ _ h => h) (by kernel_rfl) (v := ?v23) ?y23 ?r23
      case y23 => (intro u hu; go_simp; try rfl)
      simp only [Act.put, List.setIfInBounds_toArray, List.set_cons_zero, List.set_cons_succ]
      refine take_held 6 (by assumption) rfl (by kernel_rfl) (by kernel_rfl) (by kernel_rfl) (fun _ _ _ h => h) (by kernel_rfl) (v := ?v24) ?y24 ?r24
      case y24 => (intro u hu; go_simp; try rfl)
      simp only [Act.put, List.setIfInBounds_toArray, List.set_cons_zero, List.set_cons_succ]
      refine store_held 7 rfl (by kernel_rfl) (by kernel_rfl) _ (run_store_op 30 (.tmp 4) (.tmp 32) rfl (w.heap.size + 1) _ rfl rfl hst) hS2 ?_
      simp only [Act.put, List.setIfInBounds_toArray, List.set_cons_zero, List.set_cons_succ]
      refine take_held 8 (by assumption) rfl (by kernel_rfl) (by kernel_rfl) (by kernel_rfl) (fun _ _ _ h => h) (by kernel_rfl) (v := ?v25) ?y25 ?r25
      case y25 => (intro u hu; go_simp; try rfl)
      simp only [Act.put, List.setIfInBounds_toArray, List.set_cons_zero, List.set_cons_succ]
      refine done_held (by kernel_rfl) ?_ _
      go_wp2
      exact bodyPost_ret (results_cell_tmp Try.results88 _ _ (w.heap.size + 1) _ rfl (load_pose _ _ _ rfl (setRow_heap _ _ _ _ _ _ mR2))) rfl ⟨rfl, below_row (below_new B1 _).drew (by omega) _⟩
set_option maxRecDepth 100000 in
set_option maxHeartbeats 2000000 in
theorem leads_any (v : Value) (kd dir n fx fy : Int) (fd : Bool) (tx ty : Int) (td : Bool) (ma me : Int) (w : World) :
    Calls Try.prog 88 #[v, .agg #[.int .i64 kd, .int .i64 dir, .int .i64 n, .int .i64 fx, .int .i64 fy, .bool fd, .int .i64 tx, .int .i64 ty, .bool td, .int .i64 ma, .int .i64 me]] w fun e w' => e = .returned (.tuple #[.agg (poseCs (leadsP kd dir n ((fx, fy), fd)).1), .bool (leadsP kd dir n ((fx, fy), fd)).2]) ∧ Below w.heap.size w w' := by
  by_cases h1 : kd = 1
  · subst h1
    exact leads_run v dir n fx fy fd tx ty td ma me w
  · have k1 : (kd == 1) = false := by rw [beq_eq_false_iff_ne]; exact h1
    by_cases h2 : kd = 2
    · subst h2
      have cT := fun u => turned_any fx fy fd u
      by_cases hdz : dir = 0
      · subst hdz
        go_enter Try.func88, Try.ntmps88
        go_wp2_with (first | (go_at_call 81; refine (cT _).mono ?_; rintro e w1 ⟨rfl, b1⟩) | (refine wpList_store_row rfl 30 (.tmp 4) (.tmp 43) rfl (w.heap.size + 1) #[.int .i64 fx, .int .i64 fy, .bool (!fd)] rfl rfl 30 #[.int .i64 0, .int .i64 0, .bool false] (two_frame w _ _ _ _ w1 b1).2.2.1 info_pose rfl (by simp [Value.oneCell']) ?_))
        exact bodyPost_ret (results_cell_tmp Try.results88 _ _ (w.heap.size + 1) _ rfl (load_pose _ _ _ rfl (setRow_heap _ _ _ _ _ _ (two_frame w _ _ _ _ w1 b1).2.2.1))) rfl ⟨by simp [leadsP, still, turnP, poseCs, eq_dec, *], below_row (two_frame w _ _ _ _ w1 b1).1 (by omega) _⟩
      · have hd0 : (dir == 0) = false := by rw [beq_eq_false_iff_ne]; exact hdz
        go_enter Try.func88, Try.ntmps88
        go_wp2_with (first | (go_at_call 81; refine (cT _).mono ?_; rintro e w1 ⟨rfl, b1⟩) | (refine wpList_store_row rfl 30 (.tmp 4) (.tmp 43) rfl (w.heap.size + 1) #[.int .i64 fx, .int .i64 fy, .bool (!fd)] rfl rfl 30 #[.int .i64 0, .int .i64 0, .bool false] (two_frame w _ _ _ _ w1 b1).2.2.1 info_pose rfl (by simp [Value.oneCell']) ?_))
        exact bodyPost_ret (results_cell_tmp Try.results88 _ _ (w.heap.size + 1) _ rfl (load_pose _ _ _ rfl (setRow_heap _ _ _ _ _ _ (two_frame w _ _ _ _ w1 b1).2.2.1))) rfl ⟨by simp [leadsP, still, turnP, poseCs, eq_dec, *], below_row (two_frame w _ _ _ _ w1 b1).1 (by omega) _⟩
    · have k2 : (kd == 2) = false := by rw [beq_eq_false_iff_ne]; exact h2
      by_cases h3 : kd = 3
      · subst h3
        by_cases hdz : dir = 0
        · subst hdz
          go_enter Try.func88, Try.ntmps88
          go_wp2
          exact bodyPost_ret (results_cell_tmp Try.results88 _ _ (w.heap.size + 1) _ rfl (load_pose _ _ _ rfl (heap_new2 _ _ _))) rfl ⟨by simp [leadsP, still, poseCs, zeroP, eq_dec, *], below_two _ _ _⟩
        · have hd0 : (dir == 0) = false := by rw [beq_eq_false_iff_ne]; exact hdz
          go_enter Try.func88, Try.ntmps88
          go_wp2
          exact bodyPost_ret (results_cell_tmp Try.results88 _ _ (w.heap.size + 1) _ rfl (load_pose _ _ _ rfl (heap_new2 _ _ _))) rfl ⟨by simp [leadsP, still, poseCs, zeroP, eq_dec, *], below_two _ _ _⟩
      · have k3 : (kd == 3) = false := by rw [beq_eq_false_iff_ne]; exact h3
        by_cases h4 : kd = 4
        · subst h4
          by_cases hdz : dir = 0
          · subst hdz
            go_enter Try.func88, Try.ntmps88
            go_wp2
            exact bodyPost_ret (results_cell_tmp Try.results88 _ _ (w.heap.size + 1) _ rfl (load_pose _ _ _ rfl (heap_new2 _ _ _))) rfl ⟨by simp [leadsP, still, poseCs, zeroP, eq_dec, *], below_two _ _ _⟩
          · have hd0 : (dir == 0) = false := by rw [beq_eq_false_iff_ne]; exact hdz
            go_enter Try.func88, Try.ntmps88
            go_wp2
            exact bodyPost_ret (results_cell_tmp Try.results88 _ _ (w.heap.size + 1) _ rfl (load_pose _ _ _ rfl (heap_new2 _ _ _))) rfl ⟨by simp [leadsP, still, poseCs, zeroP, eq_dec, *], below_two _ _ _⟩
        · have k4 : (kd == 4) = false := by rw [beq_eq_false_iff_ne]; exact h4
          by_cases hdz : dir = 0
          · subst hdz
            go_enter Try.func88, Try.ntmps88
            go_wp2
            exact bodyPost_ret (results_cell_tmp Try.results88 _ _ (w.heap.size + 1) _ rfl (load_pose _ _ _ rfl (heap_new2 _ _ _))) rfl ⟨by simp [leadsP, still, poseCs, zeroP, eq_dec, *], below_two _ _ _⟩
          · have hd0 : (dir == 0) = false := by rw [beq_eq_false_iff_ne]; exact hdz
            go_enter Try.func88, Try.ntmps88
            go_wp2
            exact bodyPost_ret (results_cell_tmp Try.results88 _ _ (w.heap.size + 1) _ rfl (load_pose _ _ _ rfl (heap_new2 _ _ _))) rfl ⟨by simp [leadsP, still, poseCs, zeroP, eq_dec, *], below_two _ _ _⟩
end Go.Proofs.Ytnaojlngdfolaaa.Grid
