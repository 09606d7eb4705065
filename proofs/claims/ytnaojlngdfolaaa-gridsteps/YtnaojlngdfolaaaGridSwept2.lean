/-
  The cells that a move sweeps.
-/
import Derived.Test.YtnaojlngdfolaaaGridSwept
import Derived.Test.YtnaojlngdfolaaaGridRef3
namespace Go.Proofs.Ytnaojlngdfolaaa.Grid
set_option linter.unusedVariables false
set_option linter.unusedSimpArgs false
open Go Go.RowKit Go.Shelf Go.Proofs
attribute [local go_sem] Oper.semAt_some

theorem aggMv (w : World) : (isAgg 56).run Try.prog w = .ok true w := by unfold isAgg; rw [Sem.run_bind, run_underlying Try.underlying56 w]; rfl
theorem aggBx (w : World) : (isAgg 126).run Try.prog w = .ok true w := by unfold isAgg; rw [Sem.run_bind, run_underlying Try.underlying126 w]; rfl
theorem infoBx : (Try.prog.info? 126).map (·.size) = some 4 := by kernel_rfl
theorem run_mkCells (M : Nat) (hM : M ≤ 1000000) (w : World) : (Instr.makeSlice 22 (.int .i64 0) (.int .i64 (M : Int))).run Try.prog w = .ok (.slice (some ⟨w.heap.size, 0, none⟩) 0 M) (w.alloc (.cells (madeCells #[.int .i64 0, .int .i64 0] (M * 2)) 28)) := by
  obtain ⟨i0, hi, hz0, hz1, hz2⟩ := info_parts infoCell3
  have := run_make (P := Try.prog) w 22 28 i0 _ Try.underlying22 hi hz0 .i64 .i64 0 M (by omega) (by omega) (by rw [hz2]; omega) (by omega)
  simp only [Int.toNat_natCast, hz1] at this
  exact this
theorem run_mk2_op {o : Oper} {a : Act} {w w' : World} {v : Value} (t : TypeId) (l c : Operand) (ho : o.op = .makeSlice t l c) (n k : Int) (hl : a.eval l = .int .i64 n) (hc : a.eval c = .int .i64 k)
    (h : (Instr.makeSlice t (.int .i64 n) (.int .i64 k)).run Try.prog w = .ok v w') : (execOp a.eval o).run Try.prog w = .ok (.value v) w' := by
  unfold execOp
  simp only [ho, hl, hc, Sem.run_bind, h, Result.andThen_ok, Sem.run_pure]
theorem own_lower {w : World} {b b' : Nat} {e : TypeId} {sz n : Nat} {v : Value} {xs : List Value} (h : w.ownsRow b e sz v n xs) (hb : b' ≤ b) : w.ownsRow b' e sz v n xs := by
  rcases h with ⟨h1, h2 | ⟨g, cap, cur, h2, h3, h4⟩⟩
  · exact ⟨h1, .inl h2⟩
  · exact ⟨h1, .inr ⟨g, cap, cur, h2, Nat.le_trans hb h3, h4⟩⟩
theorem ret_cells {f : FuncId} {vals : Array Value} {w : World} {r : Value} {R : World → Prop} (h : Calls Try.prog f vals w fun e w' => e = .returned r ∧ R w') : Calls Try.prog f vals w fun e w' => ∃ v, e = .returned v ∧ (v = r ∧ R w') := h.mono fun e w' ⟨h1, h2⟩ => ⟨_, h1, rfl, h2⟩
theorem own_new (w : World) (M : Nat) (hM : M ≤ 1000000) (base : Nat) (hb : base ≤ w.heap.size) : (w.alloc (.cells (madeCells #[.int .i64 0, .int .i64 0] (M * 2)) 28)).ownsRow base 28 2 (.slice (some ⟨w.heap.size, 0, none⟩) 0 M) 0 [] :=
  ⟨rfl, .inr ⟨w.heap.size, M, _, rfl, hb, World.alloc_heap_new _ _, Nat.zero_le _, by unfold maxLen; omega, by rw [size_madeCells], by simp⟩⟩
set_option maxRecDepth 100000 in
set_option maxHeartbeats 4000000 in
theorem swept_no (g u : Nat) (W H : Int) (us : List Int) (vp : Value) (m : Move) (w : World) (hG : GridAt w g u W H us vp) (hl : legalU W H us m = false) :
    Calls Try.prog 30 #[.pointer (some ⟨g, 0, none⟩), .agg (moveCs m)] w fun e w' => e = .returned (.slice none 0 0) ∧ Below w.heap.size w w' := by
  have cL := fun (w1 : World) (b1 : Below w.heap.size w w1) => legal_any g u W H us vp m w1 (hG.go b1)
  rw [hl] at cL
  have bb : Below w.heap.size w (w.alloc (.cells (moveCs m) 56)) := (Below.refl _ _).alloc (Nat.le_refl _) _
  have hB : (w.alloc (.cells (moveCs m) 56)).heap[w.heap.size]? = some (.cells (moveCs m) 56 (0, 0)) := World.alloc_heap_new _ _
  have hR := row_below hB (Below.refl _ _)
  have HI : Hid ((Try.prog.info? 56).map (·.size) = some (moveCs m).size) := info_move
  generalize hcs : moveCs m = cs at *
  clear hcs
  go_enter Try.func30, Try.ntmps30
  go_wp2_with (first
    | (refine wpList_load_at rfl 56 (.tmp 3) rfl ⟨w.heap.size, 0, none⟩ rfl cs hR (aggMv _) HI.out ?_)
    | (go_at_call 29; refine (cL _ bb).mono ?_; rintro e w1 ⟨rfl, b1⟩))
  go_ret
  exact ⟨rfl, bcat bb b1 (Nat.le_refl _)⟩
set_option maxRecDepth 100000 in
set_option maxHeartbeats 4000000 in
theorem swept_flat (g u : Nat) (W H : Int) (us : List Int) (vp : Value) (kd dir n fx fy tx ty ma me : Int) (fd td : Bool) (x0 y0 x1 y1 : Int) (K : Nat) (w : World) (hG : GridAt w g u W H us vp) (hl : legalU W H us (kd, dir, n, ((fx, fy), fd), ((tx, ty), td), ma, me) = true)
    (hsp : spanP ((fx, fy), fd) ((tx, ty), td) = ((x0, y0), (x1, y1))) (h0 : -1000 ≤ x0) (h1 : x0 ≤ 1000) (h2 : -1000 ≤ y0) (h3 : y0 ≤ 1000) (h4 : -1000 ≤ x1) (h5 : x1 ≤ 1000) (h6 : -1000 ≤ y1) (h7 : y1 ≤ 1000) (hK : (x1 - x0 + 1) * (y1 - y0 + 1) = (K : Int)) (hsm : K ≤ 1000000) (hbl : K = (boxList x0 y0 x1 y1).length) :
    Calls Try.prog 30 #[.pointer (some ⟨g, 0, none⟩), .agg #[.int .i64 kd, .int .i64 dir, .int .i64 n, .int .i64 fx, .int .i64 fy, .bool fd, .int .i64 tx, .int .i64 ty, .bool td, .int .i64 ma, .int .i64 me]] w fun e w' => ∃ v, e = .returned v ∧ w'.ownsRow w.heap.size 28 2 v K (rowL cellL (boxList x0 y0 x1 y1)) ∧ Below w.heap.size w w' := by
  have cL := fun (w1 : World) (b1 : Below w.heap.size w w1) => legal_any g u W H us vp (kd, dir, n, ((fx, fy), fd), ((tx, ty), td), ma, me) w1 (hG.go b1)
  rw [hl] at cL
  have cS := fun u => span_any fx fy fd tx ty td u
  rw [hsp] at cS
  have cZ := fun w1 => size_any x0 y0 x1 y1 h0 h1 h2 h3 h4 h5 h6 h7 K hK (by omega) w1
  have cC := fun w1 => ret_cells (cells_any x0 y0 x1 y1 w1)
  simp only at cS
  unfold moveCs at cL
  simp only at cL
  clear hsp hl hG hK
  have bb : Below w.heap.size w (w.alloc (.cells #[.int .i64 kd, .int .i64 dir, .int .i64 n, .int .i64 fx, .int .i64 fy, .bool fd, .int .i64 tx, .int .i64 ty, .bool td, .int .i64 ma, .int .i64 me] 56)) := (Below.refl _ _).alloc (Nat.le_refl _) _
  have hB : (w.alloc (.cells #[.int .i64 kd, .int .i64 dir, .int .i64 n, .int .i64 fx, .int .i64 fy, .bool fd, .int .i64 tx, .int .i64 ty, .bool td, .int .i64 ma, .int .i64 me] 56)).heap[w.heap.size]? = some (.cells #[.int .i64 kd, .int .i64 dir, .int .i64 n, .int .i64 fx, .int .i64 fy, .bool fd, .int .i64 tx, .int .i64 ty, .bool td, .int .i64 ma, .int .i64 me] 56 (0, 0)) := World.alloc_heap_new _ _
  have hR := row_below hB (Below.refl _ _)
  go_enter Try.func30, Try.ntmps30
  go_wp2_with (first
    | (refine wpList_load_at rfl 56 (.tmp 3) rfl ⟨w.heap.size, 0, none⟩ rfl #[.int .i64 kd, .int .i64 dir, .int .i64 n, .int .i64 fx, .int .i64 fy, .bool fd, .int .i64 tx, .int .i64 ty, .bool td, .int .i64 ma, .int .i64 me] hR (aggMv _) info_move ?_)
    | (go_at_call 29; refine (cL _ bb).mono ?_; rintro e w1 ⟨rfl, b1⟩; have m0 := (b1.block _ (lt_of_heap hB)).trans hB; have B1 := bcat bb b1 (Nat.le_refl _); have hR1 := row_below m0 (Below.refl _ _); have q3 : w1.cell? ⟨w.heap.size, 3, none⟩ = some (.int .i64 fx) := cell_of m0 3; have q4 : w1.cell? ⟨w.heap.size, 4, none⟩ = some (.int .i64 fy) := cell_of m0 4; have q5 : w1.cell? ⟨w.heap.size, 5, none⟩ = some (.bool fd) := cell_of m0 5; have q6 : w1.cell? ⟨w.heap.size, 6, none⟩ = some (.int .i64 tx) := cell_of m0 6; have q7 : w1.cell? ⟨w.heap.size, 7, none⟩ = some (.int .i64 ty) := cell_of m0 7; have q8 : w1.cell? ⟨w.heap.size, 8, none⟩ = some (.bool td) := cell_of m0 8)
    | (go_at_call 89; refine (cS _).mono ?_; rintro e w2 ⟨rfl, b2⟩))
  have B2 := bcat B1 b2 (Nat.le_refl _)
  obtain ⟨wb, hwbe⟩ : ∃ wb, w2.alloc (.cells #[.int .i64 x0, .int .i64 y0, .int .i64 x1, .int .i64 y1] 126) = wb := ⟨_, rfl⟩
  have hxb : wb.heap[w2.heap.size]? = some (.cells #[.int .i64 x0, .int .i64 y0, .int .i64 x1, .int .i64 y1] 126 (0, 0)) := by rw [← hwbe]; exact World.alloc_heap_new _ _
  have Bw : Below w.heap.size w wb := by rw [← hwbe]; exact below_new B2 _
  have hwb := Bw.size
  try rw [hwbe]
  clear hwbe B2 B1 m0 hR1 q3 q4 q5 q6 q7 q8 hR hB bb cL cS
  obtain ⟨IH, hIH⟩ : ∃ I : World → Prop, I = Below wb.heap.size wb := ⟨_, rfl⟩
  have kI : ∀ u, IH u → Below wb.heap.size wb u := fun u hu => by rw [hIH] at hu; exact hu
  have hS : IH wb.drew := by rw [hIH]; exact (Below.refl _ _).drew
  have D0 : Below wb.heap.size wb wb.drew := (Below.refl _ _).drew
  have HRd : Hid (∀ u, IH u → ∀ jj z, #[Value.int .i64 x0, .int .i64 y0, .int .i64 x1, .int .i64 y1][jj]? = some z → u.cell? ((⟨w2.heap.size, 0, none⟩ : Addr).add jj) = some z) := fun u hu => row_below hxb (kI u hu)
  have nB : w2.heap.size < wb.heap.size := lt_of_heap hxb
  refine start_held (S := IH) 7 rfl (by kernel_rfl) (hS) ?_
  simp only [Array.replicate_succ, Array.replicate_zero, List.push_toArray, List.nil_append, List.cons_append]
  refine take_held 0 (by assumption) rfl (by kernel_rfl) (by kernel_rfl) (by kernel_rfl) (fun _ _ _ h => h) (by kernel_rfl) (v := .agg #[.int .i64 x0, .int .i64 y0, .int .i64 x1, .int .i64 y1]) ?y0 ?r0
  case y0 => (intro u hu; exact run_load_op 126 _ rfl ⟨w2.heap.size, 0, none⟩ _ rfl (HRd.out u hu) (aggBx u) infoBx)
  simp only [Act.put, List.setIfInBounds_toArray, List.set_cons_zero, List.set_cons_succ]
  refine take_held 3 (by assumption) rfl (by kernel_rfl) (by kernel_rfl) (by kernel_rfl) (fun _ _ _ h => h) (by kernel_rfl) (v := .agg #[.int .i64 x0, .int .i64 y0, .int .i64 x1, .int .i64 y1]) ?y1 ?r1
  case y1 => (intro u hu; exact run_load_op 126 _ rfl ⟨w2.heap.size, 0, none⟩ _ rfl (HRd.out u hu) (aggBx u) infoBx)
  simp only [Act.put, List.setIfInBounds_toArray, List.set_cons_zero, List.set_cons_succ]
  refine wpAnyH_ready (rs := [1]) (by kernel_rfl) (by simp) (AllReadyH.cons ((nth_eq _ 1).trans rfl) ?_ AllReadyH.nil)
  intro K' hK
  refine call_in hK (by kernel_rfl) 93 #[.agg #[.int .i64 x0, .int .i64 y0, .int .i64 x1, .int .i64 y1]] (by go_simp) _ (cZ _) ?_
  rintro v w5 ⟨rfl, b5⟩
  have D5 := bcat D0 b5 (Nat.le_refl _)
  have hS5 : IH w5 := by rw [hIH]; exact D5
  refine ⟨hS5, ?_⟩
  simp only [Act.put, List.setIfInBounds_toArray, List.set_cons_zero, List.set_cons_succ]
  refine wpAnyH_ready (rs := [2, 4]) (by kernel_rfl) (by simp) (AllReadyH.cons ((nth_eq _ 2).trans rfl) ?_ (AllReadyH.cons ((nth_eq _ 4).trans rfl) ?_ AllReadyH.nil))
  · intro K' hK
    have hSm : IH (w5.alloc (.cells (madeCells #[.int .i64 0, .int .i64 0] (K * 2)) 28)) := by rw [hIH]; exact below_new D5 _
    refine value_in hK (by kernel_rfl) (.slice (some ⟨w5.heap.size, 0, none⟩) 0 K) (w5.alloc (.cells (madeCells #[.int .i64 0, .int .i64 0] (K * 2)) 28)) (run_mk2_op 22 _ _ rfl 0 (K : Int) rfl rfl (run_mkCells K hsm w5)) (hSm) ?_
    simp only [Act.put, List.setIfInBounds_toArray, List.set_cons_zero, List.set_cons_succ]
    refine wpAnyH_ready (rs := [4]) (by kernel_rfl) (by simp) (AllReadyH.cons ((nth_eq _ 4).trans rfl) ?_ AllReadyH.nil)
    intro K' hK
    refine call_in hK (by kernel_rfl) 90 #[.agg #[.int .i64 x0, .int .i64 y0, .int .i64 x1, .int .i64 y1]] (by go_simp) _ ((cC (w5.alloc (.cells (madeCells #[.int .i64 0, .int .i64 0] (K * 2)) 28)))) ?_
    rintro v w6 ⟨rfl, h6⟩
    have D6 : Below wb.heap.size wb w6 := by rw [h6]; exact below_new (below_new D5 _) _
    have hS6 : IH w6 := by rw [hIH]; exact D6
    refine ⟨hS6, ?_⟩
    simp only [Act.put, List.setIfInBounds_toArray, List.set_cons_zero, List.set_cons_succ]
    refine wpAnyH_ready (rs := [5]) (by kernel_rfl) (by simp) (AllReadyH.cons ((nth_eq _ 5).trans rfl) ?_ AllReadyH.nil)
    intro K' hK
    have own6 : w6.ownsRow wb.heap.size 28 2 (.slice (some ⟨w5.heap.size, 0, none⟩) 0 K) 0 [] := by rw [h6]; exact (own_new w5 K hsm wb.heap.size D5.size).alloc _
    have box6 : w6.heap[(w5.alloc (.cells (madeCells #[.int .i64 0, .int .i64 0] (K * 2)) 28)).heap.size]? = some (.cells #[.int .i64 x0, .int .i64 y0, .int .i64 x1, .int .i64 y1] 126 (0, 0)) := by rw [h6]; exact World.alloc_heap_new _ _
    have D7 := D6
    refine call_in hK (by kernel_rfl) 92 #[.slice (some ⟨w5.heap.size, 0, none⟩) 0 K, .func (.func 130) #[] #[.pointer (some ⟨(w5.alloc (.cells (madeCells #[.int .i64 0, .int .i64 0] (K * 2)) 28)).heap.size, 0, none⟩)]] (by go_simp) _ ((callsIn_wide (n := 9)).1 (appendSeq_in wb.heap.size ((w5.alloc (.cells (madeCells #[.int .i64 0, .int .i64 0] (K * 2)) 28)).heap.size) (w5.heap.size) K x0 y0 x1 y1 h0 h2 h5 h7 (by rw [← hbl]; omega) w6 box6 D7.size own6)) ?_
    rintro v w8 ⟨own8, b8⟩
    have D8 := D7.trans b8
    have hS8 : IH w8 := by rw [hIH]; exact D8
    refine ⟨hS8, ?_⟩
    simp only [Act.put, List.setIfInBounds_toArray, List.set_cons_zero, List.set_cons_succ]
    refine take_held 6 (by assumption) rfl (by kernel_rfl) (by kernel_rfl) (by kernel_rfl) (fun _ _ _ h => h) (by kernel_rfl) (v := ?v2) ?y2 ?r2
    case y2 => (intro u hu; go_simp; try rfl)
    simp only [Act.put, List.setIfInBounds_toArray, List.set_cons_zero, List.set_cons_succ]
    refine done_held (by kernel_rfl) ?_ _
    go_wp2
    go_ret
    exact ⟨_, rfl, by rw [hbl]; exact own_lower own8 hwb, bcat Bw D8 (Nat.le_refl _)⟩
  · intro K' hK
    refine call_in hK (by kernel_rfl) 90 #[.agg #[.int .i64 x0, .int .i64 y0, .int .i64 x1, .int .i64 y1]] (by go_simp) _ ((cC w5)) ?_
    rintro v w6 ⟨rfl, h6⟩
    have D6 : Below wb.heap.size wb w6 := by rw [h6]; exact below_new D5 _
    have hS6 : IH w6 := by rw [hIH]; exact D6
    refine ⟨hS6, ?_⟩
    simp only [Act.put, List.setIfInBounds_toArray, List.set_cons_zero, List.set_cons_succ]
    refine wpAnyH_ready (rs := [2]) (by kernel_rfl) (by simp) (AllReadyH.cons ((nth_eq _ 2).trans rfl) ?_ AllReadyH.nil)
    intro K' hK
    have hSm : IH (w6.alloc (.cells (madeCells #[.int .i64 0, .int .i64 0] (K * 2)) 28)) := by rw [hIH]; exact below_new D6 _
    refine value_in hK (by kernel_rfl) (.slice (some ⟨w6.heap.size, 0, none⟩) 0 K) (w6.alloc (.cells (madeCells #[.int .i64 0, .int .i64 0] (K * 2)) 28)) (run_mk2_op 22 _ _ rfl 0 (K : Int) rfl rfl (run_mkCells K hsm w6)) (hSm) ?_
    simp only [Act.put, List.setIfInBounds_toArray, List.set_cons_zero, List.set_cons_succ]
    refine wpAnyH_ready (rs := [5]) (by kernel_rfl) (by simp) (AllReadyH.cons ((nth_eq _ 5).trans rfl) ?_ AllReadyH.nil)
    intro K' hK
    have own6 := own_new w6 K hsm wb.heap.size D6.size
    have box6 : (w6.alloc (.cells (madeCells #[.int .i64 0, .int .i64 0] (K * 2)) 28)).heap[w5.heap.size]? = some (.cells #[.int .i64 x0, .int .i64 y0, .int .i64 x1, .int .i64 y1] 126 (0, 0)) := by
      rw [alloc_old _ _ _ (by rw [h6]; simp), h6]; exact World.alloc_heap_new _ _
    have D7 : Below wb.heap.size wb (w6.alloc (.cells (madeCells #[.int .i64 0, .int .i64 0] (K * 2)) 28)) := below_new D6 _
    refine call_in hK (by kernel_rfl) 92 #[.slice (some ⟨w6.heap.size, 0, none⟩) 0 K, .func (.func 130) #[] #[.pointer (some ⟨w5.heap.size, 0, none⟩)]] (by go_simp) _ ((callsIn_wide (n := 9)).1 (appendSeq_in wb.heap.size (w5.heap.size) (w6.heap.size) K x0 y0 x1 y1 h0 h2 h5 h7 (by rw [← hbl]; omega) (w6.alloc (.cells (madeCells #[.int .i64 0, .int .i64 0] (K * 2)) 28)) box6 D7.size own6)) ?_
    rintro v w8 ⟨own8, b8⟩
    have D8 := D7.trans b8
    have hS8 : IH w8 := by rw [hIH]; exact D8
    refine ⟨hS8, ?_⟩
    simp only [Act.put, List.setIfInBounds_toArray, List.set_cons_zero, List.set_cons_succ]
    refine take_held 6 (by assumption) rfl (by kernel_rfl) (by kernel_rfl) (by kernel_rfl) (fun _ _ _ h => h) (by kernel_rfl) (v := ?v3) ?y3 ?r3
    case y3 => (intro u hu; go_simp; try rfl)
    simp only [Act.put, List.setIfInBounds_toArray, List.set_cons_zero, List.set_cons_succ]
    refine done_held (by kernel_rfl) ?_ _
    go_wp2
    go_ret
    exact ⟨_, rfl, by rw [hbl]; exact own_lower own8 hwb, bcat Bw D8 (Nat.le_refl _)⟩
theorem swept_yes (g u : Nat) (W H : Int) (us : List Int) (vp : Value) (m : Move) (hW : W ≤ 16) (hH : H ≤ 16) (w : World) (hG : GridAt w g u W H us vp) (hl : legalU W H us m = true) :
    Calls Try.prog 30 #[.pointer (some ⟨g, 0, none⟩), .agg (moveCs m)] w fun e w' => ∃ v, e = .returned v ∧ w'.ownsRow w.heap.size 28 2 v (boxOf m.2.2.2.1 m.2.2.2.2.1).length (rowL cellL (boxOf m.2.2.2.1 m.2.2.2.2.1)) ∧ Below w.heap.size w w' := by
  obtain ⟨K, o⟩ := span_ok hW hH hl
  obtain ⟨kd, dir, n, ⟨⟨fx, fy⟩, fd⟩, ⟨⟨tx, ty⟩, td⟩, ma, me⟩ := m
  have hlen := o.len
  rw [hlen]
  exact swept_flat g u W H us vp kd dir n fx fy tx ty ma me fd td _ _ _ _ K w hG hl rfl o.a0 o.a1 o.b0 o.b1 o.c0 o.c1 o.d0 o.d1 o.size o.small hlen.symm
end Go.Proofs.Ytnaojlngdfolaaa.Grid
