/-
  The law CodecOne: what is got of any bytes is put as just these bytes.
-/
import Derived.Test.YtgliglealchjjabCodecFace
import Derived.Deep.DeepCutAuto
namespace Go.Proofs.Ytgliglealchjjab.Codec
set_option linter.unusedVariables false
set_option linter.unusedSimpArgs false
open Go Go.RowKit

theorem run_load_op {o : Oper} {a : Act} {w : World} (ty : TypeId) (x : Operand) (ho : o.op = .load ty x) (g : Nat) (cs : Array Value) (hx : a.eval x = .pointer (some ⟨g, 0, none⟩))
    (h : (loadVar ty ⟨g, 0, none⟩).run Try.prog w = .ok (.agg cs) w) : (execOp a.eval o).run Try.prog w = .ok (.value (.agg cs)) w := by
  unfold execOp
  simp only [ho, hx, Instr.loadAt, Instr.sureAddr, Sem.run_bind, Sem.run_pure, Result.andThen_ok, h]
/- What is got, in a variable of block N, with its errno. -/
def Got {α : Type} (c : Cod α) (El : (Nat → Prop) → α → Array Value → World → Prop) (T : TypeId) (zs : List Int) (p e : Value) (w : World) : Prop :=
  ∃ N, p = .pointer (some ⟨N, 0, none⟩) ∧ ((e = .int .i64 0 ∧ ∃ x cs F, c.whole zs = some x ∧ c.ok x ∧ El F x cs w ∧ (∀ g, F g → g < w.heap.size) ∧ w.heap[N]? = some (.cells cs T (0, 0))) ∨ e = .int .i64 4)
theorem got_cells {α : Type} {El : (Nat → Prop) → α → Array Value → World → Prop} {S : Nat} (hI : Held El S) {F : Nat → Prop} {x : α} {cs : Array Value} {w w' : World} (h : El F x cs w) (hF : ∀ g, F g → g < w.heap.size) (hb : Below w.heap.size w w') : El F x cs w' := hI.stable h fun g hg => hb.block g (hF g hg)
theorem drew_below (w : World) : Below w.heap.size w w.drew := below_drewN w 1

set_option maxRecDepth 100000 in
set_option maxHeartbeats 8000000 in
theorem one_all (a : Option Addr) (n cap : Nat) (zs : List Int) (w : World) (hr : Row w a n zs) (h0 : a = none → n = 0 ∧ cap = 0) (hnc : n ≤ cap) (hn : n ≤ 16777216) :
    Calls Try.prog 3 #[.slice a n cap] w fun e w' => e = .returned (.bool true) ∧ Below w.heap.size w w' := by
  obtain ⟨M, hM⟩ : ∃ M, M = n := ⟨_, rfl⟩
  have hM24 : M ≤ 16777216 := by omega
  have hl := hr.len
  have hzM : zs.length ≤ M := by omega
  have hs : Bytes zs := hr.small
  have hcopy := fun (u : World) (hu : Below w.heap.size w u) => copy_any a n cap zs u (hr.after hu) (by omega) h0
  have hconv := fun (u : World) (hu : Below w.heap.size w u) => conv_row (hr.after hu) cap
  have same : ((strOfNums zs).toList != (strOfNums zs).toList) = false := by simp
  have cW := awake_any
  go_enter Try.func3, Try.ntmps3
  go_upto_region 1 with fail
  go_cut [3, 4] (fun p e wc => Below w.heap.size w wc ∧ Got cEvent eventEl 29 zs p e wc)
  case first =>
    go_wp2_with (first
      | (go_at_call 7; refine (hcopy _ (Below.refl w.heap.size w)).mono ?_; rintro e1 x1 ⟨ca, cc, rfl, crow, cown, cbel⟩; have xB := bcat (Below.refl w.heap.size w) cbel (Nat.le_refl _); have cf := own_form cown)
      | (have X' := cf; go_at_call 6; refine (GetEvent_any M cEvent eventEl heldEvent (readEvent M hM24) _ ca n cc zs hzM crow cf.1 cf.2.1 cf.2.2).mono ?_; rintro e2 x2 ⟨b2, ⟨x, cs, F, q2, o2, i2, f2, rfl⟩ | ⟨q2, rfl⟩⟩)
      | (have X' := i2; refine wpList_store_row rfl 29 (.tmp 3) (.tmp 18) rfl x2.heap.size cs rfl rfl 29 #[.int .i64 0, .int .i64 0, .int .i64 0, .int .i64 0, .int .i64 0, .bool false, .slice none 0 0] (heap_alloc_new x2 _) (by rw [heldEvent.size i2]; exact wsizeEvent) (by rw [heldEvent.size i2]; rfl) (heldEvent.one i2) ?_)
      | (have X' := q2; refine wpList_store_row rfl 29 (.tmp 3) (.tmp 18) rfl x2.heap.size #[.int .i64 0, .int .i64 0, .int .i64 0, .int .i64 0, .int .i64 0, .bool false, .slice none 0 0] rfl rfl 29 #[.int .i64 0, .int .i64 0, .int .i64 0, .int .i64 0, .int .i64 0, .bool false, .slice none 0 0] (heap_alloc_new x2 _) wsizeEvent rfl (by simp [Value.oneCell']) ?_))
    · go_meet
      have z2 := (bcat xB b2 (Nat.le_refl _)).size
      exact ⟨below_row ((bcat xB b2 (Nat.le_refl _)).alloc z2 _) z2 cs, x2.heap.size, rfl, Or.inl ⟨rfl, x, cs, F, q2, o2, heldEvent.stable i2 (fun g hg => by have := (f2 g hg).2; rw [setRow_other _ _ _ _ (by omega), alloc_old _ _ _ this]), fun g hg => by have := (f2 g hg).2; rw [setRow_size]; simp; omega, setRow_heap _ _ _ _ _ _ (heap_alloc_new x2 _)⟩⟩
    · go_meet
      have z2 := (bcat xB b2 (Nat.le_refl _)).size
      exact ⟨below_row ((bcat xB b2 (Nat.le_refl _)).alloc z2 _) z2 _, x2.heap.size, rfl, Or.inr rfl⟩
  case rest =>
  obtain ⟨B1, N1, rfl, hg1⟩ := hcut
  go_upto_region 2 with fail
  go_cut [29] (fun v wx => v = .bool false ∧ Below w.heap.size w wx)
  case first =>
    rcases hg1 with ⟨rfl, x, cs, F, q, o, i, hF, hN⟩ | rfl
    · have hput := ((gEvent.whole_iff zs x hs).1 q).1
      have cP := putHeldEvent wc.drew x cs F (got_cells heldEvent i hF (drew_below wc)) hF o (by rw [← hput]; omega)
      rw [← hput] at cP
      have hS : Below wc.heap.size wc wc.drew := drew_below wc
      have hcs := heldEvent.size i
      refine start_held (S := fun u => Below wc.heap.size wc u) 10 rfl (by kernel_rfl) hS ?_
      simp only [Array.replicate_succ, Array.replicate_zero, List.push_toArray, List.nil_append, List.cons_append]
      refine take_held 0 hS rfl (by kernel_rfl) (by kernel_rfl) (by kernel_rfl) (fun _ _ _ h => h) (by kernel_rfl) (v := .int .i64 0) ?y10 ?r10
      case y10 => (intro u hu; go_simp; try rfl)
      simp only [Act.put, List.setIfInBounds_toArray, List.set_cons_zero, List.set_cons_succ]
      refine take_held 1 hS rfl (by kernel_rfl) (by kernel_rfl) (by kernel_rfl) (fun _ _ _ h => h) (by kernel_rfl) (v := .bool true) ?y11 ?r11
      case y11 => (intro u hu; go_simp; try rfl)
      simp only [Act.put, List.setIfInBounds_toArray, List.set_cons_zero, List.set_cons_succ]
      refine take_held 2 hS rfl (by kernel_rfl) (by kernel_rfl) (by kernel_rfl) (fun _ _ _ h => h) (by kernel_rfl) (v := .bool true) ?y12 ?r12
      case y12 => (intro u hu; go_simp; try rfl)
      simp only [Act.put, List.setIfInBounds_toArray, List.set_cons_zero, List.set_cons_succ]
      refine take_held 3 hS rfl (by kernel_rfl) (by kernel_rfl) (by kernel_rfl) (fun _ _ _ h => h) (by kernel_rfl) (v := .agg cs) ?y13 ?r13
      case y13 => (intro u hu; exact run_load_op 29 (.tmp 3) rfl N1 cs rfl (run_loadVar_row _ _ _ _ cs (0, 0) _ ((hu.block _ (lt_of_heap hN)).trans hN) Try.underlying29 rfl (by rw [hcs]; exact wsizeEvent)))
      simp only [Act.put, List.setIfInBounds_toArray, List.set_cons_zero, List.set_cons_succ]
      refine take_held 6 hS rfl (by kernel_rfl) (by kernel_rfl) (by kernel_rfl) (fun _ _ _ h => h) (by kernel_rfl) (v := .slice a n cap) ?y16 ?r16
      case y16 => (intro u hu; go_simp; try rfl)
      simp only [Act.put, List.setIfInBounds_toArray, List.set_cons_zero, List.set_cons_succ]
      refine take_held 7 hS rfl (by kernel_rfl) (by kernel_rfl) (by kernel_rfl) (fun _ _ _ h => h) (by kernel_rfl) (v := .string (strOfNums zs)) ?y17 ?r17
      case y17 => (intro u hu; have hq := hconv u (bcat B1 hu (Nat.le_refl _)); go_simp; try rfl)
      simp only [Act.put, List.setIfInBounds_toArray, List.set_cons_zero, List.set_cons_succ]
      refine call_held 4 rfl (by kernel_rfl) (by kernel_rfl) 8 #[.agg cs] (by go_simp) _ cP ?_
      rintro e3 x3 ⟨b3, rfl, m3, bel3, n3⟩
      have hS3 : Below wc.heap.size wc x3 := bcat hS bel3 (Nat.le_refl _)
      have v3 := m3.conv
      refine Or.inl ⟨_, rfl, hS3, ?_⟩
      simp only [Act.put, List.setIfInBounds_toArray, List.set_cons_zero, List.set_cons_succ]
      refine read_held 5 rfl (by kernel_rfl) (by kernel_rfl) (.string (strOfNums zs)) (by go_simp) hS3 ?_
      simp only [Act.put, List.setIfInBounds_toArray, List.set_cons_zero, List.set_cons_succ]
      refine read_held 8 rfl (by kernel_rfl) (by kernel_rfl) (.bool false) (by go_simp) hS3 ?_
      simp only [Act.put, List.setIfInBounds_toArray, List.set_cons_zero, List.set_cons_succ]
      refine read_held 9 rfl (by kernel_rfl) (by kernel_rfl) (.bool false) (by go_simp) hS3 ?_
      simp only [Act.put, List.setIfInBounds_toArray, List.set_cons_zero, List.set_cons_succ]
      refine done_held (by kernel_rfl) ?_ _
      go_wp2_with fail
      go_meet
      exact ⟨rfl, bcat B1 hS3 (Nat.le_refl _)⟩
    · have hd : ((4 : Int) == 0) = false := rfl
      go_quiet (fail)
      go_wp2_with fail
      go_meet
      exact ⟨rfl, bcat B1 (below_drewN _ _) (Nat.le_refl _)⟩
  case rest =>
  obtain ⟨rfl, D1⟩ := hcut
  go_upto_region 4 with fail
  go_cut [5, 6] (fun p e wc => Below w.heap.size w wc ∧ Got cTele (Plain fun t : TTele => (tCells t).toArray) 38 zs p e wc)
  case first =>
    go_wp2_with (first
      | (go_at_call 7; refine (hcopy _ D1).mono ?_; rintro e1 x1 ⟨ca, cc, rfl, crow, cown, cbel⟩; have xB := bcat D1 cbel (Nat.le_refl _); have cf := own_form cown)
      | (have X' := cf; go_at_call 9; refine (GetTele_any M cTele (Plain fun t : TTele => (tCells t).toArray) heldTele (readTele M) _ ca n cc zs hzM crow cf.1 cf.2.1 cf.2.2).mono ?_; rintro e2 x2 ⟨b2, ⟨x, cs, F, q2, o2, i2, f2, rfl⟩ | ⟨q2, rfl⟩⟩)
      | (have X' := i2; refine wpList_store_row rfl 38 (.tmp 5) (.tmp 34) rfl x2.heap.size cs rfl rfl 38 #[.int .i64 0, .int .i64 0, .int .i64 0, .int .i64 0, .int .i64 0, .int .i64 0, .int .i64 0, .int .i64 0, .int .i64 0, .bool false, .int .i64 0, .int .i64 0, .bool false, .int .i64 0, .int .i64 0, .int .i64 0, .int .i64 0, .bool false, .int .i64 0] (heap_alloc_new x2 _) (by rw [heldTele.size i2]; exact wsizeTele) (by rw [heldTele.size i2]; rfl) (heldTele.one i2) ?_)
      | (have X' := q2; refine wpList_store_row rfl 38 (.tmp 5) (.tmp 34) rfl x2.heap.size #[.int .i64 0, .int .i64 0, .int .i64 0, .int .i64 0, .int .i64 0, .int .i64 0, .int .i64 0, .int .i64 0, .int .i64 0, .bool false, .int .i64 0, .int .i64 0, .bool false, .int .i64 0, .int .i64 0, .int .i64 0, .int .i64 0, .bool false, .int .i64 0] rfl rfl 38 #[.int .i64 0, .int .i64 0, .int .i64 0, .int .i64 0, .int .i64 0, .int .i64 0, .int .i64 0, .int .i64 0, .int .i64 0, .bool false, .int .i64 0, .int .i64 0, .bool false, .int .i64 0, .int .i64 0, .int .i64 0, .int .i64 0, .bool false, .int .i64 0] (heap_alloc_new x2 _) wsizeTele rfl (by simp [Value.oneCell']) ?_))
    · go_meet
      have z2 := (bcat xB b2 (Nat.le_refl _)).size
      exact ⟨below_row ((bcat xB b2 (Nat.le_refl _)).alloc z2 _) z2 cs, x2.heap.size, rfl, Or.inl ⟨rfl, x, cs, F, q2, o2, heldTele.stable i2 (fun g hg => by have := (f2 g hg).2; rw [setRow_other _ _ _ _ (by omega), alloc_old _ _ _ this]), fun g hg => by have := (f2 g hg).2; rw [setRow_size]; simp; omega, setRow_heap _ _ _ _ _ _ (heap_alloc_new x2 _)⟩⟩
    · go_meet
      have z2 := (bcat xB b2 (Nat.le_refl _)).size
      exact ⟨below_row ((bcat xB b2 (Nat.le_refl _)).alloc z2 _) z2 _, x2.heap.size, rfl, Or.inr rfl⟩
  case rest =>
  obtain ⟨B2, N2, rfl, hg2⟩ := hcut
  go_upto_region 5 with fail
  go_cut [45] (fun v wx => v = .bool false ∧ Below w.heap.size w wx)
  case first =>
    rcases hg2 with ⟨rfl, x, cs, F, q, o, i, hF, hN⟩ | rfl
    · have hput := ((gTele.whole_iff zs x hs).1 q).1
      have cP := putHeldTele wc.drew x cs F (got_cells heldTele i hF (drew_below wc)) hF o (by rw [← hput]; omega)
      rw [← hput] at cP
      have hS : Below wc.heap.size wc wc.drew := drew_below wc
      have hcs := heldTele.size i
      refine start_held (S := fun u => Below wc.heap.size wc u) 10 rfl (by kernel_rfl) hS ?_
      simp only [Array.replicate_succ, Array.replicate_zero, List.push_toArray, List.nil_append, List.cons_append]
      refine take_held 0 hS rfl (by kernel_rfl) (by kernel_rfl) (by kernel_rfl) (fun _ _ _ h => h) (by kernel_rfl) (v := .int .i64 0) ?y20 ?r20
      case y20 => (intro u hu; go_simp; try rfl)
      simp only [Act.put, List.setIfInBounds_toArray, List.set_cons_zero, List.set_cons_succ]
      refine take_held 1 hS rfl (by kernel_rfl) (by kernel_rfl) (by kernel_rfl) (fun _ _ _ h => h) (by kernel_rfl) (v := .bool true) ?y21 ?r21
      case y21 => (intro u hu; go_simp; try rfl)
      simp only [Act.put, List.setIfInBounds_toArray, List.set_cons_zero, List.set_cons_succ]
      refine take_held 2 hS rfl (by kernel_rfl) (by kernel_rfl) (by kernel_rfl) (fun _ _ _ h => h) (by kernel_rfl) (v := .bool true) ?y22 ?r22
      case y22 => (intro u hu; go_simp; try rfl)
      simp only [Act.put, List.setIfInBounds_toArray, List.set_cons_zero, List.set_cons_succ]
      refine take_held 3 hS rfl (by kernel_rfl) (by kernel_rfl) (by kernel_rfl) (fun _ _ _ h => h) (by kernel_rfl) (v := .agg cs) ?y23 ?r23
      case y23 => (intro u hu; exact run_load_op 38 (.tmp 5) rfl N2 cs rfl (run_loadVar_row _ _ _ _ cs (0, 0) _ ((hu.block _ (lt_of_heap hN)).trans hN) Try.underlying38 rfl (by rw [hcs]; exact wsizeTele)))
      simp only [Act.put, List.setIfInBounds_toArray, List.set_cons_zero, List.set_cons_succ]
      refine take_held 6 hS rfl (by kernel_rfl) (by kernel_rfl) (by kernel_rfl) (fun _ _ _ h => h) (by kernel_rfl) (v := .slice a n cap) ?y26 ?r26
      case y26 => (intro u hu; go_simp; try rfl)
      simp only [Act.put, List.setIfInBounds_toArray, List.set_cons_zero, List.set_cons_succ]
      refine take_held 7 hS rfl (by kernel_rfl) (by kernel_rfl) (by kernel_rfl) (fun _ _ _ h => h) (by kernel_rfl) (v := .string (strOfNums zs)) ?y27 ?r27
      case y27 => (intro u hu; have hq := hconv u (bcat B2 hu (Nat.le_refl _)); go_simp; try rfl)
      simp only [Act.put, List.setIfInBounds_toArray, List.set_cons_zero, List.set_cons_succ]
      refine call_held 4 rfl (by kernel_rfl) (by kernel_rfl) 10 #[.agg cs] (by go_simp) _ cP ?_
      rintro e3 x3 ⟨b3, rfl, m3, bel3, n3⟩
      have hS3 : Below wc.heap.size wc x3 := bcat hS bel3 (Nat.le_refl _)
      have v3 := m3.conv
      refine Or.inl ⟨_, rfl, hS3, ?_⟩
      simp only [Act.put, List.setIfInBounds_toArray, List.set_cons_zero, List.set_cons_succ]
      refine read_held 5 rfl (by kernel_rfl) (by kernel_rfl) (.string (strOfNums zs)) (by go_simp) hS3 ?_
      simp only [Act.put, List.setIfInBounds_toArray, List.set_cons_zero, List.set_cons_succ]
      refine read_held 8 rfl (by kernel_rfl) (by kernel_rfl) (.bool false) (by go_simp) hS3 ?_
      simp only [Act.put, List.setIfInBounds_toArray, List.set_cons_zero, List.set_cons_succ]
      refine read_held 9 rfl (by kernel_rfl) (by kernel_rfl) (.bool false) (by go_simp) hS3 ?_
      simp only [Act.put, List.setIfInBounds_toArray, List.set_cons_zero, List.set_cons_succ]
      refine done_held (by kernel_rfl) ?_ _
      go_wp2_with fail
      go_meet
      exact ⟨rfl, bcat B2 hS3 (Nat.le_refl _)⟩
    · have hd : ((4 : Int) == 0) = false := rfl
      go_quiet (fail)
      go_wp2_with fail
      go_meet
      exact ⟨rfl, bcat B2 (below_drewN _ _) (Nat.le_refl _)⟩
  case rest =>
  obtain ⟨rfl, D2⟩ := hcut
  go_upto_region 7 with fail
  go_cut [7, 8] (fun p e wc => Below w.heap.size w wc ∧ Got cOp (Plain opCells) 43 zs p e wc)
  case first =>
    go_wp2_with (first
      | (go_at_call 7; refine (hcopy _ D2).mono ?_; rintro e1 x1 ⟨ca, cc, rfl, crow, cown, cbel⟩; have xB := bcat D2 cbel (Nat.le_refl _); have cf := own_form cown)
      | (have X' := cf; go_at_call 11; refine (GetOp_any M cOp (Plain opCells) heldOp (readOp M) _ ca n cc zs hzM crow cf.1 cf.2.1 cf.2.2).mono ?_; rintro e2 x2 ⟨b2, ⟨x, cs, F, q2, o2, i2, f2, rfl⟩ | ⟨q2, rfl⟩⟩)
      | (have X' := i2; refine wpList_store_row rfl 43 (.tmp 7) (.tmp 50) rfl x2.heap.size cs rfl rfl 43 #[.int .i64 0, .int .i64 0, .int .i64 0] (heap_alloc_new x2 _) (by rw [heldOp.size i2]; exact wsizeOp) (by rw [heldOp.size i2]; rfl) (heldOp.one i2) ?_)
      | (have X' := q2; refine wpList_store_row rfl 43 (.tmp 7) (.tmp 50) rfl x2.heap.size #[.int .i64 0, .int .i64 0, .int .i64 0] rfl rfl 43 #[.int .i64 0, .int .i64 0, .int .i64 0] (heap_alloc_new x2 _) wsizeOp rfl (by simp [Value.oneCell']) ?_))
    · go_meet
      have z2 := (bcat xB b2 (Nat.le_refl _)).size
      exact ⟨below_row ((bcat xB b2 (Nat.le_refl _)).alloc z2 _) z2 cs, x2.heap.size, rfl, Or.inl ⟨rfl, x, cs, F, q2, o2, heldOp.stable i2 (fun g hg => by have := (f2 g hg).2; rw [setRow_other _ _ _ _ (by omega), alloc_old _ _ _ this]), fun g hg => by have := (f2 g hg).2; rw [setRow_size]; simp; omega, setRow_heap _ _ _ _ _ _ (heap_alloc_new x2 _)⟩⟩
    · go_meet
      have z2 := (bcat xB b2 (Nat.le_refl _)).size
      exact ⟨below_row ((bcat xB b2 (Nat.le_refl _)).alloc z2 _) z2 _, x2.heap.size, rfl, Or.inr rfl⟩
  case rest =>
  obtain ⟨B3, N3, rfl, hg3⟩ := hcut
  go_upto_region 8 with fail
  go_cut [61] (fun v wx => v = .bool false ∧ Below w.heap.size w wx)
  case first =>
    rcases hg3 with ⟨rfl, x, cs, F, q, o, i, hF, hN⟩ | rfl
    · have hput := ((gOp.whole_iff zs x hs).1 q).1
      have cP := putHeldOp wc.drew x cs F (got_cells heldOp i hF (drew_below wc)) hF o (by rw [← hput]; omega)
      rw [← hput] at cP
      have hS : Below wc.heap.size wc wc.drew := drew_below wc
      have hcs := heldOp.size i
      refine start_held (S := fun u => Below wc.heap.size wc u) 10 rfl (by kernel_rfl) hS ?_
      simp only [Array.replicate_succ, Array.replicate_zero, List.push_toArray, List.nil_append, List.cons_append]
      refine take_held 0 hS rfl (by kernel_rfl) (by kernel_rfl) (by kernel_rfl) (fun _ _ _ h => h) (by kernel_rfl) (v := .int .i64 0) ?y30 ?r30
      case y30 => (intro u hu; go_simp; try rfl)
      simp only [Act.put, List.setIfInBounds_toArray, List.set_cons_zero, List.set_cons_succ]
      refine take_held 1 hS rfl (by kernel_rfl) (by kernel_rfl) (by kernel_rfl) (fun _ _ _ h => h) (by kernel_rfl) (v := .bool true) ?y31 ?r31
      case y31 => (intro u hu; go_simp; try rfl)
      simp only [Act.put, List.setIfInBounds_toArray, List.set_cons_zero, List.set_cons_succ]
      refine take_held 2 hS rfl (by kernel_rfl) (by kernel_rfl) (by kernel_rfl) (fun _ _ _ h => h) (by kernel_rfl) (v := .bool true) ?y32 ?r32
      case y32 => (intro u hu; go_simp; try rfl)
      simp only [Act.put, List.setIfInBounds_toArray, List.set_cons_zero, List.set_cons_succ]
      refine take_held 3 hS rfl (by kernel_rfl) (by kernel_rfl) (by kernel_rfl) (fun _ _ _ h => h) (by kernel_rfl) (v := .agg cs) ?y33 ?r33
      case y33 => (intro u hu; exact run_load_op 43 (.tmp 7) rfl N3 cs rfl (run_loadVar_row _ _ _ _ cs (0, 0) _ ((hu.block _ (lt_of_heap hN)).trans hN) Try.underlying43 rfl (by rw [hcs]; exact wsizeOp)))
      simp only [Act.put, List.setIfInBounds_toArray, List.set_cons_zero, List.set_cons_succ]
      refine take_held 6 hS rfl (by kernel_rfl) (by kernel_rfl) (by kernel_rfl) (fun _ _ _ h => h) (by kernel_rfl) (v := .slice a n cap) ?y36 ?r36
      case y36 => (intro u hu; go_simp; try rfl)
      simp only [Act.put, List.setIfInBounds_toArray, List.set_cons_zero, List.set_cons_succ]
      refine take_held 7 hS rfl (by kernel_rfl) (by kernel_rfl) (by kernel_rfl) (fun _ _ _ h => h) (by kernel_rfl) (v := .string (strOfNums zs)) ?y37 ?r37
      case y37 => (intro u hu; have hq := hconv u (bcat B3 hu (Nat.le_refl _)); go_simp; try rfl)
      simp only [Act.put, List.setIfInBounds_toArray, List.set_cons_zero, List.set_cons_succ]
      refine call_held 4 rfl (by kernel_rfl) (by kernel_rfl) 12 #[.agg cs] (by go_simp) _ cP ?_
      rintro e3 x3 ⟨b3, rfl, m3, bel3, n3⟩
      have hS3 : Below wc.heap.size wc x3 := bcat hS bel3 (Nat.le_refl _)
      have v3 := m3.conv
      refine Or.inl ⟨_, rfl, hS3, ?_⟩
      simp only [Act.put, List.setIfInBounds_toArray, List.set_cons_zero, List.set_cons_succ]
      refine read_held 5 rfl (by kernel_rfl) (by kernel_rfl) (.string (strOfNums zs)) (by go_simp) hS3 ?_
      simp only [Act.put, List.setIfInBounds_toArray, List.set_cons_zero, List.set_cons_succ]
      refine read_held 8 rfl (by kernel_rfl) (by kernel_rfl) (.bool false) (by go_simp) hS3 ?_
      simp only [Act.put, List.setIfInBounds_toArray, List.set_cons_zero, List.set_cons_succ]
      refine read_held 9 rfl (by kernel_rfl) (by kernel_rfl) (.bool false) (by go_simp) hS3 ?_
      simp only [Act.put, List.setIfInBounds_toArray, List.set_cons_zero, List.set_cons_succ]
      refine done_held (by kernel_rfl) ?_ _
      go_wp2_with fail
      go_meet
      exact ⟨rfl, bcat B3 hS3 (Nat.le_refl _)⟩
    · have hd : ((4 : Int) == 0) = false := rfl
      go_quiet (fail)
      go_wp2_with fail
      go_meet
      exact ⟨rfl, bcat B3 (below_drewN _ _) (Nat.le_refl _)⟩
  case rest =>
  obtain ⟨rfl, D3⟩ := hcut
  go_upto_region 10 with fail
  go_cut [9, 10] (fun p e wc => Below w.heap.size w wc ∧ Got cState stateEl 53 zs p e wc)
  case first =>
    go_wp2_with (first
      | (go_at_call 7; refine (hcopy _ D3).mono ?_; rintro e1 x1 ⟨ca, cc, rfl, crow, cown, cbel⟩; have xB := bcat D3 cbel (Nat.le_refl _); have cf := own_form cown)
      | (have X' := cf; go_at_call 13; refine (GetState_any M cState stateEl heldState (readState M hM24) _ ca n cc zs hzM crow cf.1 cf.2.1 cf.2.2).mono ?_; rintro e2 x2 ⟨b2, ⟨x, cs, F, q2, o2, i2, f2, rfl⟩ | ⟨q2, rfl⟩⟩)
      | (have X' := i2; refine wpList_store_row rfl 53 (.tmp 9) (.tmp 66) rfl x2.heap.size cs rfl rfl 53 #[.int .i64 0, .int .i64 0, .bool false, .slice none 0 0, .slice none 0 0, .slice none 0 0, .slice none 0 0, .slice none 0 0, .int .i64 0, .int .i64 0] (heap_alloc_new x2 _) (by rw [heldState.size i2]; exact wsizeState) (by rw [heldState.size i2]; rfl) (heldState.one i2) ?_)
      | (have X' := q2; refine wpList_store_row rfl 53 (.tmp 9) (.tmp 66) rfl x2.heap.size #[.int .i64 0, .int .i64 0, .bool false, .slice none 0 0, .slice none 0 0, .slice none 0 0, .slice none 0 0, .slice none 0 0, .int .i64 0, .int .i64 0] rfl rfl 53 #[.int .i64 0, .int .i64 0, .bool false, .slice none 0 0, .slice none 0 0, .slice none 0 0, .slice none 0 0, .slice none 0 0, .int .i64 0, .int .i64 0] (heap_alloc_new x2 _) wsizeState rfl (by simp [Value.oneCell']) ?_))
    · go_meet
      have z2 := (bcat xB b2 (Nat.le_refl _)).size
      exact ⟨below_row ((bcat xB b2 (Nat.le_refl _)).alloc z2 _) z2 cs, x2.heap.size, rfl, Or.inl ⟨rfl, x, cs, F, q2, o2, heldState.stable i2 (fun g hg => by have := (f2 g hg).2; rw [setRow_other _ _ _ _ (by omega), alloc_old _ _ _ this]), fun g hg => by have := (f2 g hg).2; rw [setRow_size]; simp; omega, setRow_heap _ _ _ _ _ _ (heap_alloc_new x2 _)⟩⟩
    · go_meet
      have z2 := (bcat xB b2 (Nat.le_refl _)).size
      exact ⟨below_row ((bcat xB b2 (Nat.le_refl _)).alloc z2 _) z2 _, x2.heap.size, rfl, Or.inr rfl⟩
  case rest =>
  obtain ⟨B4, N4, rfl, hg4⟩ := hcut
  go_upto_region 11 with fail
  go_cut [77] (fun v wx => v = .bool false ∧ Below w.heap.size w wx)
  case first =>
    rcases hg4 with ⟨rfl, x, cs, F, q, o, i, hF, hN⟩ | rfl
    · have hput := ((gState.whole_iff zs x hs).1 q).1
      have cP := putHeldState wc.drew x cs F (got_cells heldState i hF (drew_below wc)) hF o (by rw [← hput]; omega)
      rw [← hput] at cP
      have hS : Below wc.heap.size wc wc.drew := drew_below wc
      have hcs := heldState.size i
      refine start_held (S := fun u => Below wc.heap.size wc u) 10 rfl (by kernel_rfl) hS ?_
      simp only [Array.replicate_succ, Array.replicate_zero, List.push_toArray, List.nil_append, List.cons_append]
      refine take_held 0 hS rfl (by kernel_rfl) (by kernel_rfl) (by kernel_rfl) (fun _ _ _ h => h) (by kernel_rfl) (v := .int .i64 0) ?y40 ?r40
      case y40 => (intro u hu; go_simp; try rfl)
      simp only [Act.put, List.setIfInBounds_toArray, List.set_cons_zero, List.set_cons_succ]
      refine take_held 1 hS rfl (by kernel_rfl) (by kernel_rfl) (by kernel_rfl) (fun _ _ _ h => h) (by kernel_rfl) (v := .bool true) ?y41 ?r41
      case y41 => (intro u hu; go_simp; try rfl)
      simp only [Act.put, List.setIfInBounds_toArray, List.set_cons_zero, List.set_cons_succ]
      refine take_held 2 hS rfl (by kernel_rfl) (by kernel_rfl) (by kernel_rfl) (fun _ _ _ h => h) (by kernel_rfl) (v := .bool true) ?y42 ?r42
      case y42 => (intro u hu; go_simp; try rfl)
      simp only [Act.put, List.setIfInBounds_toArray, List.set_cons_zero, List.set_cons_succ]
      refine take_held 3 hS rfl (by kernel_rfl) (by kernel_rfl) (by kernel_rfl) (fun _ _ _ h => h) (by kernel_rfl) (v := .agg cs) ?y43 ?r43
      case y43 => (intro u hu; exact run_load_op 53 (.tmp 9) rfl N4 cs rfl (run_loadVar_row _ _ _ _ cs (0, 0) _ ((hu.block _ (lt_of_heap hN)).trans hN) Try.underlying53 rfl (by rw [hcs]; exact wsizeState)))
      simp only [Act.put, List.setIfInBounds_toArray, List.set_cons_zero, List.set_cons_succ]
      refine take_held 6 hS rfl (by kernel_rfl) (by kernel_rfl) (by kernel_rfl) (fun _ _ _ h => h) (by kernel_rfl) (v := .slice a n cap) ?y46 ?r46
      case y46 => (intro u hu; go_simp; try rfl)
      simp only [Act.put, List.setIfInBounds_toArray, List.set_cons_zero, List.set_cons_succ]
      refine take_held 7 hS rfl (by kernel_rfl) (by kernel_rfl) (by kernel_rfl) (fun _ _ _ h => h) (by kernel_rfl) (v := .string (strOfNums zs)) ?y47 ?r47
      case y47 => (intro u hu; have hq := hconv u (bcat B4 hu (Nat.le_refl _)); go_simp; try rfl)
      simp only [Act.put, List.setIfInBounds_toArray, List.set_cons_zero, List.set_cons_succ]
      refine call_held 4 rfl (by kernel_rfl) (by kernel_rfl) 14 #[.agg cs] (by go_simp) _ cP ?_
      rintro e3 x3 ⟨b3, rfl, m3, bel3, n3⟩
      have hS3 : Below wc.heap.size wc x3 := bcat hS bel3 (Nat.le_refl _)
      have v3 := m3.conv
      refine Or.inl ⟨_, rfl, hS3, ?_⟩
      simp only [Act.put, List.setIfInBounds_toArray, List.set_cons_zero, List.set_cons_succ]
      refine read_held 5 rfl (by kernel_rfl) (by kernel_rfl) (.string (strOfNums zs)) (by go_simp) hS3 ?_
      simp only [Act.put, List.setIfInBounds_toArray, List.set_cons_zero, List.set_cons_succ]
      refine read_held 8 rfl (by kernel_rfl) (by kernel_rfl) (.bool false) (by go_simp) hS3 ?_
      simp only [Act.put, List.setIfInBounds_toArray, List.set_cons_zero, List.set_cons_succ]
      refine read_held 9 rfl (by kernel_rfl) (by kernel_rfl) (.bool false) (by go_simp) hS3 ?_
      simp only [Act.put, List.setIfInBounds_toArray, List.set_cons_zero, List.set_cons_succ]
      refine done_held (by kernel_rfl) ?_ _
      go_wp2_with fail
      go_meet
      exact ⟨rfl, bcat B4 hS3 (Nat.le_refl _)⟩
    · have hd : ((4 : Int) == 0) = false := rfl
      go_quiet (fail)
      go_wp2_with fail
      go_meet
      exact ⟨rfl, bcat B4 (below_drewN _ _) (Nat.le_refl _)⟩
  case rest =>
  obtain ⟨rfl, D4⟩ := hcut
  go_upto_region 13 with fail
  go_cut [11, 12, 13] (fun p q s wc => Below w.heap.size w wc ∧ ((∃ (v : Int) (m : Nat), p = .int .i64 v ∧ q = .int .i64 (m : Nat) ∧ s = .bool true ∧ getNum zs = some (v, zs.drop m) ∧ 0 < m ∧ m ≤ n ∧ I64 v) ∨ s = .bool false))
  case first =>
    go_wp2_with (first
      | (go_at_call 7; refine (hcopy _ D4).mono ?_; rintro e1 x1 ⟨ca, cc, rfl, crow, cown, cbel⟩; have xB := bcat D4 cbel (Nat.le_refl _); have cf := own_form cown; have cG := GetNumber_any ca n cc 0 zs x1 crow (Nat.zero_le _) cf.1 cf.2.1 cf.2.2; simp only [Int.natCast_zero, List.drop_zero, Nat.zero_add] at cG)
      | (go_at_call 15; refine cG.mono ?_; rintro e2 x2 ⟨hx2, ⟨v, m, q2, l2, l3, o2, rfl⟩ | ⟨q2, rfl⟩⟩; all_goals (rw [hx2]; clear hx2)))
    · go_meet
      exact ⟨xB, Or.inl ⟨v, m, rfl, rfl, rfl, q2, l2, l3, o2⟩⟩
    · go_meet
      exact ⟨xB, Or.inr rfl⟩
  case rest =>
  obtain ⟨B5, hg5⟩ := hcut
  go_upto_region 14 with fail
  go_cut [105] (fun v wx => v = .bool false ∧ Below w.heap.size w wx)
  case first =>
    rcases hg5 with ⟨v, m, rfl, rfl, rfl, q, m0, m1, o⟩ | rfl
    · have hput := ((getNum_iff zs v (zs.drop m) hs).1 q).1
      have hlen : (num v).length = m := by
        have h1 := congrArg List.length hput
        rw [List.length_append, List.length_drop] at h1
        omega
      have htake : zs.take m = num v := by
        conv => lhs; rw [hput]
        rw [← hlen, List.take_left]
      obtain ⟨x, hax, hc0⟩ := hr.cell 0 (by omega)
      subst hax
      have hconv2 := fun (u : World) (hu : Below w.heap.size w u) => conv_row ((hr.after hu).head m m1) cap
      rw [htake] at hconv2
      have cP := PutNumber_any none 0 0 [] v wc.drew ⟨rfl, Bytes.nil, fun i hi => by omega⟩ (fun _ => rfl) (by decide) o
      rw [List.nil_append] at cP
      have same2 : ((strOfNums (num v)).toList != (strOfNums (num v)).toList) = false := by simp
      generalize num v = NV at *
      have hS : Below wc.heap.size wc wc.drew := drew_below wc
      have g1 : ¬ (m : Int) < 1 := by omega
      have g2 : ¬ (m : Int) > (n : Int) := by omega
      have g3 : (m : Int) ≤ (cap : Int) := by omega
      have d1 : decide ((m : Int) < 1) = false := decide_eq_false g1
      have d2 : decide ((n : Int) < (m : Int)) = false := decide_eq_false g2
      refine start_held (S := fun u => Below wc.heap.size wc u) 21 rfl (by kernel_rfl) hS ?_
      simp only [Array.replicate_succ, Array.replicate_zero, List.push_toArray, List.nil_append, List.cons_append]
      refine take_held 0 hS rfl (by kernel_rfl) (by kernel_rfl) (by kernel_rfl) (fun _ _ _ h => h) (by kernel_rfl) (v := .bool true) ?y50 ?r50
      case y50 => (intro u hu; go_simp; try rfl)
      simp only [Act.put, List.setIfInBounds_toArray, List.set_cons_zero, List.set_cons_succ]
      refine take_held 1 hS rfl (by kernel_rfl) (by kernel_rfl) (by kernel_rfl) (fun _ _ _ h => h) (by kernel_rfl) (v := .bool true) ?y51 ?r51
      case y51 => (intro u hu; go_simp; try rfl)
      simp only [Act.put, List.setIfInBounds_toArray, List.set_cons_zero, List.set_cons_succ]
      refine take_held 2 hS rfl (by kernel_rfl) (by kernel_rfl) (by kernel_rfl) (fun _ _ _ h => h) (by kernel_rfl) (v := .int .i64 m) ?y52 ?r52
      case y52 => (intro u hu; go_simp; try rfl)
      simp only [Act.put, List.setIfInBounds_toArray, List.set_cons_zero, List.set_cons_succ]
      refine take_held 3 hS rfl (by kernel_rfl) (by kernel_rfl) (by kernel_rfl) (fun _ _ _ h => h) (by kernel_rfl) (v := .bool false) ?y53 ?r53
      case y53 => (intro u hu; go_simp; try rfl)
      simp only [Act.put, List.setIfInBounds_toArray, List.set_cons_zero, List.set_cons_succ]
      refine take_held 4 hS rfl (by kernel_rfl) (by kernel_rfl) (by kernel_rfl) (fun _ _ _ h => h) (by kernel_rfl) (v := .bool false) ?y54 ?r54
      case y54 => (intro u hu; go_simp; try rfl)
      simp only [Act.put, List.setIfInBounds_toArray, List.set_cons_zero, List.set_cons_succ]
      refine take_held 5 hS rfl (by kernel_rfl) (by kernel_rfl) (by kernel_rfl) (fun _ _ _ h => h) (by kernel_rfl) (v := .int .i64 m) ?y55 ?r55
      case y55 => (intro u hu; go_simp; try rfl)
      simp only [Act.put, List.setIfInBounds_toArray, List.set_cons_zero, List.set_cons_succ]
      refine take_held 6 hS rfl (by kernel_rfl) (by kernel_rfl) (by kernel_rfl) (fun _ _ _ h => h) (by kernel_rfl) (v := .slice (some x) n cap) ?y56 ?r56
      case y56 => (intro u hu; go_simp; try rfl)
      simp only [Act.put, List.setIfInBounds_toArray, List.set_cons_zero, List.set_cons_succ]
      refine take_held 7 hS rfl (by kernel_rfl) (by kernel_rfl) (by kernel_rfl) (fun _ _ _ h => h) (by kernel_rfl) (v := .int .i64 n) ?y57 ?r57
      case y57 => (intro u hu; go_simp; try rfl)
      simp only [Act.put, List.setIfInBounds_toArray, List.set_cons_zero, List.set_cons_succ]
      refine take_held 8 hS rfl (by kernel_rfl) (by kernel_rfl) (by kernel_rfl) (fun _ _ _ h => h) (by kernel_rfl) (v := .bool false) ?y58 ?r58
      case y58 => (intro u hu; go_simp; try rfl)
      simp only [Act.put, List.setIfInBounds_toArray, List.set_cons_zero, List.set_cons_succ]
      refine take_held 9 hS rfl (by kernel_rfl) (by kernel_rfl) (by kernel_rfl) (fun _ _ _ h => h) (by kernel_rfl) (v := .bool false) ?y59 ?r59
      case y59 => (intro u hu; go_simp; try rfl)
      simp only [Act.put, List.setIfInBounds_toArray, List.set_cons_zero, List.set_cons_succ]
      refine take_held 10 hS rfl (by kernel_rfl) (by kernel_rfl) (by kernel_rfl) (fun _ _ _ h => h) (by kernel_rfl) (v := .bool false) ?y510 ?r510
      case y510 => (intro u hu; go_simp; try rfl)
      simp only [Act.put, List.setIfInBounds_toArray, List.set_cons_zero, List.set_cons_succ]
      refine take_held 11 hS rfl (by kernel_rfl) (by kernel_rfl) (by kernel_rfl) (fun _ _ _ h => h) (by kernel_rfl) (v := .int .i64 v) ?y511 ?r511
      case y511 => (intro u hu; go_simp; try rfl)
      simp only [Act.put, List.setIfInBounds_toArray, List.set_cons_zero, List.set_cons_succ]
      refine take_held 14 hS rfl (by kernel_rfl) (by kernel_rfl) (by kernel_rfl) (fun _ _ _ h => h) (by kernel_rfl) (v := .slice (some x) n cap) ?y514 ?r514
      case y514 => (intro u hu; go_simp; try rfl)
      simp only [Act.put, List.setIfInBounds_toArray, List.set_cons_zero, List.set_cons_succ]
      refine take_held 15 hS rfl (by kernel_rfl) (by kernel_rfl) (by kernel_rfl) (fun _ _ _ h => h) (by kernel_rfl) (v := .int .i64 m) ?y515 ?r515
      case y515 => (intro u hu; go_simp; try rfl)
      simp only [Act.put, List.setIfInBounds_toArray, List.set_cons_zero, List.set_cons_succ]
      refine take_held 16 hS rfl (by kernel_rfl) (by kernel_rfl) (by kernel_rfl) (fun _ _ _ h => h) (by kernel_rfl) (v := .slice (some x) m cap) ?y516 ?r516
      case y516 => (intro u hu; go_simp; try rfl)
      simp only [Act.put, List.setIfInBounds_toArray, List.set_cons_zero, List.set_cons_succ]
      refine take_held 17 hS rfl (by kernel_rfl) (by kernel_rfl) (by kernel_rfl) (fun _ _ _ h => h) (by kernel_rfl) (v := .string (strOfNums NV)) ?y517 ?r517
      case y517 => (intro u hu; have hq := hconv2 u (bcat B5 hu (Nat.le_refl _)); go_simp; try rfl)
      simp only [Act.put, List.setIfInBounds_toArray, List.set_cons_zero, List.set_cons_succ]
      refine call_held 12 rfl (by kernel_rfl) (by kernel_rfl) 16 #[.slice none 0 0, .int .i64 v] (by go_simp) _ cP ?_
      rintro e3 x3 ⟨b3, rfl, m3, bel3, n3⟩
      have hS3 : Below wc.heap.size wc x3 := bcat hS bel3 (Nat.le_refl _)
      have v3 := m3.conv
      refine Or.inl ⟨_, rfl, hS3, ?_⟩
      simp only [Act.put, List.setIfInBounds_toArray, List.set_cons_zero, List.set_cons_succ]
      refine read_held 13 rfl (by kernel_rfl) (by kernel_rfl) (.string (strOfNums NV)) (by go_simp) hS3 ?_
      simp only [Act.put, List.setIfInBounds_toArray, List.set_cons_zero, List.set_cons_succ]
      refine read_held 18 rfl (by kernel_rfl) (by kernel_rfl) (.bool false) (by go_simp) hS3 ?_
      simp only [Act.put, List.setIfInBounds_toArray, List.set_cons_zero, List.set_cons_succ]
      refine read_held 19 rfl (by kernel_rfl) (by kernel_rfl) (.bool false) (by go_simp) hS3 ?_
      simp only [Act.put, List.setIfInBounds_toArray, List.set_cons_zero, List.set_cons_succ]
      refine read_held 20 rfl (by kernel_rfl) (by kernel_rfl) (.bool false) (by go_simp) hS3 ?_
      simp only [Act.put, List.setIfInBounds_toArray, List.set_cons_zero, List.set_cons_succ]
      refine done_held (by kernel_rfl) ?_ _
      go_wp2_with fail
      go_meet
      exact ⟨rfl, bcat B5 hS3 (Nat.le_refl _)⟩
    · go_quiet (fail)
      go_wp2_with fail
      go_meet
      exact ⟨rfl, bcat B5 (below_drewN _ _) (Nat.le_refl _)⟩
  case rest =>
  obtain ⟨rfl, D5⟩ := hcut
  go_wp2_with (go_at_call 17; refine (cW _).mono ?_; rintro e9 w9 ⟨rfl, b9⟩)
  go_ret
  exact ⟨rfl, bcat D5 b9 (Nat.le_refl _)⟩
end Go.Proofs.Ytgliglealchjjab.Codec
