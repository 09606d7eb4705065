/-
  A move that ends; a tick.
-/
import Derived.Test.YtedmfhkdaifegaaGreatRobBeg2
namespace Go.Proofs.YtedmfhkdaifegaaGreat.Rob
set_option linter.unusedVariables false
set_option linter.unusedSimpArgs false
open Go Go.RowKit Go.Shelf Go.Proofs Go.Proofs.YtedmfhkdaifegaaGreat.Lk Go.Proofs.YtedmfhkdaifegaaGreat.Plain
attribute [local go_sem] Oper.semAt_some

theorem rb_pose (g k : Nat) (r : Rb) (x y : Int) (d : Bool) : setAll (rbA g k r) 3 (poA x y d).toList = rbA g k { r with px := x, py := y, pd := d } := by
  show setAll (rbA g k r) 3 [.int .i64 x, .int .i64 y, .bool d] = _
  simp only [setAll, rbA, rbL, dgL, mvL, List.cons_append, List.nil_append, List.setIfInBounds_toArray, List.set_cons_succ, List.set_cons_zero]
theorem rb_last (g k : Nat) (r : Rb) (x : Int) : setAll (rbA g k r) 8 [.int .i64 x] = rbA g k { r with lt := x } := by
  simp only [setAll, rbA, rbL, dgL, mvL, List.cons_append, List.nil_append, List.setIfInBounds_toArray, List.set_cons_succ, List.set_cons_zero]
theorem rb_late (g k : Nat) (r : Rb) (x : Int) : setAll (rbA g k r) 22 [.int .i64 x] = rbA g k { r with la := x } := by
  simp only [setAll, rbA, rbL, dgL, mvL, List.cons_append, List.nil_append, List.setIfInBounds_toArray, List.set_cons_succ, List.set_cons_zero]
theorem rb_left (g k : Nat) (r : Rb) (x : Int) : setAll (rbA g k r) 21 [.int .i64 x] = rbA g k { r with lf := x } := by
  simp only [setAll, rbA, rbL, dgL, mvL, List.cons_append, List.nil_append, List.setIfInBounds_toArray, List.set_cons_succ, List.set_cons_zero]
theorem rb_gone (g k : Nat) (r : Rb) (x : Int) : setAll (rbA g k r) 20 [.int .i64 x] = rbA g k { r with gn := x } := by
  simp only [setAll, rbA, rbL, dgL, mvL, List.cons_append, List.nil_append, List.setIfInBounds_toArray, List.set_cons_succ, List.set_cons_zero]
theorem rb_epoch (g k : Nat) (r : Rb) (x : Int) : setAll (rbA g k r) 7 [.int .i64 x] = rbA g k { r with ep := x } := by
  simp only [setAll, rbA, rbL, dgL, mvL, List.cons_append, List.nil_append, List.setIfInBounds_toArray, List.set_cons_succ, List.set_cons_zero]
theorem rb_stop (g k : Nat) (r : Rb) (x : Bool) : setAll (rbA g k r) 23 [.bool x] = rbA g k { r with st := x } := by
  simp only [setAll, rbA, rbL, dgL, mvL, List.cons_append, List.nil_append, List.setIfInBounds_toArray, List.set_cons_succ, List.set_cons_zero]
theorem rb_n (g k : Nat) (r : Rb) (x : Int) : setAll (rbA g k r) 11 [.int .i64 x] = rbA g k { r with mv := { r.mv with n := x } } := by
  simp only [setAll, rbA, rbL, dgL, mvL, List.cons_append, List.nil_append, List.setIfInBounds_toArray, List.set_cons_succ, List.set_cons_zero]
theorem rb_to (g k : Nat) (r : Rb) (x y : Int) (d : Bool) : setAll (rbA g k r) 15 (poA x y d).toList = rbA g k { r with mv := { r.mv with tx := x, ty := y, td := d } } := by
  show setAll (rbA g k r) 15 [.int .i64 x, .int .i64 y, .bool d] = _
  simp only [setAll, rbA, rbL, dgL, mvL, List.cons_append, List.nil_append, List.setIfInBounds_toArray, List.set_cons_succ, List.set_cons_zero]
theorem zeroDoing (w : World) : (zeroValue 80).run Tryz.prog w = .ok (.agg (dgA (firstR 0 0 0 false))) w := by kernel_rfl
theorem dgA_sz (r : Rb) : (dgA r).size = 15 := rfl
theorem dgA_szs (r s : Rb) : (dgA r).size = (dgA s).size := (dgA_sz r).trans (dgA_sz s).symm
theorem infoDg (r : Rb) : (Tryz.prog.info? 80).map (·.size) = some (dgA r).size := by rw [dgA_sz]; exact infoDoing
theorem built0 : Tryz.prog.built 80 [] = some (dgA (firstR 0 0 0 false)) := by kernel_rfl
theorem builtMv0 : Tryz.prog.built 44 [] = some (mvA mv0) := by kernel_rfl
theorem dg_cell {w : World} {g : Nat} {r : Rb} {T : TypeId} {fr : Nat × Nat} (h : w.heap[g]? = some (.cells (dgA r) T fr)) (j : Nat) : w.cell? ⟨g, j, none⟩ = (dgA r)[j]? := by simp [World.cell?, h]
theorem dg_st {w : World} {g : Nat} {r : Rb} {T : TypeId} {fr : Nat × Nat} (h : w.heap[g]? = some (.cells (dgA r) T fr)) : w.cell? ⟨g, 14, none⟩ = some (.bool r.st) := dg_cell h 14
theorem dg_move {w : World} {g : Nat} {r : Rb} {T : TypeId} {fr : Nat × Nat} (h : w.heap[g]? = some (.cells (dgA r) T fr)) : (loadVar 44 ⟨g, 0, none⟩).run Tryz.prog w = .ok (.agg (mvA r.mv)) w :=
  run_loadVar_at w _ _ _ (fun j v hv => by
    rw [Addr.add_mid, dg_cell h, Nat.zero_add]
    unfold mvA at hv
    rw [List.getElem?_toArray] at hv
    unfold dgA dgL
    rw [List.getElem?_toArray, List.getElem?_append_left (List.getElem?_eq_some_iff.1 hv).1]
    exact hv) (aggMove _) infoMove
theorem dg_to {w : World} {g : Nat} {r : Rb} {T : TypeId} {fr : Nat × Nat} (h : w.heap[g]? = some (.cells (dgA r) T fr)) : (loadVar 42 ⟨g, 6, none⟩).run Tryz.prog w = .ok (.agg (poA r.mv.tx r.mv.ty r.mv.td)) w :=
  run_loadVar_at w _ _ _ (fun j v hv => by
    rw [Addr.add_mid, dg_cell h]
    match j with
    | 0 => exact hv
    | 1 => exact hv
    | 2 => exact hv
    | j + 3 => simp [poA] at hv) (aggPose _) infoPose
def r0 (r : Rb) : Rb := { r with mv := mv0, gn := 0, lf := 0, la := 0, st := false }
def r1 (r : Rb) : Rb := { r0 r with px := r.mv.tx, py := r.mv.ty, pd := r.mv.td }
/- A block that is none of a robot's. -/
def Off (R : Wh) (N : Nat) : Prop := R.p ≠ N ∧ R.g ≠ N ∧ R.u ≠ N ∧ R.k ≠ N
theorem RbAt.off {w : World} {R : Wh} {r : Rb} (h : RbAt w R r) {N : Nat} (hN : w.heap.size ≤ N) : Off R N := by
  have h1 := h.plt
  have h2 := h.grid.ltg
  have h3 := h.grid.ltu
  have h4 := h.klt
  exact ⟨by omega, by omega, by omega, by omega⟩
theorem Only.setRow (N : Nat) (cs : Array Value) (w : World) : Only N w (w.setRow N cs) := ⟨rfl, rfl, rfl, by simp [World.setRow], fun i hi => setRow_other _ _ _ _ hi⟩
theorem RbAt.row {u : World} {R : Wh} {r : Rb} {N : Nat} {cs : Array Value} {T : TypeId} (h : RbAt u R r) (o : Off R N) (hN : u.heap[N]? = some (.cells cs T (0, 0))) (hT : T ≠ 3) (cs' : Array Value) : RbAt (u.setRow N cs') R r := by
  have q := Only.setRow N cs' u
  exact ⟨(q.block _ o.1).trans h.at_, grid_other (p := R.p) h.grid (q.block _ o.2.1) (q.block _ o.2.2.1), kin_other hT h.kin hN (Ne.symm o.2.2.2) q, h.ok, h.pg, h.pu, h.pk, h.kg, h.ku⟩
theorem Tn.row {R : Wh} {w u : World} (h : Tn R w u) {N : Nat} (hN : w.heap.size ≤ N) (cs : Array Value) : Tn R w (u.setRow N cs) := by
  have q := Only.setRow N cs u
  exact ⟨q.os.trans h.os, q.tape.trans h.tape, q.output.trans h.output, by rw [q.size]; exact h.size, fun i hi h1 h2 => (q.block _ (by omega)).trans (h.block i hi h1 h2)⟩
theorem two_new (w : World) (a b : Obj) : ((w.alloc a).alloc b).heap[w.heap.size]? = some a ∧ ((w.alloc a).alloc b).heap[w.heap.size + 1]? = some b := by
  refine ⟨(heap_old _ _ (by simp)).trans (World.alloc_heap_new _ _), ?_⟩
  have := World.alloc_heap_new (w.alloc a) b
  rwa [show (w.alloc a).heap.size = w.heap.size + 1 by simp] at this
section
variable {w : World} {R : Wh} {r : Rb} (h : RbAt w R r)
include h
set_option maxRecDepth 100000 in
set_option maxHeartbeats 2000000 in
theorem end_any (l0 : 0 ≤ r.lt) (l1 : r.lt ≤ 4000000000000000000) : Calls Tryz.prog 49 #[.pointer (some ⟨R.p, 0, none⟩)] w fun e w' => e = .returned (.tuple #[.agg (mvA r.mv), .int .i64 (if r.st then 2 else 1)]) ∧ RbAt w' R (ended r) ∧ Tn R w w' := by
  have hwr : IntKind.i64.wrap (r.lt + 1) = r.lt + 1 := by rw [IntKind.wrap_i64]; omega
  have OFF := h.off (N := w.heap.size) (Nat.le_refl _)
  have OFF1 := h.off (N := w.heap.size + 1) (by omega)
  obtain ⟨w1, hw1⟩ : ∃ w1, w1 = w.alloc (.cells (mvA mv0) 44) := ⟨_, rfl⟩
  have s1 : w1.heap.size = w.heap.size + 1 := by rw [hw1]; simp
  obtain ⟨w2, hw2⟩ : ∃ w2, w2 = w1.alloc (.cells (dgA r) 80) := ⟨_, rfl⟩
  have Q2 := two_new w (.cells (mvA mv0) 44 (0, 0)) (.cells (dgA r) 80 (0, 0))
  rw [← hw1, ← hw2] at Q2
  have b1 : Below w.heap.size w w1 := by rw [hw1]; exact (Below.refl _ _).alloc (Nat.le_refl _) _
  have b2 : Below w.heap.size w w2 := by rw [hw2]; exact b1.alloc (by omega) _
  have w1R := h.go b1
  have w2R := h.go b2
  obtain ⟨w3, hw3⟩ : ∃ w3, w3 = w2.setCells R.p 9 (dgA (firstR 0 0 0 false)).toList := ⟨_, rfl⟩
  have w3R : RbAt w3 R (r0 r) := by rw [hw3]; exact w2R.set 9 (dgA (firstR 0 0 0 false)).toList (rb_doing _ _ r (firstR 0 0 0 false))
  have o3 : Only R.p w2 w3 := by rw [hw3]; exact Only.setCells _ _ _ _
  obtain ⟨w4, hw4⟩ : ∃ w4, w4 = w3.setCells R.p 3 (poA r.mv.tx r.mv.ty r.mv.td).toList := ⟨_, rfl⟩
  have w4R : RbAt w4 R (r1 r) := by rw [hw4]; exact w3R.set 3 (poA r.mv.tx r.mv.ty r.mv.td).toList (rb_pose _ _ (r0 r) _ _ _)
  have o4 : Only R.p w3 w4 := by rw [hw4]; exact Only.setCells _ _ _ _
  have w3d : w3.heap[w.heap.size + 1]? = some (.cells (dgA r) 80 (0, 0)) := (o3.block _ (Ne.symm OFF1.1)).trans Q2.2
  have w4m : w4.heap[w.heap.size]? = some (.cells (mvA mv0) 44 (0, 0)) := (o4.block _ (Ne.symm OFF.1)).trans ((o3.block _ (Ne.symm OFF.1)).trans Q2.1)
  have w4d : w4.heap[w.heap.size + 1]? = some (.cells (dgA r) 80 (0, 0)) := (o4.block _ (Ne.symm OFF1.1)).trans w3d
  have T4 : Tn R w w4 := ((Tn.below b2).trans (Tn.only o3)).trans (Tn.only o4)
  have HL1 : Hid ((loadVar 80 ⟨R.p, 9, none⟩).run Tryz.prog w1 = .ok (.agg (dgA r)) w1) := w1R.doing
  have HT9 : Hid (w2.there R.p 9 (dgA (firstR 0 0 0 false)).size) := there_of w2R.at_ 9 15 (by show 9 + 15 ≤ 24; omega)
  have HTO : Hid ((loadVar 42 ⟨w.heap.size + 1, 6, none⟩).run Tryz.prog w3 = .ok (.agg (poA r.mv.tx r.mv.ty r.mv.td)) w3) := dg_to w3d
  have HT3 : Hid (w3.there R.p 3 (poA r.mv.tx r.mv.ty r.mv.td).size) := there_of w3R.at_ 3 3 (by show 3 + 3 ≤ 24; omega)
  clear Q2 b1 b2 w1R w2R w3R o3 o4 w3d h
  cases hs : r.st with
  | true =>
    have w4E : RbAt w4 R (ended r) := by
      have : r1 r = ended r := by unfold ended r1 r0; rw [hs]; rfl
      rw [← this]
      exact w4R
    have HE : Hid (RbAt (w4.setRow w.heap.size (mvA r.mv)) R (ended r) ∧ Tn R w (w4.setRow w.heap.size (mvA r.mv))) := ⟨w4E.row OFF w4m (by decide) _, T4.row (Nat.le_refl _) _⟩
    have HM : Hid (w4.heap[w.heap.size]? = some (.cells (mvA mv0) 44 (0, 0))) := w4m
    have HDM : Hid ((loadVar 44 ⟨w.heap.size + 1, 0, none⟩).run Tryz.prog w4 = .ok (.agg (mvA r.mv)) w4) := dg_move w4d
    have cst := dg_st w4d
    rw [hs] at cst
    clear w4R w4m w4d T4 OFF OFF1 hs w4E
    skip
    go_enter Tryz.func49, Tryz.ntmps49
    go_wp2_with (first
      | (refine wpList_allocAs rfl 44 rfl (mvA mv0) (zeroMove _) ?_; rw [← hw1]; clear hw1)
      | (refine wpList_load_at rfl 80 (.tmp 7) rfl ⟨R.p, 9, none⟩ rfl (dgA r) HL1.out ?_)
      | (refine wpList_new rfl rfl 80 4 (.tmp 8) rfl rfl rfl rfl (dgA (firstR 0 0 0 false)) (dgA r) (zeroDoing _) rfl rfl (infoDg _) (dgA_szs _ _) (dgA_one _) ?_; rw [← hw2, s1]; clear hw2)
      | (refine wpList_buildAs rfl 80 _ rfl (dgA (firstR 0 0 0 false)) _ rfl built0 ?_)
      | (refine wpList_store_mid rfl 80 (.tmp 12) (.tmp 10) rfl R.p 9 (dgA (firstR 0 0 0 false)) rfl rfl HT9.out (infoDg _) (dgA_one _) ?_; rw [← hw3]; clear hw3)
      | (refine wpList_load_at rfl 42 (.tmp 15) rfl ⟨w.heap.size + 1, 6, none⟩ rfl (poA r.mv.tx r.mv.ty r.mv.td) HTO.out ?_)
      | (refine wpList_store_mid rfl 42 (.tmp 18) (.tmp 16) rfl R.p 3 (poA r.mv.tx r.mv.ty r.mv.td) rfl rfl HT3.out infoPose (poA_one _ _ _) ?_; rw [← hw4]; clear hw4)
      | (refine wpList_load_at rfl 44 (.tmp 21) rfl ⟨w.heap.size + 1, 0, none⟩ rfl (mvA r.mv) HDM.out ?_)
      | (refine wpList_store_row rfl 44 (.tmp 2) (.tmp 22) rfl w.heap.size (mvA r.mv) rfl rfl 44 (mvA mv0) HM.out infoMove rfl (mvA_one _) ?_))
    exact bodyPost_ret (Lk.results_cell_tmp Tryz.results49 _ _ w.heap.size (mvA r.mv) rfl (load_row_of (cs := mvA r.mv) (setRow_heap _ _ _ _ _ _ HM.out) (aggMove _) infoMove)) rfl ⟨rfl, HE.out⟩
  | false =>
    obtain ⟨w5, hw5⟩ : ∃ w5, w5 = w4.setCell ⟨R.p, 8, none⟩ (.int .i64 (r.lt + 1)) := ⟨_, rfl⟩
    have w5R : RbAt w5 R (ended r) := by
      have : w5 = w4.setCells R.p 8 [.int .i64 (r.lt + 1)] := hw5
      rw [this]
      have e : ended r = { r1 r with lt := r.lt + 1 } := by unfold ended r1 r0; rw [hs]; rfl
      rw [e]
      exact w4R.set 8 [.int .i64 (r.lt + 1)] (rb_last _ _ (r1 r) (r.lt + 1))
    have o5 : Only R.p w4 w5 := by rw [hw5]; exact Only.setCell _ _ _ _
    have w5m : w5.heap[w.heap.size]? = some (.cells (mvA mv0) 44 (0, 0)) := (o5.block _ (Ne.symm OFF.1)).trans w4m
    have w5d : w5.heap[w.heap.size + 1]? = some (.cells (dgA r) 80 (0, 0)) := (o5.block _ (Ne.symm OFF1.1)).trans w4d
    have T5 : Tn R w w5 := T4.trans (Tn.only o5)
    have c8 : w4.cell? ⟨R.p, 8, none⟩ = some (.int .i64 r.lt) := w4R.c8
    have f8 := w4R.froz 8
    have HE : Hid (RbAt (w5.setRow w.heap.size (mvA r.mv)) R (ended r) ∧ Tn R w (w5.setRow w.heap.size (mvA r.mv))) := ⟨w5R.row OFF w5m (by decide) _, T5.row (Nat.le_refl _) _⟩
    have HM : Hid (w5.heap[w.heap.size]? = some (.cells (mvA mv0) 44 (0, 0))) := w5m
    have HDM : Hid ((loadVar 44 ⟨w.heap.size + 1, 0, none⟩).run Tryz.prog w5 = .ok (.agg (mvA r.mv)) w5) := dg_move w5d
    have cst := dg_st w4d
    rw [hs] at cst
    clear w4R w4m w4d T4 OFF OFF1 hs w5R o5 w5m w5d T5
    subst hw5
    go_enter Tryz.func49, Tryz.ntmps49
    go_wp2_with (first
      | (refine wpList_allocAs rfl 44 rfl (mvA mv0) (zeroMove _) ?_; rw [← hw1]; clear hw1)
      | (refine wpList_load_at rfl 80 (.tmp 7) rfl ⟨R.p, 9, none⟩ rfl (dgA r) HL1.out ?_)
      | (refine wpList_new rfl rfl 80 4 (.tmp 8) rfl rfl rfl rfl (dgA (firstR 0 0 0 false)) (dgA r) (zeroDoing _) rfl rfl (infoDg _) (dgA_szs _ _) (dgA_one _) ?_; rw [← hw2, s1]; clear hw2)
      | (refine wpList_buildAs rfl 80 _ rfl (dgA (firstR 0 0 0 false)) _ rfl built0 ?_)
      | (refine wpList_store_mid rfl 80 (.tmp 12) (.tmp 10) rfl R.p 9 (dgA (firstR 0 0 0 false)) rfl rfl HT9.out (infoDg _) (dgA_one _) ?_; rw [← hw3]; clear hw3)
      | (refine wpList_load_at rfl 42 (.tmp 15) rfl ⟨w.heap.size + 1, 6, none⟩ rfl (poA r.mv.tx r.mv.ty r.mv.td) HTO.out ?_)
      | (refine wpList_store_mid rfl 42 (.tmp 18) (.tmp 16) rfl R.p 3 (poA r.mv.tx r.mv.ty r.mv.td) rfl rfl HT3.out infoPose (poA_one _ _ _) ?_; rw [← hw4]; clear hw4)
      | (refine wpList_load_at rfl 44 (.tmp 30) rfl ⟨w.heap.size + 1, 0, none⟩ rfl (mvA r.mv) HDM.out ?_)
      | (refine wpList_store_row rfl 44 (.tmp 2) (.tmp 31) rfl w.heap.size (mvA r.mv) rfl rfl 44 (mvA mv0) HM.out infoMove rfl (mvA_one _) ?_))
    exact bodyPost_ret (Lk.results_cell_tmp Tryz.results49 _ _ w.heap.size (mvA r.mv) rfl (load_row_of (cs := mvA r.mv) (setRow_heap _ _ _ _ _ _ HM.out) (aggMove _) infoMove)) rfl ⟨rfl, HE.out⟩
end
end Go.Proofs.YtedmfhkdaifegaaGreat.Rob
