/-
  What a robot tells; where it stands; what it does now; a delay.
-/
import Derived.Test.YtedmfhkdaifegaaGreatRobCalls
namespace Go.Proofs.YtedmfhkdaifegaaGreat.Rob
set_option linter.unusedVariables false
set_option linter.unusedSimpArgs false
open Go Go.RowKit Go.Shelf Go.Proofs Go.Proofs.YtedmfhkdaifegaaGreat.Lk Go.Proofs.YtedmfhkdaifegaaGreat.Plain
attribute [local go_sem] Oper.semAt_some

theorem run_build_op {o : Oper} {a : Act} {w : World} (t : TypeId) (parts : Array (Nat × Operand)) (ho : o.op = .build t parts) (vs : List (Nat × Value)) (cs : Array Value) (hv : (parts.map fun (i, x) => (i, a.eval x)).toList = vs) (hf : Tryz.prog.built t vs = some cs) :
    (execOp a.eval o).run Tryz.prog w = .ok (.value (.agg cs)) w := by
  subst hv
  unfold execOp
  simp only [ho, Sem.run_bind, run_build w t _ _ hf, Result.andThen_ok, Sem.run_pure]
theorem wpList_buildAs {ops : Array Oper} {rest : List Oper} {o : Oper} {a : Act} {w : World} {Q : Exit → Act → World → Prop} (hg : o.guard = none) (t : TypeId) (parts : Array (Nat × Operand)) (ho : o.op = .build t parts) (cs : Array Value) (vs : List (Nat × Value))
    (hv : (parts.map fun (i, x) => (i, a.eval x)).toList = vs) (hf : Tryz.prog.built t vs = some cs) (h : wpList Tryz.prog ops Q rest (a.put o.dst (.agg cs)) w) : wpList Tryz.prog ops Q (o :: rest) a w :=
  wpList_plain hg fun K hK => by
    unfold Oper.wp
    rw [run_build_op t parts ho vs cs hv hf]
    exact hK _ _ h
theorem run_one (t : Tl) (w : World) : (Instr.buildSlice 61 1 #[(0, .agg (tlA t))]).run Tryz.prog w = .ok (.slice (some ⟨w.heap.size, 0, none⟩) 1 1) (w.alloc (.cells (tlA t) 46)) := by
  cases t
  kernel_rfl
theorem run_one_op {o : Oper} {a : Act} {w : World} (x : Operand) (ho : o.op = .buildSlice 61 1 #[(0, x)]) (t : Tl) (hx : a.eval x = .agg (tlA t)) :
    (execOp a.eval o).run Tryz.prog w = .ok (.value (.slice (some ⟨w.heap.size, 0, none⟩) 1 1)) (w.alloc (.cells (tlA t) 46)) := by
  unfold execOp
  simp only [ho, List.map_toArray, List.map_cons, List.map_nil, hx, Sem.run_bind, run_one, Result.andThen_ok, Sem.run_pure]
theorem builtHalt (r : Rb) : Tryz.prog.built 46 [(0, .int .i64 4), (1, .int .i64 r.nb), (2, .int .i64 r.ep), (5, .agg (poA r.px r.py r.pd)), (6, .int .i64 r.ld)] = some (tlA (haltP r)) := by cases r; kernel_rfl
theorem builtAck (r : Rb) : Tryz.prog.built 46 [(0, .int .i64 3), (1, .int .i64 r.nb), (2, .int .i64 r.ep), (3, .int .i64 r.lt)] = some (tlA (ackP r)) := by cases r; kernel_rfl
/- The telegrams that a call tells: none, or one, in a block of one's own. -/
def LsAt (B : Nat) (w : World) (v : Value) : Option Tl → Prop
  | none => v = .slice none 0 0
  | some t => ∃ g, v = .slice (some ⟨g, 0, none⟩) 1 1 ∧ B ≤ g ∧ w.heap[g]? = some (.cells (tlA t) 46 (0, 0))
theorem LsAt.go {B : Nat} {w w' : World} {v : Value} {o : Option Tl} (h : LsAt B w v o) (hb : Below w.heap.size w w') : LsAt B w' v o := by
  cases o with
  | none => exact h
  | some t =>
    obtain ⟨g, e, hg, ha⟩ := h
    exact ⟨g, e, hg, (hb.block _ (Array.getElem?_eq_some_iff.1 ha).1).trans ha⟩
theorem LsAt.mono {B B' : Nat} {w : World} {v : Value} {o : Option Tl} (h : LsAt B w v o) (hb : B' ≤ B) : LsAt B' w v o := by
  cases o with
  | none => exact h
  | some t =>
    obtain ⟨g, e, hg, ha⟩ := h
    exact ⟨g, e, Nat.le_trans hb hg, ha⟩
theorem wpList_allocAs {ops : Array Oper} {rest : List Oper} {o : Oper} {a : Act} {w : World} {Q : Exit → Act → World → Prop} (hg : o.guard = none) (ty : TypeId) (h1 : o.op = .alloc ty) (cs : Array Value) (hz : (zeroValue ty).run Tryz.prog w = .ok (.agg cs) w)
    (h : wpList Tryz.prog ops Q rest (a.put o.dst (.pointer (some ⟨w.heap.size, 0, none⟩))) (w.alloc (.cells cs ty))) : wpList Tryz.prog ops Q (o :: rest) a w := by
  refine wpList_plain hg fun K hK => ?_
  unfold Oper.wp execOp
  simp only [h1, Instr.alloc, Sem.run_bind, hz, newVar, newRow, run_newObj_alloc, Sem.run_pure, Result.andThen_ok, Value.cells]
  exact hK _ _ h
theorem poA_one (x y : Int) (d : Bool) : (poA x y d).all (·.oneCell') = true := by simp [poA, Value.oneCell']
theorem zeroPose (w : World) : (zeroValue 42).run Tryz.prog w = .ok (.agg (poA 0 0 false)) w := by kernel_rfl
theorem zeroMove (w : World) : (zeroValue 44).run Tryz.prog w = .ok (.agg (mvA mv0)) w := by kernel_rfl
theorem results_one {fn : Func} {p : Tmp} {ty : TypeId} (h : fn.results = #[.cell p ty]) (tmps : Array Value) (w : World) (N : Nat) (cs : Array Value)
    (hp : tmps.getD p undef = .pointer (some ⟨N, 0, none⟩)) (hg : (loadVar ty ⟨N, 0, none⟩).run Tryz.prog w = .ok (.agg cs) w) : (results fn tmps).run Tryz.prog w = .ok (.agg cs) w := by
  have hp' : tmps[p]?.getD undef = .pointer (some ⟨N, 0, none⟩) := by simpa using hp
  simp [results, h, hp', asAddr, hg]
theorem load_row_of {w : World} {g : Nat} {cs : Array Value} {T ty : TypeId} {fr : Nat × Nat} (h : w.heap[g]? = some (.cells cs T fr)) (ha : (isAgg ty).run Tryz.prog w = .ok true w) (hi : (Tryz.prog.info? ty).map (·.size) = some cs.size) : (loadVar ty ⟨g, 0, none⟩).run Tryz.prog w = .ok (.agg cs) w :=
  run_loadVar_at w _ _ _ (fun j v hv => by rw [Lk.add_zero]; simpa [World.cell?, h] using hv) ha hi
section
variable {w : World} {R : Wh} {r : Rb} (h : RbAt w R r)
include h
set_option maxRecDepth 100000 in
set_option maxHeartbeats 2000000 in
theorem tell_any : Calls Tryz.prog 26 #[.pointer (some ⟨R.p, 0, none⟩)] w fun e w' => ∃ v, e = .returned v ∧ LsAt w.heap.size w' v (some (tellP r)) ∧ Below w.heap.size w w' := by
  have cs := stopped_any h
  have HR : Hid (RbAt w R r) := h
  clear h
  unfold tellP
  cases hs : stopd r with
  | true =>
    rw [hs] at cs
    rw [if_pos rfl]
    clear hs
    go_enter Tryz.func26, Tryz.ntmps26
    go_upto_region 2 with (first | (go_at_call 58; refine cs.mono ?_; rintro e w1 ⟨rfl, hw1⟩; rw [hw1]; clear hw1))
    clear cs
    refine start_held (S := fun u => RbAt u R r) 19 rfl (by kernel_rfl) (HR.out.go (Below.refl _ _).drew) ?_
    simp only [Array.replicate_succ, Array.replicate_zero, List.push_toArray, List.nil_append, List.cons_append]
    have B0 : Below w.heap.size w w.drew := (Below.refl _ _).drew
    have hS0 : RbAt w.drew R r := HR.out.go B0
    generalize w.drew = x0 at *
    refine tk 0 hS0 rfl (v := ?v5000) ?y5000 ?r5000
    case y5000 => (intro u hu; go_simp; try rfl)
    simp only [Act.put, pA, pB, pC]
    refine tk 1 hS0 rfl (v := ?v5001) ?y5001 ?r5001
    case y5001 => (intro u hu; go_simp; try rfl)
    simp only [Act.put, pA, pB, pC]
    refine tk 2 hS0 rfl (v := ?v5002) ?y5002 ?r5002
    case y5002 => (intro u hu; go_simp; try rfl)
    simp only [Act.put, pA, pB, pC]
    refine tk 3 hS0 rfl (v := ?v5003) ?y5003 ?r5003
    case y5003 => (intro u hu; have zz0 := (fun (u : World) (hu : RbAt u R r) => hu.c2) u hu; go_simp; try rfl)
    simp only [Act.put, pA, pB, pC]
    refine tk 4 hS0 rfl (v := ?v5004) ?y5004 ?r5004
    case y5004 => (intro u hu; go_simp; try rfl)
    simp only [Act.put, pA, pB, pC]
    refine tk 5 hS0 rfl (v := ?v5005) ?y5005 ?r5005
    case y5005 => (intro u hu; go_simp; try rfl)
    simp only [Act.put, pA, pB, pC]
    refine tk 6 hS0 rfl (v := ?v5006) ?y5006 ?r5006
    case y5006 => (intro u hu; go_simp; try rfl)
    simp only [Act.put, pA, pB, pC]
    refine tk 7 hS0 rfl (v := ?v5007) ?y5007 ?r5007
    case y5007 => (intro u hu; have zz0 := (fun (u : World) (hu : RbAt u R r) => hu.c7) u hu; go_simp; try rfl)
    simp only [Act.put, pA, pB, pC]
    refine tk 8 hS0 rfl (v := ?v5008) ?y5008 ?r5008
    case y5008 => (intro u hu; go_simp; try rfl)
    simp only [Act.put, pA, pB, pC]
    refine tk 9 hS0 rfl (v := ?v5009) ?y5009 ?r5009
    case y5009 => (intro u hu; go_simp; try rfl)
    simp only [Act.put, pA, pB, pC]
    refine tk 10 hS0 rfl (v := ?v5010) ?y5010 ?r5010
    case y5010 => (intro u hu; go_simp; try rfl)
    simp only [Act.put, pA, pB, pC]
    refine tk 11 hS0 rfl (v := .agg (poA r.px r.py r.pd)) ?y5011 ?r5011
    case y5011 => (intro u hu; exact run_load_at 42 _ rfl ⟨R.p, 3, none⟩ rfl _ (RbAt.pose hu))
    simp only [Act.put, pA, pB, pC]
    refine tk 12 hS0 rfl (v := ?v5012) ?y5012 ?r5012
    case y5012 => (intro u hu; go_simp; try rfl)
    simp only [Act.put, pA, pB, pC]
    refine tk 13 hS0 rfl (v := ?v5013) ?y5013 ?r5013
    case y5013 => (intro u hu; go_simp; try rfl)
    simp only [Act.put, pA, pB, pC]
    refine tk 14 hS0 rfl (v := ?v5014) ?y5014 ?r5014
    case y5014 => (intro u hu; go_simp; try rfl)
    simp only [Act.put, pA, pB, pC]
    refine tk 15 hS0 rfl (v := ?v5015) ?y5015 ?r5015
    case y5015 => (intro u hu; have zz0 := (fun (u : World) (hu : RbAt u R r) => hu.c6) u hu; go_simp; try rfl)
    simp only [Act.put, pA, pB, pC]
    refine tk 16 hS0 rfl (v := .agg (tlA (haltP r))) ?y5016 ?r5016
    case y5016 => (intro u hu; refine run_build_op _ _ rfl _ _ ?_ (builtHalt r); simp only [List.map_toArray, List.map_cons, List.map_nil]; rfl)
    simp only [Act.put, pA, pB, pC]
    refine wpAnyH_ready (rs := [17]) (by kernel_rfl) (by simp) (AllReadyH.cons ((nth_eq _ 17).trans rfl) ?_ AllReadyH.nil)
    intro K1 hK1
    obtain ⟨x1, hx1⟩ : ∃ x, x = x0.alloc (.cells (tlA (haltP r)) 46) := ⟨_, rfl⟩
    have hS1 := hS0.go (show Below x0.heap.size x0 x1 by rw [hx1]; exact (Below.refl _ _).alloc (Nat.le_refl _) _)
    refine value_in hK1 (by kernel_rfl) (.slice (some ⟨x0.heap.size, 0, none⟩) 1 1) x1 (by rw [hx1]; exact run_one_op _ rfl (haltP r) rfl) hS1 ?_
    simp only [Act.put, pA, pB, pC]
    refine tk 18 hS1 rfl (v := ?v5017) ?y5017 ?r5017
    case y5017 => (intro u hu; go_simp; try rfl)
    simp only [Act.put, pA, pB, pC]
    refine done_held (by kernel_rfl) ?_ _
    go_wp2
    go_ret
    exact ⟨_, rfl, ⟨_, rfl, B0.size, by rw [hx1]; exact World.alloc_heap_new _ _⟩, B0.trans (by rw [hx1]; exact (Below.refl _ _).alloc B0.size _)⟩
  | false =>
    rw [hs] at cs
    rw [if_neg (by decide)]
    clear hs
    go_enter Tryz.func26, Tryz.ntmps26
    go_upto_region 3 with (first | (go_at_call 58; refine cs.mono ?_; rintro e w1 ⟨rfl, hw1⟩; rw [hw1]; clear hw1))
    clear cs
    refine start_held (S := fun u => RbAt u R r) 15 rfl (by kernel_rfl) (HR.out.go (Below.refl _ _).drew) ?_
    simp only [Array.replicate_succ, Array.replicate_zero, List.push_toArray, List.nil_append, List.cons_append]
    have B0 : Below w.heap.size w w.drew := (Below.refl _ _).drew
    have hS0 : RbAt w.drew R r := HR.out.go B0
    generalize w.drew = x0 at *
    refine tk 0 hS0 rfl (v := ?v5018) ?y5018 ?r5018
    case y5018 => (intro u hu; go_simp; try rfl)
    simp only [Act.put, pA, pB, pC]
    refine tk 1 hS0 rfl (v := ?v5019) ?y5019 ?r5019
    case y5019 => (intro u hu; go_simp; try rfl)
    simp only [Act.put, pA, pB, pC]
    refine tk 2 hS0 rfl (v := ?v5020) ?y5020 ?r5020
    case y5020 => (intro u hu; go_simp; try rfl)
    simp only [Act.put, pA, pB, pC]
    refine tk 3 hS0 rfl (v := ?v5021) ?y5021 ?r5021
    case y5021 => (intro u hu; have zz0 := (fun (u : World) (hu : RbAt u R r) => hu.c2) u hu; go_simp; try rfl)
    simp only [Act.put, pA, pB, pC]
    refine tk 4 hS0 rfl (v := ?v5022) ?y5022 ?r5022
    case y5022 => (intro u hu; go_simp; try rfl)
    simp only [Act.put, pA, pB, pC]
    refine tk 5 hS0 rfl (v := ?v5023) ?y5023 ?r5023
    case y5023 => (intro u hu; go_simp; try rfl)
    simp only [Act.put, pA, pB, pC]
    refine tk 6 hS0 rfl (v := ?v5024) ?y5024 ?r5024
    case y5024 => (intro u hu; go_simp; try rfl)
    simp only [Act.put, pA, pB, pC]
    refine tk 7 hS0 rfl (v := ?v5025) ?y5025 ?r5025
    case y5025 => (intro u hu; have zz0 := (fun (u : World) (hu : RbAt u R r) => hu.c7) u hu; go_simp; try rfl)
    simp only [Act.put, pA, pB, pC]
    refine tk 8 hS0 rfl (v := ?v5026) ?y5026 ?r5026
    case y5026 => (intro u hu; go_simp; try rfl)
    simp only [Act.put, pA, pB, pC]
    refine tk 9 hS0 rfl (v := ?v5027) ?y5027 ?r5027
    case y5027 => (intro u hu; go_simp; try rfl)
    simp only [Act.put, pA, pB, pC]
    refine tk 10 hS0 rfl (v := ?v5028) ?y5028 ?r5028
    case y5028 => (intro u hu; go_simp; try rfl)
    simp only [Act.put, pA, pB, pC]
    refine tk 11 hS0 rfl (v := ?v5029) ?y5029 ?r5029
    case y5029 => (intro u hu; have zz0 := (fun (u : World) (hu : RbAt u R r) => hu.c8) u hu; go_simp; try rfl)
    simp only [Act.put, pA, pB, pC]
    refine tk 12 hS0 rfl (v := .agg (tlA (ackP r))) ?y5030 ?r5030
    case y5030 => (intro u hu; refine run_build_op _ _ rfl _ _ ?_ (builtAck r); simp only [List.map_toArray, List.map_cons, List.map_nil]; rfl)
    simp only [Act.put, pA, pB, pC]
    refine wpAnyH_ready (rs := [13]) (by kernel_rfl) (by simp) (AllReadyH.cons ((nth_eq _ 13).trans rfl) ?_ AllReadyH.nil)
    intro K1 hK1
    obtain ⟨x1, hx1⟩ : ∃ x, x = x0.alloc (.cells (tlA (ackP r)) 46) := ⟨_, rfl⟩
    have hS1 := hS0.go (show Below x0.heap.size x0 x1 by rw [hx1]; exact (Below.refl _ _).alloc (Nat.le_refl _) _)
    refine value_in hK1 (by kernel_rfl) (.slice (some ⟨x0.heap.size, 0, none⟩) 1 1) x1 (by rw [hx1]; exact run_one_op _ rfl (ackP r) rfl) hS1 ?_
    simp only [Act.put, pA, pB, pC]
    refine tk 14 hS1 rfl (v := ?v5031) ?y5031 ?r5031
    case y5031 => (intro u hu; go_simp; try rfl)
    simp only [Act.put, pA, pB, pC]
    refine done_held (by kernel_rfl) ?_ _
    go_wp2
    go_ret
    exact ⟨_, rfl, ⟨_, rfl, B0.size, by rw [hx1]; exact World.alloc_heap_new _ _⟩, B0.trans (by rw [hx1]; exact (Below.refl _ _).alloc B0.size _)⟩
set_option maxRecDepth 100000 in
set_option maxHeartbeats 2000000 in
theorem pose_any : Calls Tryz.prog 20 #[.pointer (some ⟨R.p, 0, none⟩)] w fun e w' => e = .returned (.agg (poA r.px r.py r.pd)) ∧ Below w.heap.size w w' := by
  obtain ⟨w1, hw1⟩ : ∃ w1, w1 = w.alloc (.cells (poA 0 0 false) 42) := ⟨_, rfl⟩
  have b1 : Below w.heap.size w w1 := by rw [hw1]; exact (Below.refl _ _).alloc (Nat.le_refl _) _
  have a1 : w1.heap[w.heap.size]? = some (.cells (poA 0 0 false) 42 (0, 0)) := by rw [hw1]; exact World.alloc_heap_new _ _
  have HR : Hid (RbAt w1 R r) := h.go b1
  have HE : Hid (Below w.heap.size w (w1.setRow w.heap.size (poA r.px r.py r.pd))) := Grid.below_row b1 (Nat.le_refl _) _
  have HA : Hid (w1.heap[w.heap.size]? = some (.cells (poA 0 0 false) 42 (0, 0))) := a1
  clear h b1 a1
  go_enter Tryz.func20, Tryz.ntmps20
  go_wp2_with (first
    | (refine wpList_allocAs rfl 42 rfl (poA 0 0 false) (zeroPose _) ?_; rw [← hw1]; clear hw1)
    | (refine wpList_load_at rfl 42 (.tmp 5) rfl ⟨R.p, 3, none⟩ rfl (poA r.px r.py r.pd) HR.out.pose ?_)
    | (refine wpList_store_row rfl 42 (.tmp 2) (.tmp 6) rfl w.heap.size (poA r.px r.py r.pd) rfl rfl 42 (poA 0 0 false) HA.out infoPose rfl (poA_one _ _ _) ?_))
  exact bodyPost_ret (results_one Tryz.results20 _ _ w.heap.size (poA r.px r.py r.pd) rfl (load_row_of (cs := poA r.px r.py r.pd) (setRow_heap _ _ _ _ _ _ HA.out) (aggPose _) infoPose)) rfl ⟨rfl, HE.out⟩
end
end Go.Proofs.YtedmfhkdaifegaaGreat.Rob
