/-
  A go-ahead begun.
-/
import Derived.Test.YtedmfhkdaifegaaGreatRobBeg
namespace Go.Proofs.YtedmfhkdaifegaaGreat.Rob
set_option linter.unusedVariables false
set_option linter.unusedSimpArgs false
open Go Go.RowKit Go.Shelf Go.Proofs Go.Proofs.YtedmfhkdaifegaaGreat.Lk Go.Proofs.YtedmfhkdaifegaaGreat.Plain
attribute [local go_sem] Oper.semAt_some

theorem run_store_mid_op {o : Oper} {a : Act} {w : World} (ty : TypeId) (x y : Operand) (ho : o.op = .store ty x y) (b k : Nat) (cells : Array Value) (hx : a.eval x = .pointer (some ⟨b, k, none⟩)) (hy : a.eval y = .agg cells)
    (ht : w.there b k cells.size) (hi : (Tryz.prog.info? ty).map (·.size) = some cells.size) (h1 : cells.all (·.oneCell') = true) : (execOp a.eval o).run Tryz.prog w = .ok .skip (w.setCells b k cells.toList) := by
  unfold execOp
  simp only [ho, hx, hy, Instr.storeAt, Instr.sureAddr, Sem.run_bind, Sem.run_pure, Result.andThen_ok, run_storeVar_mid w b k ty cells ht hi h1]
theorem setAll_app : ∀ (l2' l1 l2 : List Value), l2.length = l2'.length → setAll (l1 ++ l2).toArray l1.length l2' = (l1 ++ l2').toArray
  | [], l1, l2, h => by
    obtain rfl : l2 = [] := List.length_eq_zero_iff.1 h
    rfl
  | v :: r, l1, l2, h => by
    cases l2 with
    | nil => simp at h
    | cons a s =>
      have e : ((l1 ++ a :: s).toArray).setIfInBounds l1.length v = ((l1 ++ [v]) ++ s).toArray := by simp
      show setAll (((l1 ++ a :: s).toArray).setIfInBounds l1.length v) (l1.length + 1) r = _
      rw [e]
      have := setAll_app r (l1 ++ [v]) s (by simpa using h)
      rw [List.length_append, List.length_singleton] at this
      rw [this, List.append_assoc]
      rfl
theorem rb_doing (g k : Nat) (r r' : Rb) : setAll (rbA g k r) 9 (dgL r') = rbA g k { r with mv := r'.mv, gn := r'.gn, lf := r'.lf, la := r'.la, st := r'.st } :=
  setAll_app (dgL r') [_, _, _, _, _, _, _, _, _] (dgL r) rfl
theorem builtDoing (m : Mv) (n : Int) : Tryz.prog.built 80 [(0, .agg (mvA m)), (2, .int .i64 n)] = some (mvL m ++ [Value.int .i64 0, Value.int .i64 n, Value.int .i64 0, Value.bool false]).toArray := by cases m; kernel_rfl
set_option maxRecDepth 100000 in
set_option maxHeartbeats 2000000 in
theorem begin_any {w : World} {R : Wh} {r : Rb} (h : RbAt w R r) (t : Tl) : Calls Tryz.prog 51 #[.pointer (some ⟨R.p, 0, none⟩), .agg (mvA (tmv t))] w fun e w' => e = .returned (.tuple #[]) ∧ RbAt w' R (begun r t) ∧ Tn R w w' := by
  obtain ⟨w1, hw1⟩ : ∃ w1, w1 = w.alloc (.cells (mvA (tmv t)) 44) := ⟨_, rfl⟩
  have b1 : Below w.heap.size w w1 := by rw [hw1]; exact (Below.refl _ _).alloc (Nat.le_refl _) _
  have a1 : w1.heap[w.heap.size]? = some (.cells (mvA (tmv t)) 44 (0, 0)) := by rw [hw1]; exact World.alloc_heap_new _ _
  have HW : Hid (RbAt w1.drew R r ∧ Tn R w w1.drew ∧ w1.drew.heap[w.heap.size]? = some (.cells (mvA (tmv t)) 44 (0, 0))) := ⟨(h.go b1).go (Below.refl _ _).drew, Tn.below b1.drew, a1⟩
  have HP : Hid (R.p < w.heap.size) := h.plt
  clear h b1 a1
  go_enter Tryz.func51, Tryz.ntmps51
  go_upto_region 1 with (refine wpList_boxAt rfl 44 (.tmp 1) rfl (mvA (tmv t)) rfl ?_; rw [← hw1]; clear hw1)
  refine start_held (S := fun u => u.heap[w.heap.size]? = some (.cells (mvA (tmv t)) 44 (0, 0))) 11 rfl (by kernel_rfl) (HW.out.2.2) ?_
  simp only [Array.replicate_succ, Array.replicate_zero, List.push_toArray, List.nil_append, List.cons_append]
  have hS0 := HW.out.2.2
  have hR0 := HW.out.1
  have T0 := HW.out.2.1
  clear HW
  generalize w1.drew = x0 at *
  refine tk 0 hS0 rfl (v := ?v5186) ?y5186 ?r5186
  case y5186 => (intro u hu; go_simp; try rfl)
  simp only [Act.put, pA, pB, pC]
  refine tk 1 hS0 rfl (v := .agg (mvA (tmv t))) ?y5187 ?r5187
  case y5187 => (intro u hu; exact run_load_at 44 _ rfl ⟨w.heap.size, 0, none⟩ rfl _ (mv_all hu))
  simp only [Act.put, pA, pB, pC]
  refine tk 2 hS0 rfl (v := ?v5188) ?y5188 ?r5188
  case y5188 => (intro u hu; go_simp; try rfl)
  simp only [Act.put, pA, pB, pC]
  refine tk 3 hS0 rfl (v := ?v5189) ?y5189 ?r5189
  case y5189 => (intro u hu; have zz0 := (fun (u : World) (hu : u.heap[w.heap.size]? = some (.cells (mvA (tmv t)) 44 (0, 0))) => (mv_cell hu 10).trans (rfl : _ = some (Value.int .i64 t.me))) u hu; go_simp; try rfl)
  simp only [Act.put, pA, pB, pC]
  refine tk 4 hS0 rfl (v := ?v5190) ?y5190 ?r5190
  case y5190 => (intro u hu; go_simp; try rfl)
  simp only [Act.put, pA, pB, pC]
  refine tk 5 hS0 rfl (v := ?v5191) ?y5191 ?r5191
  case y5191 => (intro u hu; have zz0 := (fun (u : World) (hu : u.heap[w.heap.size]? = some (.cells (mvA (tmv t)) 44 (0, 0))) => (mv_cell hu 9).trans (rfl : _ = some (Value.int .i64 t.ma))) u hu; go_simp; try rfl)
  simp only [Act.put, pA, pB, pC]
  refine wpAnyH_ready (rs := [6]) (by kernel_rfl) (by simp) (AllReadyH.cons ((nth_eq _ 6).trans rfl) ?_ AllReadyH.nil)
  intro K1 hK1
  refine call_in hK1 (by kernel_rfl) 72 #[.int .i64 t.me, .int .i64 t.ma] (by go_simp) _ (less_ret t.me t.ma x0) ?_
  rintro v1 x1 ⟨rfl, b1⟩
  have hS1 := (b1.block _ (Array.getElem?_eq_some_iff.1 hS0).1).trans hS0
  have hR1 := hR0.go b1
  have T1 := T0.trans (Tn.below b1)
  refine ⟨hS1, ?_⟩
  simp only [Act.put, pA, pB, pC]
  refine tk 7 hS1 rfl (v := .agg (dgA (begun r t))) ?y5192 ?r5192
  case y5192 => (intro u hu; refine run_build_op _ _ rfl _ _ ?_ (builtDoing (tmv t) (less t.me t.ma)); simp only [List.map_toArray, List.map_cons, List.map_nil]; rfl)
  simp only [Act.put, pA, pB, pC]
  refine tk 8 hS1 rfl (v := ?v5193) ?y5193 ?r5193
  case y5193 => (intro u hu; go_simp; try rfl)
  simp only [Act.put, pA, pB, pC]
  refine tk 9 hS1 rfl (v := ?v5194) ?y5194 ?r5194
  case y5194 => (intro u hu; go_simp; try rfl)
  simp only [Act.put, pA, pB, pC]
  refine wpAnyH_ready (rs := [10]) (by kernel_rfl) (by simp) (AllReadyH.cons ((nth_eq _ 10).trans rfl) ?_ AllReadyH.nil)
  intro K2 hK2
  obtain ⟨x2, hx2⟩ : ∃ x, x = x1.setCells R.p 9 (dgA (begun r t)).toList := ⟨_, rfl⟩
  have hR2 : RbAt x2 R (begun r t) := by rw [hx2]; exact hR1.set 9 (dgA (begun r t)).toList (rb_doing _ _ r (begun r t))
  have o2 : Only R.p x1 x2 := by rw [hx2]; exact Only.setCells _ _ _ _
  have hS2 := (o2.block w.heap.size (by have := HP.out; omega)).trans hS1
  have T2 := T1.trans (Tn.only o2)
  refine skip_in hK2 (by kernel_rfl) x2 (by rw [hx2]; exact run_store_mid_op 80 _ _ rfl R.p 9 (dgA (begun r t)) rfl rfl (there_of hR1.at_ 9 15 (by show 9 + 15 ≤ 24; omega)) infoDoing (dgA_one _)) hS2 ?_
  simp only [Act.put, pA, pB, pC]
  refine done_held (by kernel_rfl) ?_ _
  go_wp2
  go_end0
  exact ⟨rfl, hR2, T2⟩
end Go.Proofs.YtedmfhkdaifegaaGreat.Rob
