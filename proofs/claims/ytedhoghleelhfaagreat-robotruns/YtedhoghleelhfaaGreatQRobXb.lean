/-
  Whether a go-ahead may be begun; its beginning.
-/
import Derived.Test.YtedhoghleelhfaaGreatQRobXa
namespace Go.Proofs.YtedhoghleelhfaaGreat.Rob
set_option linter.unusedVariables false
set_option linter.unusedSimpArgs false
open Go Go.RowKit Go.Shelf Go.Proofs Go.Proofs.YtedhoghleelhfaaGreat.Lk Go.Proofs.YtedhoghleelhfaaGreat.Plain
attribute [local go_sem] Oper.semAt_some

theorem eqPo {x y x' y' : Int} {d d' b : Bool} (h : decide (((x, y), d) = ((x', y'), d')) = b) (w : World) : (Op.equalIn 10000 42 (.agg (poA x y d)) (.agg (poA x' y' d'))).run Tryz.prog w = .ok b w := by
  rw [← h]
  exact Grid.eqPose x y x' y' d d' w
theorem guardPo : Tryz.prog.eqGuardType Tryz.prog.depth 42 = false := by kernel_rfl
theorem run_eql_agg {o : Oper} {a : Act} {w : World} (T : TypeId) (x y : Operand) (ho : o.op = .binOp .eql T x y T) (hg : Tryz.prog.eqGuardType Tryz.prog.depth T = false) (xs ys : Array Value) (b : Bool) (hx : a.eval x = .agg xs) (hy : a.eval y = .agg ys)
    (h : (Op.equalIn 10000 T (.agg xs) (.agg ys)).run Tryz.prog w = .ok b w) : (execOp a.eval o).run Tryz.prog w = .ok (.value (.bool b)) w := by
  unfold execOp
  simp only [ho, hx, hy, Sem.run_bind, Sem.run_pure, Result.andThen_ok, run_eqGuard_agg _ _ _ _ _ _ _ hg, run_eql_struct, h]
theorem run_neq_agg {o : Oper} {a : Act} {w : World} (T : TypeId) (x y : Operand) (ho : o.op = .binOp .neq T x y T) (hg : Tryz.prog.eqGuardType Tryz.prog.depth T = false) (xs ys : Array Value) (b : Bool) (hx : a.eval x = .agg xs) (hy : a.eval y = .agg ys)
    (h : (Op.equalIn 10000 T (.agg xs) (.agg ys)).run Tryz.prog w = .ok b w) : (execOp a.eval o).run Tryz.prog w = .ok (.value (.bool (!b))) w := by
  unfold execOp
  simp only [ho, hx, hy, Sem.run_bind, Sem.run_pure, Result.andThen_ok, run_eqGuard_agg _ _ _ _ _ _ _ hg, run_neq_struct, h]
theorem legal_b {w : World} {R : Wh} {r : Rb} (h : RbAt w R r) (m : Mv) (b : Bool) (hb : Grid.legalU R.W R.H R.us (gm m) = b) : Calls Tryz.prog 76 #[.pointer (some ⟨R.g, 0, none⟩), .agg (mvA m)] w fun e w' => ∃ v, e = .returned v ∧ (v = .bool b ∧ Below w.heap.size w w') := by
  rw [← hb]
  exact legal_ret h m
theorem heap_old (w : World) (o : Obj) {g : Nat} (h : g < w.heap.size) : (w.alloc o).heap[g]? = w.heap[g]? := ((Below.refl w.heap.size w).alloc (Nat.le_refl _) o).block g h
theorem moves_b {w : World} {R : Wh} {r : Rb} (h : RbAt w R r) (b : Bool) (hb : under r = b) : Calls Tryz.prog 57 #[.pointer (some ⟨R.p, 0, none⟩)] w fun e w' => ∃ v, e = .returned v ∧ (v = .bool b ∧ w' = w) := by
  rw [← hb]
  exact moves_ret h
section
variable {w : World} {R : Wh} {r : Rb} (h : RbAt w R r)
include h
set_option maxRecDepth 100000 in
set_option maxHeartbeats 2000000 in
theorem mayBegin_any (t : Tl) (l0 : 0 ≤ r.lt) (l1 : r.lt ≤ 4000000000000000000) : Calls Tryz.prog 53 #[.pointer (some ⟨R.p, 0, none⟩), .agg (tlA t)] w fun e w' => e = .returned (.bool (begs R r t)) ∧ Below w.heap.size w w' := by
  obtain ⟨w1, hw1⟩ : ∃ w1, w1 = w.alloc (.cells (tlA t) 46) := ⟨_, rfl⟩
  have w1H : Hr w R r w.heap.size t w1 := Hr.make h hw1
  obtain ⟨w2, hw2⟩ : ∃ w2, w2 = w1.alloc (.cells (mvA (tmv t)) 44) := ⟨_, rfl⟩
  have s1 : w1.heap.size = w.heap.size + 1 := by rw [hw1]; simp
  have w2M : Hm w R r w.heap.size t w2 := by
    have b2 : Below w1.heap.size w1 w2 := by rw [hw2]; exact (Below.refl _ _).alloc (Nat.le_refl _) _
    exact ⟨w1H.go b2, by rw [hw2, ← s1]; exact World.alloc_heap_new _ _⟩
  clear h
  obtain ⟨lb, hlb⟩ : ∃ lb, begs R r t = lb := ⟨_, rfl⟩
  rw [hlb]
  have HL : Hid (begs R r t = lb) := hlb
  clear hlb
  have hw : IntKind.i64.wrap (r.lt + 1) = r.lt + 1 := by rw [IntKind.wrap_i64]; omega
  by_cases h1 : t.ep = r.ep
  · have q1 : (t.ep == r.ep) = true := by rw [beq_iff_eq]; exact h1
    cases hu : under r with
    | true =>
      have mv_ := fun {u : World} (k : RbAt u R r) => moves_b k true hu
      go_enter Tryz.func53, Tryz.ntmps53
      go_upto_region 2 with (first | (refine wpList_boxAt rfl 46 (.tmp 1) rfl (tlA t) rfl ?_; rw [← hw1]; clear hw1) | (refine wpList_load_at rfl 44 (.tmp 6) rfl ⟨w.heap.size, 4, none⟩ rfl (mvA (tmv t)) (tl_move w1H.tl) ?_) | (refine wpList_new rfl rfl 44 5 (.tmp 7) rfl rfl rfl rfl (mvA mv0) (mvA (tmv t)) (zeroMove _) rfl rfl infoMove rfl (mvA_one _) ?_; rw [← hw2, s1]; clear hw2))
      refine start_held (S := Hm w R r w.heap.size t) 48 rfl (by kernel_rfl) (w2M.go (Below.refl _ _).drew) ?_
      simp only [Array.replicate_succ, Array.replicate_zero, List.push_toArray, List.nil_append, List.cons_append]
      have hS0 : Hm w R r w.heap.size t w2.drew := w2M.go (Below.refl _ _).drew
      generalize w2.drew = x0 at *
      refine tkq 0 hS0 ?_
      refine tkf 1 hS0 rfl (fun u hu => by have zz0 := (fun u hu => tl_ep (Hr.tl (Hm.hr hu))) u hu; go_simp; try rfl) ?_
      refine tkq 2 hS0 ?_
      refine tkq 3 hS0 ?_
      refine tkq 4 hS0 ?_
      refine tkf 5 hS0 rfl (fun u hu => by have zz0 := (fun u hu => RbAt.c7 (Hr.rb (Hm.hr hu))) u hu; go_simp; try rfl) ?_
      refine tkq 6 hS0 ?_
      refine tkq 7 hS0 ?_
      refine tkq 8 hS0 ?_
      refine wpAnyH_ready (rs := [9]) (by kernel_rfl) (by simp) (AllReadyH.cons ((nth_eq _ 9).trans rfl) ?_ AllReadyH.nil)
      intro K1 hK1
      refine call_in hK1 (by kernel_rfl) 57 #[.pointer (some ⟨R.p, 0, none⟩)] (by go_simp) _ (mv_ (hS0.hr.rb)) ?_
      rintro v1 x1 ⟨rfl, hx1⟩
      rw [hx1]
      clear hx1 x1
      refine ⟨hS0, ?_⟩
      simp only [Act.put, List.setIfInBounds_toArray, List.set_cons_zero, List.set_cons_succ]
      refine tkq 10 hS0 ?_
      refine tkq 11 hS0 ?_
      refine tkq 12 hS0 ?_
      refine skq 13 hS0 ?_
      refine skq 14 hS0 ?_
      refine skq 15 hS0 ?_
      refine skq 16 hS0 ?_
      refine skq 17 hS0 ?_
      refine skq 18 hS0 ?_
      refine skq 19 hS0 ?_
      refine skq 20 hS0 ?_
      refine tkq 21 hS0 ?_
      refine tkq 22 hS0 ?_
      refine skq 23 hS0 ?_
      refine skq 24 hS0 ?_
      refine skq 25 hS0 ?_
      refine skq 26 hS0 ?_
      refine skq 27 hS0 ?_
      refine skq 28 hS0 ?_
      refine skq 29 hS0 ?_
      refine tkq 30 hS0 ?_
      refine tkq 31 hS0 ?_
      refine skq 32 hS0 ?_
      refine skq 33 hS0 ?_
      refine skq 34 hS0 ?_
      refine skq 35 hS0 ?_
      refine skq 36 hS0 ?_
      refine skq 37 hS0 ?_
      refine tkq 38 hS0 ?_
      refine tkq 39 hS0 ?_
      refine skq 40 hS0 ?_
      refine skq 41 hS0 ?_
      refine skq 42 hS0 ?_
      refine skq 43 hS0 ?_
      refine skq 44 hS0 ?_
      refine skq 45 hS0 ?_
      refine tkq 46 hS0 ?_
      refine tkq 47 hS0 ?_
      refine done_held (by kernel_rfl) ?_ _
      go_wp2
      go_ret
      exact ⟨ret_bool (by rw [← HL.out]; simp [begs, h1, hu]), hS0.hr.bel⟩
    | false =>
      have mv_ := fun {u : World} (k : RbAt u R r) => moves_b k false hu
      by_cases h3 : t.nm = r.lt + 1
      · have q3 : (t.nm == r.lt + 1) = true := by rw [beq_iff_eq]; exact h3
        by_cases hq : ((t.fx, t.fy), t.fd) = posR r
        · have hp : decide ((((tmv t).fx, (tmv t).fy), (tmv t).fd) = ((r.px, r.py), r.pd)) = true := decide_eq_true hq
          cases hl : Grid.legalU R.W R.H R.us (gm (tmv t)) with
          | true =>
            go_enter Tryz.func53, Tryz.ntmps53
            go_upto_region 2 with (first | (refine wpList_boxAt rfl 46 (.tmp 1) rfl (tlA t) rfl ?_; rw [← hw1]; clear hw1) | (refine wpList_load_at rfl 44 (.tmp 6) rfl ⟨w.heap.size, 4, none⟩ rfl (mvA (tmv t)) (tl_move w1H.tl) ?_) | (refine wpList_new rfl rfl 44 5 (.tmp 7) rfl rfl rfl rfl (mvA mv0) (mvA (tmv t)) (zeroMove _) rfl rfl infoMove rfl (mvA_one _) ?_; rw [← hw2, s1]; clear hw2))
            refine start_held (S := Hm w R r w.heap.size t) 48 rfl (by kernel_rfl) (w2M.go (Below.refl _ _).drew) ?_
            simp only [Array.replicate_succ, Array.replicate_zero, List.push_toArray, List.nil_append, List.cons_append]
            have hS0 : Hm w R r w.heap.size t w2.drew := w2M.go (Below.refl _ _).drew
            generalize w2.drew = x0 at *
            refine tkq 0 hS0 ?_
            refine tkf 1 hS0 rfl (fun u hu => by have zz0 := (fun u hu => tl_ep (Hr.tl (Hm.hr hu))) u hu; go_simp; try rfl) ?_
            refine tkq 2 hS0 ?_
            refine tkq 3 hS0 ?_
            refine tkq 4 hS0 ?_
            refine tkf 5 hS0 rfl (fun u hu => by have zz0 := (fun u hu => RbAt.c7 (Hr.rb (Hm.hr hu))) u hu; go_simp; try rfl) ?_
            refine tkq 6 hS0 ?_
            refine tkq 7 hS0 ?_
            refine tkq 8 hS0 ?_
            refine wpAnyH_ready (rs := [9]) (by kernel_rfl) (by simp) (AllReadyH.cons ((nth_eq _ 9).trans rfl) ?_ AllReadyH.nil)
            intro K1 hK1
            refine call_in hK1 (by kernel_rfl) 57 #[.pointer (some ⟨R.p, 0, none⟩)] (by go_simp) _ (mv_ (hS0.hr.rb)) ?_
            rintro v1 x1 ⟨rfl, hx1⟩
            rw [hx1]
            clear hx1 x1
            refine ⟨hS0, ?_⟩
            simp only [Act.put, List.setIfInBounds_toArray, List.set_cons_zero, List.set_cons_succ]
            refine tkq 10 hS0 ?_
            refine tkq 11 hS0 ?_
            refine tkq 12 hS0 ?_
            refine tkq 13 hS0 ?_
            refine tkf 14 hS0 rfl (fun u hu => by have zz0 := (fun u hu => tl_nm (Hr.tl (Hm.hr hu))) u hu; go_simp; try rfl) ?_
            refine tkq 15 hS0 ?_
            refine tkq 16 hS0 ?_
            refine tkq 17 hS0 ?_
            refine tkf 18 hS0 rfl (fun u hu => by have zz0 := (fun u hu => RbAt.c8 (Hr.rb (Hm.hr hu))) u hu; go_simp; try rfl) ?_
            refine tkq 19 hS0 ?_
            refine tkq 20 hS0 ?_
            refine tkq 21 hS0 ?_
            refine tkq 22 hS0 ?_
            refine tkq 23 hS0 ?_
            refine tkf 24 hS0 rfl (v := .agg (poA (tmv t).fx (tmv t).fy (tmv t).fd)) (fun u hu => by exact run_load_at 42 _ rfl ⟨w.heap.size + 1, 3, none⟩ rfl _ (mv_from (Hm.mv hu))) ?_
            refine tkq 25 hS0 ?_
            refine tkq 26 hS0 ?_
            refine tkq 27 hS0 ?_
            refine tkf 28 hS0 rfl (v := .agg (poA r.px r.py r.pd)) (fun u hu => by exact run_load_at 42 _ rfl ⟨R.p, 3, none⟩ rfl _ (RbAt.pose (Hr.rb (Hm.hr hu)))) ?_
            refine tkf 29 hS0 rfl (v := .bool true) (fun u hu => by exact run_eql_agg 42 _ _ rfl guardPo (poA (tmv t).fx (tmv t).fy (tmv t).fd) (poA r.px r.py r.pd) _ rfl rfl (eqPo hp u)) ?_
            refine tkq 30 hS0 ?_
            refine tkq 31 hS0 ?_
            refine tkq 32 hS0 ?_
            refine tkq 33 hS0 ?_
            refine tkq 34 hS0 ?_
            refine tkf 35 hS0 rfl (fun u hu => by have zz0 := (fun u hu => RbAt.c0 (Hr.rb (Hm.hr hu))) u hu; go_simp; try rfl) ?_
            refine tkf 36 hS0 rfl (v := .agg (mvA (tmv t))) (fun u hu => by exact run_load_at 44 _ rfl ⟨w.heap.size + 1, 0, none⟩ rfl _ (mv_all (Hm.mv hu))) ?_
            refine wpAnyH_ready (rs := [37]) (by kernel_rfl) (by simp) (AllReadyH.cons ((nth_eq _ 37).trans rfl) ?_ AllReadyH.nil)
            intro K2 hK2
            refine call_in hK2 (by kernel_rfl) 76 #[.pointer (some ⟨R.g, 0, none⟩), .agg (mvA (tmv t))] (by go_simp) _ (legal_b (hS0.hr.rb) (tmv t) true hl) ?_
            rintro v2 x2 ⟨rfl, b2⟩
            have hS2 := hS0.go b2
            refine ⟨hS2, ?_⟩
            simp only [Act.put, List.setIfInBounds_toArray, List.set_cons_zero, List.set_cons_succ]
            refine tkq 38 hS2 ?_
            refine tkq 39 hS2 ?_
            refine tkq 40 hS2 ?_
            refine tkf 41 hS2 rfl (fun u hu => by have zz0 := (fun u hu => (mv_cell (Hm.mv hu) 10).trans (rfl : _ = some (Value.int .i64 t.me))) u hu; go_simp; try rfl) ?_
            refine tkq 42 hS2 ?_
            refine tkf 43 hS2 rfl (fun u hu => by have zz0 := (fun u hu => (mv_cell (Hm.mv hu) 9).trans (rfl : _ = some (Value.int .i64 t.ma))) u hu; go_simp; try rfl) ?_
            refine wpAnyH_ready (rs := [44]) (by kernel_rfl) (by simp) (AllReadyH.cons ((nth_eq _ 44).trans rfl) ?_ AllReadyH.nil)
            intro K3 hK3
            refine call_in hK3 (by kernel_rfl) 77 #[.int .i64 t.me, .int .i64 t.ma] (by go_simp) _ (less_ret t.me t.ma x2) ?_
            rintro v3 x3 ⟨rfl, b3⟩
            have hS3 := hS2.go b3
            refine ⟨hS3, ?_⟩
            simp only [Act.put, List.setIfInBounds_toArray, List.set_cons_zero, List.set_cons_succ]
            refine tkq 45 hS3 ?_
            refine tkq 46 hS3 ?_
            refine tkq 47 hS3 ?_
            refine done_held (by kernel_rfl) ?_ _
            go_wp2
            go_ret
            exact ⟨ret_bool (by rw [← HL.out]; simp [begs, h1, hu, h3, hq, hl]), hS3.hr.bel⟩
          | false =>
            go_enter Tryz.func53, Tryz.ntmps53
            go_upto_region 2 with (first | (refine wpList_boxAt rfl 46 (.tmp 1) rfl (tlA t) rfl ?_; rw [← hw1]; clear hw1) | (refine wpList_load_at rfl 44 (.tmp 6) rfl ⟨w.heap.size, 4, none⟩ rfl (mvA (tmv t)) (tl_move w1H.tl) ?_) | (refine wpList_new rfl rfl 44 5 (.tmp 7) rfl rfl rfl rfl (mvA mv0) (mvA (tmv t)) (zeroMove _) rfl rfl infoMove rfl (mvA_one _) ?_; rw [← hw2, s1]; clear hw2))
            refine start_held (S := Hm w R r w.heap.size t) 48 rfl (by kernel_rfl) (w2M.go (Below.refl _ _).drew) ?_
            simp only [Array.replicate_succ, Array.replicate_zero, List.push_toArray, List.nil_append, List.cons_append]
            have hS0 : Hm w R r w.heap.size t w2.drew := w2M.go (Below.refl _ _).drew
            generalize w2.drew = x0 at *
            refine tkq 0 hS0 ?_
            refine tkf 1 hS0 rfl (fun u hu => by have zz0 := (fun u hu => tl_ep (Hr.tl (Hm.hr hu))) u hu; go_simp; try rfl) ?_
            refine tkq 2 hS0 ?_
            refine tkq 3 hS0 ?_
            refine tkq 4 hS0 ?_
            refine tkf 5 hS0 rfl (fun u hu => by have zz0 := (fun u hu => RbAt.c7 (Hr.rb (Hm.hr hu))) u hu; go_simp; try rfl) ?_
            refine tkq 6 hS0 ?_
            refine tkq 7 hS0 ?_
            refine tkq 8 hS0 ?_
            refine wpAnyH_ready (rs := [9]) (by kernel_rfl) (by simp) (AllReadyH.cons ((nth_eq _ 9).trans rfl) ?_ AllReadyH.nil)
            intro K1 hK1
            refine call_in hK1 (by kernel_rfl) 57 #[.pointer (some ⟨R.p, 0, none⟩)] (by go_simp) _ (mv_ (hS0.hr.rb)) ?_
            rintro v1 x1 ⟨rfl, hx1⟩
            rw [hx1]
            clear hx1 x1
            refine ⟨hS0, ?_⟩
            simp only [Act.put, List.setIfInBounds_toArray, List.set_cons_zero, List.set_cons_succ]
            refine tkq 10 hS0 ?_
            refine tkq 11 hS0 ?_
            refine tkq 12 hS0 ?_
            refine tkq 13 hS0 ?_
            refine tkf 14 hS0 rfl (fun u hu => by have zz0 := (fun u hu => tl_nm (Hr.tl (Hm.hr hu))) u hu; go_simp; try rfl) ?_
            refine tkq 15 hS0 ?_
            refine tkq 16 hS0 ?_
            refine tkq 17 hS0 ?_
            refine tkf 18 hS0 rfl (fun u hu => by have zz0 := (fun u hu => RbAt.c8 (Hr.rb (Hm.hr hu))) u hu; go_simp; try rfl) ?_
            refine tkq 19 hS0 ?_
            refine tkq 20 hS0 ?_
            refine tkq 21 hS0 ?_
            refine tkq 22 hS0 ?_
            refine tkq 23 hS0 ?_
            refine tkf 24 hS0 rfl (v := .agg (poA (tmv t).fx (tmv t).fy (tmv t).fd)) (fun u hu => by exact run_load_at 42 _ rfl ⟨w.heap.size + 1, 3, none⟩ rfl _ (mv_from (Hm.mv hu))) ?_
            refine tkq 25 hS0 ?_
            refine tkq 26 hS0 ?_
            refine tkq 27 hS0 ?_
            refine tkf 28 hS0 rfl (v := .agg (poA r.px r.py r.pd)) (fun u hu => by exact run_load_at 42 _ rfl ⟨R.p, 3, none⟩ rfl _ (RbAt.pose (Hr.rb (Hm.hr hu)))) ?_
            refine tkf 29 hS0 rfl (v := .bool true) (fun u hu => by exact run_eql_agg 42 _ _ rfl guardPo (poA (tmv t).fx (tmv t).fy (tmv t).fd) (poA r.px r.py r.pd) _ rfl rfl (eqPo hp u)) ?_
            refine tkq 30 hS0 ?_
            refine tkq 31 hS0 ?_
            refine tkq 32 hS0 ?_
            refine tkq 33 hS0 ?_
            refine tkq 34 hS0 ?_
            refine tkf 35 hS0 rfl (fun u hu => by have zz0 := (fun u hu => RbAt.c0 (Hr.rb (Hm.hr hu))) u hu; go_simp; try rfl) ?_
            refine tkf 36 hS0 rfl (v := .agg (mvA (tmv t))) (fun u hu => by exact run_load_at 44 _ rfl ⟨w.heap.size + 1, 0, none⟩ rfl _ (mv_all (Hm.mv hu))) ?_
            refine wpAnyH_ready (rs := [37]) (by kernel_rfl) (by simp) (AllReadyH.cons ((nth_eq _ 37).trans rfl) ?_ AllReadyH.nil)
            intro K2 hK2
            refine call_in hK2 (by kernel_rfl) 76 #[.pointer (some ⟨R.g, 0, none⟩), .agg (mvA (tmv t))] (by go_simp) _ (legal_b (hS0.hr.rb) (tmv t) false hl) ?_
            rintro v2 x2 ⟨rfl, b2⟩
            have hS2 := hS0.go b2
            refine ⟨hS2, ?_⟩
            simp only [Act.put, List.setIfInBounds_toArray, List.set_cons_zero, List.set_cons_succ]
            refine tkq 38 hS2 ?_
            refine tkq 39 hS2 ?_
            refine skq 40 hS2 ?_
            refine skq 41 hS2 ?_
            refine skq 42 hS2 ?_
            refine skq 43 hS2 ?_
            refine skq 44 hS2 ?_
            refine skq 45 hS2 ?_
            refine tkq 46 hS2 ?_
            refine tkq 47 hS2 ?_
            refine done_held (by kernel_rfl) ?_ _
            go_wp2
            go_ret
            exact ⟨ret_bool (by rw [← HL.out]; simp [begs, h1, hu, h3, hq, hl]), hS2.hr.bel⟩
        · have hp : decide ((((tmv t).fx, (tmv t).fy), (tmv t).fd) = ((r.px, r.py), r.pd)) = false := decide_eq_false hq
          go_enter Tryz.func53, Tryz.ntmps53
          go_upto_region 2 with (first | (refine wpList_boxAt rfl 46 (.tmp 1) rfl (tlA t) rfl ?_; rw [← hw1]; clear hw1) | (refine wpList_load_at rfl 44 (.tmp 6) rfl ⟨w.heap.size, 4, none⟩ rfl (mvA (tmv t)) (tl_move w1H.tl) ?_) | (refine wpList_new rfl rfl 44 5 (.tmp 7) rfl rfl rfl rfl (mvA mv0) (mvA (tmv t)) (zeroMove _) rfl rfl infoMove rfl (mvA_one _) ?_; rw [← hw2, s1]; clear hw2))
          refine start_held (S := Hm w R r w.heap.size t) 48 rfl (by kernel_rfl) (w2M.go (Below.refl _ _).drew) ?_
          simp only [Array.replicate_succ, Array.replicate_zero, List.push_toArray, List.nil_append, List.cons_append]
          have hS0 : Hm w R r w.heap.size t w2.drew := w2M.go (Below.refl _ _).drew
          generalize w2.drew = x0 at *
          refine tkq 0 hS0 ?_
          refine tkf 1 hS0 rfl (fun u hu => by have zz0 := (fun u hu => tl_ep (Hr.tl (Hm.hr hu))) u hu; go_simp; try rfl) ?_
          refine tkq 2 hS0 ?_
          refine tkq 3 hS0 ?_
          refine tkq 4 hS0 ?_
          refine tkf 5 hS0 rfl (fun u hu => by have zz0 := (fun u hu => RbAt.c7 (Hr.rb (Hm.hr hu))) u hu; go_simp; try rfl) ?_
          refine tkq 6 hS0 ?_
          refine tkq 7 hS0 ?_
          refine tkq 8 hS0 ?_
          refine wpAnyH_ready (rs := [9]) (by kernel_rfl) (by simp) (AllReadyH.cons ((nth_eq _ 9).trans rfl) ?_ AllReadyH.nil)
          intro K1 hK1
          refine call_in hK1 (by kernel_rfl) 57 #[.pointer (some ⟨R.p, 0, none⟩)] (by go_simp) _ (mv_ (hS0.hr.rb)) ?_
          rintro v1 x1 ⟨rfl, hx1⟩
          rw [hx1]
          clear hx1 x1
          refine ⟨hS0, ?_⟩
          simp only [Act.put, List.setIfInBounds_toArray, List.set_cons_zero, List.set_cons_succ]
          refine tkq 10 hS0 ?_
          refine tkq 11 hS0 ?_
          refine tkq 12 hS0 ?_
          refine tkq 13 hS0 ?_
          refine tkf 14 hS0 rfl (fun u hu => by have zz0 := (fun u hu => tl_nm (Hr.tl (Hm.hr hu))) u hu; go_simp; try rfl) ?_
          refine tkq 15 hS0 ?_
          refine tkq 16 hS0 ?_
          refine tkq 17 hS0 ?_
          refine tkf 18 hS0 rfl (fun u hu => by have zz0 := (fun u hu => RbAt.c8 (Hr.rb (Hm.hr hu))) u hu; go_simp; try rfl) ?_
          refine tkq 19 hS0 ?_
          refine tkq 20 hS0 ?_
          refine tkq 21 hS0 ?_
          refine tkq 22 hS0 ?_
          refine tkq 23 hS0 ?_
          refine tkf 24 hS0 rfl (v := .agg (poA (tmv t).fx (tmv t).fy (tmv t).fd)) (fun u hu => by exact run_load_at 42 _ rfl ⟨w.heap.size + 1, 3, none⟩ rfl _ (mv_from (Hm.mv hu))) ?_
          refine tkq 25 hS0 ?_
          refine tkq 26 hS0 ?_
          refine tkq 27 hS0 ?_
          refine tkf 28 hS0 rfl (v := .agg (poA r.px r.py r.pd)) (fun u hu => by exact run_load_at 42 _ rfl ⟨R.p, 3, none⟩ rfl _ (RbAt.pose (Hr.rb (Hm.hr hu)))) ?_
          refine tkf 29 hS0 rfl (v := .bool false) (fun u hu => by exact run_eql_agg 42 _ _ rfl guardPo (poA (tmv t).fx (tmv t).fy (tmv t).fd) (poA r.px r.py r.pd) _ rfl rfl (eqPo hp u)) ?_
          refine tkq 30 hS0 ?_
          refine tkq 31 hS0 ?_
          refine skq 32 hS0 ?_
          refine skq 33 hS0 ?_
          refine skq 34 hS0 ?_
          refine skq 35 hS0 ?_
          refine skq 36 hS0 ?_
          refine skq 37 hS0 ?_
          refine tkq 38 hS0 ?_
          refine tkq 39 hS0 ?_
          refine skq 40 hS0 ?_
          refine skq 41 hS0 ?_
          refine skq 42 hS0 ?_
          refine skq 43 hS0 ?_
          refine skq 44 hS0 ?_
          refine skq 45 hS0 ?_
          refine tkq 46 hS0 ?_
          refine tkq 47 hS0 ?_
          refine done_held (by kernel_rfl) ?_ _
          go_wp2
          go_ret
          exact ⟨ret_bool (by rw [← HL.out]; simp [begs, h1, hu, h3, hq]), hS0.hr.bel⟩
      · have q3 : (t.nm == r.lt + 1) = false := by rw [beq_eq_false_iff_ne]; exact h3
        go_enter Tryz.func53, Tryz.ntmps53
        go_upto_region 2 with (first | (refine wpList_boxAt rfl 46 (.tmp 1) rfl (tlA t) rfl ?_; rw [← hw1]; clear hw1) | (refine wpList_load_at rfl 44 (.tmp 6) rfl ⟨w.heap.size, 4, none⟩ rfl (mvA (tmv t)) (tl_move w1H.tl) ?_) | (refine wpList_new rfl rfl 44 5 (.tmp 7) rfl rfl rfl rfl (mvA mv0) (mvA (tmv t)) (zeroMove _) rfl rfl infoMove rfl (mvA_one _) ?_; rw [← hw2, s1]; clear hw2))
        refine start_held (S := Hm w R r w.heap.size t) 48 rfl (by kernel_rfl) (w2M.go (Below.refl _ _).drew) ?_
        simp only [Array.replicate_succ, Array.replicate_zero, List.push_toArray, List.nil_append, List.cons_append]
        have hS0 : Hm w R r w.heap.size t w2.drew := w2M.go (Below.refl _ _).drew
        generalize w2.drew = x0 at *
        refine tkq 0 hS0 ?_
        refine tkf 1 hS0 rfl (fun u hu => by have zz0 := (fun u hu => tl_ep (Hr.tl (Hm.hr hu))) u hu; go_simp; try rfl) ?_
        refine tkq 2 hS0 ?_
        refine tkq 3 hS0 ?_
        refine tkq 4 hS0 ?_
        refine tkf 5 hS0 rfl (fun u hu => by have zz0 := (fun u hu => RbAt.c7 (Hr.rb (Hm.hr hu))) u hu; go_simp; try rfl) ?_
        refine tkq 6 hS0 ?_
        refine tkq 7 hS0 ?_
        refine tkq 8 hS0 ?_
        refine wpAnyH_ready (rs := [9]) (by kernel_rfl) (by simp) (AllReadyH.cons ((nth_eq _ 9).trans rfl) ?_ AllReadyH.nil)
        intro K1 hK1
        refine call_in hK1 (by kernel_rfl) 57 #[.pointer (some ⟨R.p, 0, none⟩)] (by go_simp) _ (mv_ (hS0.hr.rb)) ?_
        rintro v1 x1 ⟨rfl, hx1⟩
        rw [hx1]
        clear hx1 x1
        refine ⟨hS0, ?_⟩
        simp only [Act.put, List.setIfInBounds_toArray, List.set_cons_zero, List.set_cons_succ]
        refine tkq 10 hS0 ?_
        refine tkq 11 hS0 ?_
        refine tkq 12 hS0 ?_
        refine tkq 13 hS0 ?_
        refine tkf 14 hS0 rfl (fun u hu => by have zz0 := (fun u hu => tl_nm (Hr.tl (Hm.hr hu))) u hu; go_simp; try rfl) ?_
        refine tkq 15 hS0 ?_
        refine tkq 16 hS0 ?_
        refine tkq 17 hS0 ?_
        refine tkf 18 hS0 rfl (fun u hu => by have zz0 := (fun u hu => RbAt.c8 (Hr.rb (Hm.hr hu))) u hu; go_simp; try rfl) ?_
        refine tkq 19 hS0 ?_
        refine tkq 20 hS0 ?_
        refine tkq 21 hS0 ?_
        refine tkq 22 hS0 ?_
        refine skq 23 hS0 ?_
        refine skq 24 hS0 ?_
        refine skq 25 hS0 ?_
        refine skq 26 hS0 ?_
        refine skq 27 hS0 ?_
        refine skq 28 hS0 ?_
        refine skq 29 hS0 ?_
        refine tkq 30 hS0 ?_
        refine tkq 31 hS0 ?_
        refine skq 32 hS0 ?_
        refine skq 33 hS0 ?_
        refine skq 34 hS0 ?_
        refine skq 35 hS0 ?_
        refine skq 36 hS0 ?_
        refine skq 37 hS0 ?_
        refine tkq 38 hS0 ?_
        refine tkq 39 hS0 ?_
        refine skq 40 hS0 ?_
        refine skq 41 hS0 ?_
        refine skq 42 hS0 ?_
        refine skq 43 hS0 ?_
        refine skq 44 hS0 ?_
        refine skq 45 hS0 ?_
        refine tkq 46 hS0 ?_
        refine tkq 47 hS0 ?_
        refine done_held (by kernel_rfl) ?_ _
        go_wp2
        go_ret
        exact ⟨ret_bool (by rw [← HL.out]; simp [begs, h1, hu, h3]), hS0.hr.bel⟩
  · have q1 : (t.ep == r.ep) = false := by rw [beq_eq_false_iff_ne]; exact h1
    go_enter Tryz.func53, Tryz.ntmps53
    go_upto_region 2 with (first | (refine wpList_boxAt rfl 46 (.tmp 1) rfl (tlA t) rfl ?_; rw [← hw1]; clear hw1) | (refine wpList_load_at rfl 44 (.tmp 6) rfl ⟨w.heap.size, 4, none⟩ rfl (mvA (tmv t)) (tl_move w1H.tl) ?_) | (refine wpList_new rfl rfl 44 5 (.tmp 7) rfl rfl rfl rfl (mvA mv0) (mvA (tmv t)) (zeroMove _) rfl rfl infoMove rfl (mvA_one _) ?_; rw [← hw2, s1]; clear hw2))
    refine start_held (S := Hm w R r w.heap.size t) 48 rfl (by kernel_rfl) (w2M.go (Below.refl _ _).drew) ?_
    simp only [Array.replicate_succ, Array.replicate_zero, List.push_toArray, List.nil_append, List.cons_append]
    have hS0 : Hm w R r w.heap.size t w2.drew := w2M.go (Below.refl _ _).drew
    generalize w2.drew = x0 at *
    refine tkq 0 hS0 ?_
    refine tkf 1 hS0 rfl (fun u hu => by have zz0 := (fun u hu => tl_ep (Hr.tl (Hm.hr hu))) u hu; go_simp; try rfl) ?_
    refine tkq 2 hS0 ?_
    refine tkq 3 hS0 ?_
    refine tkq 4 hS0 ?_
    refine tkf 5 hS0 rfl (fun u hu => by have zz0 := (fun u hu => RbAt.c7 (Hr.rb (Hm.hr hu))) u hu; go_simp; try rfl) ?_
    refine tkq 6 hS0 ?_
    refine tkq 7 hS0 ?_
    refine skq 8 hS0 ?_
    refine skq 9 hS0 ?_
    refine skq 10 hS0 ?_
    refine tkq 11 hS0 ?_
    refine tkq 12 hS0 ?_
    refine skq 13 hS0 ?_
    refine skq 14 hS0 ?_
    refine skq 15 hS0 ?_
    refine skq 16 hS0 ?_
    refine skq 17 hS0 ?_
    refine skq 18 hS0 ?_
    refine skq 19 hS0 ?_
    refine skq 20 hS0 ?_
    refine tkq 21 hS0 ?_
    refine tkq 22 hS0 ?_
    refine skq 23 hS0 ?_
    refine skq 24 hS0 ?_
    refine skq 25 hS0 ?_
    refine skq 26 hS0 ?_
    refine skq 27 hS0 ?_
    refine skq 28 hS0 ?_
    refine skq 29 hS0 ?_
    refine tkq 30 hS0 ?_
    refine tkq 31 hS0 ?_
    refine skq 32 hS0 ?_
    refine skq 33 hS0 ?_
    refine skq 34 hS0 ?_
    refine skq 35 hS0 ?_
    refine skq 36 hS0 ?_
    refine skq 37 hS0 ?_
    refine tkq 38 hS0 ?_
    refine tkq 39 hS0 ?_
    refine skq 40 hS0 ?_
    refine skq 41 hS0 ?_
    refine skq 42 hS0 ?_
    refine skq 43 hS0 ?_
    refine skq 44 hS0 ?_
    refine skq 45 hS0 ?_
    refine tkq 46 hS0 ?_
    refine tkq 47 hS0 ?_
    refine done_held (by kernel_rfl) ?_ _
    go_wp2
    go_ret
    exact ⟨ret_bool (by rw [← HL.out]; simp [begs, h1]), hS0.hr.bel⟩
end
end Go.Proofs.YtedhoghleelhfaaGreat.Rob
/-
  A go-ahead begun.
-/
namespace Go.Proofs.YtedhoghleelhfaaGreat.Rob
set_option linter.unusedVariables false
set_option linter.unusedSimpArgs false
open Go Go.RowKit Go.Shelf Go.Proofs Go.Proofs.YtedhoghleelhfaaGreat.Lk Go.Proofs.YtedhoghleelhfaaGreat.Plain
attribute [local go_sem] Oper.semAt_some

theorem run_store_mid_op {o : Oper} {a : Act} {w : World} (ty : TypeId) (x y : Operand) (ho : o.op = .store ty x y) (b k : Nat) (cells : Array Value) (hx : a.eval x = .pointer (some ⟨b, k, none⟩)) (hy : a.eval y = .agg cells)
    (ht : w.there b k cells.size) (hi : (Tryz.prog.info? ty).map (·.size) = some cells.size) (h1 : cells.all (·.oneCell') = true) : (execOp a.eval o).run Tryz.prog w = .ok .skip (w.setCells b k cells.toList) := by
  unfold execOp
  simp only [ho, hx, hy, Instr.storeAt, Instr.sureAddr, Sem.run_bind, Sem.run_pure, Result.andThen_ok, run_storeVar_mid w b k ty cells ht hi h1]
theorem setAll_app : ∀ (l2' l1 l2 : List Value), l2.length = l2'.length → setAll (l1 ++ l2).toArray l1.length l2' = (l1 ++ l2').toArray
  | [], l1, l2, h => by
    obtain rfl : l2 = [] := List.length_eq_zero_iff.1 h
    rfl
  | v :: r, l1, l2, h => by
    cases l2 with
    | nil => simp at h
    | cons a s =>
      have e : ((l1 ++ a :: s).toArray).setIfInBounds l1.length v = ((l1 ++ [v]) ++ s).toArray := by simp
      show setAll (((l1 ++ a :: s).toArray).setIfInBounds l1.length v) (l1.length + 1) r = _
      rw [e]
      have := setAll_app r (l1 ++ [v]) s (by simpa using h)
      rw [List.length_append, List.length_singleton] at this
      rw [this, List.append_assoc]
      rfl
theorem rb_doing (g k : Nat) (r r' : Rb) : setAll (rbA g k r) 9 (dgL r') = rbA g k { r with mv := r'.mv, gn := r'.gn, lf := r'.lf, la := r'.la, st := r'.st } :=
  setAll_app (dgL r') [_, _, _, _, _, _, _, _, _] (dgL r) rfl
theorem builtDoing (m : Mv) (n : Int) : Tryz.prog.built 62 [(0, .agg (mvA m)), (2, .int .i64 n)] = some (mvL m ++ [Value.int .i64 0, Value.int .i64 n, Value.int .i64 0, Value.bool false]).toArray := by cases m; kernel_rfl
set_option maxRecDepth 100000 in
set_option maxHeartbeats 2000000 in
theorem begin_any {w : World} {R : Wh} {r : Rb} (h : RbAt w R r) (t : Tl) : Calls Tryz.prog 54 #[.pointer (some ⟨R.p, 0, none⟩), .agg (mvA (tmv t))] w fun e w' => e = .returned (.tuple #[]) ∧ RbAt w' R (begun r t) ∧ Tn R w w' := by
  obtain ⟨w1, hw1⟩ : ∃ w1, w1 = w.alloc (.cells (mvA (tmv t)) 44) := ⟨_, rfl⟩
  have b1 : Below w.heap.size w w1 := by rw [hw1]; exact (Below.refl _ _).alloc (Nat.le_refl _) _
  have a1 : w1.heap[w.heap.size]? = some (.cells (mvA (tmv t)) 44 (0, 0)) := by rw [hw1]; exact World.alloc_heap_new _ _
  have HW : Hid (RbAt w1.drew R r ∧ Tn R w w1.drew ∧ w1.drew.heap[w.heap.size]? = some (.cells (mvA (tmv t)) 44 (0, 0))) := ⟨(h.go b1).go (Below.refl _ _).drew, Tn.below b1.drew, a1⟩
  have HP : Hid (R.p < w.heap.size) := h.plt
  clear h b1 a1
  go_enter Tryz.func54, Tryz.ntmps54
  go_upto_region 1 with (refine wpList_boxAt rfl 44 (.tmp 1) rfl (mvA (tmv t)) rfl ?_; rw [← hw1]; clear hw1)
  refine start_held (S := fun u => u.heap[w.heap.size]? = some (.cells (mvA (tmv t)) 44 (0, 0))) 11 rfl (by kernel_rfl) (HW.out.2.2) ?_
  simp only [Array.replicate_succ, Array.replicate_zero, List.push_toArray, List.nil_append, List.cons_append]
  have hS0 := HW.out.2.2
  have hR0 := HW.out.1
  have T0 := HW.out.2.1
  clear HW
  generalize w1.drew = x0 at *
  refine tkq 0 hS0 ?_
  refine tkf 1 hS0 rfl (v := .agg (mvA (tmv t))) (fun u hu => by exact run_load_at 44 _ rfl ⟨w.heap.size, 0, none⟩ rfl _ (mv_all hu)) ?_
  refine tkq 2 hS0 ?_
  refine tkf 3 hS0 rfl (fun u hu => by have zz0 := (fun (u : World) (hu : u.heap[w.heap.size]? = some (.cells (mvA (tmv t)) 44 (0, 0))) => (mv_cell hu 10).trans (rfl : _ = some (Value.int .i64 t.me))) u hu; go_simp; try rfl) ?_
  refine tkq 4 hS0 ?_
  refine tkf 5 hS0 rfl (fun u hu => by have zz0 := (fun (u : World) (hu : u.heap[w.heap.size]? = some (.cells (mvA (tmv t)) 44 (0, 0))) => (mv_cell hu 9).trans (rfl : _ = some (Value.int .i64 t.ma))) u hu; go_simp; try rfl) ?_
  refine wpAnyH_ready (rs := [6]) (by kernel_rfl) (by simp) (AllReadyH.cons ((nth_eq _ 6).trans rfl) ?_ AllReadyH.nil)
  intro K1 hK1
  refine call_in hK1 (by kernel_rfl) 77 #[.int .i64 t.me, .int .i64 t.ma] (by go_simp) _ (less_ret t.me t.ma x0) ?_
  rintro v1 x1 ⟨rfl, b1⟩
  have hS1 := (b1.block _ (Array.getElem?_eq_some_iff.1 hS0).1).trans hS0
  have hR1 := hR0.go b1
  have T1 := T0.trans (Tn.below b1)
  refine ⟨hS1, ?_⟩
  simp only [Act.put, List.setIfInBounds_toArray, List.set_cons_zero, List.set_cons_succ]
  refine tkf 7 hS1 rfl (v := .agg (dgA (begun r t))) (fun u hu => by refine run_build_op _ _ rfl _ _ ?_ (builtDoing (tmv t) (less t.me t.ma)); simp only [List.map_toArray, List.map_cons, List.map_nil]; rfl) ?_
  refine tkq 8 hS1 ?_
  refine tkq 9 hS1 ?_
  refine wpAnyH_ready (rs := [10]) (by kernel_rfl) (by simp) (AllReadyH.cons ((nth_eq _ 10).trans rfl) ?_ AllReadyH.nil)
  intro K2 hK2
  obtain ⟨x2, hx2⟩ : ∃ x, x = x1.setCells R.p 9 (dgA (begun r t)).toList := ⟨_, rfl⟩
  have hR2 : RbAt x2 R (begun r t) := by rw [hx2]; exact hR1.set 9 (dgA (begun r t)).toList (rb_doing _ _ r (begun r t))
  have o2 : Only R.p x1 x2 := by rw [hx2]; exact Only.setCells _ _ _ _
  have hS2 := (o2.block w.heap.size (by have := HP.out; omega)).trans hS1
  have T2 := T1.trans (Tn.only o2)
  refine skip_in hK2 (by kernel_rfl) x2 (by rw [hx2]; exact run_store_mid_op 62 _ _ rfl R.p 9 (dgA (begun r t)) rfl rfl (there_of hR1.at_ 9 15 (by show 9 + 15 ≤ 24; omega)) infoDoing (dgA_one _)) hS2 ?_
  simp only [Act.put, List.setIfInBounds_toArray, List.set_cons_zero, List.set_cons_succ]
  refine done_held (by kernel_rfl) ?_ _
  go_wp2
  go_end0
  exact ⟨rfl, hR2, T2⟩
end Go.Proofs.YtedhoghleelhfaaGreat.Rob
/-
  A move that ends; a tick.
-/
namespace Go.Proofs.YtedhoghleelhfaaGreat.Rob
set_option linter.unusedVariables false
set_option linter.unusedSimpArgs false
open Go Go.RowKit Go.Shelf Go.Proofs Go.Proofs.YtedhoghleelhfaaGreat.Lk Go.Proofs.YtedhoghleelhfaaGreat.Plain
attribute [local go_sem] Oper.semAt_some

theorem rb_pose (g k : Nat) (r : Rb) (x y : Int) (d : Bool) : setAll (rbA g k r) 3 (poA x y d).toList = rbA g k { r with px := x, py := y, pd := d } := by
  show setAll (rbA g k r) 3 [.int .i64 x, .int .i64 y, .bool d] = _
  simp only [setAll, rbA, rbL, dgL, mvL, List.cons_append, List.nil_append, List.setIfInBounds_toArray, List.set_cons_succ, List.set_cons_zero]
theorem rb_last (g k : Nat) (r : Rb) (x : Int) : setAll (rbA g k r) 8 [.int .i64 x] = rbA g k { r with lt := x } := by
  simp only [setAll, rbA, rbL, dgL, mvL, List.cons_append, List.nil_append, List.setIfInBounds_toArray, List.set_cons_succ, List.set_cons_zero]
theorem rb_late (g k : Nat) (r : Rb) (x : Int) : setAll (rbA g k r) 22 [.int .i64 x] = rbA g k { r with la := x } := by
  simp only [setAll, rbA, rbL, dgL, mvL, List.cons_append, List.nil_append, List.setIfInBounds_toArray, List.set_cons_succ, List.set_cons_zero]
theorem rb_left (g k : Nat) (r : Rb) (x : Int) : setAll (rbA g k r) 21 [.int .i64 x] = rbA g k { r with lf := x } := by
  simp only [setAll, rbA, rbL, dgL, mvL, List.cons_append, List.nil_append, List.setIfInBounds_toArray, List.set_cons_succ, List.set_cons_zero]
theorem rb_gone (g k : Nat) (r : Rb) (x : Int) : setAll (rbA g k r) 20 [.int .i64 x] = rbA g k { r with gn := x } := by
  simp only [setAll, rbA, rbL, dgL, mvL, List.cons_append, List.nil_append, List.setIfInBounds_toArray, List.set_cons_succ, List.set_cons_zero]
theorem rb_epoch (g k : Nat) (r : Rb) (x : Int) : setAll (rbA g k r) 7 [.int .i64 x] = rbA g k { r with ep := x } := by
  simp only [setAll, rbA, rbL, dgL, mvL, List.cons_append, List.nil_append, List.setIfInBounds_toArray, List.set_cons_succ, List.set_cons_zero]
theorem rb_stop (g k : Nat) (r : Rb) (x : Bool) : setAll (rbA g k r) 23 [.bool x] = rbA g k { r with st := x } := by
  simp only [setAll, rbA, rbL, dgL, mvL, List.cons_append, List.nil_append, List.setIfInBounds_toArray, List.set_cons_succ, List.set_cons_zero]
theorem rb_n (g k : Nat) (r : Rb) (x : Int) : setAll (rbA g k r) 11 [.int .i64 x] = rbA g k { r with mv := { r.mv with n := x } } := by
  simp only [setAll, rbA, rbL, dgL, mvL, List.cons_append, List.nil_append, List.setIfInBounds_toArray, List.set_cons_succ, List.set_cons_zero]
theorem rb_to (g k : Nat) (r : Rb) (x y : Int) (d : Bool) : setAll (rbA g k r) 15 (poA x y d).toList = rbA g k { r with mv := { r.mv with tx := x, ty := y, td := d } } := by
  show setAll (rbA g k r) 15 [.int .i64 x, .int .i64 y, .bool d] = _
  simp only [setAll, rbA, rbL, dgL, mvL, List.cons_append, List.nil_append, List.setIfInBounds_toArray, List.set_cons_succ, List.set_cons_zero]
theorem zeroDoing (w : World) : (zeroValue 62).run Tryz.prog w = .ok (.agg (dgA (firstR 0 0 0 false))) w := by kernel_rfl
theorem dgA_sz (r : Rb) : (dgA r).size = 15 := rfl
theorem dgA_szs (r s : Rb) : (dgA r).size = (dgA s).size := (dgA_sz r).trans (dgA_sz s).symm
theorem infoDg (r : Rb) : (Tryz.prog.info? 62).map (·.size) = some (dgA r).size := by rw [dgA_sz]; exact infoDoing
theorem built0 : Tryz.prog.built 62 [] = some (dgA (firstR 0 0 0 false)) := by kernel_rfl
theorem builtMv0 : Tryz.prog.built 44 [] = some (mvA mv0) := by kernel_rfl
theorem dg_cell {w : World} {g : Nat} {r : Rb} {T : TypeId} {fr : Nat × Nat} (h : w.heap[g]? = some (.cells (dgA r) T fr)) (j : Nat) : w.cell? ⟨g, j, none⟩ = (dgA r)[j]? := by simp [World.cell?, h]
theorem dg_st {w : World} {g : Nat} {r : Rb} {T : TypeId} {fr : Nat × Nat} (h : w.heap[g]? = some (.cells (dgA r) T fr)) : w.cell? ⟨g, 14, none⟩ = some (.bool r.st) := dg_cell h 14
theorem dg_move {w : World} {g : Nat} {r : Rb} {T : TypeId} {fr : Nat × Nat} (h : w.heap[g]? = some (.cells (dgA r) T fr)) : (loadVar 44 ⟨g, 0, none⟩).run Tryz.prog w = .ok (.agg (mvA r.mv)) w :=
  run_loadVar_at w _ _ _ (fun j v hv => by
    rw [Addr.add_mid, dg_cell h, Nat.zero_add]
    unfold mvA at hv
    rw [List.getElem?_toArray] at hv
    unfold dgA dgL
    rw [List.getElem?_toArray, List.getElem?_append_left (List.getElem?_eq_some_iff.1 hv).1]
    exact hv) (aggMove _) infoMove
theorem dg_to {w : World} {g : Nat} {r : Rb} {T : TypeId} {fr : Nat × Nat} (h : w.heap[g]? = some (.cells (dgA r) T fr)) : (loadVar 42 ⟨g, 6, none⟩).run Tryz.prog w = .ok (.agg (poA r.mv.tx r.mv.ty r.mv.td)) w :=
  run_loadVar_at w _ _ _ (fun j v hv => by
    rw [Addr.add_mid, dg_cell h]
    match j with
    | 0 => exact hv
    | 1 => exact hv
    | 2 => exact hv
    | j + 3 => simp [poA] at hv) (aggPose _) infoPose
def r0 (r : Rb) : Rb := { r with mv := mv0, gn := 0, lf := 0, la := 0, st := false }
def r1 (r : Rb) : Rb := { r0 r with px := r.mv.tx, py := r.mv.ty, pd := r.mv.td }
/- A block that is none of a robot's. -/
def Off (R : Wh) (N : Nat) : Prop := R.p ≠ N ∧ R.g ≠ N ∧ R.u ≠ N ∧ R.k ≠ N
theorem RbAt.off {w : World} {R : Wh} {r : Rb} (h : RbAt w R r) {N : Nat} (hN : w.heap.size ≤ N) : Off R N := by
  have h1 := h.plt
  have h2 := h.grid.ltg
  have h3 := h.grid.ltu
  have h4 := h.klt
  exact ⟨by omega, by omega, by omega, by omega⟩
theorem Only.setRow (N : Nat) (cs : Array Value) (w : World) : Only N w (w.setRow N cs) := ⟨rfl, rfl, rfl, by simp [World.setRow], fun i hi => setRow_other _ _ _ _ hi⟩
theorem RbAt.row {u : World} {R : Wh} {r : Rb} {N : Nat} {cs : Array Value} {T : TypeId} (h : RbAt u R r) (o : Off R N) (hN : u.heap[N]? = some (.cells cs T (0, 0))) (hT : T ≠ 3) (cs' : Array Value) : RbAt (u.setRow N cs') R r := by
  have q := Only.setRow N cs' u
  exact ⟨(q.block _ o.1).trans h.at_, grid_other (p := R.p) h.grid (q.block _ o.2.1) (q.block _ o.2.2.1), kin_other hT h.kin hN (Ne.symm o.2.2.2) q, h.ok, h.pg, h.pu, h.pk, h.kg, h.ku⟩
theorem Tn.row {R : Wh} {w u : World} (h : Tn R w u) {N : Nat} (hN : w.heap.size ≤ N) (cs : Array Value) : Tn R w (u.setRow N cs) := by
  have q := Only.setRow N cs u
  exact ⟨q.os.trans h.os, q.tape.trans h.tape, q.output.trans h.output, by rw [q.size]; exact h.size, fun i hi h1 h2 => (q.block _ (by omega)).trans (h.block i hi h1 h2)⟩
theorem two_new (w : World) (a b : Obj) : ((w.alloc a).alloc b).heap[w.heap.size]? = some a ∧ ((w.alloc a).alloc b).heap[w.heap.size + 1]? = some b := by
  refine ⟨(heap_old _ _ (by simp)).trans (World.alloc_heap_new _ _), ?_⟩
  have := World.alloc_heap_new (w.alloc a) b
  rwa [show (w.alloc a).heap.size = w.heap.size + 1 by simp] at this
section
variable {w : World} {R : Wh} {r : Rb} (h : RbAt w R r)
include h
set_option maxRecDepth 100000 in
set_option maxHeartbeats 2000000 in
theorem end_any (l0 : 0 ≤ r.lt) (l1 : r.lt ≤ 4000000000000000000) : Calls Tryz.prog 59 #[.pointer (some ⟨R.p, 0, none⟩)] w fun e w' => e = .returned (.tuple #[.agg (mvA r.mv), .int .i64 (if r.st then 2 else 1)]) ∧ RbAt w' R (ended r) ∧ Tn R w w' := by
  have hwr : IntKind.i64.wrap (r.lt + 1) = r.lt + 1 := by rw [IntKind.wrap_i64]; omega
  have OFF := h.off (N := w.heap.size) (Nat.le_refl _)
  have OFF1 := h.off (N := w.heap.size + 1) (by omega)
  obtain ⟨w1, hw1⟩ : ∃ w1, w1 = w.alloc (.cells (mvA mv0) 44) := ⟨_, rfl⟩
  have s1 : w1.heap.size = w.heap.size + 1 := by rw [hw1]; simp
  obtain ⟨w2, hw2⟩ : ∃ w2, w2 = w1.alloc (.cells (dgA r) 62) := ⟨_, rfl⟩
  have Q2 := two_new w (.cells (mvA mv0) 44 (0, 0)) (.cells (dgA r) 62 (0, 0))
  rw [← hw1, ← hw2] at Q2
  have b1 : Below w.heap.size w w1 := by rw [hw1]; exact (Below.refl _ _).alloc (Nat.le_refl _) _
  have b2 : Below w.heap.size w w2 := by rw [hw2]; exact b1.alloc (by omega) _
  have w1R := h.go b1
  have w2R := h.go b2
  obtain ⟨w3, hw3⟩ : ∃ w3, w3 = w2.setCells R.p 9 (dgA (firstR 0 0 0 false)).toList := ⟨_, rfl⟩
  have w3R : RbAt w3 R (r0 r) := by rw [hw3]; exact w2R.set 9 (dgA (firstR 0 0 0 false)).toList (rb_doing _ _ r (firstR 0 0 0 false))
  have o3 : Only R.p w2 w3 := by rw [hw3]; exact Only.setCells _ _ _ _
  obtain ⟨w4, hw4⟩ : ∃ w4, w4 = w3.setCells R.p 3 (poA r.mv.tx r.mv.ty r.mv.td).toList := ⟨_, rfl⟩
  have w4R : RbAt w4 R (r1 r) := by rw [hw4]; exact w3R.set 3 (poA r.mv.tx r.mv.ty r.mv.td).toList (rb_pose _ _ (r0 r) _ _ _)
  have o4 : Only R.p w3 w4 := by rw [hw4]; exact Only.setCells _ _ _ _
  have w3d : w3.heap[w.heap.size + 1]? = some (.cells (dgA r) 62 (0, 0)) := (o3.block _ (Ne.symm OFF1.1)).trans Q2.2
  have w4m : w4.heap[w.heap.size]? = some (.cells (mvA mv0) 44 (0, 0)) := (o4.block _ (Ne.symm OFF.1)).trans ((o3.block _ (Ne.symm OFF.1)).trans Q2.1)
  have w4d : w4.heap[w.heap.size + 1]? = some (.cells (dgA r) 62 (0, 0)) := (o4.block _ (Ne.symm OFF1.1)).trans w3d
  have T4 : Tn R w w4 := ((Tn.below b2).trans (Tn.only o3)).trans (Tn.only o4)
  have HL1 : Hid ((loadVar 62 ⟨R.p, 9, none⟩).run Tryz.prog w1 = .ok (.agg (dgA r)) w1) := w1R.doing
  have HT9 : Hid (w2.there R.p 9 (dgA (firstR 0 0 0 false)).size) := there_of w2R.at_ 9 15 (by show 9 + 15 ≤ 24; omega)
  have HTO : Hid ((loadVar 42 ⟨w.heap.size + 1, 6, none⟩).run Tryz.prog w3 = .ok (.agg (poA r.mv.tx r.mv.ty r.mv.td)) w3) := dg_to w3d
  have HT3 : Hid (w3.there R.p 3 (poA r.mv.tx r.mv.ty r.mv.td).size) := there_of w3R.at_ 3 3 (by show 3 + 3 ≤ 24; omega)
  clear Q2 b1 b2 w1R w2R w3R o3 o4 w3d h
  cases hs : r.st with
  | true =>
    have w4E : RbAt w4 R (ended r) := by
      have : r1 r = ended r := by unfold ended r1 r0; rw [hs]; rfl
      rw [← this]
      exact w4R
    have HE : Hid (RbAt (w4.setRow w.heap.size (mvA r.mv)) R (ended r) ∧ Tn R w (w4.setRow w.heap.size (mvA r.mv))) := ⟨w4E.row OFF w4m (by decide) _, T4.row (Nat.le_refl _) _⟩
    have HM : Hid (w4.heap[w.heap.size]? = some (.cells (mvA mv0) 44 (0, 0))) := w4m
    have HDM : Hid ((loadVar 44 ⟨w.heap.size + 1, 0, none⟩).run Tryz.prog w4 = .ok (.agg (mvA r.mv)) w4) := dg_move w4d
    have cst := dg_st w4d
    rw [hs] at cst
    clear w4R w4m w4d T4 OFF OFF1 hs w4E
    skip
    go_enter Tryz.func59, Tryz.ntmps59
    go_wp2_with (first
      | (refine wpList_allocAs rfl 44 rfl (mvA mv0) (zeroMove _) ?_; rw [← hw1]; clear hw1)
      | (refine wpList_load_at rfl 62 (.tmp 7) rfl ⟨R.p, 9, none⟩ rfl (dgA r) HL1.out ?_)
      | (refine wpList_new rfl rfl 62 4 (.tmp 8) rfl rfl rfl rfl (dgA (firstR 0 0 0 false)) (dgA r) (zeroDoing _) rfl rfl (infoDg _) (dgA_szs _ _) (dgA_one _) ?_; rw [← hw2, s1]; clear hw2)
      | (refine wpList_buildAs rfl 62 _ rfl (dgA (firstR 0 0 0 false)) _ rfl built0 ?_)
      | (refine wpList_store_mid rfl 62 (.tmp 12) (.tmp 10) rfl R.p 9 (dgA (firstR 0 0 0 false)) rfl rfl HT9.out (infoDg _) (dgA_one _) ?_; rw [← hw3]; clear hw3)
      | (refine wpList_load_at rfl 42 (.tmp 15) rfl ⟨w.heap.size + 1, 6, none⟩ rfl (poA r.mv.tx r.mv.ty r.mv.td) HTO.out ?_)
      | (refine wpList_store_mid rfl 42 (.tmp 18) (.tmp 16) rfl R.p 3 (poA r.mv.tx r.mv.ty r.mv.td) rfl rfl HT3.out infoPose (poA_one _ _ _) ?_; rw [← hw4]; clear hw4)
      | (refine wpList_load_at rfl 44 (.tmp 21) rfl ⟨w.heap.size + 1, 0, none⟩ rfl (mvA r.mv) HDM.out ?_)
      | (refine wpList_store_row rfl 44 (.tmp 2) (.tmp 22) rfl w.heap.size (mvA r.mv) rfl rfl 44 (mvA mv0) HM.out infoMove rfl (mvA_one _) ?_))
    exact bodyPost_ret (Lk.results_cell_tmp Tryz.results59 _ _ w.heap.size (mvA r.mv) rfl (load_row_of (cs := mvA r.mv) (setRow_heap _ _ _ _ _ _ HM.out) (aggMove _) infoMove)) rfl ⟨rfl, HE.out⟩
  | false =>
    obtain ⟨w5, hw5⟩ : ∃ w5, w5 = w4.setCell ⟨R.p, 8, none⟩ (.int .i64 (r.lt + 1)) := ⟨_, rfl⟩
    have w5R : RbAt w5 R (ended r) := by
      have : w5 = w4.setCells R.p 8 [.int .i64 (r.lt + 1)] := hw5
      rw [this]
      have e : ended r = { r1 r with lt := r.lt + 1 } := by unfold ended r1 r0; rw [hs]; rfl
      rw [e]
      exact w4R.set 8 [.int .i64 (r.lt + 1)] (rb_last _ _ (r1 r) (r.lt + 1))
    have o5 : Only R.p w4 w5 := by rw [hw5]; exact Only.setCell _ _ _ _
    have w5m : w5.heap[w.heap.size]? = some (.cells (mvA mv0) 44 (0, 0)) := (o5.block _ (Ne.symm OFF.1)).trans w4m
    have w5d : w5.heap[w.heap.size + 1]? = some (.cells (dgA r) 62 (0, 0)) := (o5.block _ (Ne.symm OFF1.1)).trans w4d
    have T5 : Tn R w w5 := T4.trans (Tn.only o5)
    have c8 : w4.cell? ⟨R.p, 8, none⟩ = some (.int .i64 r.lt) := w4R.c8
    have f8 := w4R.froz 8
    have HE : Hid (RbAt (w5.setRow w.heap.size (mvA r.mv)) R (ended r) ∧ Tn R w (w5.setRow w.heap.size (mvA r.mv))) := ⟨w5R.row OFF w5m (by decide) _, T5.row (Nat.le_refl _) _⟩
    have HM : Hid (w5.heap[w.heap.size]? = some (.cells (mvA mv0) 44 (0, 0))) := w5m
    have HDM : Hid ((loadVar 44 ⟨w.heap.size + 1, 0, none⟩).run Tryz.prog w5 = .ok (.agg (mvA r.mv)) w5) := dg_move w5d
    have cst := dg_st w4d
    rw [hs] at cst
    clear w4R w4m w4d T4 OFF OFF1 hs w5R o5 w5m w5d T5
    subst hw5
    go_enter Tryz.func59, Tryz.ntmps59
    go_wp2_with (first
      | (refine wpList_allocAs rfl 44 rfl (mvA mv0) (zeroMove _) ?_; rw [← hw1]; clear hw1)
      | (refine wpList_load_at rfl 62 (.tmp 7) rfl ⟨R.p, 9, none⟩ rfl (dgA r) HL1.out ?_)
      | (refine wpList_new rfl rfl 62 4 (.tmp 8) rfl rfl rfl rfl (dgA (firstR 0 0 0 false)) (dgA r) (zeroDoing _) rfl rfl (infoDg _) (dgA_szs _ _) (dgA_one _) ?_; rw [← hw2, s1]; clear hw2)
      | (refine wpList_buildAs rfl 62 _ rfl (dgA (firstR 0 0 0 false)) _ rfl built0 ?_)
      | (refine wpList_store_mid rfl 62 (.tmp 12) (.tmp 10) rfl R.p 9 (dgA (firstR 0 0 0 false)) rfl rfl HT9.out (infoDg _) (dgA_one _) ?_; rw [← hw3]; clear hw3)
      | (refine wpList_load_at rfl 42 (.tmp 15) rfl ⟨w.heap.size + 1, 6, none⟩ rfl (poA r.mv.tx r.mv.ty r.mv.td) HTO.out ?_)
      | (refine wpList_store_mid rfl 42 (.tmp 18) (.tmp 16) rfl R.p 3 (poA r.mv.tx r.mv.ty r.mv.td) rfl rfl HT3.out infoPose (poA_one _ _ _) ?_; rw [← hw4]; clear hw4)
      | (refine wpList_load_at rfl 44 (.tmp 30) rfl ⟨w.heap.size + 1, 0, none⟩ rfl (mvA r.mv) HDM.out ?_)
      | (refine wpList_store_row rfl 44 (.tmp 2) (.tmp 31) rfl w.heap.size (mvA r.mv) rfl rfl 44 (mvA mv0) HM.out infoMove rfl (mvA_one _) ?_))
    exact bodyPost_ret (Lk.results_cell_tmp Tryz.results59 _ _ w.heap.size (mvA r.mv) rfl (load_row_of (cs := mvA r.mv) (setRow_heap _ _ _ _ _ _ HM.out) (aggMove _) infoMove)) rfl ⟨rfl, HE.out⟩
end
end Go.Proofs.YtedhoghleelhfaaGreat.Rob
/-
  A run that is cut; a stop.
-/
namespace Go.Proofs.YtedhoghleelhfaaGreat.Rob
set_option linter.unusedVariables false
set_option linter.unusedSimpArgs false
open Go Go.RowKit Go.Shelf Go.Proofs Go.Proofs.YtedhoghleelhfaaGreat.Lk Go.Proofs.YtedhoghleelhfaaGreat.Plain
attribute [local go_sem] Oper.semAt_some

/- What stays of a run that is being cut. -/
def Sh (R : Wh) (r : Rb) (u : World) : Prop := ∃ r', RbAt u R r' ∧ r'.mv.dr = r.mv.dr ∧ r'.mv.fx = r.mv.fx ∧ r'.mv.fy = r.mv.fy ∧ r'.mv.fd = r.mv.fd
theorem Sh.c0 {R : Wh} {r : Rb} {u : World} (h : Sh R r u) : u.cell? ⟨R.p, 0, none⟩ = some (.pointer (some ⟨R.g, 0, none⟩)) := by obtain ⟨r', h, _⟩ := h; exact h.c0
theorem Sh.c10 {R : Wh} {r : Rb} {u : World} (h : Sh R r u) : u.cell? ⟨R.p, 10, none⟩ = some (.int .i64 r.mv.dr) := by obtain ⟨r', h, e, _⟩ := h; rw [← e]; exact h.c10
theorem Sh.frm {R : Wh} {r : Rb} {u : World} (h : Sh R r u) : (loadVar 42 ⟨R.p, 12, none⟩).run Tryz.prog u = .ok (.agg (poA r.mv.fx r.mv.fy r.mv.fd)) u := by
  obtain ⟨r', h, _, e1, e2, e3⟩ := h
  rw [← e1, ← e2, ← e3]
  exact run_loadVar_at u _ _ _ (fun j v hv => by
    rw [Addr.add_mid, h.cell]
    match j with
    | 0 => exact hv
    | 1 => exact hv
    | 2 => exact hv
    | j + 3 => simp [poA] at hv) (aggPose _) infoPose
def nP (R : Wh) (r : Rb) : Rb := { r with mv := { r.mv with n := (Kin.stopC R.ku R.ka R.kv r.mv.n r.gn : Nat) } }
def toP (R : Wh) (r : Rb) : Rb := { nP R r with mv := { (nP R r).mv with tx := (cutTo R r).1.1, ty := (cutTo R r).1.2, td := (cutTo R r).2 } }
theorem kstop_ret {w : World} {R : Wh} {r : Rb} (h : RbAt w R r) (g1 : r.gn ≤ 9223372036854775807) : Calls Tryz.prog 93 #[.pointer (some ⟨R.k, 0, none⟩), .int .i64 r.mv.n, .int .i64 r.gn] w fun e w' => ∃ v, e = .returned v ∧ (v = .tuple #[.int .i64 (Kin.stopC R.ku R.ka R.kv r.mv.n r.gn : Nat), .int .i64 (Kin.stopT R.ku R.ka R.kv r.mv.n r.gn : Nat)] ∧ RbAt w' R r ∧ Tn R w w') :=
  (Kin.stop_any R.k R.ku R.ka R.kv r.mv.n r.gn w h.kin h.ok g1).mono fun e w' ⟨a, b⟩ => ⟨_, a, rfl, h.kgo b, Tn.kin b.grow⟩
theorem shift_ret (v : Value) (x y : Int) (d : Bool) (dir n : Int) (w : World) : Calls Tryz.prog 94 #[v, .agg (poA x y d), .int .i64 dir, .int .i64 n] w fun e w' => ∃ z, e = .returned z ∧ (z = .tuple #[.agg (poA (Grid.shiftR ((x, y), d) dir n).1.1 (Grid.shiftR ((x, y), d) dir n).1.2 (Grid.shiftR ((x, y), d) dir n).2), .bool (Grid.mayShift dir n)] ∧ Below w.heap.size w w') :=
  (Grid.shift_any v x y d dir n w).mono fun e w' ⟨a, b⟩ => ⟨_, a, rfl, b⟩
section
variable {w : World} {R : Wh} {r : Rb} (h : RbAt w R r)
include h
set_option maxRecDepth 100000 in
set_option maxHeartbeats 2000000 in
theorem cut_any (g1 : r.gn ≤ 9223372036854775807) : Calls Tryz.prog 78 #[.pointer (some ⟨R.p, 0, none⟩)] w fun e w' => e = .returned (.tuple #[]) ∧ RbAt w' R (cutP R r) ∧ Tn R w w' := by
  have HW : Hid (RbAt w.drew R r) := h.go (Below.refl _ _).drew
  have HG : Hid (r.gn ≤ 9223372036854775807) := g1
  clear h g1
  go_enter Tryz.func78, Tryz.ntmps78
  go_upto_region 1 with fail
  refine start_held (S := fun u => RbAt u R r) 19 rfl (by kernel_rfl) (HW.out) ?_
  simp only [Array.replicate_succ, Array.replicate_zero, List.push_toArray, List.nil_append, List.cons_append]
  have hS0 := HW.out
  have HT0 : Hid (Tn R w w.drew) := Tn.below (Below.refl _ _).drew
  clear HW
  generalize w.drew = x0 at *
  refine tkq 0 hS0 ?_
  refine tkq 1 hS0 ?_
  refine tkq 2 hS0 ?_
  refine tkf 3 hS0 rfl (fun u hu => by have zz0 := (fun (u : World) (hu : RbAt u R r) => hu.c1) u hu; go_simp; try rfl) ?_
  refine tkq 4 hS0 ?_
  refine tkq 5 hS0 ?_
  refine tkq 6 hS0 ?_
  refine tkf 7 hS0 rfl (fun u hu => by have zz0 := (fun (u : World) (hu : RbAt u R r) => hu.c11) u hu; go_simp; try rfl) ?_
  refine tkq 8 hS0 ?_
  refine tkq 9 hS0 ?_
  refine tkq 10 hS0 ?_
  refine tkq 11 hS0 ?_
  refine tkf 12 hS0 rfl (fun u hu => by have zz0 := (fun (u : World) (hu : RbAt u R r) => hu.c20) u hu; go_simp; try rfl) ?_
  refine wpAnyH_ready (rs := [13]) (by kernel_rfl) (by simp) (AllReadyH.cons ((nth_eq _ 13).trans rfl) ?_ AllReadyH.nil)
  intro K1 hK1
  refine call_in hK1 (by kernel_rfl) 93 #[.pointer (some ⟨R.k, 0, none⟩), .int .i64 r.mv.n, .int .i64 r.gn] (by go_simp) _ (kstop_ret hS0 HG.out) ?_
  rintro v1 x1 ⟨rfl, hS1, T1⟩
  refine ⟨hS1, ?_⟩
  simp only [Act.put, List.setIfInBounds_toArray, List.set_cons_zero, List.set_cons_succ]
  refine tkq 14 hS1 ?_
  refine tkq 15 hS1 ?_
  refine tkq 16 hS1 ?_
  refine tkq 17 hS1 ?_
  refine tkq 18 hS1 ?_
  refine done_held (by kernel_rfl) ?_ _
  have c11 := hS1.c11
  have f11 := hS1.froz 11
  obtain ⟨x2, hx2⟩ : ∃ x2, x1.setCell ⟨R.p, 11, none⟩ (.int .i64 (Kin.stopC R.ku R.ka R.kv r.mv.n r.gn : Nat)) = x2 := ⟨_, rfl⟩
  have HN2 : Hid (RbAt x2 R (nP R r)) := by rw [← hx2]; exact hS1.set 11 [.int .i64 (Kin.stopC R.ku R.ka R.kv r.mv.n r.gn : Nat)] (rb_n _ _ r _)
  have HT2 : Hid (Tn R w x2) := (HT0.out.trans T1).trans (by rw [← hx2]; exact Tn.only (Only.setCell _ _ _ _))
  have HX : Hid (Sh R r x2.drew) := ⟨_, HN2.out.go (Below.refl _ _).drew, rfl, rfl, rfl, rfl⟩
  clear hS1 T1 HT0 hS0
  go_upto_region 3 with fail
  try rw [hx2]
  clear hx2 c11 f11
  refine start_held (S := Sh R r) 21 rfl (by kernel_rfl) (HX.out) ?_
  simp only [Array.replicate_succ, Array.replicate_zero, List.push_toArray, List.nil_append, List.cons_append]
  have hN0 : RbAt x2.drew R (nP R r) := HN2.out.go (Below.refl _ _).drew
  have hZ0 : Sh R r x2.drew := HX.out
  have HT : Hid (Tn R w x2.drew) := HT2.out.trans (Tn.below (Below.refl _ _).drew)
  clear HT2 HN2
  generalize x2.drew = y0 at *
  refine tkq 0 hZ0 ?_
  refine tkq 1 hZ0 ?_
  refine tkq 2 hZ0 ?_
  refine tkq 3 hZ0 ?_
  refine tkf 4 hZ0 rfl (fun u hu => by have zz0 := (fun (u : World) (hu : Sh R r u) => hu.c0) u hu; go_simp; try rfl) ?_
  refine tkq 5 hZ0 ?_
  refine tkq 6 hZ0 ?_
  refine tkq 7 hZ0 ?_
  refine tkf 8 hZ0 rfl (v := .agg (poA r.mv.fx r.mv.fy r.mv.fd)) (fun u hu => by exact run_load_at 42 _ rfl ⟨R.p, 12, none⟩ rfl _ (Sh.frm hu)) ?_
  refine tkq 9 hZ0 ?_
  refine tkq 10 hZ0 ?_
  refine tkq 11 hZ0 ?_
  refine tkf 12 hZ0 rfl (fun u hu => by have zz0 := (fun (u : World) (hu : Sh R r u) => hu.c10) u hu; go_simp; try rfl) ?_
  refine tkq 13 hZ0 ?_
  refine wpAnyH_ready (rs := [14]) (by kernel_rfl) (by simp) (AllReadyH.cons ((nth_eq _ 14).trans rfl) ?_ AllReadyH.nil)
  intro L1 hL1
  refine call_in hL1 (by kernel_rfl) 94 #[.pointer (some ⟨R.g, 0, none⟩), .agg (poA r.mv.fx r.mv.fy r.mv.fd), .int .i64 r.mv.dr, .int .i64 (Kin.stopC R.ku R.ka R.kv r.mv.n r.gn : Nat)] (by go_simp) _ (shift_ret _ _ _ _ _ _ _) ?_
  rintro u1 y1 ⟨rfl, d1⟩
  have hN1 := hN0.go d1
  have hZ1 : Sh R r y1 := ⟨_, hN1, rfl, rfl, rfl, rfl⟩
  refine ⟨hZ1, ?_⟩
  simp only [Act.put, List.setIfInBounds_toArray, List.set_cons_zero, List.set_cons_succ]
  refine tkq 15 hZ1 ?_
  refine tkq 16 hZ1 ?_
  refine tkq 17 hZ1 ?_
  refine tkq 18 hZ1 ?_
  refine tkq 19 hZ1 ?_
  refine wpAnyH_ready (rs := [20]) (by kernel_rfl) (by simp) (AllReadyH.cons ((nth_eq _ 20).trans rfl) ?_ AllReadyH.nil)
  intro L2 hL2
  obtain ⟨y2, hy2⟩ : ∃ y, y = y1.setCells R.p 15 (poA (cutTo R r).1.1 (cutTo R r).1.2 (cutTo R r).2).toList := ⟨_, rfl⟩
  have hN2 : RbAt y2 R (toP R r) := by rw [hy2]; exact hN1.set 15 _ (rb_to _ _ (nP R r) _ _ _)
  have o2 : Only R.p y1 y2 := by rw [hy2]; exact Only.setCells _ _ _ _
  have hZ2 : Sh R r y2 := ⟨_, hN2, rfl, rfl, rfl, rfl⟩
  refine skip_in hL2 (by kernel_rfl) y2 (by rw [hy2]; exact run_store_mid_op 42 _ _ rfl R.p 15 (poA (cutTo R r).1.1 (cutTo R r).1.2 (cutTo R r).2) rfl rfl (there_of hN1.at_ 15 3 (by show 15 + 3 ≤ 24; omega)) infoPose (poA_one _ _ _)) hZ2 ?_
  simp only [Act.put, List.setIfInBounds_toArray, List.set_cons_zero, List.set_cons_succ]
  refine done_held (by kernel_rfl) ?_ _
  have c21 := hN2.c21
  have f21 := hN2.froz 21
  have HE : (RbAt (y2.setCell ⟨R.p, 21, none⟩ (.int .i64 (max (Kin.stopT R.ku R.ka R.kv r.mv.n r.gn : Nat) 1))) R (cutP R r) ∧ Tn R w (y2.setCell ⟨R.p, 21, none⟩ (.int .i64 (max (Kin.stopT R.ku R.ka R.kv r.mv.n r.gn : Nat) 1)))) :=
    ⟨hN2.set 21 [.int .i64 (max (Kin.stopT R.ku R.ka R.kv r.mv.n r.gn : Nat) 1)] (rb_left _ _ (toP R r) _), ((HT.out.trans (Tn.below d1)).trans (Tn.only o2)).trans (Tn.only (Only.setCell _ _ _ _))⟩
  clear hN2 hN1 hN0 hZ2 hZ1 hZ0 o2 d1 HT HX hy2
  generalize ((Kin.stopT R.ku R.ka R.kv r.mv.n r.gn : Nat) : Int) = zt at *
  generalize ((Kin.stopC R.ku R.ka R.kv r.mv.n r.gn : Nat) : Int) = zc at *
  go_wp2
  go_end0
  exact ⟨rfl, HE⟩
set_option maxRecDepth 100000 in
set_option maxHeartbeats 2000000 in
theorem stop_any (ep : Int) (g1 : r.gn ≤ 9223372036854775807) : Calls Tryz.prog 55 #[.pointer (some ⟨R.p, 0, none⟩), .int .i64 ep] w fun e w' => e = .returned (.int .i64 (stopH r)) ∧ RbAt w' R (stopP R r ep) ∧ Tn R w w' := by
  obtain ⟨w1, hw1⟩ : ∃ w1, w1 = w.setCell ⟨R.p, 7, none⟩ (.int .i64 ep) := ⟨_, rfl⟩
  have w1R : RbAt w1 R { r with ep := ep } := by
    have : w1 = w.setCells R.p 7 [.int .i64 ep] := hw1
    rw [this]
    exact h.set 7 [.int .i64 ep] (rb_epoch _ _ r _)
  have o1 : Only R.p w w1 := by rw [hw1]; exact Only.setCell _ _ _ _
  obtain ⟨w2, hw2⟩ : ∃ w2, w2 = w1.setCell ⟨R.p, 8, none⟩ (.int .i64 0) := ⟨_, rfl⟩
  have w2R : RbAt w2 R (newEp r ep) := by
    have : w2 = w1.setCells R.p 8 [.int .i64 0] := hw2
    rw [this]
    exact w1R.set 8 [.int .i64 0] (rb_last _ _ { r with ep := ep } _)
  have o2 : Only R.p w1 w2 := by rw [hw2]; exact Only.setCell _ _ _ _
  have T2 : Tn R w w2 := (Tn.only o1).trans (Tn.only o2)
  have c7 := h.c7
  have f7 := h.froz 7
  have c8 : w1.cell? ⟨R.p, 8, none⟩ = some (.int .i64 r.lt) := w1R.c8
  have f8 := w1R.froz 8
  have c9 : w2.cell? ⟨R.p, 9, none⟩ = some (.int .i64 r.mv.kd) := w2R.c9
  have c23 : w2.cell? ⟨R.p, 23, none⟩ = some (.bool r.st) := w2R.c23
  have f23 := w2R.froz 23
  have HC := moves_any w2R
  rw [show under (newEp r ep) = under r from rfl] at HC
  unfold stopH stopP
  cases hu : under r with
  | false =>
    rw [hu] at HC
    rw [if_neg (show ¬ (false = true) by decide), if_neg (show ¬ (false = true) by decide)]
    have HE : Hid (RbAt w2 R (newEp r ep) ∧ Tn R w w2) := ⟨w2R, T2⟩
    clear w1R o1 w2R o2 T2 h hu
    subst hw2
    subst hw1
    go_enter Tryz.func55, Tryz.ntmps55
    go_wp2_with (go_at_call 57; refine HC.mono ?_; rintro e wq ⟨rfl, hwq⟩; rw [hwq]; clear hwq)
    go_ret
    exact ⟨rfl, HE.out⟩
  | true =>
    rw [hu] at HC
    rw [if_pos (show true = true from rfl), if_pos (show true = true from rfl)]
    clear hu
    by_cases hc : r.mv.kd = 1 ∧ r.st = false
    · rw [if_pos hc]
      have q1 : (r.mv.kd == 1) = true := by rw [beq_iff_eq]; exact hc.1
      have q2 : r.st = false := hc.2
      rw [q2] at c23
      have HCUT := cut_any w2R g1
      have HT : Hid (Tn R w w2) := T2
      clear w1R o1 w2R o2 T2 h hc q2
      subst hw2
      subst hw1
      go_enter Tryz.func55, Tryz.ntmps55
      go_wp2_with (first | (go_at_call 57; refine HC.mono ?_; rintro e wq ⟨rfl, hwq⟩; rw [hwq]; clear hwq) | (go_at_call 78; refine HCUT.mono ?_; rintro e w3 ⟨rfl, w3R, T3⟩; have c23' := w3R.c23; have f23' := w3R.froz 23; have HE : Hid (RbAt (w3.setCell ⟨R.p, 23, none⟩ (.bool true)) R { cutP R (newEp r ep) with st := true } ∧ Tn R w (w3.setCell ⟨R.p, 23, none⟩ (.bool true))) := ⟨w3R.set 23 [.bool true] (rb_stop _ _ (cutP R (newEp r ep)) _), (HT.out.trans T3).trans (Tn.only (Only.setCell _ _ _ _))⟩; clear w3R T3))
      go_ret
      exact ⟨rfl, HE.out⟩
    · rw [if_neg hc]
      have HE : Hid (RbAt (w2.setCell ⟨R.p, 23, none⟩ (.bool true)) R { newEp r ep with st := true } ∧ Tn R w (w2.setCell ⟨R.p, 23, none⟩ (.bool true))) := ⟨w2R.set 23 [.bool true] (rb_stop _ _ (newEp r ep) _), T2.trans (Tn.only (Only.setCell _ _ _ _))⟩
      clear w1R o1 w2R o2 T2 h
      by_cases hk : r.mv.kd = 1
      · have q1 : (r.mv.kd == 1) = true := by rw [beq_iff_eq]; exact hk
        have q2 : r.st = true := by cases e : r.st; exact absurd ⟨hk, e⟩ hc; rfl
        rw [q2] at c23
        clear hc hk q2
        subst hw2
        subst hw1
        go_enter Tryz.func55, Tryz.ntmps55
        go_wp2_with (go_at_call 57; refine HC.mono ?_; rintro e wq ⟨rfl, hwq⟩; rw [hwq]; clear hwq)
        go_ret
        exact ⟨rfl, HE.out⟩
      · have q1 : (r.mv.kd == 1) = false := by rw [beq_eq_false_iff_ne]; exact hk
        clear hc
        subst hw2
        subst hw1
        go_enter Tryz.func55, Tryz.ntmps55
        go_wp2_with (go_at_call 57; refine HC.mono ?_; rintro e wq ⟨rfl, hwq⟩; rw [hwq]; clear hwq)
        go_ret
        exact ⟨rfl, HE.out⟩
end
end Go.Proofs.YtedhoghleelhfaaGreat.Rob
/-
  A tick.
-/
namespace Go.Proofs.YtedhoghleelhfaaGreat.Rob
set_option linter.unusedVariables false
set_option linter.unusedSimpArgs false
open Go Go.RowKit Go.Shelf Go.Proofs Go.Proofs.YtedhoghleelhfaaGreat.Lk Go.Proofs.YtedhoghleelhfaaGreat.Plain
attribute [local go_sem] Oper.semAt_some

set_option maxRecDepth 100000 in
set_option maxHeartbeats 2000000 in
theorem tick_any {w : World} {R : Wh} {r : Rb} (h : RbAt w R r) {n : Int} (hn : n ≤ 1000000000000) (ok : OkR n r) : Calls Tryz.prog 35 #[.pointer (some ⟨R.p, 0, none⟩)] w fun e w' => e = .returned (.tuple #[.agg (mvA (tickM r)), .int .i64 (tickH r)]) ∧ RbAt w' R (tickR r) ∧ Tn R w w' := by
  have l0 := ok.lt0
  have l1 : r.lt ≤ 4000000000000000000 := by have := ok.ltn; omega
  have g0 := ok.gn0
  have g1 : r.gn ≤ 4000000000000000000 := by have := ok.gnn; omega
  have f0 := ok.lf0
  have f1 := ok.lf1
  have a0 := ok.la0
  have a1 := ok.la1
  have OFF := h.off (N := w.heap.size) (Nat.le_refl _)
  obtain ⟨w1, hw1⟩ : ∃ w1, w1 = w.alloc (.cells (mvA mv0) 44) := ⟨_, rfl⟩
  have b1 : Below w.heap.size w w1 := by rw [hw1]; exact (Below.refl _ _).alloc (Nat.le_refl _) _
  have w1m : w1.heap[w.heap.size]? = some (.cells (mvA mv0) 44 (0, 0)) := by rw [hw1]; exact World.alloc_heap_new _ _
  have w1R := h.go b1
  have T1 : Tn R w w1 := Tn.below b1
  clear b1
  unfold tickM tickH tickR
  cases hu : under r with
  | false =>
    have HC := moves_any w1R
    rw [hu] at HC
    rw [if_pos (show false = false from rfl), if_pos (show false = false from rfl), if_pos (show false = false from rfl)]
    clear hu
    have HM : Hid (w1.heap[w.heap.size]? = some (.cells (mvA mv0) 44 (0, 0))) := w1m
    have HE : Hid (RbAt (w1.setRow w.heap.size (mvA mv0)) R r ∧ Tn R w (w1.setRow w.heap.size (mvA mv0))) := ⟨w1R.row OFF w1m (by decide) _, T1.row (Nat.le_refl _) _⟩
    clear h w1R OFF T1 w1m
    go_enter Tryz.func35, Tryz.ntmps35
    go_wp2_with (first | (refine wpList_allocAs rfl 44 rfl (mvA mv0) (zeroMove _) ?_; rw [← hw1]; clear hw1) | (go_at_call 57; refine HC.mono ?_; rintro e wq ⟨rfl, hwq⟩; rw [hwq]; clear hwq) | (refine wpList_buildAs rfl 44 _ rfl (mvA mv0) _ rfl builtMv0 ?_) | (refine wpList_store_row rfl 44 (.tmp 2) (.tmp 49) rfl w.heap.size (mvA mv0) rfl rfl 44 (mvA mv0) HM.out infoMove rfl (mvA_one _) ?_))
    exact bodyPost_ret (Lk.results_cell_tmp Tryz.results35 _ _ w.heap.size (mvA mv0) rfl (load_row_of (cs := mvA mv0) (setRow_heap _ _ _ _ _ _ HM.out) (aggMove _) infoMove)) rfl ⟨rfl, HE.out⟩
  | true =>
    have HC := moves_any w1R
    rw [hu] at HC
    rw [if_neg (show ¬ (true = false) by decide), if_neg (show ¬ (true = false) by decide), if_neg (show ¬ (true = false) by decide)]
    clear hu
    by_cases h1 : 0 < r.la
    · rw [if_pos h1, if_pos h1, if_pos h1]
      obtain ⟨w2, hw2⟩ : ∃ w2, w2 = w1.setCell ⟨R.p, 22, none⟩ (.int .i64 (r.la - 1)) := ⟨_, rfl⟩
      have w2R : RbAt w2 R { r with la := r.la - 1 } := by
        have : w2 = w1.setCells R.p 22 [.int .i64 (r.la - 1)] := hw2
        rw [this]
        exact w1R.set 22 [.int .i64 (r.la - 1)] (rb_late _ _ r _)
      have o2 : Only R.p w1 w2 := by rw [hw2]; exact Only.setCell _ _ _ _
      have w2m : w2.heap[w.heap.size]? = some (.cells (mvA mv0) 44 (0, 0)) := (o2.block _ (Ne.symm OFF.1)).trans w1m
      have T2 := T1.trans (Tn.only o2)
      have c22 := w1R.c22
      have f22 := w1R.froz 22
      have HM : Hid (w2.heap[w.heap.size]? = some (.cells (mvA mv0) 44 (0, 0))) := w2m
      have HE : Hid (RbAt (w2.setRow w.heap.size (mvA mv0)) R { r with la := r.la - 1 } ∧ Tn R w (w2.setRow w.heap.size (mvA mv0))) := ⟨w2R.row OFF w2m (by decide) _, T2.row (Nat.le_refl _) _⟩
      clear h w1R w2R OFF T1 T2 w1m w2m o2
      subst hw2
      go_enter Tryz.func35, Tryz.ntmps35
      go_wp2_with (first | (refine wpList_allocAs rfl 44 rfl (mvA mv0) (zeroMove _) ?_; rw [← hw1]; clear hw1) | (go_at_call 57; refine HC.mono ?_; rintro e wq ⟨rfl, hwq⟩; rw [hwq]; clear hwq) | (refine wpList_buildAs rfl 44 _ rfl (mvA mv0) _ rfl builtMv0 ?_) | (refine wpList_store_row rfl 44 (.tmp 2) (.tmp 49) rfl w.heap.size (mvA mv0) rfl rfl 44 (mvA mv0) HM.out infoMove rfl (mvA_one _) ?_))
      exact bodyPost_ret (Lk.results_cell_tmp Tryz.results35 _ _ w.heap.size (mvA mv0) rfl (load_row_of (cs := mvA mv0) (setRow_heap _ _ _ _ _ _ HM.out) (aggMove _) infoMove)) rfl ⟨rfl, HE.out⟩
    · rw [if_neg h1, if_neg h1, if_neg h1]
      by_cases h2 : 1 < r.lf
      · rw [if_pos h2, if_pos h2, if_pos h2]
        obtain ⟨w2, hw2⟩ : ∃ w2, w2 = w1.setCell ⟨R.p, 21, none⟩ (.int .i64 (r.lf - 1)) := ⟨_, rfl⟩
        have w2R : RbAt w2 R { r with lf := r.lf - 1 } := by
          have : w2 = w1.setCells R.p 21 [.int .i64 (r.lf - 1)] := hw2
          rw [this]
          exact w1R.set 21 [.int .i64 (r.lf - 1)] (rb_left _ _ r _)
        have o2 : Only R.p w1 w2 := by rw [hw2]; exact Only.setCell _ _ _ _
        obtain ⟨w3, hw3⟩ : ∃ w3, w3 = w2.setCell ⟨R.p, 20, none⟩ (.int .i64 (r.gn + 1)) := ⟨_, rfl⟩
        have w3R : RbAt w3 R { r with lf := r.lf - 1, gn := r.gn + 1 } := by
          have : w3 = w2.setCells R.p 20 [.int .i64 (r.gn + 1)] := hw3
          rw [this]
          exact w2R.set 20 [.int .i64 (r.gn + 1)] (rb_gone _ _ { r with lf := r.lf - 1 } _)
        have o3 : Only R.p w2 w3 := by rw [hw3]; exact Only.setCell _ _ _ _
        have w3m : w3.heap[w.heap.size]? = some (.cells (mvA mv0) 44 (0, 0)) := (o3.block _ (Ne.symm OFF.1)).trans ((o2.block _ (Ne.symm OFF.1)).trans w1m)
        have T3 := (T1.trans (Tn.only o2)).trans (Tn.only o3)
        have c22 := w1R.c22
        have c21 := w1R.c21
        have f21 := w1R.froz 21
        have c20 : w2.cell? ⟨R.p, 20, none⟩ = some (.int .i64 r.gn) := w2R.c20
        have f20 := w2R.froz 20
        have HM : Hid (w3.heap[w.heap.size]? = some (.cells (mvA mv0) 44 (0, 0))) := w3m
        have HE : Hid (RbAt (w3.setRow w.heap.size (mvA mv0)) R { r with lf := r.lf - 1, gn := r.gn + 1 } ∧ Tn R w (w3.setRow w.heap.size (mvA mv0))) := ⟨w3R.row OFF w3m (by decide) _, T3.row (Nat.le_refl _) _⟩
        clear h w1R w2R w3R OFF T1 T3 w1m w3m o2 o3
        subst hw3
        subst hw2
        go_enter Tryz.func35, Tryz.ntmps35
        go_wp2_with (first | (refine wpList_allocAs rfl 44 rfl (mvA mv0) (zeroMove _) ?_; rw [← hw1]; clear hw1) | (go_at_call 57; refine HC.mono ?_; rintro e wq ⟨rfl, hwq⟩; rw [hwq]; clear hwq) | (refine wpList_buildAs rfl 44 _ rfl (mvA mv0) _ rfl builtMv0 ?_) | (refine wpList_store_row rfl 44 (.tmp 2) (.tmp 49) rfl w.heap.size (mvA mv0) rfl rfl 44 (mvA mv0) HM.out infoMove rfl (mvA_one _) ?_))
        exact bodyPost_ret (Lk.results_cell_tmp Tryz.results35 _ _ w.heap.size (mvA mv0) rfl (load_row_of (cs := mvA mv0) (setRow_heap _ _ _ _ _ _ HM.out) (aggMove _) infoMove)) rfl ⟨rfl, HE.out⟩
      · rw [if_neg h2, if_neg h2, if_neg h2]
        have c22 := w1R.c22
        have c21 := w1R.c21
        have HEN : Hid (Calls Tryz.prog 59 #[.pointer (some ⟨R.p, 0, none⟩)] w1 fun e w' => e = .returned (.tuple #[.agg (mvA r.mv), .int .i64 (if r.st then 2 else 1)]) ∧ RbAt w' R (ended r) ∧ Tn R w1 w') := end_any w1R l0 l1
        have HO : Hid (Off R w.heap.size ∧ Tn R w w1 ∧ w1.heap[w.heap.size]? = some (.cells (mvA mv0) 44 (0, 0))) := ⟨OFF, T1, w1m⟩
        obtain ⟨hw_, hhw⟩ : ∃ q : Int, (if r.st then 2 else 1) = q := ⟨_, rfl⟩
        rw [hhw] at HEN ⊢
        clear hhw h w1R OFF T1 w1m
        go_enter Tryz.func35, Tryz.ntmps35
        go_wp2_with (first | (refine wpList_allocAs rfl 44 rfl (mvA mv0) (zeroMove _) ?_; rw [← hw1]; clear hw1) | (go_at_call 57; refine HC.mono ?_; rintro e wq ⟨rfl, hwq⟩; rw [hwq]; clear hwq) | (go_at_call 59; refine HEN.out.mono ?_; rintro e w5 ⟨rfl, w5R, T5⟩; have w5m : w5.heap[w.heap.size]? = some (.cells (mvA mv0) 44 (0, 0)) := (T5.block _ (Array.getElem?_eq_some_iff.1 HO.out.2.2).1 (Ne.symm HO.out.1.1) (Ne.symm HO.out.1.2.2.2)).trans HO.out.2.2; have HM : Hid (w5.heap[w.heap.size]? = some (.cells (mvA mv0) 44 (0, 0))) := w5m; have HE : Hid (RbAt (w5.setRow w.heap.size (mvA r.mv)) R (ended r) ∧ Tn R w (w5.setRow w.heap.size (mvA r.mv))) := ⟨w5R.row HO.out.1 w5m (by decide) _, (HO.out.2.1.trans T5).row (Nat.le_refl _) _⟩; clear w5R T5 w5m) | (refine wpList_store_row rfl 44 (.tmp 2) (.tmp 10) rfl w.heap.size (mvA r.mv) rfl rfl 44 (mvA mv0) HM.out infoMove rfl (mvA_one _) ?_))
        exact bodyPost_ret (Lk.results_cell_tmp Tryz.results35 _ _ w.heap.size (mvA r.mv) rfl (load_row_of (cs := mvA r.mv) (setRow_heap _ _ _ _ _ _ HM.out) (aggMove _) infoMove)) rfl ⟨rfl, HE.out⟩
end Go.Proofs.YtedhoghleelhfaaGreat.Rob
