/-
  Whether a go-ahead may be begun; its beginning.
-/
import Derived.Test.YtedmfhkdaifegaaGreatRobMay
namespace Go.Proofs.YtedmfhkdaifegaaGreat.Rob
set_option linter.unusedVariables false
set_option linter.unusedSimpArgs false
open Go Go.RowKit Go.Shelf Go.Proofs Go.Proofs.YtedmfhkdaifegaaGreat.Lk Go.Proofs.YtedmfhkdaifegaaGreat.Plain
attribute [local go_sem] Oper.semAt_some

theorem eqPo {x y x' y' : Int} {d d' b : Bool} (h : decide (((x, y), d) = ((x', y'), d')) = b) (w : World) : (Op.equalIn 10000 42 (.agg (poA x y d)) (.agg (poA x' y' d'))).run Tryz.prog w = .ok b w := by
  rw [← h]
  exact Grid.eqPose x y x' y' d d' w
theorem guardPo : Tryz.prog.eqGuardType Tryz.prog.depth 42 = false := by kernel_rfl
theorem run_eql_agg {o : Oper} {a : Act} {w : World} (T : TypeId) (x y : Operand) (ho : o.op = .binOp .eql T x y T) (hg : Tryz.prog.eqGuardType Tryz.prog.depth T = false) (xs ys : Array Value) (b : Bool) (hx : a.eval x = .agg xs) (hy : a.eval y = .agg ys)
    (h : (Op.equalIn 10000 T (.agg xs) (.agg ys)).run Tryz.prog w = .ok b w) : (execOp a.eval o).run Tryz.prog w = .ok (.value (.bool b)) w := by
  unfold execOp
  simp only [ho, hx, hy, Sem.run_bind, Sem.run_pure, Result.andThen_ok, run_eqGuard_agg _ _ _ _ _ _ _ hg, run_eql_struct, h]
theorem run_neq_agg {o : Oper} {a : Act} {w : World} (T : TypeId) (x y : Operand) (ho : o.op = .binOp .neq T x y T) (hg : Tryz.prog.eqGuardType Tryz.prog.depth T = false) (xs ys : Array Value) (b : Bool) (hx : a.eval x = .agg xs) (hy : a.eval y = .agg ys)
    (h : (Op.equalIn 10000 T (.agg xs) (.agg ys)).run Tryz.prog w = .ok b w) : (execOp a.eval o).run Tryz.prog w = .ok (.value (.bool (!b))) w := by
  unfold execOp
  simp only [ho, hx, hy, Sem.run_bind, Sem.run_pure, Result.andThen_ok, run_eqGuard_agg _ _ _ _ _ _ _ hg, run_neq_struct, h]
theorem legal_b {w : World} {R : Wh} {r : Rb} (h : RbAt w R r) (m : Mv) (b : Bool) (hb : Grid.legalU R.W R.H R.us (gm m) = b) : Calls Tryz.prog 71 #[.pointer (some ⟨R.g, 0, none⟩), .agg (mvA m)] w fun e w' => ∃ v, e = .returned v ∧ (v = .bool b ∧ Below w.heap.size w w') := by
  rw [← hb]
  exact legal_ret h m
theorem heap_old (w : World) (o : Obj) {g : Nat} (h : g < w.heap.size) : (w.alloc o).heap[g]? = w.heap[g]? := ((Below.refl w.heap.size w).alloc (Nat.le_refl _) o).block g h
theorem moves_b {w : World} {R : Wh} {r : Rb} (h : RbAt w R r) (b : Bool) (hb : under r = b) : Calls Tryz.prog 48 #[.pointer (some ⟨R.p, 0, none⟩)] w fun e w' => ∃ v, e = .returned v ∧ (v = .bool b ∧ w' = w) := by
  rw [← hb]
  exact moves_ret h
section
variable {w : World} {R : Wh} {r : Rb} (h : RbAt w R r)
include h
set_option maxRecDepth 100000 in
set_option maxHeartbeats 2000000 in
theorem mayBegin_any (t : Tl) (l0 : 0 ≤ r.lt) (l1 : r.lt ≤ 4000000000000000000) : Calls Tryz.prog 50 #[.pointer (some ⟨R.p, 0, none⟩), .agg (tlA t)] w fun e w' => e = .returned (.bool (begs R r t)) ∧ Below w.heap.size w w' := by
  obtain ⟨w1, hw1⟩ : ∃ w1, w1 = w.alloc (.cells (tlA t) 46) := ⟨_, rfl⟩
  have w1H : Hr w R r w.heap.size t w1 := Hr.make h hw1
  obtain ⟨w2, hw2⟩ : ∃ w2, w2 = w1.alloc (.cells (mvA (tmv t)) 44) := ⟨_, rfl⟩
  have s1 : w1.heap.size = w.heap.size + 1 := by rw [hw1]; simp
  have w2M : Hm w R r w.heap.size t w2 := by
    have b2 : Below w1.heap.size w1 w2 := by rw [hw2]; exact (Below.refl _ _).alloc (Nat.le_refl _) _
    exact ⟨w1H.go b2, by rw [hw2, ← s1]; exact World.alloc_heap_new _ _⟩
  clear h
  obtain ⟨lb, hlb⟩ : ∃ lb, begs R r t = lb := ⟨_, rfl⟩
  rw [hlb]
  have HL : Hid (begs R r t = lb) := hlb
  clear hlb
  have hw : IntKind.i64.wrap (r.lt + 1) = r.lt + 1 := by rw [IntKind.wrap_i64]; omega
  by_cases h1 : t.ep = r.ep
  · have q1 : (t.ep == r.ep) = true := by rw [beq_iff_eq]; exact h1
    cases hu : under r with
    | true =>
      have mv_ := fun {u : World} (k : RbAt u R r) => moves_b k true hu
      go_enter Tryz.func50, Tryz.ntmps50
      go_upto_region 2 with (first | (refine wpList_boxAt rfl 46 (.tmp 1) rfl (tlA t) rfl ?_; rw [← hw1]; clear hw1) | (refine wpList_load_at rfl 44 (.tmp 6) rfl ⟨w.heap.size, 4, none⟩ rfl (mvA (tmv t)) (tl_move w1H.tl) ?_) | (refine wpList_new rfl rfl 44 5 (.tmp 7) rfl rfl rfl rfl (mvA mv0) (mvA (tmv t)) (zeroMove _) rfl rfl infoMove rfl (mvA_one _) ?_; rw [← hw2, s1]; clear hw2))
      refine start_held (S := Hm w R r w.heap.size t) 48 rfl (by kernel_rfl) (w2M.go (Below.refl _ _).drew) ?_
      simp only [Array.replicate_succ, Array.replicate_zero, List.push_toArray, List.nil_append, List.cons_append]
      have hS0 : Hm w R r w.heap.size t w2.drew := w2M.go (Below.refl _ _).drew
      generalize w2.drew = x0 at *
      refine tk 0 hS0 rfl (v := ?v5148) ?y5148 ?r5148
      case y5148 => (intro u hu; go_simp; try rfl)
      simp only [Act.put, pA, pB, pC]
      refine tk 1 hS0 rfl (v := ?v5149) ?y5149 ?r5149
      case y5149 => (intro u hu; have zz0 := (fun u hu => tl_ep (Hr.tl (Hm.hr hu))) u hu; go_simp; try rfl)
      simp only [Act.put, pA, pB, pC]
      refine tk 2 hS0 rfl (v := ?v5150) ?y5150 ?r5150
      case y5150 => (intro u hu; go_simp; try rfl)
      simp only [Act.put, pA, pB, pC]
      refine tk 3 hS0 rfl (v := ?v5151) ?y5151 ?r5151
      case y5151 => (intro u hu; go_simp; try rfl)
      simp only [Act.put, pA, pB, pC]
      refine tk 4 hS0 rfl (v := ?v5152) ?y5152 ?r5152
      case y5152 => (intro u hu; go_simp; try rfl)
      simp only [Act.put, pA, pB, pC]
      refine tk 5 hS0 rfl (v := ?v5153) ?y5153 ?r5153
      case y5153 => (intro u hu; have zz0 := (fun u hu => RbAt.c7 (Hr.rb (Hm.hr hu))) u hu; go_simp; try rfl)
      simp only [Act.put, pA, pB, pC]
      refine tk 6 hS0 rfl (v := ?v5154) ?y5154 ?r5154
      case y5154 => (intro u hu; go_simp; try rfl)
      simp only [Act.put, pA, pB, pC]
      refine tk 7 hS0 rfl (v := ?v5155) ?y5155 ?r5155
      case y5155 => (intro u hu; go_simp; try rfl)
      simp only [Act.put, pA, pB, pC]
      refine tk 8 hS0 rfl (v := ?v5156) ?y5156 ?r5156
      case y5156 => (intro u hu; go_simp; try rfl)
      simp only [Act.put, pA, pB, pC]
      refine wpAnyH_ready (rs := [9]) (by kernel_rfl) (by simp) (AllReadyH.cons ((nth_eq _ 9).trans rfl) ?_ AllReadyH.nil)
      intro K1 hK1
      refine call_in hK1 (by kernel_rfl) 48 #[.pointer (some ⟨R.p, 0, none⟩)] (by go_simp) _ (mv_ (hS0.hr.rb)) ?_
      rintro v1 x1 ⟨rfl, hx1⟩
      rw [hx1]
      clear hx1 x1
      refine ⟨hS0, ?_⟩
      simp only [Act.put, pA, pB, pC]
      refine tk 10 hS0 rfl (v := ?v5157) ?y5157 ?r5157
      case y5157 => (intro u hu; go_simp; try rfl)
      simp only [Act.put, pA, pB, pC]
      refine tk 11 hS0 rfl (v := ?v5158) ?y5158 ?r5158
      case y5158 => (intro u hu; go_simp; try rfl)
      simp only [Act.put, pA, pB, pC]
      refine tk 12 hS0 rfl (v := ?v5159) ?y5159 ?r5159
      case y5159 => (intro u hu; go_simp; try rfl)
      simp only [Act.put, pA, pB, pC]
      refine skip_held 13 hS0 rfl (by kernel_rfl) (by kernel_rfl) (by kernel_rfl) (fun _ _ _ h => h) (by kernel_rfl) ?_
      simp only [Act.put, pA, pB, pC]
      refine skip_held 14 hS0 rfl (by kernel_rfl) (by kernel_rfl) (by kernel_rfl) (fun _ _ _ h => h) (by kernel_rfl) ?_
      simp only [Act.put, pA, pB, pC]
      refine skip_held 15 hS0 rfl (by kernel_rfl) (by kernel_rfl) (by kernel_rfl) (fun _ _ _ h => h) (by kernel_rfl) ?_
      simp only [Act.put, pA, pB, pC]
      refine skip_held 16 hS0 rfl (by kernel_rfl) (by kernel_rfl) (by kernel_rfl) (fun _ _ _ h => h) (by kernel_rfl) ?_
      simp only [Act.put, pA, pB, pC]
      refine skip_held 17 hS0 rfl (by kernel_rfl) (by kernel_rfl) (by kernel_rfl) (fun _ _ _ h => h) (by kernel_rfl) ?_
      simp only [Act.put, pA, pB, pC]
      refine skip_held 18 hS0 rfl (by kernel_rfl) (by kernel_rfl) (by kernel_rfl) (fun _ _ _ h => h) (by kernel_rfl) ?_
      simp only [Act.put, pA, pB, pC]
      refine skip_held 19 hS0 rfl (by kernel_rfl) (by kernel_rfl) (by kernel_rfl) (fun _ _ _ h => h) (by kernel_rfl) ?_
      simp only [Act.put, pA, pB, pC]
      refine skip_held 20 hS0 rfl (by kernel_rfl) (by kernel_rfl) (by kernel_rfl) (fun _ _ _ h => h) (by kernel_rfl) ?_
      simp only [Act.put, pA, pB, pC]
      refine tk 21 hS0 rfl (v := ?v5160) ?y5160 ?r5160
      case y5160 => (intro u hu; go_simp; try rfl)
      simp only [Act.put, pA, pB, pC]
      refine tk 22 hS0 rfl (v := ?v5161) ?y5161 ?r5161
      case y5161 => (intro u hu; go_simp; try rfl)
      simp only [Act.put, pA, pB, pC]
      refine skip_held 23 hS0 rfl (by kernel_rfl) (by kernel_rfl) (by kernel_rfl) (fun _ _ _ h => h) (by kernel_rfl) ?_
      simp only [Act.put, pA, pB, pC]
      refine skip_held 24 hS0 rfl (by kernel_rfl) (by kernel_rfl) (by kernel_rfl) (fun _ _ _ h => h) (by kernel_rfl) ?_
      simp only [Act.put, pA, pB, pC]
      refine skip_held 25 hS0 rfl (by kernel_rfl) (by kernel_rfl) (by kernel_rfl) (fun _ _ _ h => h) (by kernel_rfl) ?_
      simp only [Act.put, pA, pB, pC]
      refine skip_held 26 hS0 rfl (by kernel_rfl) (by kernel_rfl) (by kernel_rfl) (fun _ _ _ h => h) (by kernel_rfl) ?_
      simp only [Act.put, pA, pB, pC]
      refine skip_held 27 hS0 rfl (by kernel_rfl) (by kernel_rfl) (by kernel_rfl) (fun _ _ _ h => h) (by kernel_rfl) ?_
      simp only [Act.put, pA, pB, pC]
      refine skip_held 28 hS0 rfl (by kernel_rfl) (by kernel_rfl) (by kernel_rfl) (fun _ _ _ h => h) (by kernel_rfl) ?_
      simp only [Act.put, pA, pB, pC]
      refine skip_held 29 hS0 rfl (by kernel_rfl) (by kernel_rfl) (by kernel_rfl) (fun _ _ _ h => h) (by kernel_rfl) ?_
      simp only [Act.put, pA, pB, pC]
      refine tk 30 hS0 rfl (v := ?v5162) ?y5162 ?r5162
      case y5162 => (intro u hu; go_simp; try rfl)
      simp only [Act.put, pA, pB, pC]
      refine tk 31 hS0 rfl (v := ?v5163) ?y5163 ?r5163
      case y5163 => (intro u hu; go_simp; try rfl)
      simp only [Act.put, pA, pB, pC]
      refine skip_held 32 hS0 rfl (by kernel_rfl) (by kernel_rfl) (by kernel_rfl) (fun _ _ _ h => h) (by kernel_rfl) ?_
      simp only [Act.put, pA, pB, pC]
      refine skip_held 33 hS0 rfl (by kernel_rfl) (by kernel_rfl) (by kernel_rfl) (fun _ _ _ h => h) (by kernel_rfl) ?_
      simp only [Act.put, pA, pB, pC]
      refine skip_held 34 hS0 rfl (by kernel_rfl) (by kernel_rfl) (by kernel_rfl) (fun _ _ _ h => h) (by kernel_rfl) ?_
      simp only [Act.put, pA, pB, pC]
      refine skip_held 35 hS0 rfl (by kernel_rfl) (by kernel_rfl) (by kernel_rfl) (fun _ _ _ h => h) (by kernel_rfl) ?_
      simp only [Act.put, pA, pB, pC]
      refine skip_held 36 hS0 rfl (by kernel_rfl) (by kernel_rfl) (by kernel_rfl) (fun _ _ _ h => h) (by kernel_rfl) ?_
      simp only [Act.put, pA, pB, pC]
      refine skip_held 37 hS0 rfl (by kernel_rfl) (by kernel_rfl) (by kernel_rfl) (fun _ _ _ h => h) (by kernel_rfl) ?_
      simp only [Act.put, pA, pB, pC]
      refine tk 38 hS0 rfl (v := ?v5164) ?y5164 ?r5164
      case y5164 => (intro u hu; go_simp; try rfl)
      simp only [Act.put, pA, pB, pC]
      refine tk 39 hS0 rfl (v := ?v5165) ?y5165 ?r5165
      case y5165 => (intro u hu; go_simp; try rfl)
      simp only [Act.put, pA, pB, pC]
      refine skip_held 40 hS0 rfl (by kernel_rfl) (by kernel_rfl) (by kernel_rfl) (fun _ _ _ h => h) (by kernel_rfl) ?_
      simp only [Act.put, pA, pB, pC]
      refine skip_held 41 hS0 rfl (by kernel_rfl) (by kernel_rfl) (by kernel_rfl) (fun _ _ _ h => h) (by kernel_rfl) ?_
      simp only [Act.put, pA, pB, pC]
      refine skip_held 42 hS0 rfl (by kernel_rfl) (by kernel_rfl) (by kernel_rfl) (fun _ _ _ h => h) (by kernel_rfl) ?_
      simp only [Act.put, pA, pB, pC]
      refine skip_held 43 hS0 rfl (by kernel_rfl) (by kernel_rfl) (by kernel_rfl) (fun _ _ _ h => h) (by kernel_rfl) ?_
      simp only [Act.put, pA, pB, pC]
      refine skip_held 44 hS0 rfl (by kernel_rfl) (by kernel_rfl) (by kernel_rfl) (fun _ _ _ h => h) (by kernel_rfl) ?_
      simp only [Act.put, pA, pB, pC]
      refine skip_held 45 hS0 rfl (by kernel_rfl) (by kernel_rfl) (by kernel_rfl) (fun _ _ _ h => h) (by kernel_rfl) ?_
      simp only [Act.put, pA, pB, pC]
      refine tk 46 hS0 rfl (v := ?v5166) ?y5166 ?r5166
      case y5166 => (intro u hu; go_simp; try rfl)
      simp only [Act.put, pA, pB, pC]
      refine tk 47 hS0 rfl (v := ?v5167) ?y5167 ?r5167
      case y5167 => (intro u hu; go_simp; try rfl)
      simp only [Act.put, pA, pB, pC]
      refine done_held (by kernel_rfl) ?_ _
      go_wp2
      go_ret
      exact ⟨ret_bool (by rw [← HL.out]; simp [begs, h1, hu]), hS0.hr.bel⟩
    | false =>
      have mv_ := fun {u : World} (k : RbAt u R r) => moves_b k false hu
      by_cases h3 : t.nm = r.lt + 1
      · have q3 : (t.nm == r.lt + 1) = true := by rw [beq_iff_eq]; exact h3
        by_cases hq : ((t.fx, t.fy), t.fd) = posR r
        · have hp : decide ((((tmv t).fx, (tmv t).fy), (tmv t).fd) = ((r.px, r.py), r.pd)) = true := decide_eq_true hq
          cases hl : Grid.legalU R.W R.H R.us (gm (tmv t)) with
          | true =>
            go_enter Tryz.func50, Tryz.ntmps50
            go_upto_region 2 with (first | (refine wpList_boxAt rfl 46 (.tmp 1) rfl (tlA t) rfl ?_; rw [← hw1]; clear hw1) | (refine wpList_load_at rfl 44 (.tmp 6) rfl ⟨w.heap.size, 4, none⟩ rfl (mvA (tmv t)) (tl_move w1H.tl) ?_) | (refine wpList_new rfl rfl 44 5 (.tmp 7) rfl rfl rfl rfl (mvA mv0) (mvA (tmv t)) (zeroMove _) rfl rfl infoMove rfl (mvA_one _) ?_; rw [← hw2, s1]; clear hw2))
            refine start_held (S := Hm w R r w.heap.size t) 48 rfl (by kernel_rfl) (w2M.go (Below.refl _ _).drew) ?_
            simp only [Array.replicate_succ, Array.replicate_zero, List.push_toArray, List.nil_append, List.cons_append]
            have hS0 : Hm w R r w.heap.size t w2.drew := w2M.go (Below.refl _ _).drew
            generalize w2.drew = x0 at *
            refine tk 0 hS0 rfl (v := ?v5000) ?y5000 ?r5000
            case y5000 => (intro u hu; go_simp; try rfl)
            simp only [Act.put, pA, pB, pC]
            refine tk 1 hS0 rfl (v := ?v5001) ?y5001 ?r5001
            case y5001 => (intro u hu; have zz0 := (fun u hu => tl_ep (Hr.tl (Hm.hr hu))) u hu; go_simp; try rfl)
            simp only [Act.put, pA, pB, pC]
            refine tk 2 hS0 rfl (v := ?v5002) ?y5002 ?r5002
            case y5002 => (intro u hu; go_simp; try rfl)
            simp only [Act.put, pA, pB, pC]
            refine tk 3 hS0 rfl (v := ?v5003) ?y5003 ?r5003
            case y5003 => (intro u hu; go_simp; try rfl)
            simp only [Act.put, pA, pB, pC]
            refine tk 4 hS0 rfl (v := ?v5004) ?y5004 ?r5004
            case y5004 => (intro u hu; go_simp; try rfl)
            simp only [Act.put, pA, pB, pC]
            refine tk 5 hS0 rfl (v := ?v5005) ?y5005 ?r5005
            case y5005 => (intro u hu; have zz0 := (fun u hu => RbAt.c7 (Hr.rb (Hm.hr hu))) u hu; go_simp; try rfl)
            simp only [Act.put, pA, pB, pC]
            refine tk 6 hS0 rfl (v := ?v5006) ?y5006 ?r5006
            case y5006 => (intro u hu; go_simp; try rfl)
            simp only [Act.put, pA, pB, pC]
            refine tk 7 hS0 rfl (v := ?v5007) ?y5007 ?r5007
            case y5007 => (intro u hu; go_simp; try rfl)
            simp only [Act.put, pA, pB, pC]
            refine tk 8 hS0 rfl (v := ?v5008) ?y5008 ?r5008
            case y5008 => (intro u hu; go_simp; try rfl)
            simp only [Act.put, pA, pB, pC]
            refine wpAnyH_ready (rs := [9]) (by kernel_rfl) (by simp) (AllReadyH.cons ((nth_eq _ 9).trans rfl) ?_ AllReadyH.nil)
            intro K1 hK1
            refine call_in hK1 (by kernel_rfl) 48 #[.pointer (some ⟨R.p, 0, none⟩)] (by go_simp) _ (mv_ (hS0.hr.rb)) ?_
            rintro v1 x1 ⟨rfl, hx1⟩
            rw [hx1]
            clear hx1 x1
            refine ⟨hS0, ?_⟩
            simp only [Act.put, pA, pB, pC]
            refine tk 10 hS0 rfl (v := ?v5009) ?y5009 ?r5009
            case y5009 => (intro u hu; go_simp; try rfl)
            simp only [Act.put, pA, pB, pC]
            refine tk 11 hS0 rfl (v := ?v5010) ?y5010 ?r5010
            case y5010 => (intro u hu; go_simp; try rfl)
            simp only [Act.put, pA, pB, pC]
            refine tk 12 hS0 rfl (v := ?v5011) ?y5011 ?r5011
            case y5011 => (intro u hu; go_simp; try rfl)
            simp only [Act.put, pA, pB, pC]
            refine tk 13 hS0 rfl (v := ?v5012) ?y5012 ?r5012
            case y5012 => (intro u hu; go_simp; try rfl)
            simp only [Act.put, pA, pB, pC]
            refine tk 14 hS0 rfl (v := ?v5013) ?y5013 ?r5013
            case y5013 => (intro u hu; have zz0 := (fun u hu => tl_nm (Hr.tl (Hm.hr hu))) u hu; go_simp; try rfl)
            simp only [Act.put, pA, pB, pC]
            refine tk 15 hS0 rfl (v := ?v5014) ?y5014 ?r5014
            case y5014 => (intro u hu; go_simp; try rfl)
            simp only [Act.put, pA, pB, pC]
            refine tk 16 hS0 rfl (v := ?v5015) ?y5015 ?r5015
            case y5015 => (intro u hu; go_simp; try rfl)
            simp only [Act.put, pA, pB, pC]
            refine tk 17 hS0 rfl (v := ?v5016) ?y5016 ?r5016
            case y5016 => (intro u hu; go_simp; try rfl)
            simp only [Act.put, pA, pB, pC]
            refine tk 18 hS0 rfl (v := ?v5017) ?y5017 ?r5017
            case y5017 => (intro u hu; have zz0 := (fun u hu => RbAt.c8 (Hr.rb (Hm.hr hu))) u hu; go_simp; try rfl)
            simp only [Act.put, pA, pB, pC]
            refine tk 19 hS0 rfl (v := ?v5018) ?y5018 ?r5018
            case y5018 => (intro u hu; go_simp; try rfl)
            simp only [Act.put, pA, pB, pC]
            refine tk 20 hS0 rfl (v := ?v5019) ?y5019 ?r5019
            case y5019 => (intro u hu; go_simp; try rfl)
            simp only [Act.put, pA, pB, pC]
            refine tk 21 hS0 rfl (v := ?v5020) ?y5020 ?r5020
            case y5020 => (intro u hu; go_simp; try rfl)
            simp only [Act.put, pA, pB, pC]
            refine tk 22 hS0 rfl (v := ?v5021) ?y5021 ?r5021
            case y5021 => (intro u hu; go_simp; try rfl)
            simp only [Act.put, pA, pB, pC]
            refine tk 23 hS0 rfl (v := ?v5022) ?y5022 ?r5022
            case y5022 => (intro u hu; go_simp; try rfl)
            simp only [Act.put, pA, pB, pC]
            refine tk 24 hS0 rfl (v := .agg (poA (tmv t).fx (tmv t).fy (tmv t).fd)) ?y5023 ?r5023
            case y5023 => (intro u hu; exact run_load_at 42 _ rfl ⟨w.heap.size + 1, 3, none⟩ rfl _ (mv_from (Hm.mv hu)))
            simp only [Act.put, pA, pB, pC]
            refine tk 25 hS0 rfl (v := ?v5024) ?y5024 ?r5024
            case y5024 => (intro u hu; go_simp; try rfl)
            simp only [Act.put, pA, pB, pC]
            refine tk 26 hS0 rfl (v := ?v5025) ?y5025 ?r5025
            case y5025 => (intro u hu; go_simp; try rfl)
            simp only [Act.put, pA, pB, pC]
            refine tk 27 hS0 rfl (v := ?v5026) ?y5026 ?r5026
            case y5026 => (intro u hu; go_simp; try rfl)
            simp only [Act.put, pA, pB, pC]
            refine tk 28 hS0 rfl (v := .agg (poA r.px r.py r.pd)) ?y5027 ?r5027
            case y5027 => (intro u hu; exact run_load_at 42 _ rfl ⟨R.p, 3, none⟩ rfl _ (RbAt.pose (Hr.rb (Hm.hr hu))))
            simp only [Act.put, pA, pB, pC]
            refine tk 29 hS0 rfl (v := .bool true) ?y5028 ?r5028
            case y5028 => (intro u hu; exact run_eql_agg 42 _ _ rfl guardPo (poA (tmv t).fx (tmv t).fy (tmv t).fd) (poA r.px r.py r.pd) _ rfl rfl (eqPo hp u))
            simp only [Act.put, pA, pB, pC]
            refine tk 30 hS0 rfl (v := ?v5029) ?y5029 ?r5029
            case y5029 => (intro u hu; go_simp; try rfl)
            simp only [Act.put, pA, pB, pC]
            refine tk 31 hS0 rfl (v := ?v5030) ?y5030 ?r5030
            case y5030 => (intro u hu; go_simp; try rfl)
            simp only [Act.put, pA, pB, pC]
            refine tk 32 hS0 rfl (v := ?v5031) ?y5031 ?r5031
            case y5031 => (intro u hu; go_simp; try rfl)
            simp only [Act.put, pA, pB, pC]
            refine tk 33 hS0 rfl (v := ?v5032) ?y5032 ?r5032
            case y5032 => (intro u hu; go_simp; try rfl)
            simp only [Act.put, pA, pB, pC]
            refine tk 34 hS0 rfl (v := ?v5033) ?y5033 ?r5033
            case y5033 => (intro u hu; go_simp; try rfl)
            simp only [Act.put, pA, pB, pC]
            refine tk 35 hS0 rfl (v := ?v5034) ?y5034 ?r5034
            case y5034 => (intro u hu; have zz0 := (fun u hu => RbAt.c0 (Hr.rb (Hm.hr hu))) u hu; go_simp; try rfl)
            simp only [Act.put, pA, pB, pC]
            refine tk 36 hS0 rfl (v := .agg (mvA (tmv t))) ?y5035 ?r5035
            case y5035 => (intro u hu; exact run_load_at 44 _ rfl ⟨w.heap.size + 1, 0, none⟩ rfl _ (mv_all (Hm.mv hu)))
            simp only [Act.put, pA, pB, pC]
            refine wpAnyH_ready (rs := [37]) (by kernel_rfl) (by simp) (AllReadyH.cons ((nth_eq _ 37).trans rfl) ?_ AllReadyH.nil)
            intro K2 hK2
            refine call_in hK2 (by kernel_rfl) 71 #[.pointer (some ⟨R.g, 0, none⟩), .agg (mvA (tmv t))] (by go_simp) _ (legal_b (hS0.hr.rb) (tmv t) true hl) ?_
            rintro v2 x2 ⟨rfl, b2⟩
            have hS2 := hS0.go b2
            refine ⟨hS2, ?_⟩
            simp only [Act.put, pA, pB, pC]
            refine tk 38 hS2 rfl (v := ?v5036) ?y5036 ?r5036
            case y5036 => (intro u hu; go_simp; try rfl)
            simp only [Act.put, pA, pB, pC]
            refine tk 39 hS2 rfl (v := ?v5037) ?y5037 ?r5037
            case y5037 => (intro u hu; go_simp; try rfl)
            simp only [Act.put, pA, pB, pC]
            refine tk 40 hS2 rfl (v := ?v5038) ?y5038 ?r5038
            case y5038 => (intro u hu; go_simp; try rfl)
            simp only [Act.put, pA, pB, pC]
            refine tk 41 hS2 rfl (v := ?v5039) ?y5039 ?r5039
            case y5039 => (intro u hu; have zz0 := (fun u hu => (mv_cell (Hm.mv hu) 10).trans (rfl : _ = some (Value.int .i64 t.me))) u hu; go_simp; try rfl)
            simp only [Act.put, pA, pB, pC]
            refine tk 42 hS2 rfl (v := ?v5040) ?y5040 ?r5040
            case y5040 => (intro u hu; go_simp; try rfl)
            simp only [Act.put, pA, pB, pC]
            refine tk 43 hS2 rfl (v := ?v5041) ?y5041 ?r5041
            case y5041 => (intro u hu; have zz0 := (fun u hu => (mv_cell (Hm.mv hu) 9).trans (rfl : _ = some (Value.int .i64 t.ma))) u hu; go_simp; try rfl)
            simp only [Act.put, pA, pB, pC]
            refine wpAnyH_ready (rs := [44]) (by kernel_rfl) (by simp) (AllReadyH.cons ((nth_eq _ 44).trans rfl) ?_ AllReadyH.nil)
            intro K3 hK3
            refine call_in hK3 (by kernel_rfl) 72 #[.int .i64 t.me, .int .i64 t.ma] (by go_simp) _ (less_ret t.me t.ma x2) ?_
            rintro v3 x3 ⟨rfl, b3⟩
            have hS3 := hS2.go b3
            refine ⟨hS3, ?_⟩
            simp only [Act.put, pA, pB, pC]
            refine tk 45 hS3 rfl (v := ?v5042) ?y5042 ?r5042
            case y5042 => (intro u hu; go_simp; try rfl)
            simp only [Act.put, pA, pB, pC]
            refine tk 46 hS3 rfl (v := ?v5043) ?y5043 ?r5043
            case y5043 => (intro u hu; go_simp; try rfl)
            simp only [Act.put, pA, pB, pC]
            refine tk 47 hS3 rfl (v := ?v5044) ?y5044 ?r5044
            case y5044 => (intro u hu; go_simp; try rfl)
            simp only [Act.put, pA, pB, pC]
            refine done_held (by kernel_rfl) ?_ _
            go_wp2
            go_ret
            exact ⟨ret_bool (by rw [← HL.out]; simp [begs, h1, hu, h3, hq, hl]), hS3.hr.bel⟩
          | false =>
            go_enter Tryz.func50, Tryz.ntmps50
            go_upto_region 2 with (first | (refine wpList_boxAt rfl 46 (.tmp 1) rfl (tlA t) rfl ?_; rw [← hw1]; clear hw1) | (refine wpList_load_at rfl 44 (.tmp 6) rfl ⟨w.heap.size, 4, none⟩ rfl (mvA (tmv t)) (tl_move w1H.tl) ?_) | (refine wpList_new rfl rfl 44 5 (.tmp 7) rfl rfl rfl rfl (mvA mv0) (mvA (tmv t)) (zeroMove _) rfl rfl infoMove rfl (mvA_one _) ?_; rw [← hw2, s1]; clear hw2))
            refine start_held (S := Hm w R r w.heap.size t) 48 rfl (by kernel_rfl) (w2M.go (Below.refl _ _).drew) ?_
            simp only [Array.replicate_succ, Array.replicate_zero, List.push_toArray, List.nil_append, List.cons_append]
            have hS0 : Hm w R r w.heap.size t w2.drew := w2M.go (Below.refl _ _).drew
            generalize w2.drew = x0 at *
            refine tk 0 hS0 rfl (v := ?v5045) ?y5045 ?r5045
            case y5045 => (intro u hu; go_simp; try rfl)
            simp only [Act.put, pA, pB, pC]
            refine tk 1 hS0 rfl (v := ?v5046) ?y5046 ?r5046
            case y5046 => (intro u hu; have zz0 := (fun u hu => tl_ep (Hr.tl (Hm.hr hu))) u hu; go_simp; try rfl)
            simp only [Act.put, pA, pB, pC]
            refine tk 2 hS0 rfl (v := ?v5047) ?y5047 ?r5047
            case y5047 => (intro u hu; go_simp; try rfl)
            simp only [Act.put, pA, pB, pC]
            refine tk 3 hS0 rfl (v := ?v5048) ?y5048 ?r5048
            case y5048 => (intro u hu; go_simp; try rfl)
            simp only [Act.put, pA, pB, pC]
            refine tk 4 hS0 rfl (v := ?v5049) ?y5049 ?r5049
            case y5049 => (intro u hu; go_simp; try rfl)
            simp only [Act.put, pA, pB, pC]
            refine tk 5 hS0 rfl (v := ?v5050) ?y5050 ?r5050
            case y5050 => (intro u hu; have zz0 := (fun u hu => RbAt.c7 (Hr.rb (Hm.hr hu))) u hu; go_simp; try rfl)
            simp only [Act.put, pA, pB, pC]
            refine tk 6 hS0 rfl (v := ?v5051) ?y5051 ?r5051
            case y5051 => (intro u hu; go_simp; try rfl)
            simp only [Act.put, pA, pB, pC]
            refine tk 7 hS0 rfl (v := ?v5052) ?y5052 ?r5052
            case y5052 => (intro u hu; go_simp; try rfl)
            simp only [Act.put, pA, pB, pC]
            refine tk 8 hS0 rfl (v := ?v5053) ?y5053 ?r5053
            case y5053 => (intro u hu; go_simp; try rfl)
            simp only [Act.put, pA, pB, pC]
            refine wpAnyH_ready (rs := [9]) (by kernel_rfl) (by simp) (AllReadyH.cons ((nth_eq _ 9).trans rfl) ?_ AllReadyH.nil)
            intro K1 hK1
            refine call_in hK1 (by kernel_rfl) 48 #[.pointer (some ⟨R.p, 0, none⟩)] (by go_simp) _ (mv_ (hS0.hr.rb)) ?_
            rintro v1 x1 ⟨rfl, hx1⟩
            rw [hx1]
            clear hx1 x1
            refine ⟨hS0, ?_⟩
            simp only [Act.put, pA, pB, pC]
            refine tk 10 hS0 rfl (v := ?v5054) ?y5054 ?r5054
            case y5054 => (intro u hu; go_simp; try rfl)
            simp only [Act.put, pA, pB, pC]
            refine tk 11 hS0 rfl (v := ?v5055) ?y5055 ?r5055
            case y5055 => (intro u hu; go_simp; try rfl)
            simp only [Act.put, pA, pB, pC]
            refine tk 12 hS0 rfl (v := ?v5056) ?y5056 ?r5056
            case y5056 => (intro u hu; go_simp; try rfl)
            simp only [Act.put, pA, pB, pC]
            refine tk 13 hS0 rfl (v := ?v5057) ?y5057 ?r5057
            case y5057 => (intro u hu; go_simp; try rfl)
            simp only [Act.put, pA, pB, pC]
            refine tk 14 hS0 rfl (v := ?v5058) ?y5058 ?r5058
            case y5058 => (intro u hu; have zz0 := (fun u hu => tl_nm (Hr.tl (Hm.hr hu))) u hu; go_simp; try rfl)
            simp only [Act.put, pA, pB, pC]
            refine tk 15 hS0 rfl (v := ?v5059) ?y5059 ?r5059
            case y5059 => (intro u hu; go_simp; try rfl)
            simp only [Act.put, pA, pB, pC]
            refine tk 16 hS0 rfl (v := ?v5060) ?y5060 ?r5060
            case y5060 => (intro u hu; go_simp; try rfl)
            simp only [Act.put, pA, pB, pC]
            refine tk 17 hS0 rfl (v := ?v5061) ?y5061 ?r5061
            case y5061 => (intro u hu; go_simp; try rfl)
            simp only [Act.put, pA, pB, pC]
            refine tk 18 hS0 rfl (v := ?v5062) ?y5062 ?r5062
            case y5062 => (intro u hu; have zz0 := (fun u hu => RbAt.c8 (Hr.rb (Hm.hr hu))) u hu; go_simp; try rfl)
            simp only [Act.put, pA, pB, pC]
            refine tk 19 hS0 rfl (v := ?v5063) ?y5063 ?r5063
            case y5063 => (intro u hu; go_simp; try rfl)
            simp only [Act.put, pA, pB, pC]
            refine tk 20 hS0 rfl (v := ?v5064) ?y5064 ?r5064
            case y5064 => (intro u hu; go_simp; try rfl)
            simp only [Act.put, pA, pB, pC]
            refine tk 21 hS0 rfl (v := ?v5065) ?y5065 ?r5065
            case y5065 => (intro u hu; go_simp; try rfl)
            simp only [Act.put, pA, pB, pC]
            refine tk 22 hS0 rfl (v := ?v5066) ?y5066 ?r5066
            case y5066 => (intro u hu; go_simp; try rfl)
            simp only [Act.put, pA, pB, pC]
            refine tk 23 hS0 rfl (v := ?v5067) ?y5067 ?r5067
            case y5067 => (intro u hu; go_simp; try rfl)
            simp only [Act.put, pA, pB, pC]
            refine tk 24 hS0 rfl (v := .agg (poA (tmv t).fx (tmv t).fy (tmv t).fd)) ?y5068 ?r5068
            case y5068 => (intro u hu; exact run_load_at 42 _ rfl ⟨w.heap.size + 1, 3, none⟩ rfl _ (mv_from (Hm.mv hu)))
            simp only [Act.put, pA, pB, pC]
            refine tk 25 hS0 rfl (v := ?v5069) ?y5069 ?r5069
            case y5069 => (intro u hu; go_simp; try rfl)
            simp only [Act.put, pA, pB, pC]
            refine tk 26 hS0 rfl (v := ?v5070) ?y5070 ?r5070
            case y5070 => (intro u hu; go_simp; try rfl)
            simp only [Act.put, pA, pB, pC]
            refine tk 27 hS0 rfl (v := ?v5071) ?y5071 ?r5071
            case y5071 => (intro u hu; go_simp; try rfl)
            simp only [Act.put, pA, pB, pC]
            refine tk 28 hS0 rfl (v := .agg (poA r.px r.py r.pd)) ?y5072 ?r5072
            case y5072 => (intro u hu; exact run_load_at 42 _ rfl ⟨R.p, 3, none⟩ rfl _ (RbAt.pose (Hr.rb (Hm.hr hu))))
            simp only [Act.put, pA, pB, pC]
            refine tk 29 hS0 rfl (v := .bool true) ?y5073 ?r5073
            case y5073 => (intro u hu; exact run_eql_agg 42 _ _ rfl guardPo (poA (tmv t).fx (tmv t).fy (tmv t).fd) (poA r.px r.py r.pd) _ rfl rfl (eqPo hp u))
            simp only [Act.put, pA, pB, pC]
            refine tk 30 hS0 rfl (v := ?v5074) ?y5074 ?r5074
            case y5074 => (intro u hu; go_simp; try rfl)
            simp only [Act.put, pA, pB, pC]
            refine tk 31 hS0 rfl (v := ?v5075) ?y5075 ?r5075
            case y5075 => (intro u hu; go_simp; try rfl)
            simp only [Act.put, pA, pB, pC]
            refine tk 32 hS0 rfl (v := ?v5076) ?y5076 ?r5076
            case y5076 => (intro u hu; go_simp; try rfl)
            simp only [Act.put, pA, pB, pC]
            refine tk 33 hS0 rfl (v := ?v5077) ?y5077 ?r5077
            case y5077 => (intro u hu; go_simp; try rfl)
            simp only [Act.put, pA, pB, pC]
            refine tk 34 hS0 rfl (v := ?v5078) ?y5078 ?r5078
            case y5078 => (intro u hu; go_simp; try rfl)
            simp only [Act.put, pA, pB, pC]
            refine tk 35 hS0 rfl (v := ?v5079) ?y5079 ?r5079
            case y5079 => (intro u hu; have zz0 := (fun u hu => RbAt.c0 (Hr.rb (Hm.hr hu))) u hu; go_simp; try rfl)
            simp only [Act.put, pA, pB, pC]
            refine tk 36 hS0 rfl (v := .agg (mvA (tmv t))) ?y5080 ?r5080
            case y5080 => (intro u hu; exact run_load_at 44 _ rfl ⟨w.heap.size + 1, 0, none⟩ rfl _ (mv_all (Hm.mv hu)))
            simp only [Act.put, pA, pB, pC]
            refine wpAnyH_ready (rs := [37]) (by kernel_rfl) (by simp) (AllReadyH.cons ((nth_eq _ 37).trans rfl) ?_ AllReadyH.nil)
            intro K2 hK2
            refine call_in hK2 (by kernel_rfl) 71 #[.pointer (some ⟨R.g, 0, none⟩), .agg (mvA (tmv t))] (by go_simp) _ (legal_b (hS0.hr.rb) (tmv t) false hl) ?_
            rintro v2 x2 ⟨rfl, b2⟩
            have hS2 := hS0.go b2
            refine ⟨hS2, ?_⟩
            simp only [Act.put, pA, pB, pC]
            refine tk 38 hS2 rfl (v := ?v5081) ?y5081 ?r5081
            case y5081 => (intro u hu; go_simp; try rfl)
            simp only [Act.put, pA, pB, pC]
            refine tk 39 hS2 rfl (v := ?v5082) ?y5082 ?r5082
            case y5082 => (intro u hu; go_simp; try rfl)
            simp only [Act.put, pA, pB, pC]
            refine skip_held 40 hS2 rfl (by kernel_rfl) (by kernel_rfl) (by kernel_rfl) (fun _ _ _ h => h) (by kernel_rfl) ?_
            simp only [Act.put, pA, pB, pC]
            refine skip_held 41 hS2 rfl (by kernel_rfl) (by kernel_rfl) (by kernel_rfl) (fun _ _ _ h => h) (by kernel_rfl) ?_
            simp only [Act.put, pA, pB, pC]
            refine skip_held 42 hS2 rfl (by kernel_rfl) (by kernel_rfl) (by kernel_rfl) (fun _ _ _ h => h) (by kernel_rfl) ?_
            simp only [Act.put, pA, pB, pC]
            refine skip_held 43 hS2 rfl (by kernel_rfl) (by kernel_rfl) (by kernel_rfl) (fun _ _ _ h => h) (by kernel_rfl) ?_
            simp only [Act.put, pA, pB, pC]
            refine skip_held 44 hS2 rfl (by kernel_rfl) (by kernel_rfl) (by kernel_rfl) (fun _ _ _ h => h) (by kernel_rfl) ?_
            simp only [Act.put, pA, pB, pC]
            refine skip_held 45 hS2 rfl (by kernel_rfl) (by kernel_rfl) (by kernel_rfl) (fun _ _ _ h => h) (by kernel_rfl) ?_
            simp only [Act.put, pA, pB, pC]
            refine tk 46 hS2 rfl (v := ?v5083) ?y5083 ?r5083
            case y5083 => (intro u hu; go_simp; try rfl)
            simp only [Act.put, pA, pB, pC]
            refine tk 47 hS2 rfl (v := ?v5084) ?y5084 ?r5084
            case y5084 => (intro u hu; go_simp; try rfl)
            simp only [Act.put, pA, pB, pC]
            refine done_held (by kernel_rfl) ?_ _
            go_wp2
            go_ret
            exact ⟨ret_bool (by rw [← HL.out]; simp [begs, h1, hu, h3, hq, hl]), hS2.hr.bel⟩
        · have hp : decide ((((tmv t).fx, (tmv t).fy), (tmv t).fd) = ((r.px, r.py), r.pd)) = false := decide_eq_false hq
          go_enter Tryz.func50, Tryz.ntmps50
          go_upto_region 2 with (first | (refine wpList_boxAt rfl 46 (.tmp 1) rfl (tlA t) rfl ?_; rw [← hw1]; clear hw1) | (refine wpList_load_at rfl 44 (.tmp 6) rfl ⟨w.heap.size, 4, none⟩ rfl (mvA (tmv t)) (tl_move w1H.tl) ?_) | (refine wpList_new rfl rfl 44 5 (.tmp 7) rfl rfl rfl rfl (mvA mv0) (mvA (tmv t)) (zeroMove _) rfl rfl infoMove rfl (mvA_one _) ?_; rw [← hw2, s1]; clear hw2))
          refine start_held (S := Hm w R r w.heap.size t) 48 rfl (by kernel_rfl) (w2M.go (Below.refl _ _).drew) ?_
          simp only [Array.replicate_succ, Array.replicate_zero, List.push_toArray, List.nil_append, List.cons_append]
          have hS0 : Hm w R r w.heap.size t w2.drew := w2M.go (Below.refl _ _).drew
          generalize w2.drew = x0 at *
          refine tk 0 hS0 rfl (v := ?v5085) ?y5085 ?r5085
          case y5085 => (intro u hu; go_simp; try rfl)
          simp only [Act.put, pA, pB, pC]
          refine tk 1 hS0 rfl (v := ?v5086) ?y5086 ?r5086
          case y5086 => (intro u hu; have zz0 := (fun u hu => tl_ep (Hr.tl (Hm.hr hu))) u hu; go_simp; try rfl)
          simp only [Act.put, pA, pB, pC]
          refine tk 2 hS0 rfl (v := ?v5087) ?y5087 ?r5087
          case y5087 => (intro u hu; go_simp; try rfl)
          simp only [Act.put, pA, pB, pC]
          refine tk 3 hS0 rfl (v := ?v5088) ?y5088 ?r5088
          case y5088 => (intro u hu; go_simp; try rfl)
          simp only [Act.put, pA, pB, pC]
          refine tk 4 hS0 rfl (v := ?v5089) ?y5089 ?r5089
          case y5089 => (intro u hu; go_simp; try rfl)
          simp only [Act.put, pA, pB, pC]
          refine tk 5 hS0 rfl (v := ?v5090) ?y5090 ?r5090
          case y5090 => (intro u hu; have zz0 := (fun u hu => RbAt.c7 (Hr.rb (Hm.hr hu))) u hu; go_simp; try rfl)
          simp only [Act.put, pA, pB, pC]
          refine tk 6 hS0 rfl (v := ?v5091) ?y5091 ?r5091
          case y5091 => (intro u hu; go_simp; try rfl)
          simp only [Act.put, pA, pB, pC]
          refine tk 7 hS0 rfl (v := ?v5092) ?y5092 ?r5092
          case y5092 => (intro u hu; go_simp; try rfl)
          simp only [Act.put, pA, pB, pC]
          refine tk 8 hS0 rfl (v := ?v5093) ?y5093 ?r5093
          case y5093 => (intro u hu; go_simp; try rfl)
          simp only [Act.put, pA, pB, pC]
          refine wpAnyH_ready (rs := [9]) (by kernel_rfl) (by simp) (AllReadyH.cons ((nth_eq _ 9).trans rfl) ?_ AllReadyH.nil)
          intro K1 hK1
          refine call_in hK1 (by kernel_rfl) 48 #[.pointer (some ⟨R.p, 0, none⟩)] (by go_simp) _ (mv_ (hS0.hr.rb)) ?_
          rintro v1 x1 ⟨rfl, hx1⟩
          rw [hx1]
          clear hx1 x1
          refine ⟨hS0, ?_⟩
          simp only [Act.put, pA, pB, pC]
          refine tk 10 hS0 rfl (v := ?v5094) ?y5094 ?r5094
          case y5094 => (intro u hu; go_simp; try rfl)
          simp only [Act.put, pA, pB, pC]
          refine tk 11 hS0 rfl (v := ?v5095) ?y5095 ?r5095
          case y5095 => (intro u hu; go_simp; try rfl)
          simp only [Act.put, pA, pB, pC]
          refine tk 12 hS0 rfl (v := ?v5096) ?y5096 ?r5096
          case y5096 => (intro u hu; go_simp; try rfl)
          simp only [Act.put, pA, pB, pC]
          refine tk 13 hS0 rfl (v := ?v5097) ?y5097 ?r5097
          case y5097 => (intro u hu; go_simp; try rfl)
          simp only [Act.put, pA, pB, pC]
          refine tk 14 hS0 rfl (v := ?v5098) ?y5098 ?r5098
          case y5098 => (intro u hu; have zz0 := (fun u hu => tl_nm (Hr.tl (Hm.hr hu))) u hu; go_simp; try rfl)
          simp only [Act.put, pA, pB, pC]
          refine tk 15 hS0 rfl (v := ?v5099) ?y5099 ?r5099
          case y5099 => (intro u hu; go_simp; try rfl)
          simp only [Act.put, pA, pB, pC]
          refine tk 16 hS0 rfl (v := ?v5100) ?y5100 ?r5100
          case y5100 => (intro u hu; go_simp; try rfl)
          simp only [Act.put, pA, pB, pC]
          refine tk 17 hS0 rfl (v := ?v5101) ?y5101 ?r5101
          case y5101 => (intro u hu; go_simp; try rfl)
          simp only [Act.put, pA, pB, pC]
          refine tk 18 hS0 rfl (v := ?v5102) ?y5102 ?r5102
          case y5102 => (intro u hu; have zz0 := (fun u hu => RbAt.c8 (Hr.rb (Hm.hr hu))) u hu; go_simp; try rfl)
          simp only [Act.put, pA, pB, pC]
          refine tk 19 hS0 rfl (v := ?v5103) ?y5103 ?r5103
          case y5103 => (intro u hu; go_simp; try rfl)
          simp only [Act.put, pA, pB, pC]
          refine tk 20 hS0 rfl (v := ?v5104) ?y5104 ?r5104
          case y5104 => (intro u hu; go_simp; try rfl)
          simp only [Act.put, pA, pB, pC]
          refine tk 21 hS0 rfl (v := ?v5105) ?y5105 ?r5105
          case y5105 => (intro u hu; go_simp; try rfl)
          simp only [Act.put, pA, pB, pC]
          refine tk 22 hS0 rfl (v := ?v5106) ?y5106 ?r5106
          case y5106 => (intro u hu; go_simp; try rfl)
          simp only [Act.put, pA, pB, pC]
          refine tk 23 hS0 rfl (v := ?v5107) ?y5107 ?r5107
          case y5107 => (intro u hu; go_simp; try rfl)
          simp only [Act.put, pA, pB, pC]
          refine tk 24 hS0 rfl (v := .agg (poA (tmv t).fx (tmv t).fy (tmv t).fd)) ?y5108 ?r5108
          case y5108 => (intro u hu; exact run_load_at 42 _ rfl ⟨w.heap.size + 1, 3, none⟩ rfl _ (mv_from (Hm.mv hu)))
          simp only [Act.put, pA, pB, pC]
          refine tk 25 hS0 rfl (v := ?v5109) ?y5109 ?r5109
          case y5109 => (intro u hu; go_simp; try rfl)
          simp only [Act.put, pA, pB, pC]
          refine tk 26 hS0 rfl (v := ?v5110) ?y5110 ?r5110
          case y5110 => (intro u hu; go_simp; try rfl)
          simp only [Act.put, pA, pB, pC]
          refine tk 27 hS0 rfl (v := ?v5111) ?y5111 ?r5111
          case y5111 => (intro u hu; go_simp; try rfl)
          simp only [Act.put, pA, pB, pC]
          refine tk 28 hS0 rfl (v := .agg (poA r.px r.py r.pd)) ?y5112 ?r5112
          case y5112 => (intro u hu; exact run_load_at 42 _ rfl ⟨R.p, 3, none⟩ rfl _ (RbAt.pose (Hr.rb (Hm.hr hu))))
          simp only [Act.put, pA, pB, pC]
          refine tk 29 hS0 rfl (v := .bool false) ?y5113 ?r5113
          case y5113 => (intro u hu; exact run_eql_agg 42 _ _ rfl guardPo (poA (tmv t).fx (tmv t).fy (tmv t).fd) (poA r.px r.py r.pd) _ rfl rfl (eqPo hp u))
          simp only [Act.put, pA, pB, pC]
          refine tk 30 hS0 rfl (v := ?v5114) ?y5114 ?r5114
          case y5114 => (intro u hu; go_simp; try rfl)
          simp only [Act.put, pA, pB, pC]
          refine tk 31 hS0 rfl (v := ?v5115) ?y5115 ?r5115
          case y5115 => (intro u hu; go_simp; try rfl)
          simp only [Act.put, pA, pB, pC]
          refine skip_held 32 hS0 rfl (by kernel_rfl) (by kernel_rfl) (by kernel_rfl) (fun _ _ _ h => h) (by kernel_rfl) ?_
          simp only [Act.put, pA, pB, pC]
          refine skip_held 33 hS0 rfl (by kernel_rfl) (by kernel_rfl) (by kernel_rfl) (fun _ _ _ h => h) (by kernel_rfl) ?_
          simp only [Act.put, pA, pB, pC]
          refine skip_held 34 hS0 rfl (by kernel_rfl) (by kernel_rfl) (by kernel_rfl) (fun _ _ _ h => h) (by kernel_rfl) ?_
          simp only [Act.put, pA, pB, pC]
          refine skip_held 35 hS0 rfl (by kernel_rfl) (by kernel_rfl) (by kernel_rfl) (fun _ _ _ h => h) (by kernel_rfl) ?_
          simp only [Act.put, pA, pB, pC]
          refine skip_held 36 hS0 rfl (by kernel_rfl) (by kernel_rfl) (by kernel_rfl) (fun _ _ _ h => h) (by kernel_rfl) ?_
          simp only [Act.put, pA, pB, pC]
          refine skip_held 37 hS0 rfl (by kernel_rfl) (by kernel_rfl) (by kernel_rfl) (fun _ _ _ h => h) (by kernel_rfl) ?_
          simp only [Act.put, pA, pB, pC]
          refine tk 38 hS0 rfl (v := ?v5116) ?y5116 ?r5116
          case y5116 => (intro u hu; go_simp; try rfl)
          simp only [Act.put, pA, pB, pC]
          refine tk 39 hS0 rfl (v := ?v5117) ?y5117 ?r5117
          case y5117 => (intro u hu; go_simp; try rfl)
          simp only [Act.put, pA, pB, pC]
          refine skip_held 40 hS0 rfl (by kernel_rfl) (by kernel_rfl) (by kernel_rfl) (fun _ _ _ h => h) (by kernel_rfl) ?_
          simp only [Act.put, pA, pB, pC]
          refine skip_held 41 hS0 rfl (by kernel_rfl) (by kernel_rfl) (by kernel_rfl) (fun _ _ _ h => h) (by kernel_rfl) ?_
          simp only [Act.put, pA, pB, pC]
          refine skip_held 42 hS0 rfl (by kernel_rfl) (by kernel_rfl) (by kernel_rfl) (fun _ _ _ h => h) (by kernel_rfl) ?_
          simp only [Act.put, pA, pB, pC]
          refine skip_held 43 hS0 rfl (by kernel_rfl) (by kernel_rfl) (by kernel_rfl) (fun _ _ _ h => h) (by kernel_rfl) ?_
          simp only [Act.put, pA, pB, pC]
          refine skip_held 44 hS0 rfl (by kernel_rfl) (by kernel_rfl) (by kernel_rfl) (fun _ _ _ h => h) (by kernel_rfl) ?_
          simp only [Act.put, pA, pB, pC]
          refine skip_held 45 hS0 rfl (by kernel_rfl) (by kernel_rfl) (by kernel_rfl) (fun _ _ _ h => h) (by kernel_rfl) ?_
          simp only [Act.put, pA, pB, pC]
          refine tk 46 hS0 rfl (v := ?v5118) ?y5118 ?r5118
          case y5118 => (intro u hu; go_simp; try rfl)
          simp only [Act.put, pA, pB, pC]
          refine tk 47 hS0 rfl (v := ?v5119) ?y5119 ?r5119
          case y5119 => (intro u hu; go_simp; try rfl)
          simp only [Act.put, pA, pB, pC]
          refine done_held (by kernel_rfl) ?_ _
          go_wp2
          go_ret
          exact ⟨ret_bool (by rw [← HL.out]; simp [begs, h1, hu, h3, hq]), hS0.hr.bel⟩
      · have q3 : (t.nm == r.lt + 1) = false := by rw [beq_eq_false_iff_ne]; exact h3
        go_enter Tryz.func50, Tryz.ntmps50
        go_upto_region 2 with (first | (refine wpList_boxAt rfl 46 (.tmp 1) rfl (tlA t) rfl ?_; rw [← hw1]; clear hw1) | (refine wpList_load_at rfl 44 (.tmp 6) rfl ⟨w.heap.size, 4, none⟩ rfl (mvA (tmv t)) (tl_move w1H.tl) ?_) | (refine wpList_new rfl rfl 44 5 (.tmp 7) rfl rfl rfl rfl (mvA mv0) (mvA (tmv t)) (zeroMove _) rfl rfl infoMove rfl (mvA_one _) ?_; rw [← hw2, s1]; clear hw2))
        refine start_held (S := Hm w R r w.heap.size t) 48 rfl (by kernel_rfl) (w2M.go (Below.refl _ _).drew) ?_
        simp only [Array.replicate_succ, Array.replicate_zero, List.push_toArray, List.nil_append, List.cons_append]
        have hS0 : Hm w R r w.heap.size t w2.drew := w2M.go (Below.refl _ _).drew
        generalize w2.drew = x0 at *
        refine tk 0 hS0 rfl (v := ?v5120) ?y5120 ?r5120
        case y5120 => (intro u hu; go_simp; try rfl)
        simp only [Act.put, pA, pB, pC]
        refine tk 1 hS0 rfl (v := ?v5121) ?y5121 ?r5121
        case y5121 => (intro u hu; have zz0 := (fun u hu => tl_ep (Hr.tl (Hm.hr hu))) u hu; go_simp; try rfl)
        simp only [Act.put, pA, pB, pC]
        refine tk 2 hS0 rfl (v := ?v5122) ?y5122 ?r5122
        case y5122 => (intro u hu; go_simp; try rfl)
        simp only [Act.put, pA, pB, pC]
        refine tk 3 hS0 rfl (v := ?v5123) ?y5123 ?r5123
        case y5123 => (intro u hu; go_simp; try rfl)
        simp only [Act.put, pA, pB, pC]
        refine tk 4 hS0 rfl (v := ?v5124) ?y5124 ?r5124
        case y5124 => (intro u hu; go_simp; try rfl)
        simp only [Act.put, pA, pB, pC]
        refine tk 5 hS0 rfl (v := ?v5125) ?y5125 ?r5125
        case y5125 => (intro u hu; have zz0 := (fun u hu => RbAt.c7 (Hr.rb (Hm.hr hu))) u hu; go_simp; try rfl)
        simp only [Act.put, pA, pB, pC]
        refine tk 6 hS0 rfl (v := ?v5126) ?y5126 ?r5126
        case y5126 => (intro u hu; go_simp; try rfl)
        simp only [Act.put, pA, pB, pC]
        refine tk 7 hS0 rfl (v := ?v5127) ?y5127 ?r5127
        case y5127 => (intro u hu; go_simp; try rfl)
        simp only [Act.put, pA, pB, pC]
        refine tk 8 hS0 rfl (v := ?v5128) ?y5128 ?r5128
        case y5128 => (intro u hu; go_simp; try rfl)
        simp only [Act.put, pA, pB, pC]
        refine wpAnyH_ready (rs := [9]) (by kernel_rfl) (by simp) (AllReadyH.cons ((nth_eq _ 9).trans rfl) ?_ AllReadyH.nil)
        intro K1 hK1
        refine call_in hK1 (by kernel_rfl) 48 #[.pointer (some ⟨R.p, 0, none⟩)] (by go_simp) _ (mv_ (hS0.hr.rb)) ?_
        rintro v1 x1 ⟨rfl, hx1⟩
        rw [hx1]
        clear hx1 x1
        refine ⟨hS0, ?_⟩
        simp only [Act.put, pA, pB, pC]
        refine tk 10 hS0 rfl (v := ?v5129) ?y5129 ?r5129
        case y5129 => (intro u hu; go_simp; try rfl)
        simp only [Act.put, pA, pB, pC]
        refine tk 11 hS0 rfl (v := ?v5130) ?y5130 ?r5130
        case y5130 => (intro u hu; go_simp; try rfl)
        simp only [Act.put, pA, pB, pC]
        refine tk 12 hS0 rfl (v := ?v5131) ?y5131 ?r5131
        case y5131 => (intro u hu; go_simp; try rfl)
        simp only [Act.put, pA, pB, pC]
        refine tk 13 hS0 rfl (v := ?v5132) ?y5132 ?r5132
        case y5132 => (intro u hu; go_simp; try rfl)
        simp only [Act.put, pA, pB, pC]
        refine tk 14 hS0 rfl (v := ?v5133) ?y5133 ?r5133
        case y5133 => (intro u hu; have zz0 := (fun u hu => tl_nm (Hr.tl (Hm.hr hu))) u hu; go_simp; try rfl)
        simp only [Act.put, pA, pB, pC]
        refine tk 15 hS0 rfl (v := ?v5134) ?y5134 ?r5134
        case y5134 => (intro u hu; go_simp; try rfl)
        simp only [Act.put, pA, pB, pC]
        refine tk 16 hS0 rfl (v := ?v5135) ?y5135 ?r5135
        case y5135 => (intro u hu; go_simp; try rfl)
        simp only [Act.put, pA, pB, pC]
        refine tk 17 hS0 rfl (v := ?v5136) ?y5136 ?r5136
        case y5136 => (intro u hu; go_simp; try rfl)
        simp only [Act.put, pA, pB, pC]
        refine tk 18 hS0 rfl (v := ?v5137) ?y5137 ?r5137
        case y5137 => (intro u hu; have zz0 := (fun u hu => RbAt.c8 (Hr.rb (Hm.hr hu))) u hu; go_simp; try rfl)
        simp only [Act.put, pA, pB, pC]
        refine tk 19 hS0 rfl (v := ?v5138) ?y5138 ?r5138
        case y5138 => (intro u hu; go_simp; try rfl)
        simp only [Act.put, pA, pB, pC]
        refine tk 20 hS0 rfl (v := ?v5139) ?y5139 ?r5139
        case y5139 => (intro u hu; go_simp; try rfl)
        simp only [Act.put, pA, pB, pC]
        refine tk 21 hS0 rfl (v := ?v5140) ?y5140 ?r5140
        case y5140 => (intro u hu; go_simp; try rfl)
        simp only [Act.put, pA, pB, pC]
        refine tk 22 hS0 rfl (v := ?v5141) ?y5141 ?r5141
        case y5141 => (intro u hu; go_simp; try rfl)
        simp only [Act.put, pA, pB, pC]
        refine skip_held 23 hS0 rfl (by kernel_rfl) (by kernel_rfl) (by kernel_rfl) (fun _ _ _ h => h) (by kernel_rfl) ?_
        simp only [Act.put, pA, pB, pC]
        refine skip_held 24 hS0 rfl (by kernel_rfl) (by kernel_rfl) (by kernel_rfl) (fun _ _ _ h => h) (by kernel_rfl) ?_
        simp only [Act.put, pA, pB, pC]
        refine skip_held 25 hS0 rfl (by kernel_rfl) (by kernel_rfl) (by kernel_rfl) (fun _ _ _ h => h) (by kernel_rfl) ?_
        simp only [Act.put, pA, pB, pC]
        refine skip_held 26 hS0 rfl (by kernel_rfl) (by kernel_rfl) (by kernel_rfl) (fun _ _ _ h => h) (by kernel_rfl) ?_
        simp only [Act.put, pA, pB, pC]
        refine skip_held 27 hS0 rfl (by kernel_rfl) (by kernel_rfl) (by kernel_rfl) (fun _ _ _ h => h) (by kernel_rfl) ?_
        simp only [Act.put, pA, pB, pC]
        refine skip_held 28 hS0 rfl (by kernel_rfl) (by kernel_rfl) (by kernel_rfl) (fun _ _ _ h => h) (by kernel_rfl) ?_
        simp only [Act.put, pA, pB, pC]
        refine skip_held 29 hS0 rfl (by kernel_rfl) (by kernel_rfl) (by kernel_rfl) (fun _ _ _ h => h) (by kernel_rfl) ?_
        simp only [Act.put, pA, pB, pC]
        refine tk 30 hS0 rfl (v := ?v5142) ?y5142 ?r5142
        case y5142 => (intro u hu; go_simp; try rfl)
        simp only [Act.put, pA, pB, pC]
        refine tk 31 hS0 rfl (v := ?v5143) ?y5143 ?r5143
        case y5143 => (intro u hu; go_simp; try rfl)
        simp only [Act.put, pA, pB, pC]
        refine skip_held 32 hS0 rfl (by kernel_rfl) (by kernel_rfl) (by kernel_rfl) (fun _ _ _ h => h) (by kernel_rfl) ?_
        simp only [Act.put, pA, pB, pC]
        refine skip_held 33 hS0 rfl (by kernel_rfl) (by kernel_rfl) (by kernel_rfl) (fun _ _ _ h => h) (by kernel_rfl) ?_
        simp only [Act.put, pA, pB, pC]
        refine skip_held 34 hS0 rfl (by kernel_rfl) (by kernel_rfl) (by kernel_rfl) (fun _ _ _ h => h) (by kernel_rfl) ?_
        simp only [Act.put, pA, pB, pC]
        refine skip_held 35 hS0 rfl (by kernel_rfl) (by kernel_rfl) (by kernel_rfl) (fun _ _ _ h => h) (by kernel_rfl) ?_
        simp only [Act.put, pA, pB, pC]
        refine skip_held 36 hS0 rfl (by kernel_rfl) (by kernel_rfl) (by kernel_rfl) (fun _ _ _ h => h) (by kernel_rfl) ?_
        simp only [Act.put, pA, pB, pC]
        refine skip_held 37 hS0 rfl (by kernel_rfl) (by kernel_rfl) (by kernel_rfl) (fun _ _ _ h => h) (by kernel_rfl) ?_
        simp only [Act.put, pA, pB, pC]
        refine tk 38 hS0 rfl (v := ?v5144) ?y5144 ?r5144
        case y5144 => (intro u hu; go_simp; try rfl)
        simp only [Act.put, pA, pB, pC]
        refine tk 39 hS0 rfl (v := ?v5145) ?y5145 ?r5145
        case y5145 => (intro u hu; go_simp; try rfl)
        simp only [Act.put, pA, pB, pC]
        refine skip_held 40 hS0 rfl (by kernel_rfl) (by kernel_rfl) (by kernel_rfl) (fun _ _ _ h => h) (by kernel_rfl) ?_
        simp only [Act.put, pA, pB, pC]
        refine skip_held 41 hS0 rfl (by kernel_rfl) (by kernel_rfl) (by kernel_rfl) (fun _ _ _ h => h) (by kernel_rfl) ?_
        simp only [Act.put, pA, pB, pC]
        refine skip_held 42 hS0 rfl (by kernel_rfl) (by kernel_rfl) (by kernel_rfl) (fun _ _ _ h => h) (by kernel_rfl) ?_
        simp only [Act.put, pA, pB, pC]
        refine skip_held 43 hS0 rfl (by kernel_rfl) (by kernel_rfl) (by kernel_rfl) (fun _ _ _ h => h) (by kernel_rfl) ?_
        simp only [Act.put, pA, pB, pC]
        refine skip_held 44 hS0 rfl (by kernel_rfl) (by kernel_rfl) (by kernel_rfl) (fun _ _ _ h => h) (by kernel_rfl) ?_
        simp only [Act.put, pA, pB, pC]
        refine skip_held 45 hS0 rfl (by kernel_rfl) (by kernel_rfl) (by kernel_rfl) (fun _ _ _ h => h) (by kernel_rfl) ?_
        simp only [Act.put, pA, pB, pC]
        refine tk 46 hS0 rfl (v := ?v5146) ?y5146 ?r5146
        case y5146 => (intro u hu; go_simp; try rfl)
        simp only [Act.put, pA, pB, pC]
        refine tk 47 hS0 rfl (v := ?v5147) ?y5147 ?r5147
        case y5147 => (intro u hu; go_simp; try rfl)
        simp only [Act.put, pA, pB, pC]
        refine done_held (by kernel_rfl) ?_ _
        go_wp2
        go_ret
        exact ⟨ret_bool (by rw [← HL.out]; simp [begs, h1, hu, h3]), hS0.hr.bel⟩
  · have q1 : (t.ep == r.ep) = false := by rw [beq_eq_false_iff_ne]; exact h1
    go_enter Tryz.func50, Tryz.ntmps50
    go_upto_region 2 with (first | (refine wpList_boxAt rfl 46 (.tmp 1) rfl (tlA t) rfl ?_; rw [← hw1]; clear hw1) | (refine wpList_load_at rfl 44 (.tmp 6) rfl ⟨w.heap.size, 4, none⟩ rfl (mvA (tmv t)) (tl_move w1H.tl) ?_) | (refine wpList_new rfl rfl 44 5 (.tmp 7) rfl rfl rfl rfl (mvA mv0) (mvA (tmv t)) (zeroMove _) rfl rfl infoMove rfl (mvA_one _) ?_; rw [← hw2, s1]; clear hw2))
    refine start_held (S := Hm w R r w.heap.size t) 48 rfl (by kernel_rfl) (w2M.go (Below.refl _ _).drew) ?_
    simp only [Array.replicate_succ, Array.replicate_zero, List.push_toArray, List.nil_append, List.cons_append]
    have hS0 : Hm w R r w.heap.size t w2.drew := w2M.go (Below.refl _ _).drew
    generalize w2.drew = x0 at *
    refine tk 0 hS0 rfl (v := ?v5168) ?y5168 ?r5168
    case y5168 => (intro u hu; go_simp; try rfl)
    simp only [Act.put, pA, pB, pC]
    refine tk 1 hS0 rfl (v := ?v5169) ?y5169 ?r5169
    case y5169 => (intro u hu; have zz0 := (fun u hu => tl_ep (Hr.tl (Hm.hr hu))) u hu; go_simp; try rfl)
    simp only [Act.put, pA, pB, pC]
    refine tk 2 hS0 rfl (v := ?v5170) ?y5170 ?r5170
    case y5170 => (intro u hu; go_simp; try rfl)
    simp only [Act.put, pA, pB, pC]
    refine tk 3 hS0 rfl (v := ?v5171) ?y5171 ?r5171
    case y5171 => (intro u hu; go_simp; try rfl)
    simp only [Act.put, pA, pB, pC]
    refine tk 4 hS0 rfl (v := ?v5172) ?y5172 ?r5172
    case y5172 => (intro u hu; go_simp; try rfl)
    simp only [Act.put, pA, pB, pC]
    refine tk 5 hS0 rfl (v := ?v5173) ?y5173 ?r5173
    case y5173 => (intro u hu; have zz0 := (fun u hu => RbAt.c7 (Hr.rb (Hm.hr hu))) u hu; go_simp; try rfl)
    simp only [Act.put, pA, pB, pC]
    refine tk 6 hS0 rfl (v := ?v5174) ?y5174 ?r5174
    case y5174 => (intro u hu; go_simp; try rfl)
    simp only [Act.put, pA, pB, pC]
    refine tk 7 hS0 rfl (v := ?v5175) ?y5175 ?r5175
    case y5175 => (intro u hu; go_simp; try rfl)
    simp only [Act.put, pA, pB, pC]
    refine skip_held 8 hS0 rfl (by kernel_rfl) (by kernel_rfl) (by kernel_rfl) (fun _ _ _ h => h) (by kernel_rfl) ?_
    simp only [Act.put, pA, pB, pC]
    refine skip_held 9 hS0 rfl (by kernel_rfl) (by kernel_rfl) (by kernel_rfl) (fun _ _ _ h => h) (by kernel_rfl) ?_
    simp only [Act.put, pA, pB, pC]
    refine skip_held 10 hS0 rfl (by kernel_rfl) (by kernel_rfl) (by kernel_rfl) (fun _ _ _ h => h) (by kernel_rfl) ?_
    simp only [Act.put, pA, pB, pC]
    refine tk 11 hS0 rfl (v := ?v5176) ?y5176 ?r5176
    case y5176 => (intro u hu; go_simp; try rfl)
    simp only [Act.put, pA, pB, pC]
    refine tk 12 hS0 rfl (v := ?v5177) ?y5177 ?r5177
    case y5177 => (intro u hu; go_simp; try rfl)
    simp only [Act.put, pA, pB, pC]
    refine skip_held 13 hS0 rfl (by kernel_rfl) (by kernel_rfl) (by kernel_rfl) (fun _ _ _ h => h) (by kernel_rfl) ?_
    simp only [Act.put, pA, pB, pC]
    refine skip_held 14 hS0 rfl (by kernel_rfl) (by kernel_rfl) (by kernel_rfl) (fun _ _ _ h => h) (by kernel_rfl) ?_
    simp only [Act.put, pA, pB, pC]
    refine skip_held 15 hS0 rfl (by kernel_rfl) (by kernel_rfl) (by kernel_rfl) (fun _ _ _ h => h) (by kernel_rfl) ?_
    simp only [Act.put, pA, pB, pC]
    refine skip_held 16 hS0 rfl (by kernel_rfl) (by kernel_rfl) (by kernel_rfl) (fun _ _ _ h => h) (by kernel_rfl) ?_
    simp only [Act.put, pA, pB, pC]
    refine skip_held 17 hS0 rfl (by kernel_rfl) (by kernel_rfl) (by kernel_rfl) (fun _ _ _ h => h) (by kernel_rfl) ?_
    simp only [Act.put, pA, pB, pC]
    refine skip_held 18 hS0 rfl (by kernel_rfl) (by kernel_rfl) (by kernel_rfl) (fun _ _ _ h => h) (by kernel_rfl) ?_
    simp only [Act.put, pA, pB, pC]
    refine skip_held 19 hS0 rfl (by kernel_rfl) (by kernel_rfl) (by kernel_rfl) (fun _ _ _ h => h) (by kernel_rfl) ?_
    simp only [Act.put, pA, pB, pC]
    refine skip_held 20 hS0 rfl (by kernel_rfl) (by kernel_rfl) (by kernel_rfl) (fun _ _ _ h => h) (by kernel_rfl) ?_
    simp only [Act.put, pA, pB, pC]
    refine tk 21 hS0 rfl (v := ?v5178) ?y5178 ?r5178
    case y5178 => (intro u hu; go_simp; try rfl)
    simp only [Act.put, pA, pB, pC]
    refine tk 22 hS0 rfl (v := ?v5179) ?y5179 ?r5179
    case y5179 => (intro u hu; go_simp; try rfl)
    simp only [Act.put, pA, pB, pC]
    refine skip_held 23 hS0 rfl (by kernel_rfl) (by kernel_rfl) (by kernel_rfl) (fun _ _ _ h => h) (by kernel_rfl) ?_
    simp only [Act.put, pA, pB, pC]
    refine skip_held 24 hS0 rfl (by kernel_rfl) (by kernel_rfl) (by kernel_rfl) (fun _ _ _ h => h) (by kernel_rfl) ?_
    simp only [Act.put, pA, pB, pC]
    refine skip_held 25 hS0 rfl (by kernel_rfl) (by kernel_rfl) (by kernel_rfl) (fun _ _ _ h => h) (by kernel_rfl) ?_
    simp only [Act.put, pA, pB, pC]
    refine skip_held 26 hS0 rfl (by kernel_rfl) (by kernel_rfl) (by kernel_rfl) (fun _ _ _ h => h) (by kernel_rfl) ?_
    simp only [Act.put, pA, pB, pC]
    refine skip_held 27 hS0 rfl (by kernel_rfl) (by kernel_rfl) (by kernel_rfl) (fun _ _ _ h => h) (by kernel_rfl) ?_
    simp only [Act.put, pA, pB, pC]
    refine skip_held 28 hS0 rfl (by kernel_rfl) (by kernel_rfl) (by kernel_rfl) (fun _ _ _ h => h) (by kernel_rfl) ?_
    simp only [Act.put, pA, pB, pC]
    refine skip_held 29 hS0 rfl (by kernel_rfl) (by kernel_rfl) (by kernel_rfl) (fun _ _ _ h => h) (by kernel_rfl) ?_
    simp only [Act.put, pA, pB, pC]
    refine tk 30 hS0 rfl (v := ?v5180) ?y5180 ?r5180
    case y5180 => (intro u hu; go_simp; try rfl)
    simp only [Act.put, pA, pB, pC]
    refine tk 31 hS0 rfl (v := ?v5181) ?y5181 ?r5181
    case y5181 => (intro u hu; go_simp; try rfl)
    simp only [Act.put, pA, pB, pC]
    refine skip_held 32 hS0 rfl (by kernel_rfl) (by kernel_rfl) (by kernel_rfl) (fun _ _ _ h => h) (by kernel_rfl) ?_
    simp only [Act.put, pA, pB, pC]
    refine skip_held 33 hS0 rfl (by kernel_rfl) (by kernel_rfl) (by kernel_rfl) (fun _ _ _ h => h) (by kernel_rfl) ?_
    simp only [Act.put, pA, pB, pC]
    refine skip_held 34 hS0 rfl (by kernel_rfl) (by kernel_rfl) (by kernel_rfl) (fun _ _ _ h => h) (by kernel_rfl) ?_
    simp only [Act.put, pA, pB, pC]
    refine skip_held 35 hS0 rfl (by kernel_rfl) (by kernel_rfl) (by kernel_rfl) (fun _ _ _ h => h) (by kernel_rfl) ?_
    simp only [Act.put, pA, pB, pC]
    refine skip_held 36 hS0 rfl (by kernel_rfl) (by kernel_rfl) (by kernel_rfl) (fun _ _ _ h => h) (by kernel_rfl) ?_
    simp only [Act.put, pA, pB, pC]
    refine skip_held 37 hS0 rfl (by kernel_rfl) (by kernel_rfl) (by kernel_rfl) (fun _ _ _ h => h) (by kernel_rfl) ?_
    simp only [Act.put, pA, pB, pC]
    refine tk 38 hS0 rfl (v := ?v5182) ?y5182 ?r5182
    case y5182 => (intro u hu; go_simp; try rfl)
    simp only [Act.put, pA, pB, pC]
    refine tk 39 hS0 rfl (v := ?v5183) ?y5183 ?r5183
    case y5183 => (intro u hu; go_simp; try rfl)
    simp only [Act.put, pA, pB, pC]
    refine skip_held 40 hS0 rfl (by kernel_rfl) (by kernel_rfl) (by kernel_rfl) (fun _ _ _ h => h) (by kernel_rfl) ?_
    simp only [Act.put, pA, pB, pC]
    refine skip_held 41 hS0 rfl (by kernel_rfl) (by kernel_rfl) (by kernel_rfl) (fun _ _ _ h => h) (by kernel_rfl) ?_
    simp only [Act.put, pA, pB, pC]
    refine skip_held 42 hS0 rfl (by kernel_rfl) (by kernel_rfl) (by kernel_rfl) (fun _ _ _ h => h) (by kernel_rfl) ?_
    simp only [Act.put, pA, pB, pC]
    refine skip_held 43 hS0 rfl (by kernel_rfl) (by kernel_rfl) (by kernel_rfl) (fun _ _ _ h => h) (by kernel_rfl) ?_
    simp only [Act.put, pA, pB, pC]
    refine skip_held 44 hS0 rfl (by kernel_rfl) (by kernel_rfl) (by kernel_rfl) (fun _ _ _ h => h) (by kernel_rfl) ?_
    simp only [Act.put, pA, pB, pC]
    refine skip_held 45 hS0 rfl (by kernel_rfl) (by kernel_rfl) (by kernel_rfl) (fun _ _ _ h => h) (by kernel_rfl) ?_
    simp only [Act.put, pA, pB, pC]
    refine tk 46 hS0 rfl (v := ?v5184) ?y5184 ?r5184
    case y5184 => (intro u hu; go_simp; try rfl)
    simp only [Act.put, pA, pB, pC]
    refine tk 47 hS0 rfl (v := ?v5185) ?y5185 ?r5185
    case y5185 => (intro u hu; go_simp; try rfl)
    simp only [Act.put, pA, pB, pC]
    refine done_held (by kernel_rfl) ?_ _
    go_wp2
    go_ret
    exact ⟨ret_bool (by rw [← HL.out]; simp [begs, h1]), hS0.hr.bel⟩
end
end Go.Proofs.YtedmfhkdaifegaaGreat.Rob
