/-
  What a robot does now; a delay; whether a telegram is the last one, whether it may begin.
-/
import Derived.Test.YtedmfhkdaifegaaGreatRobTell
namespace Go.Proofs.YtedmfhkdaifegaaGreat.Rob
set_option linter.unusedVariables false
set_option linter.unusedSimpArgs false
open Go Go.RowKit Go.Shelf Go.Proofs Go.Proofs.YtedmfhkdaifegaaGreat.Lk Go.Proofs.YtedmfhkdaifegaaGreat.Plain
attribute [local go_sem] Oper.semAt_some

/- A call with a telegram that was boxed. -/
structure Hr (w : World) (R : Wh) (r : Rb) (b : Nat) (t : Tl) (u : World) : Prop where
  rb : RbAt u R r
  tl : u.heap[b]? = some (.cells (tlA t) 46 (0, 0))
  bel : Below w.heap.size w u
theorem Hr.go {w : World} {R : Wh} {r : Rb} {b : Nat} {t : Tl} {u u' : World} (h : Hr w R r b t u) (hb : Below u.heap.size u u') : Hr w R r b t u' :=
  ⟨h.rb.go hb, (hb.block _ (Array.getElem?_eq_some_iff.1 h.tl).1).trans h.tl, bcat h.bel hb⟩
theorem Hr.make {w w1 : World} {R : Wh} {r : Rb} {t : Tl} (h : RbAt w R r) (hw1 : w1 = w.alloc (.cells (tlA t) 46)) : Hr w R r w.heap.size t w1 := by
  have b1 : Below w.heap.size w w1 := by rw [hw1]; exact (Below.refl _ _).alloc (Nat.le_refl _) _
  exact ⟨h.go b1, by rw [hw1]; exact World.alloc_heap_new _ _, b1⟩
theorem moves_ret {w : World} {R : Wh} {r : Rb} (h : RbAt w R r) : Calls Tryz.prog 48 #[.pointer (some ⟨R.p, 0, none⟩)] w fun e w' => ∃ v, e = .returned v ∧ (v = .bool (under r) ∧ w' = w) := (moves_any h).mono fun e w' ⟨a, b⟩ => ⟨_, a, rfl, b⟩
theorem stopped_ret {w : World} {R : Wh} {r : Rb} (h : RbAt w R r) : Calls Tryz.prog 58 #[.pointer (some ⟨R.p, 0, none⟩)] w fun e w' => ∃ v, e = .returned v ∧ (v = .bool (stopd r) ∧ w' = w) := (stopped_any h).mono fun e w' ⟨a, b⟩ => ⟨_, a, rfl, b⟩
theorem legal_ret {w : World} {R : Wh} {r : Rb} (h : RbAt w R r) (m : Mv) : Calls Tryz.prog 71 #[.pointer (some ⟨R.g, 0, none⟩), .agg (mvA m)] w fun e w' => ∃ v, e = .returned v ∧ (v = .bool (Grid.legalU R.W R.H R.us (gm m)) ∧ Below w.heap.size w w') :=
  (Grid.legal_any R.g R.u R.W R.H R.us R.vp (gm m) w h.grid).mono fun e w' ⟨a, b⟩ => ⟨_, a, rfl, b⟩
theorem less_ret (a b : Int) (w : World) : Calls Tryz.prog 72 #[.int .i64 a, .int .i64 b] w fun e w' => ∃ v, e = .returned v ∧ (v = .int .i64 (less a b) ∧ Below w.heap.size w w') := (Tick.less_any a b w).mono fun e w' ⟨h, k⟩ => ⟨_, h, rfl, k.below⟩
/- What is held against nothing, and a telegram in the heap beside a move. -/
structure Hm (w : World) (R : Wh) (r : Rb) (b : Nat) (t : Tl) (u : World) : Prop where
  hr : Hr w R r b t u
  mv : u.heap[b + 1]? = some (.cells (mvA (tmv t)) 44 (0, 0))
theorem Hm.go {w : World} {R : Wh} {r : Rb} {b : Nat} {t : Tl} {u u' : World} (h : Hm w R r b t u) (hb : Below u.heap.size u u') : Hm w R r b t u' :=
  ⟨h.hr.go hb, (hb.block _ (Array.getElem?_eq_some_iff.1 h.mv).1).trans h.mv⟩
theorem mv_cell {w : World} {g : Nat} {m : Mv} {T : TypeId} {fr : Nat × Nat} (h : w.heap[g]? = some (.cells (mvA m) T fr)) (j : Nat) : w.cell? ⟨g, j, none⟩ = (mvA m)[j]? := by simp [World.cell?, h]
theorem mv_from {w : World} {g : Nat} {m : Mv} {T : TypeId} {fr : Nat × Nat} (h : w.heap[g]? = some (.cells (mvA m) T fr)) : (loadVar 42 ⟨g, 3, none⟩).run Tryz.prog w = .ok (.agg (poA m.fx m.fy m.fd)) w :=
  run_loadVar_at w _ _ _ (fun j v hv => by
    rw [Addr.add_mid, mv_cell h]
    match j with
    | 0 => exact hv
    | 1 => exact hv
    | 2 => exact hv
    | j + 3 => simp [poA] at hv) (aggPose _) infoPose
theorem mv_to {w : World} {g : Nat} {m : Mv} {T : TypeId} {fr : Nat × Nat} (h : w.heap[g]? = some (.cells (mvA m) T fr)) : (loadVar 42 ⟨g, 6, none⟩).run Tryz.prog w = .ok (.agg (poA m.tx m.ty m.td)) w :=
  run_loadVar_at w _ _ _ (fun j v hv => by
    rw [Addr.add_mid, mv_cell h]
    match j with
    | 0 => exact hv
    | 1 => exact hv
    | 2 => exact hv
    | j + 3 => simp [poA] at hv) (aggPose _) infoPose
theorem mv_all {w : World} {g : Nat} {m : Mv} {T : TypeId} {fr : Nat × Nat} (h : w.heap[g]? = some (.cells (mvA m) T fr)) : (loadVar 44 ⟨g, 0, none⟩).run Tryz.prog w = .ok (.agg (mvA m)) w := load_row_of h (aggMove _) infoMove
theorem zeroMoveA (w : World) : (zeroValue 44).run Tryz.prog w = .ok (.agg (mvA mv0)) w := zeroMove w
section
variable {w : World} {R : Wh} {r : Rb} (h : RbAt w R r)
include h
set_option maxRecDepth 100000 in
set_option maxHeartbeats 2000000 in
theorem now_any : Calls Tryz.prog 21 #[.pointer (some ⟨R.p, 0, none⟩)] w fun e w' => e = .returned (.tuple #[.agg (mvA r.mv), .bool (under r)]) ∧ Below w.heap.size w w' := by
  obtain ⟨w1, hw1⟩ : ∃ w1, w1 = w.alloc (.cells (mvA mv0) 44) := ⟨_, rfl⟩
  have b1 : Below w.heap.size w w1 := by rw [hw1]; exact (Below.refl _ _).alloc (Nat.le_refl _) _
  have a1 : w1.heap[w.heap.size]? = some (.cells (mvA mv0) 44 (0, 0)) := by rw [hw1]; exact World.alloc_heap_new _ _
  have HW : Hid (Below w.heap.size w w1.drew ∧ w1.drew.heap[w.heap.size]? = some (.cells (mvA mv0) 44 (0, 0)) ∧ RbAt w1.drew R r) := ⟨b1.drew, a1, (h.go b1).go (Below.refl _ _).drew⟩
  have HP : Hid (RbAt w R r) := h
  clear h b1 a1
  go_enter Tryz.func21, Tryz.ntmps21
  go_upto_region 1 with (refine wpList_allocAs rfl 44 rfl (mvA mv0) (zeroMove _) ?_; rw [← hw1]; clear hw1)
  refine start_held (S := fun u => RbAt u R r) 9 rfl (by kernel_rfl) (HW.out.2.2) ?_
  simp only [Array.replicate_succ, Array.replicate_zero, List.push_toArray, List.nil_append, List.cons_append]
  have hS0 : RbAt w1.drew R r := HW.out.2.2
  have HA : Hid (w1.drew.heap[w.heap.size]? = some (.cells (mvA mv0) 44 (0, 0))) := HW.out.2.1
  have HE : Hid (Below w.heap.size w (w1.drew.setRow w.heap.size (mvA r.mv))) := Grid.below_row HW.out.1 (Nat.le_refl _) _
  have HG : Hid (RbAt (w1.drew.setRow w.heap.size (mvA r.mv)) R r) := HP.out.go HE.out
  clear HW
  generalize w1.drew = x0 at *
  refine tk 0 hS0 rfl (v := ?v5000) ?y5000 ?r5000
  case y5000 => (intro u hu; go_simp; try rfl)
  simp only [Act.put, pA, pB, pC]
  refine tk 1 hS0 rfl (v := ?v5001) ?y5001 ?r5001
  case y5001 => (intro u hu; go_simp; try rfl)
  simp only [Act.put, pA, pB, pC]
  refine tk 2 hS0 rfl (v := ?v5002) ?y5002 ?r5002
  case y5002 => (intro u hu; go_simp; try rfl)
  simp only [Act.put, pA, pB, pC]
  refine tk 3 hS0 rfl (v := ?v5003) ?y5003 ?r5003
  case y5003 => (intro u hu; go_simp; try rfl)
  simp only [Act.put, pA, pB, pC]
  refine tk 4 hS0 rfl (v := .agg (mvA r.mv)) ?y5004 ?r5004
  case y5004 => (intro u hu; exact run_load_at 44 _ rfl ⟨R.p, 9, none⟩ rfl _ (RbAt.move hu))
  simp only [Act.put, pA, pB, pC]
  refine tk 5 hS0 rfl (v := ?v5005) ?y5005 ?r5005
  case y5005 => (intro u hu; go_simp; try rfl)
  simp only [Act.put, pA, pB, pC]
  refine wpAnyH_ready (rs := [6]) (by kernel_rfl) (by simp) (AllReadyH.cons ((nth_eq _ 6).trans rfl) ?_ AllReadyH.nil)
  intro K1 hK1
  refine call_in hK1 (by kernel_rfl) 48 #[.pointer (some ⟨R.p, 0, none⟩)] (by go_simp) _ (moves_ret (hS0)) ?_
  rintro v1 x1 ⟨rfl, hx1⟩
  rw [hx1]
  clear hx1 x1
  refine ⟨hS0, ?_⟩
  simp only [Act.put, pA, pB, pC]
  refine wpAnyH_ready (rs := [7]) (by kernel_rfl) (by simp) (AllReadyH.cons ((nth_eq _ 7).trans rfl) ?_ AllReadyH.nil)
  intro K2 hK2
  obtain ⟨x2, hx2⟩ : ∃ x, x = x0.setRow w.heap.size (mvA r.mv) := ⟨_, rfl⟩
  have hS2 := (show RbAt x2 R r by rw [hx2]; exact HG.out)
  refine skip_in hK2 (by kernel_rfl) x2 (by rw [hx2]; exact run_store_op 44 _ _ rfl w.heap.size (mvA r.mv) rfl rfl (run_storeVar_row _ _ 44 44 (mvA mv0) (mvA r.mv) HA.out infoMove rfl (mvA_one _))) hS2 ?_
  simp only [Act.put, pA, pB, pC]
  refine tk 8 hS2 rfl (v := ?v5006) ?y5006 ?r5006
  case y5006 => (intro u hu; go_simp; try rfl)
  simp only [Act.put, pA, pB, pC]
  refine done_held (by kernel_rfl) ?_ _
  go_wp2
  exact bodyPost_ret (Lk.results_cell_tmp Tryz.results21 _ _ w.heap.size (mvA r.mv) rfl (load_row_of (cs := mvA r.mv) (by rw [hx2]; exact setRow_heap _ _ _ _ _ _ HA.out) (aggMove _) infoMove)) rfl ⟨rfl, by rw [hx2]; exact HE.out⟩
set_option maxRecDepth 100000 in
set_option maxHeartbeats 2000000 in
theorem delay_any (n : Int) (h0 : 0 ≤ r.la) (h1 : r.la ≤ 1000000) : Calls Tryz.prog 24 #[.pointer (some ⟨R.p, 0, none⟩), .int .i64 n] w fun e w' => e = .returned (.tuple #[]) ∧ RbAt w' R (lateR r n) ∧ Only R.p w w' := by
  have cm := moves_any h
  have c22 := h.c22
  have f22 := h.froz 22
  unfold lateR
  by_cases hu : under r = true ∧ 0 < n
  · rw [if_pos hu]
    obtain ⟨hu, hn⟩ := hu
    rw [hu] at cm
    have HE : Hid (RbAt (w.setCell ⟨R.p, 22, none⟩ (.int .i64 (min (r.la + min n 1000000) 1000000))) R { r with la := min (r.la + min n 1000000) 1000000 } ∧ Only R.p w (w.setCell ⟨R.p, 22, none⟩ (.int .i64 (min (r.la + min n 1000000) 1000000)))) := ⟨h.set 22 [_] rfl, Only.setCell _ _ _ _⟩
    clear h hu
    have hm : min n 1000000 ≤ 1000000 := by omega
    have hm0 : 0 ≤ min n 1000000 := by omega
    go_enter Tryz.func24, Tryz.ntmps24
    go_wp2_with (go_at_call 48; refine cm.mono ?_; rintro e w1 ⟨rfl, hw1⟩; rw [hw1]; clear hw1)
    go_end0
    exact ⟨rfl, HE.out⟩
  · rw [if_neg hu]
    have HE : Hid (RbAt w R r ∧ Only R.p w w) := ⟨h, Only.refl _ _⟩
    clear h
    cases hq : under r with
    | true =>
      rw [hq] at cm hu
      have hn : ¬ 0 < n := fun q => hu ⟨rfl, q⟩
      clear hu hq
      go_enter Tryz.func24, Tryz.ntmps24
      go_wp2_with (go_at_call 48; refine cm.mono ?_; rintro e w1 ⟨rfl, hw1⟩; rw [hw1]; clear hw1)
      go_end0
      exact ⟨rfl, HE.out⟩
    | false =>
      rw [hq] at cm
      clear hu hq
      go_enter Tryz.func24, Tryz.ntmps24
      go_wp2_with (go_at_call 48; refine cm.mono ?_; rintro e w1 ⟨rfl, hw1⟩; rw [hw1]; clear hw1)
      go_end0
      exact ⟨rfl, HE.out⟩
set_option maxRecDepth 100000 in
set_option maxHeartbeats 2000000 in
theorem isLast_any (t : Tl) : Calls Tryz.prog 53 #[.pointer (some ⟨R.p, 0, none⟩), .agg (tlA t)] w fun e w' => e = .returned (.bool (lastP r t)) ∧ Below w.heap.size w w' := by
  obtain ⟨w1, hw1⟩ : ∃ w1, w1 = w.alloc (.cells (tlA t) 46) := ⟨_, rfl⟩
  have w1H : Hr w R r w.heap.size t w1 := Hr.make h hw1
  clear h
  obtain ⟨lb, hlb⟩ : ∃ lb, lastP r t = lb := ⟨_, rfl⟩
  rw [hlb]
  have HL : Hid (lastP r t = lb) := hlb
  clear hlb
  by_cases h1 : t.ep = r.ep
  · have q1 : (t.ep != r.ep) = false := by simp [h1]
    by_cases h2 : t.kd = 1
    · have q2 : (t.kd == 1) = true := by rw [beq_iff_eq]; exact h2
      by_cases h3 : t.nm = r.lt
      · have q3 : (t.nm == r.lt) = true := by rw [beq_iff_eq]; exact h3
        go_enter Tryz.func53, Tryz.ntmps53
        go_upto_region 1 with (refine wpList_boxAt rfl 46 (.tmp 1) rfl (tlA t) rfl ?_; rw [← hw1]; clear hw1)
        refine start_held (S := Hr w R r w.heap.size t) 8 rfl (by kernel_rfl) (w1H.go (Below.refl _ _).drew) ?_
        simp only [Array.replicate_succ, Array.replicate_zero, List.push_toArray, List.nil_append, List.cons_append]
        have hS0 : Hr w R r w.heap.size t w1.drew := w1H.go (Below.refl _ _).drew
        generalize w1.drew = x0 at *
        refine tk 0 hS0 rfl (v := ?v5015) ?y5015 ?r5015
        case y5015 => (intro u hu; go_simp; try rfl)
        simp only [Act.put, pA, pB, pC]
        refine tk 1 hS0 rfl (v := ?v5016) ?y5016 ?r5016
        case y5016 => (intro u hu; have zz0 := (fun u hu => tl_ep (Hr.tl hu)) u hu; go_simp; try rfl)
        simp only [Act.put, pA, pB, pC]
        refine tk 2 hS0 rfl (v := ?v5017) ?y5017 ?r5017
        case y5017 => (intro u hu; go_simp; try rfl)
        simp only [Act.put, pA, pB, pC]
        refine tk 3 hS0 rfl (v := ?v5018) ?y5018 ?r5018
        case y5018 => (intro u hu; go_simp; try rfl)
        simp only [Act.put, pA, pB, pC]
        refine tk 4 hS0 rfl (v := ?v5019) ?y5019 ?r5019
        case y5019 => (intro u hu; go_simp; try rfl)
        simp only [Act.put, pA, pB, pC]
        refine tk 5 hS0 rfl (v := ?v5020) ?y5020 ?r5020
        case y5020 => (intro u hu; have zz0 := (fun u hu => RbAt.c7 (Hr.rb hu)) u hu; go_simp; try rfl)
        simp only [Act.put, pA, pB, pC]
        refine tk 6 hS0 rfl (v := ?v5021) ?y5021 ?r5021
        case y5021 => (intro u hu; go_simp; try rfl)
        simp only [Act.put, pA, pB, pC]
        refine tk 7 hS0 rfl (v := ?v5022) ?y5022 ?r5022
        case y5022 => (intro u hu; go_simp; try rfl)
        simp only [Act.put, pA, pB, pC]
        refine done_held (by kernel_rfl) ?_ _
        have k0 := tl_kd hS0.tl
        go_upto_region 4 with fail
        refine start_held (S := Hr w R r w.heap.size t) 15 rfl (by kernel_rfl) (hS0.go (Below.refl _ _).drew) ?_
        simp only [Array.replicate_succ, Array.replicate_zero, List.push_toArray, List.nil_append, List.cons_append]
        have hS4 : Hr w R r w.heap.size t x0.drew := hS0.go (Below.refl _ _).drew
        generalize x0.drew = x4 at *
        refine tk 0 hS4 rfl (v := ?v5023) ?y5023 ?r5023
        case y5023 => (intro u hu; go_simp; try rfl)
        simp only [Act.put, pA, pB, pC]
        refine tk 1 hS4 rfl (v := ?v5024) ?y5024 ?r5024
        case y5024 => (intro u hu; have zz0 := (fun u hu => tl_nm (Hr.tl hu)) u hu; go_simp; try rfl)
        simp only [Act.put, pA, pB, pC]
        refine tk 2 hS4 rfl (v := ?v5025) ?y5025 ?r5025
        case y5025 => (intro u hu; go_simp; try rfl)
        simp only [Act.put, pA, pB, pC]
        refine tk 3 hS4 rfl (v := ?v5026) ?y5026 ?r5026
        case y5026 => (intro u hu; go_simp; try rfl)
        simp only [Act.put, pA, pB, pC]
        refine tk 4 hS4 rfl (v := ?v5027) ?y5027 ?r5027
        case y5027 => (intro u hu; go_simp; try rfl)
        simp only [Act.put, pA, pB, pC]
        refine tk 5 hS4 rfl (v := ?v5028) ?y5028 ?r5028
        case y5028 => (intro u hu; have zz0 := (fun u hu => RbAt.c8 (Hr.rb hu)) u hu; go_simp; try rfl)
        simp only [Act.put, pA, pB, pC]
        refine tk 6 hS4 rfl (v := ?v5029) ?y5029 ?r5029
        case y5029 => (intro u hu; go_simp; try rfl)
        simp only [Act.put, pA, pB, pC]
        refine tk 7 hS4 rfl (v := ?v5030) ?y5030 ?r5030
        case y5030 => (intro u hu; go_simp; try rfl)
        simp only [Act.put, pA, pB, pC]
        refine tk 8 hS4 rfl (v := ?v5031) ?y5031 ?r5031
        case y5031 => (intro u hu; go_simp; try rfl)
        simp only [Act.put, pA, pB, pC]
        refine tk 9 hS4 rfl (v := ?v5032) ?y5032 ?r5032
        case y5032 => (intro u hu; go_simp; try rfl)
        simp only [Act.put, pA, pB, pC]
        refine tk 10 hS4 rfl (v := ?v5033) ?y5033 ?r5033
        case y5033 => (intro u hu; go_simp; try rfl)
        simp only [Act.put, pA, pB, pC]
        refine tk 11 hS4 rfl (v := ?v5034) ?y5034 ?r5034
        case y5034 => (intro u hu; have zz0 := (fun u hu => RbAt.c8 (Hr.rb hu)) u hu; go_simp; try rfl)
        simp only [Act.put, pA, pB, pC]
        refine tk 12 hS4 rfl (v := ?v5035) ?y5035 ?r5035
        case y5035 => (intro u hu; go_simp; try rfl)
        simp only [Act.put, pA, pB, pC]
        refine tk 13 hS4 rfl (v := ?v5036) ?y5036 ?r5036
        case y5036 => (intro u hu; go_simp; try rfl)
        simp only [Act.put, pA, pB, pC]
        refine tk 14 hS4 rfl (v := ?v5037) ?y5037 ?r5037
        case y5037 => (intro u hu; go_simp; try rfl)
        simp only [Act.put, pA, pB, pC]
        refine done_held (by kernel_rfl) ?_ _
        go_wp2
        go_ret
        exact ⟨ret_bool (by rw [← HL.out]; simp [lastP, h1, h2, h3]), hS4.bel⟩
      · have q3 : (t.nm == r.lt) = false := by rw [beq_eq_false_iff_ne]; exact h3
        go_enter Tryz.func53, Tryz.ntmps53
        go_upto_region 1 with (refine wpList_boxAt rfl 46 (.tmp 1) rfl (tlA t) rfl ?_; rw [← hw1]; clear hw1)
        refine start_held (S := Hr w R r w.heap.size t) 8 rfl (by kernel_rfl) (w1H.go (Below.refl _ _).drew) ?_
        simp only [Array.replicate_succ, Array.replicate_zero, List.push_toArray, List.nil_append, List.cons_append]
        have hS0 : Hr w R r w.heap.size t w1.drew := w1H.go (Below.refl _ _).drew
        generalize w1.drew = x0 at *
        refine tk 0 hS0 rfl (v := ?v5038) ?y5038 ?r5038
        case y5038 => (intro u hu; go_simp; try rfl)
        simp only [Act.put, pA, pB, pC]
        refine tk 1 hS0 rfl (v := ?v5039) ?y5039 ?r5039
        case y5039 => (intro u hu; have zz0 := (fun u hu => tl_ep (Hr.tl hu)) u hu; go_simp; try rfl)
        simp only [Act.put, pA, pB, pC]
        refine tk 2 hS0 rfl (v := ?v5040) ?y5040 ?r5040
        case y5040 => (intro u hu; go_simp; try rfl)
        simp only [Act.put, pA, pB, pC]
        refine tk 3 hS0 rfl (v := ?v5041) ?y5041 ?r5041
        case y5041 => (intro u hu; go_simp; try rfl)
        simp only [Act.put, pA, pB, pC]
        refine tk 4 hS0 rfl (v := ?v5042) ?y5042 ?r5042
        case y5042 => (intro u hu; go_simp; try rfl)
        simp only [Act.put, pA, pB, pC]
        refine tk 5 hS0 rfl (v := ?v5043) ?y5043 ?r5043
        case y5043 => (intro u hu; have zz0 := (fun u hu => RbAt.c7 (Hr.rb hu)) u hu; go_simp; try rfl)
        simp only [Act.put, pA, pB, pC]
        refine tk 6 hS0 rfl (v := ?v5044) ?y5044 ?r5044
        case y5044 => (intro u hu; go_simp; try rfl)
        simp only [Act.put, pA, pB, pC]
        refine tk 7 hS0 rfl (v := ?v5045) ?y5045 ?r5045
        case y5045 => (intro u hu; go_simp; try rfl)
        simp only [Act.put, pA, pB, pC]
        refine done_held (by kernel_rfl) ?_ _
        have k0 := tl_kd hS0.tl
        go_upto_region 4 with fail
        refine start_held (S := Hr w R r w.heap.size t) 15 rfl (by kernel_rfl) (hS0.go (Below.refl _ _).drew) ?_
        simp only [Array.replicate_succ, Array.replicate_zero, List.push_toArray, List.nil_append, List.cons_append]
        have hS4 : Hr w R r w.heap.size t x0.drew := hS0.go (Below.refl _ _).drew
        generalize x0.drew = x4 at *
        refine tk 0 hS4 rfl (v := ?v5046) ?y5046 ?r5046
        case y5046 => (intro u hu; go_simp; try rfl)
        simp only [Act.put, pA, pB, pC]
        refine tk 1 hS4 rfl (v := ?v5047) ?y5047 ?r5047
        case y5047 => (intro u hu; have zz0 := (fun u hu => tl_nm (Hr.tl hu)) u hu; go_simp; try rfl)
        simp only [Act.put, pA, pB, pC]
        refine tk 2 hS4 rfl (v := ?v5048) ?y5048 ?r5048
        case y5048 => (intro u hu; go_simp; try rfl)
        simp only [Act.put, pA, pB, pC]
        refine tk 3 hS4 rfl (v := ?v5049) ?y5049 ?r5049
        case y5049 => (intro u hu; go_simp; try rfl)
        simp only [Act.put, pA, pB, pC]
        refine tk 4 hS4 rfl (v := ?v5050) ?y5050 ?r5050
        case y5050 => (intro u hu; go_simp; try rfl)
        simp only [Act.put, pA, pB, pC]
        refine tk 5 hS4 rfl (v := ?v5051) ?y5051 ?r5051
        case y5051 => (intro u hu; have zz0 := (fun u hu => RbAt.c8 (Hr.rb hu)) u hu; go_simp; try rfl)
        simp only [Act.put, pA, pB, pC]
        refine tk 6 hS4 rfl (v := ?v5052) ?y5052 ?r5052
        case y5052 => (intro u hu; go_simp; try rfl)
        simp only [Act.put, pA, pB, pC]
        refine tk 7 hS4 rfl (v := ?v5053) ?y5053 ?r5053
        case y5053 => (intro u hu; go_simp; try rfl)
        simp only [Act.put, pA, pB, pC]
        refine skip_held 8 hS4 rfl (by kernel_rfl) (by kernel_rfl) (by kernel_rfl) (fun _ _ _ h => h) (by kernel_rfl) ?_
        simp only [Act.put, pA, pB, pC]
        refine skip_held 9 hS4 rfl (by kernel_rfl) (by kernel_rfl) (by kernel_rfl) (fun _ _ _ h => h) (by kernel_rfl) ?_
        simp only [Act.put, pA, pB, pC]
        refine skip_held 10 hS4 rfl (by kernel_rfl) (by kernel_rfl) (by kernel_rfl) (fun _ _ _ h => h) (by kernel_rfl) ?_
        simp only [Act.put, pA, pB, pC]
        refine skip_held 11 hS4 rfl (by kernel_rfl) (by kernel_rfl) (by kernel_rfl) (fun _ _ _ h => h) (by kernel_rfl) ?_
        simp only [Act.put, pA, pB, pC]
        refine skip_held 12 hS4 rfl (by kernel_rfl) (by kernel_rfl) (by kernel_rfl) (fun _ _ _ h => h) (by kernel_rfl) ?_
        simp only [Act.put, pA, pB, pC]
        refine tk 13 hS4 rfl (v := ?v5054) ?y5054 ?r5054
        case y5054 => (intro u hu; go_simp; try rfl)
        simp only [Act.put, pA, pB, pC]
        refine tk 14 hS4 rfl (v := ?v5055) ?y5055 ?r5055
        case y5055 => (intro u hu; go_simp; try rfl)
        simp only [Act.put, pA, pB, pC]
        refine done_held (by kernel_rfl) ?_ _
        go_wp2
        go_ret
        exact ⟨ret_bool (by rw [← HL.out]; simp [lastP, h1, h2, h3]), hS4.bel⟩
    · have q2 : (t.kd == 1) = false := by rw [beq_eq_false_iff_ne]; exact h2
      by_cases h3 : t.kd = 2
      · have q3 : (t.kd == 2) = true := by rw [beq_iff_eq]; exact h3
        go_enter Tryz.func53, Tryz.ntmps53
        go_upto_region 1 with (refine wpList_boxAt rfl 46 (.tmp 1) rfl (tlA t) rfl ?_; rw [← hw1]; clear hw1)
        refine start_held (S := Hr w R r w.heap.size t) 8 rfl (by kernel_rfl) (w1H.go (Below.refl _ _).drew) ?_
        simp only [Array.replicate_succ, Array.replicate_zero, List.push_toArray, List.nil_append, List.cons_append]
        have hS0 : Hr w R r w.heap.size t w1.drew := w1H.go (Below.refl _ _).drew
        generalize w1.drew = x0 at *
        refine tk 0 hS0 rfl (v := ?v5056) ?y5056 ?r5056
        case y5056 => (intro u hu; go_simp; try rfl)
        simp only [Act.put, pA, pB, pC]
        refine tk 1 hS0 rfl (v := ?v5057) ?y5057 ?r5057
        case y5057 => (intro u hu; have zz0 := (fun u hu => tl_ep (Hr.tl hu)) u hu; go_simp; try rfl)
        simp only [Act.put, pA, pB, pC]
        refine tk 2 hS0 rfl (v := ?v5058) ?y5058 ?r5058
        case y5058 => (intro u hu; go_simp; try rfl)
        simp only [Act.put, pA, pB, pC]
        refine tk 3 hS0 rfl (v := ?v5059) ?y5059 ?r5059
        case y5059 => (intro u hu; go_simp; try rfl)
        simp only [Act.put, pA, pB, pC]
        refine tk 4 hS0 rfl (v := ?v5060) ?y5060 ?r5060
        case y5060 => (intro u hu; go_simp; try rfl)
        simp only [Act.put, pA, pB, pC]
        refine tk 5 hS0 rfl (v := ?v5061) ?y5061 ?r5061
        case y5061 => (intro u hu; have zz0 := (fun u hu => RbAt.c7 (Hr.rb hu)) u hu; go_simp; try rfl)
        simp only [Act.put, pA, pB, pC]
        refine tk 6 hS0 rfl (v := ?v5062) ?y5062 ?r5062
        case y5062 => (intro u hu; go_simp; try rfl)
        simp only [Act.put, pA, pB, pC]
        refine tk 7 hS0 rfl (v := ?v5063) ?y5063 ?r5063
        case y5063 => (intro u hu; go_simp; try rfl)
        simp only [Act.put, pA, pB, pC]
        refine done_held (by kernel_rfl) ?_ _
        have k0 := tl_kd hS0.tl
        have cs := stopped_any hS0.rb
        go_wp2_with (go_at_call 58; refine cs.mono ?_; rintro e wz ⟨rfl, hwz⟩; rw [hwz]; clear hwz)
        go_ret
        exact ⟨ret_bool (by rw [← HL.out]; simp [lastP, h1, h2, h3]), hS0.bel⟩
      · have q3 : (t.kd == 2) = false := by rw [beq_eq_false_iff_ne]; exact h3
        go_enter Tryz.func53, Tryz.ntmps53
        go_upto_region 1 with (refine wpList_boxAt rfl 46 (.tmp 1) rfl (tlA t) rfl ?_; rw [← hw1]; clear hw1)
        refine start_held (S := Hr w R r w.heap.size t) 8 rfl (by kernel_rfl) (w1H.go (Below.refl _ _).drew) ?_
        simp only [Array.replicate_succ, Array.replicate_zero, List.push_toArray, List.nil_append, List.cons_append]
        have hS0 : Hr w R r w.heap.size t w1.drew := w1H.go (Below.refl _ _).drew
        generalize w1.drew = x0 at *
        refine tk 0 hS0 rfl (v := ?v5064) ?y5064 ?r5064
        case y5064 => (intro u hu; go_simp; try rfl)
        simp only [Act.put, pA, pB, pC]
        refine tk 1 hS0 rfl (v := ?v5065) ?y5065 ?r5065
        case y5065 => (intro u hu; have zz0 := (fun u hu => tl_ep (Hr.tl hu)) u hu; go_simp; try rfl)
        simp only [Act.put, pA, pB, pC]
        refine tk 2 hS0 rfl (v := ?v5066) ?y5066 ?r5066
        case y5066 => (intro u hu; go_simp; try rfl)
        simp only [Act.put, pA, pB, pC]
        refine tk 3 hS0 rfl (v := ?v5067) ?y5067 ?r5067
        case y5067 => (intro u hu; go_simp; try rfl)
        simp only [Act.put, pA, pB, pC]
        refine tk 4 hS0 rfl (v := ?v5068) ?y5068 ?r5068
        case y5068 => (intro u hu; go_simp; try rfl)
        simp only [Act.put, pA, pB, pC]
        refine tk 5 hS0 rfl (v := ?v5069) ?y5069 ?r5069
        case y5069 => (intro u hu; have zz0 := (fun u hu => RbAt.c7 (Hr.rb hu)) u hu; go_simp; try rfl)
        simp only [Act.put, pA, pB, pC]
        refine tk 6 hS0 rfl (v := ?v5070) ?y5070 ?r5070
        case y5070 => (intro u hu; go_simp; try rfl)
        simp only [Act.put, pA, pB, pC]
        refine tk 7 hS0 rfl (v := ?v5071) ?y5071 ?r5071
        case y5071 => (intro u hu; go_simp; try rfl)
        simp only [Act.put, pA, pB, pC]
        refine done_held (by kernel_rfl) ?_ _
        have k0 := tl_kd hS0.tl
        have cs := stopped_any hS0.rb
        go_wp2_with (go_at_call 58; refine cs.mono ?_; rintro e wz ⟨rfl, hwz⟩; rw [hwz]; clear hwz)
        go_ret
        exact ⟨ret_bool (by rw [← HL.out]; simp [lastP, h1, h2, h3]), hS0.bel⟩
  · have q1 : (t.ep != r.ep) = true := by simp [h1]
    go_enter Tryz.func53, Tryz.ntmps53
    go_upto_region 1 with (refine wpList_boxAt rfl 46 (.tmp 1) rfl (tlA t) rfl ?_; rw [← hw1]; clear hw1)
    refine start_held (S := Hr w R r w.heap.size t) 8 rfl (by kernel_rfl) (w1H.go (Below.refl _ _).drew) ?_
    simp only [Array.replicate_succ, Array.replicate_zero, List.push_toArray, List.nil_append, List.cons_append]
    have hS0 : Hr w R r w.heap.size t w1.drew := w1H.go (Below.refl _ _).drew
    generalize w1.drew = x0 at *
    refine tk 0 hS0 rfl (v := ?v5007) ?y5007 ?r5007
    case y5007 => (intro u hu; go_simp; try rfl)
    simp only [Act.put, pA, pB, pC]
    refine tk 1 hS0 rfl (v := ?v5008) ?y5008 ?r5008
    case y5008 => (intro u hu; have zz0 := (fun u hu => tl_ep (Hr.tl hu)) u hu; go_simp; try rfl)
    simp only [Act.put, pA, pB, pC]
    refine tk 2 hS0 rfl (v := ?v5009) ?y5009 ?r5009
    case y5009 => (intro u hu; go_simp; try rfl)
    simp only [Act.put, pA, pB, pC]
    refine tk 3 hS0 rfl (v := ?v5010) ?y5010 ?r5010
    case y5010 => (intro u hu; go_simp; try rfl)
    simp only [Act.put, pA, pB, pC]
    refine tk 4 hS0 rfl (v := ?v5011) ?y5011 ?r5011
    case y5011 => (intro u hu; go_simp; try rfl)
    simp only [Act.put, pA, pB, pC]
    refine tk 5 hS0 rfl (v := ?v5012) ?y5012 ?r5012
    case y5012 => (intro u hu; have zz0 := (fun u hu => RbAt.c7 (Hr.rb hu)) u hu; go_simp; try rfl)
    simp only [Act.put, pA, pB, pC]
    refine tk 6 hS0 rfl (v := ?v5013) ?y5013 ?r5013
    case y5013 => (intro u hu; go_simp; try rfl)
    simp only [Act.put, pA, pB, pC]
    refine tk 7 hS0 rfl (v := ?v5014) ?y5014 ?r5014
    case y5014 => (intro u hu; go_simp; try rfl)
    simp only [Act.put, pA, pB, pC]
    refine done_held (by kernel_rfl) ?_ _
    go_wp2
    go_ret
    exact ⟨ret_bool (by rw [← HL.out]; simp [lastP, h1]), hS0.bel⟩
end
end Go.Proofs.YtedmfhkdaifegaaGreat.Rob
