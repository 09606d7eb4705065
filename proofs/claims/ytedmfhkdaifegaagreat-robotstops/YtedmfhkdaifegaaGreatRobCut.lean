/-
  A run that is cut; a stop.
-/
import Derived.Test.YtedmfhkdaifegaaGreatRobEnd
namespace Go.Proofs.YtedmfhkdaifegaaGreat.Rob
set_option linter.unusedVariables false
set_option linter.unusedSimpArgs false
open Go Go.RowKit Go.Shelf Go.Proofs Go.Proofs.YtedmfhkdaifegaaGreat.Lk Go.Proofs.YtedmfhkdaifegaaGreat.Plain
attribute [local go_sem] Oper.semAt_some

/- What stays of a run that is being cut. -/
def Sh (R : Wh) (r : Rb) (u : World) : Prop := ∃ r', RbAt u R r' ∧ r'.mv.dr = r.mv.dr ∧ r'.mv.fx = r.mv.fx ∧ r'.mv.fy = r.mv.fy ∧ r'.mv.fd = r.mv.fd
theorem Sh.c0 {R : Wh} {r : Rb} {u : World} (h : Sh R r u) : u.cell? ⟨R.p, 0, none⟩ = some (.pointer (some ⟨R.g, 0, none⟩)) := by obtain ⟨r', h, _⟩ := h; exact h.c0
theorem Sh.c10 {R : Wh} {r : Rb} {u : World} (h : Sh R r u) : u.cell? ⟨R.p, 10, none⟩ = some (.int .i64 r.mv.dr) := by obtain ⟨r', h, e, _⟩ := h; rw [← e]; exact h.c10
theorem Sh.frm {R : Wh} {r : Rb} {u : World} (h : Sh R r u) : (loadVar 42 ⟨R.p, 12, none⟩).run Tryz.prog u = .ok (.agg (poA r.mv.fx r.mv.fy r.mv.fd)) u := by
  obtain ⟨r', h, _, e1, e2, e3⟩ := h
  rw [← e1, ← e2, ← e3]
  exact run_loadVar_at u _ _ _ (fun j v hv => by
    rw [Addr.add_mid, h.cell]
    match j with
    | 0 => exact hv
    | 1 => exact hv
    | 2 => exact hv
    | j + 3 => simp [poA] at hv) (aggPose _) infoPose
def nP (R : Wh) (r : Rb) : Rb := { r with mv := { r.mv with n := (Kin.stopC R.ku R.ka R.kv r.mv.n r.gn : Nat) } }
def toP (R : Wh) (r : Rb) : Rb := { nP R r with mv := { (nP R r).mv with tx := (cutTo R r).1.1, ty := (cutTo R r).1.2, td := (cutTo R r).2 } }
theorem kstop_ret {w : World} {R : Wh} {r : Rb} (h : RbAt w R r) (g1 : r.gn ≤ 9223372036854775807) : Calls Tryz.prog 94 #[.pointer (some ⟨R.k, 0, none⟩), .int .i64 r.mv.n, .int .i64 r.gn] w fun e w' => ∃ v, e = .returned v ∧ (v = .tuple #[.int .i64 (Kin.stopC R.ku R.ka R.kv r.mv.n r.gn : Nat), .int .i64 (Kin.stopT R.ku R.ka R.kv r.mv.n r.gn : Nat)] ∧ RbAt w' R r ∧ Tn R w w') :=
  (Kin.stop_any R.k R.ku R.ka R.kv r.mv.n r.gn w h.kin h.ok g1).mono fun e w' ⟨a, b⟩ => ⟨_, a, rfl, h.kgo b, Tn.kin b.grow⟩
theorem shift_ret (v : Value) (x y : Int) (d : Bool) (dir n : Int) (w : World) : Calls Tryz.prog 95 #[v, .agg (poA x y d), .int .i64 dir, .int .i64 n] w fun e w' => ∃ z, e = .returned z ∧ (z = .tuple #[.agg (poA (Grid.shiftR ((x, y), d) dir n).1.1 (Grid.shiftR ((x, y), d) dir n).1.2 (Grid.shiftR ((x, y), d) dir n).2), .bool (Grid.mayShift dir n)] ∧ Below w.heap.size w w') :=
  (Grid.shift_any v x y d dir n w).mono fun e w' ⟨a, b⟩ => ⟨_, a, rfl, b⟩
section
variable {w : World} {R : Wh} {r : Rb} (h : RbAt w R r)
include h
set_option maxRecDepth 100000 in
set_option maxHeartbeats 2000000 in
theorem cut_any (g1 : r.gn ≤ 9223372036854775807) : Calls Tryz.prog 73 #[.pointer (some ⟨R.p, 0, none⟩)] w fun e w' => e = .returned (.tuple #[]) ∧ RbAt w' R (cutP R r) ∧ Tn R w w' := by
  have HW : Hid (RbAt w.drew R r) := h.go (Below.refl _ _).drew
  have HG : Hid (r.gn ≤ 9223372036854775807) := g1
  clear h g1
  go_enter Tryz.func73, Tryz.ntmps73
  go_upto_region 1 with fail
  refine start_held (S := fun u => RbAt u R r) 19 rfl (by kernel_rfl) (HW.out) ?_
  simp only [Array.replicate_succ, Array.replicate_zero, List.push_toArray, List.nil_append, List.cons_append]
  have hS0 := HW.out
  have HT0 : Hid (Tn R w w.drew) := Tn.below (Below.refl _ _).drew
  clear HW
  generalize w.drew = x0 at *
  refine tk 0 hS0 rfl (v := ?v5019) ?y5019 ?r5019
  case y5019 => (intro u hu; go_simp; try rfl)
  simp only [Act.put, pA, pB, pC]
  refine tk 1 hS0 rfl (v := ?v5020) ?y5020 ?r5020
  case y5020 => (intro u hu; go_simp; try rfl)
  simp only [Act.put, pA, pB, pC]
  refine tk 2 hS0 rfl (v := ?v5021) ?y5021 ?r5021
  case y5021 => (intro u hu; go_simp; try rfl)
  simp only [Act.put, pA, pB, pC]
  refine tk 3 hS0 rfl (v := ?v5022) ?y5022 ?r5022
  case y5022 => (intro u hu; have zz0 := (fun (u : World) (hu : RbAt u R r) => hu.c1) u hu; go_simp; try rfl)
  simp only [Act.put, pA, pB, pC]
  refine tk 4 hS0 rfl (v := ?v5023) ?y5023 ?r5023
  case y5023 => (intro u hu; go_simp; try rfl)
  simp only [Act.put, pA, pB, pC]
  refine tk 5 hS0 rfl (v := ?v5024) ?y5024 ?r5024
  case y5024 => (intro u hu; go_simp; try rfl)
  simp only [Act.put, pA, pB, pC]
  refine tk 6 hS0 rfl (v := ?v5025) ?y5025 ?r5025
  case y5025 => (intro u hu; go_simp; try rfl)
  simp only [Act.put, pA, pB, pC]
  refine tk 7 hS0 rfl (v := ?v5026) ?y5026 ?r5026
  case y5026 => (intro u hu; have zz0 := (fun (u : World) (hu : RbAt u R r) => hu.c11) u hu; go_simp; try rfl)
  simp only [Act.put, pA, pB, pC]
  refine tk 8 hS0 rfl (v := ?v5027) ?y5027 ?r5027
  case y5027 => (intro u hu; go_simp; try rfl)
  simp only [Act.put, pA, pB, pC]
  refine tk 9 hS0 rfl (v := ?v5028) ?y5028 ?r5028
  case y5028 => (intro u hu; go_simp; try rfl)
  simp only [Act.put, pA, pB, pC]
  refine tk 10 hS0 rfl (v := ?v5029) ?y5029 ?r5029
  case y5029 => (intro u hu; go_simp; try rfl)
  simp only [Act.put, pA, pB, pC]
  refine tk 11 hS0 rfl (v := ?v5030) ?y5030 ?r5030
  case y5030 => (intro u hu; go_simp; try rfl)
  simp only [Act.put, pA, pB, pC]
  refine tk 12 hS0 rfl (v := ?v5031) ?y5031 ?r5031
  case y5031 => (intro u hu; have zz0 := (fun (u : World) (hu : RbAt u R r) => hu.c20) u hu; go_simp; try rfl)
  simp only [Act.put, pA, pB, pC]
  refine wpAnyH_ready (rs := [13]) (by kernel_rfl) (by simp) (AllReadyH.cons ((nth_eq _ 13).trans rfl) ?_ AllReadyH.nil)
  intro K1 hK1
  refine call_in hK1 (by kernel_rfl) 94 #[.pointer (some ⟨R.k, 0, none⟩), .int .i64 r.mv.n, .int .i64 r.gn] (by go_simp) _ (kstop_ret hS0 HG.out) ?_
  rintro v1 x1 ⟨rfl, hS1, T1⟩
  refine ⟨hS1, ?_⟩
  simp only [Act.put, pA, pB, pC]
  refine tk 14 hS1 rfl (v := ?v5032) ?y5032 ?r5032
  case y5032 => (intro u hu; go_simp; try rfl)
  simp only [Act.put, pA, pB, pC]
  refine tk 15 hS1 rfl (v := ?v5033) ?y5033 ?r5033
  case y5033 => (intro u hu; go_simp; try rfl)
  simp only [Act.put, pA, pB, pC]
  refine tk 16 hS1 rfl (v := ?v5034) ?y5034 ?r5034
  case y5034 => (intro u hu; go_simp; try rfl)
  simp only [Act.put, pA, pB, pC]
  refine tk 17 hS1 rfl (v := ?v5035) ?y5035 ?r5035
  case y5035 => (intro u hu; go_simp; try rfl)
  simp only [Act.put, pA, pB, pC]
  refine tk 18 hS1 rfl (v := ?v5036) ?y5036 ?r5036
  case y5036 => (intro u hu; go_simp; try rfl)
  simp only [Act.put, pA, pB, pC]
  refine done_held (by kernel_rfl) ?_ _
  have c11 := hS1.c11
  have f11 := hS1.froz 11
  obtain ⟨x2, hx2⟩ : ∃ x2, x1.setCell ⟨R.p, 11, none⟩ (.int .i64 (Kin.stopC R.ku R.ka R.kv r.mv.n r.gn : Nat)) = x2 := ⟨_, rfl⟩
  have HN2 : Hid (RbAt x2 R (nP R r)) := by rw [← hx2]; exact hS1.set 11 [.int .i64 (Kin.stopC R.ku R.ka R.kv r.mv.n r.gn : Nat)] (rb_n _ _ r _)
  have HT2 : Hid (Tn R w x2) := (HT0.out.trans T1).trans (by rw [← hx2]; exact Tn.only (Only.setCell _ _ _ _))
  have HX : Hid (Sh R r x2.drew) := ⟨_, HN2.out.go (Below.refl _ _).drew, rfl, rfl, rfl, rfl⟩
  clear hS1 T1 HT0 hS0
  go_upto_region 3 with fail
  try rw [hx2]
  clear hx2 c11 f11
  refine start_held (S := Sh R r) 21 rfl (by kernel_rfl) (HX.out) ?_
  simp only [Array.replicate_succ, Array.replicate_zero, List.push_toArray, List.nil_append, List.cons_append]
  have hN0 : RbAt x2.drew R (nP R r) := HN2.out.go (Below.refl _ _).drew
  have hZ0 : Sh R r x2.drew := HX.out
  have HT : Hid (Tn R w x2.drew) := HT2.out.trans (Tn.below (Below.refl _ _).drew)
  clear HT2 HN2
  generalize x2.drew = y0 at *
  refine tk 0 hZ0 rfl (v := ?v5000) ?y5000 ?r5000
  case y5000 => (intro u hu; go_simp; try rfl)
  simp only [Act.put, pA, pB, pC]
  refine tk 1 hZ0 rfl (v := ?v5001) ?y5001 ?r5001
  case y5001 => (intro u hu; go_simp; try rfl)
  simp only [Act.put, pA, pB, pC]
  refine tk 2 hZ0 rfl (v := ?v5002) ?y5002 ?r5002
  case y5002 => (intro u hu; go_simp; try rfl)
  simp only [Act.put, pA, pB, pC]
  refine tk 3 hZ0 rfl (v := ?v5003) ?y5003 ?r5003
  case y5003 => (intro u hu; go_simp; try rfl)
  simp only [Act.put, pA, pB, pC]
  refine tk 4 hZ0 rfl (v := ?v5004) ?y5004 ?r5004
  case y5004 => (intro u hu; have zz0 := (fun (u : World) (hu : Sh R r u) => hu.c0) u hu; go_simp; try rfl)
  simp only [Act.put, pA, pB, pC]
  refine tk 5 hZ0 rfl (v := ?v5005) ?y5005 ?r5005
  case y5005 => (intro u hu; go_simp; try rfl)
  simp only [Act.put, pA, pB, pC]
  refine tk 6 hZ0 rfl (v := ?v5006) ?y5006 ?r5006
  case y5006 => (intro u hu; go_simp; try rfl)
  simp only [Act.put, pA, pB, pC]
  refine tk 7 hZ0 rfl (v := ?v5007) ?y5007 ?r5007
  case y5007 => (intro u hu; go_simp; try rfl)
  simp only [Act.put, pA, pB, pC]
  refine tk 8 hZ0 rfl (v := .agg (poA r.mv.fx r.mv.fy r.mv.fd)) ?y5008 ?r5008
  case y5008 => (intro u hu; exact run_load_at 42 _ rfl ⟨R.p, 12, none⟩ rfl _ (Sh.frm hu))
  simp only [Act.put, pA, pB, pC]
  refine tk 9 hZ0 rfl (v := ?v5009) ?y5009 ?r5009
  case y5009 => (intro u hu; go_simp; try rfl)
  simp only [Act.put, pA, pB, pC]
  refine tk 10 hZ0 rfl (v := ?v5010) ?y5010 ?r5010
  case y5010 => (intro u hu; go_simp; try rfl)
  simp only [Act.put, pA, pB, pC]
  refine tk 11 hZ0 rfl (v := ?v5011) ?y5011 ?r5011
  case y5011 => (intro u hu; go_simp; try rfl)
  simp only [Act.put, pA, pB, pC]
  refine tk 12 hZ0 rfl (v := ?v5012) ?y5012 ?r5012
  case y5012 => (intro u hu; have zz0 := (fun (u : World) (hu : Sh R r u) => hu.c10) u hu; go_simp; try rfl)
  simp only [Act.put, pA, pB, pC]
  refine tk 13 hZ0 rfl (v := ?v5013) ?y5013 ?r5013
  case y5013 => (intro u hu; go_simp; try rfl)
  simp only [Act.put, pA, pB, pC]
  refine wpAnyH_ready (rs := [14]) (by kernel_rfl) (by simp) (AllReadyH.cons ((nth_eq _ 14).trans rfl) ?_ AllReadyH.nil)
  intro L1 hL1
  refine call_in hL1 (by kernel_rfl) 95 #[.pointer (some ⟨R.g, 0, none⟩), .agg (poA r.mv.fx r.mv.fy r.mv.fd), .int .i64 r.mv.dr, .int .i64 (Kin.stopC R.ku R.ka R.kv r.mv.n r.gn : Nat)] (by go_simp) _ (shift_ret _ _ _ _ _ _ _) ?_
  rintro u1 y1 ⟨rfl, d1⟩
  have hN1 := hN0.go d1
  have hZ1 : Sh R r y1 := ⟨_, hN1, rfl, rfl, rfl, rfl⟩
  refine ⟨hZ1, ?_⟩
  simp only [Act.put, pA, pB, pC]
  refine tk 15 hZ1 rfl (v := ?v5014) ?y5014 ?r5014
  case y5014 => (intro u hu; go_simp; try rfl)
  simp only [Act.put, pA, pB, pC]
  refine tk 16 hZ1 rfl (v := ?v5015) ?y5015 ?r5015
  case y5015 => (intro u hu; go_simp; try rfl)
  simp only [Act.put, pA, pB, pC]
  refine tk 17 hZ1 rfl (v := ?v5016) ?y5016 ?r5016
  case y5016 => (intro u hu; go_simp; try rfl)
  simp only [Act.put, pA, pB, pC]
  refine tk 18 hZ1 rfl (v := ?v5017) ?y5017 ?r5017
  case y5017 => (intro u hu; go_simp; try rfl)
  simp only [Act.put, pA, pB, pC]
  refine tk 19 hZ1 rfl (v := ?v5018) ?y5018 ?r5018
  case y5018 => (intro u hu; go_simp; try rfl)
  simp only [Act.put, pA, pB, pC]
  refine wpAnyH_ready (rs := [20]) (by kernel_rfl) (by simp) (AllReadyH.cons ((nth_eq _ 20).trans rfl) ?_ AllReadyH.nil)
  intro L2 hL2
  obtain ⟨y2, hy2⟩ : ∃ y, y = y1.setCells R.p 15 (poA (cutTo R r).1.1 (cutTo R r).1.2 (cutTo R r).2).toList := ⟨_, rfl⟩
  have hN2 : RbAt y2 R (toP R r) := by rw [hy2]; exact hN1.set 15 _ (rb_to _ _ (nP R r) _ _ _)
  have o2 : Only R.p y1 y2 := by rw [hy2]; exact Only.setCells _ _ _ _
  have hZ2 : Sh R r y2 := ⟨_, hN2, rfl, rfl, rfl, rfl⟩
  refine skip_in hL2 (by kernel_rfl) y2 (by rw [hy2]; exact run_store_mid_op 42 _ _ rfl R.p 15 (poA (cutTo R r).1.1 (cutTo R r).1.2 (cutTo R r).2) rfl rfl (there_of hN1.at_ 15 3 (by show 15 + 3 ≤ 24; omega)) infoPose (poA_one _ _ _)) hZ2 ?_
  simp only [Act.put, pA, pB, pC]
  refine done_held (by kernel_rfl) ?_ _
  have c21 := hN2.c21
  have f21 := hN2.froz 21
  have HE : (RbAt (y2.setCell ⟨R.p, 21, none⟩ (.int .i64 (max (Kin.stopT R.ku R.ka R.kv r.mv.n r.gn : Nat) 1))) R (cutP R r) ∧ Tn R w (y2.setCell ⟨R.p, 21, none⟩ (.int .i64 (max (Kin.stopT R.ku R.ka R.kv r.mv.n r.gn : Nat) 1)))) :=
    ⟨hN2.set 21 [.int .i64 (max (Kin.stopT R.ku R.ka R.kv r.mv.n r.gn : Nat) 1)] (rb_left _ _ (toP R r) _), ((HT.out.trans (Tn.below d1)).trans (Tn.only o2)).trans (Tn.only (Only.setCell _ _ _ _))⟩
  clear hN2 hN1 hN0 hZ2 hZ1 hZ0 o2 d1 HT HX hy2
  generalize ((Kin.stopT R.ku R.ka R.kv r.mv.n r.gn : Nat) : Int) = zt at *
  generalize ((Kin.stopC R.ku R.ka R.kv r.mv.n r.gn : Nat) : Int) = zc at *
  go_wp2
  go_end0
  exact ⟨rfl, HE⟩
set_option maxRecDepth 100000 in
set_option maxHeartbeats 2000000 in
theorem stop_any (ep : Int) (g1 : r.gn ≤ 9223372036854775807) : Calls Tryz.prog 52 #[.pointer (some ⟨R.p, 0, none⟩), .int .i64 ep] w fun e w' => e = .returned (.int .i64 (stopH r)) ∧ RbAt w' R (stopP R r ep) ∧ Tn R w w' := by
  obtain ⟨w1, hw1⟩ : ∃ w1, w1 = w.setCell ⟨R.p, 7, none⟩ (.int .i64 ep) := ⟨_, rfl⟩
  have w1R : RbAt w1 R { r with ep := ep } := by
    have : w1 = w.setCells R.p 7 [.int .i64 ep] := hw1
    rw [this]
    exact h.set 7 [.int .i64 ep] (rb_epoch _ _ r _)
  have o1 : Only R.p w w1 := by rw [hw1]; exact Only.setCell _ _ _ _
  obtain ⟨w2, hw2⟩ : ∃ w2, w2 = w1.setCell ⟨R.p, 8, none⟩ (.int .i64 0) := ⟨_, rfl⟩
  have w2R : RbAt w2 R (newEp r ep) := by
    have : w2 = w1.setCells R.p 8 [.int .i64 0] := hw2
    rw [this]
    exact w1R.set 8 [.int .i64 0] (rb_last _ _ { r with ep := ep } _)
  have o2 : Only R.p w1 w2 := by rw [hw2]; exact Only.setCell _ _ _ _
  have T2 : Tn R w w2 := (Tn.only o1).trans (Tn.only o2)
  have c7 := h.c7
  have f7 := h.froz 7
  have c8 : w1.cell? ⟨R.p, 8, none⟩ = some (.int .i64 r.lt) := w1R.c8
  have f8 := w1R.froz 8
  have c9 : w2.cell? ⟨R.p, 9, none⟩ = some (.int .i64 r.mv.kd) := w2R.c9
  have c23 : w2.cell? ⟨R.p, 23, none⟩ = some (.bool r.st) := w2R.c23
  have f23 := w2R.froz 23
  have HC := moves_any w2R
  rw [show under (newEp r ep) = under r from rfl] at HC
  unfold stopH stopP
  cases hu : under r with
  | false =>
    rw [hu] at HC
    rw [if_neg (show ¬ (false = true) by decide), if_neg (show ¬ (false = true) by decide)]
    have HE : Hid (RbAt w2 R (newEp r ep) ∧ Tn R w w2) := ⟨w2R, T2⟩
    clear w1R o1 w2R o2 T2 h hu
    subst hw2
    subst hw1
    go_enter Tryz.func52, Tryz.ntmps52
    go_wp2_with (go_at_call 48; refine HC.mono ?_; rintro e wq ⟨rfl, hwq⟩; rw [hwq]; clear hwq)
    go_ret
    exact ⟨rfl, HE.out⟩
  | true =>
    rw [hu] at HC
    rw [if_pos (show true = true from rfl), if_pos (show true = true from rfl)]
    clear hu
    by_cases hc : r.mv.kd = 1 ∧ r.st = false
    · rw [if_pos hc]
      have q1 : (r.mv.kd == 1) = true := by rw [beq_iff_eq]; exact hc.1
      have q2 : r.st = false := hc.2
      rw [q2] at c23
      have HCUT := cut_any w2R g1
      have HT : Hid (Tn R w w2) := T2
      clear w1R o1 w2R o2 T2 h hc q2
      subst hw2
      subst hw1
      go_enter Tryz.func52, Tryz.ntmps52
      go_wp2_with (first | (go_at_call 48; refine HC.mono ?_; rintro e wq ⟨rfl, hwq⟩; rw [hwq]; clear hwq) | (go_at_call 73; refine HCUT.mono ?_; rintro e w3 ⟨rfl, w3R, T3⟩; have c23' := w3R.c23; have f23' := w3R.froz 23; have HE : Hid (RbAt (w3.setCell ⟨R.p, 23, none⟩ (.bool true)) R { cutP R (newEp r ep) with st := true } ∧ Tn R w (w3.setCell ⟨R.p, 23, none⟩ (.bool true))) := ⟨w3R.set 23 [.bool true] (rb_stop _ _ (cutP R (newEp r ep)) _), (HT.out.trans T3).trans (Tn.only (Only.setCell _ _ _ _))⟩; clear w3R T3))
      go_ret
      exact ⟨rfl, HE.out⟩
    · rw [if_neg hc]
      have HE : Hid (RbAt (w2.setCell ⟨R.p, 23, none⟩ (.bool true)) R { newEp r ep with st := true } ∧ Tn R w (w2.setCell ⟨R.p, 23, none⟩ (.bool true))) := ⟨w2R.set 23 [.bool true] (rb_stop _ _ (newEp r ep) _), T2.trans (Tn.only (Only.setCell _ _ _ _))⟩
      clear w1R o1 w2R o2 T2 h
      by_cases hk : r.mv.kd = 1
      · have q1 : (r.mv.kd == 1) = true := by rw [beq_iff_eq]; exact hk
        have q2 : r.st = true := by cases e : r.st; exact absurd ⟨hk, e⟩ hc; rfl
        rw [q2] at c23
        clear hc hk q2
        subst hw2
        subst hw1
        go_enter Tryz.func52, Tryz.ntmps52
        go_wp2_with (go_at_call 48; refine HC.mono ?_; rintro e wq ⟨rfl, hwq⟩; rw [hwq]; clear hwq)
        go_ret
        exact ⟨rfl, HE.out⟩
      · have q1 : (r.mv.kd == 1) = false := by rw [beq_eq_false_iff_ne]; exact hk
        clear hc
        subst hw2
        subst hw1
        go_enter Tryz.func52, Tryz.ntmps52
        go_wp2_with (go_at_call 48; refine HC.mono ?_; rintro e wq ⟨rfl, hwq⟩; rw [hwq]; clear hwq)
        go_ret
        exact ⟨rfl, HE.out⟩
end
end Go.Proofs.YtedmfhkdaifegaaGreat.Rob
