/-
  A telegram that is heard.
-/
import Derived.Test.YtedmfhkdaifegaaGreatRobCut
namespace Go.Proofs.YtedmfhkdaifegaaGreat.Rob
set_option linter.unusedVariables false
set_option linter.unusedSimpArgs false
open Go Go.RowKit Go.Shelf Go.Proofs Go.Proofs.YtedmfhkdaifegaaGreat.Lk Go.Proofs.YtedmfhkdaifegaaGreat.Plain
attribute [local go_sem] Oper.semAt_some

theorem wpList_load_w {ops : Array Oper} {rest : List Oper} {o : Oper} {a : Act} {w : World} {Q : Exit → Act → World → Prop} (hw : Region.wanted o (yielded ops a.tmps) = true) (ty : TypeId) (x : Operand) (ho : o.op = .load ty x)
    (p : Addr) (hx : a.eval x = .pointer (some p)) (cs : Array Value) (hl : (loadVar ty p).run Tryz.prog w = .ok (.agg cs) w)
    (h : wpList Tryz.prog ops Q rest (a.put o.dst (.agg cs)) w) : wpList Tryz.prog ops Q (o :: rest) a w :=
  BigFrame.wpList_want hw fun _ hK => by
    unfold Oper.wp
    rw [run_load_at ty x ho p hx cs hl]
    exact hK _ _ h
/- What Hear leaves. -/
def Heard (w : World) (R : Wh) (r : Rb) (t : Tl) (e : Ending) (w' : World) : Prop :=
  ∃ v, e = .returned (.tuple #[v, .int .i64 (hearH R r t)]) ∧ LsAt w.heap.size w' v (hearL R r t) ∧ RbAt w' R (hearR R r t) ∧ Tn R w w'
theorem heard_none {w : World} {R : Wh} {r : Rb} {t : Tl} {w' : World} {n : Int} (hL : hearL R r t = none) (hR : hearR R r t = r) (hH : hearH R r t = n) (h : Hr w R r w.heap.size t w') : Heard w R r t (.returned (.tuple #[.slice none 0 0, .int .i64 n])) w' := by
  refine ⟨_, by rw [hH], by rw [hL]; rfl, by rw [hR]; exact h.rb, Tn.below h.bel⟩
theorem heard_of {w : World} {R : Wh} {r r' : Rb} {t : Tl} {w' : World} {n : Int} {v : Value} {L : Option Tl} (hL : hearL R r t = L) (hR : hearR R r t = r') (hH : hearH R r t = n) (lv : LsAt w.heap.size w' v L) (hr : RbAt w' R r') (T : Tn R w w') : Heard w R r t (.returned (.tuple #[v, .int .i64 n])) w' :=
  ⟨_, by rw [hH], by rw [hL]; exact lv, by rw [hR]; exact hr, T⟩
theorem under_stop {R : Wh} {r : Rb} (ep : Int) (hu : under r = true) : under (stopP R r ep) = true := by
  have hl : 0 < r.lf := by unfold under at hu; simpa using hu
  unfold stopP
  rw [if_pos hu]
  split
  · show decide (0 < max ((Kin.stopT R.ku R.ka R.kv r.mv.n r.gn : Nat) : Int) 1) = true
    rw [decide_eq_true_iff]
    omega
  · show decide (0 < r.lf) = true
    rw [decide_eq_true_iff]
    exact hl
section
variable {w : World} {R : Wh} {r : Rb} (h : RbAt w R r)
include h
set_option maxRecDepth 100000 in
set_option maxHeartbeats 2000000 in
theorem hear_other (t : Tl) (h1 : t.rb ≠ r.nb) : Calls Tryz.prog 22 #[.pointer (some ⟨R.p, 0, none⟩), .agg (tlA t)] w (Heard w R r t) := by
  obtain ⟨w1, hw1⟩ : ∃ w1, w1 = w.alloc (.cells (tlA t) 46) := ⟨_, rfl⟩
  have hX1 : Hr w R r w.heap.size t w1 := Hr.make h hw1
  clear h
  have q1 : (t.rb != r.nb) = true := by simp [h1]
  have HA : Hid (hearL R r t = none ∧ hearR R r t = r ∧ hearH R r t = 0) := ⟨by unfold hearL; rw [if_pos h1], by unfold hearR; rw [if_pos h1], by unfold hearH; rw [if_pos h1]⟩
  clear h1
  go_enter Tryz.func22, Tryz.ntmps22
  go_upto_region 2 with (refine wpList_boxAt rfl 46 (.tmp 1) rfl (tlA t) rfl ?_; rw [← hw1]; clear hw1)
  refine start_held (S := Hr w R r w.heap.size t) 8 rfl (by kernel_rfl) (hX1.go (Below.refl _ _).drew) ?_
  simp only [Array.replicate_succ, Array.replicate_zero, List.push_toArray, List.nil_append, List.cons_append]
  have hX2 : Hr w R r w.heap.size t w1.drew := hX1.go (Below.refl _ _).drew
  clear hX1
  generalize w1.drew = x2 at *
  refine tk 0 hX2 rfl (v := ?v5000) ?y5000 ?r5000
  case y5000 => (intro u hu; go_simp; try rfl)
  simp only [Act.put, pA, pB, pC]
  refine tk 1 hX2 rfl (v := ?v5001) ?y5001 ?r5001
  case y5001 => (intro u hu; have zz0 := (fun u hu => tl_rb (Hr.tl hu)) u hu; go_simp; try rfl)
  simp only [Act.put, pA, pB, pC]
  refine tk 2 hX2 rfl (v := ?v5002) ?y5002 ?r5002
  case y5002 => (intro u hu; go_simp; try rfl)
  simp only [Act.put, pA, pB, pC]
  refine tk 3 hX2 rfl (v := ?v5003) ?y5003 ?r5003
  case y5003 => (intro u hu; go_simp; try rfl)
  simp only [Act.put, pA, pB, pC]
  refine tk 4 hX2 rfl (v := ?v5004) ?y5004 ?r5004
  case y5004 => (intro u hu; go_simp; try rfl)
  simp only [Act.put, pA, pB, pC]
  refine tk 5 hX2 rfl (v := ?v5005) ?y5005 ?r5005
  case y5005 => (intro u hu; have zz0 := (fun u hu => RbAt.c2 (Hr.rb hu)) u hu; go_simp; try rfl)
  simp only [Act.put, pA, pB, pC]
  refine tk 6 hX2 rfl (v := ?v5006) ?y5006 ?r5006
  case y5006 => (intro u hu; go_simp; try rfl)
  simp only [Act.put, pA, pB, pC]
  refine tk 7 hX2 rfl (v := ?v5007) ?y5007 ?r5007
  case y5007 => (intro u hu; go_simp; try rfl)
  simp only [Act.put, pA, pB, pC]
  refine done_held (by kernel_rfl) ?_ _
  go_wp2
  go_ret2
  exact heard_none HA.out.1 HA.out.2.1 HA.out.2.2 hX2
set_option maxRecDepth 100000 in
set_option maxHeartbeats 2000000 in
theorem hear_old (t : Tl) (h1 : t.rb = r.nb) (h2 : t.kd = 1) (h3 : t.ep < r.ep) : Calls Tryz.prog 22 #[.pointer (some ⟨R.p, 0, none⟩), .agg (tlA t)] w (Heard w R r t) := by
  obtain ⟨w1, hw1⟩ : ∃ w1, w1 = w.alloc (.cells (tlA t) 46) := ⟨_, rfl⟩
  have hX1 : Hr w R r w.heap.size t w1 := Hr.make h hw1
  clear h
  have q1 : (t.rb != r.nb) = false := by simp [h1]
  have q2 : (t.kd == 1) = true := by rw [beq_iff_eq]; exact h2
  have HA : Hid (hearL R r t = none ∧ hearR R r t = r ∧ hearH R r t = 2) := by
    have n1 : ¬ t.rb ≠ r.nb := fun f => f h1
    exact ⟨by unfold hearL; rw [if_neg n1, if_pos ⟨h2, h3⟩], by unfold hearR; rw [if_neg n1, if_pos ⟨h2, h3⟩], by unfold hearH; rw [if_neg n1, if_pos ⟨h2, h3⟩]⟩
  have q3 : decide (t.ep < r.ep) = true := decide_eq_true h3
  clear h1 h2 h3
  go_enter Tryz.func22, Tryz.ntmps22
  go_upto_region 2 with (refine wpList_boxAt rfl 46 (.tmp 1) rfl (tlA t) rfl ?_; rw [← hw1]; clear hw1)
  refine start_held (S := Hr w R r w.heap.size t) 8 rfl (by kernel_rfl) (hX1.go (Below.refl _ _).drew) ?_
  simp only [Array.replicate_succ, Array.replicate_zero, List.push_toArray, List.nil_append, List.cons_append]
  have hX2 : Hr w R r w.heap.size t w1.drew := hX1.go (Below.refl _ _).drew
  clear hX1
  generalize w1.drew = x2 at *
  refine tk 0 hX2 rfl (v := ?v5021) ?y5021 ?r5021
  case y5021 => (intro u hu; go_simp; try rfl)
  simp only [Act.put, pA, pB, pC]
  refine tk 1 hX2 rfl (v := ?v5022) ?y5022 ?r5022
  case y5022 => (intro u hu; have zz0 := (fun u hu => tl_rb (Hr.tl hu)) u hu; go_simp; try rfl)
  simp only [Act.put, pA, pB, pC]
  refine tk 2 hX2 rfl (v := ?v5023) ?y5023 ?r5023
  case y5023 => (intro u hu; go_simp; try rfl)
  simp only [Act.put, pA, pB, pC]
  refine tk 3 hX2 rfl (v := ?v5024) ?y5024 ?r5024
  case y5024 => (intro u hu; go_simp; try rfl)
  simp only [Act.put, pA, pB, pC]
  refine tk 4 hX2 rfl (v := ?v5025) ?y5025 ?r5025
  case y5025 => (intro u hu; go_simp; try rfl)
  simp only [Act.put, pA, pB, pC]
  refine tk 5 hX2 rfl (v := ?v5026) ?y5026 ?r5026
  case y5026 => (intro u hu; have zz0 := (fun u hu => RbAt.c2 (Hr.rb hu)) u hu; go_simp; try rfl)
  simp only [Act.put, pA, pB, pC]
  refine tk 6 hX2 rfl (v := ?v5027) ?y5027 ?r5027
  case y5027 => (intro u hu; go_simp; try rfl)
  simp only [Act.put, pA, pB, pC]
  refine tk 7 hX2 rfl (v := ?v5028) ?y5028 ?r5028
  case y5028 => (intro u hu; go_simp; try rfl)
  simp only [Act.put, pA, pB, pC]
  refine done_held (by kernel_rfl) ?_ _
  go_upto_region 3 with fail
  refine start_held (S := Hr w R r w.heap.size t) 13 rfl (by kernel_rfl) (hX2.go (Below.refl _ _).drew) ?_
  simp only [Array.replicate_succ, Array.replicate_zero, List.push_toArray, List.nil_append, List.cons_append]
  have hX3 : Hr w R r w.heap.size t x2.drew := hX2.go (Below.refl _ _).drew
  clear hX2
  generalize x2.drew = x3 at *
  refine tk 0 hX3 rfl (v := ?v5008) ?y5008 ?r5008
  case y5008 => (intro u hu; go_simp; try rfl)
  simp only [Act.put, pA, pB, pC]
  refine tk 1 hX3 rfl (v := ?v5009) ?y5009 ?r5009
  case y5009 => (intro u hu; have zz0 := (fun u hu => tl_kd (Hr.tl hu)) u hu; go_simp; try rfl)
  simp only [Act.put, pA, pB, pC]
  refine tk 2 hX3 rfl (v := ?v5010) ?y5010 ?r5010
  case y5010 => (intro u hu; go_simp; try rfl)
  simp only [Act.put, pA, pB, pC]
  refine tk 3 hX3 rfl (v := ?v5011) ?y5011 ?r5011
  case y5011 => (intro u hu; go_simp; try rfl)
  simp only [Act.put, pA, pB, pC]
  refine tk 4 hX3 rfl (v := ?v5012) ?y5012 ?r5012
  case y5012 => (intro u hu; go_simp; try rfl)
  simp only [Act.put, pA, pB, pC]
  refine tk 5 hX3 rfl (v := ?v5013) ?y5013 ?r5013
  case y5013 => (intro u hu; have zz0 := (fun u hu => tl_ep (Hr.tl hu)) u hu; go_simp; try rfl)
  simp only [Act.put, pA, pB, pC]
  refine tk 6 hX3 rfl (v := ?v5014) ?y5014 ?r5014
  case y5014 => (intro u hu; go_simp; try rfl)
  simp only [Act.put, pA, pB, pC]
  refine tk 7 hX3 rfl (v := ?v5015) ?y5015 ?r5015
  case y5015 => (intro u hu; go_simp; try rfl)
  simp only [Act.put, pA, pB, pC]
  refine tk 8 hX3 rfl (v := ?v5016) ?y5016 ?r5016
  case y5016 => (intro u hu; go_simp; try rfl)
  simp only [Act.put, pA, pB, pC]
  refine tk 9 hX3 rfl (v := ?v5017) ?y5017 ?r5017
  case y5017 => (intro u hu; have zz0 := (fun u hu => RbAt.c7 (Hr.rb hu)) u hu; go_simp; try rfl)
  simp only [Act.put, pA, pB, pC]
  refine tk 10 hX3 rfl (v := ?v5018) ?y5018 ?r5018
  case y5018 => (intro u hu; go_simp; try rfl)
  simp only [Act.put, pA, pB, pC]
  refine tk 11 hX3 rfl (v := ?v5019) ?y5019 ?r5019
  case y5019 => (intro u hu; go_simp; try rfl)
  simp only [Act.put, pA, pB, pC]
  refine tk 12 hX3 rfl (v := ?v5020) ?y5020 ?r5020
  case y5020 => (intro u hu; go_simp; try rfl)
  simp only [Act.put, pA, pB, pC]
  refine done_held (by kernel_rfl) ?_ _
  go_wp2
  go_ret2
  exact heard_none HA.out.1 HA.out.2.1 HA.out.2.2 hX3
set_option maxRecDepth 100000 in
set_option maxHeartbeats 2000000 in
theorem hear_begs (t : Tl) (l0 : 0 ≤ r.lt) (l1 : r.lt ≤ 4000000000000000000) (h1 : t.rb = r.nb) (h2 : t.kd = 1) (h3 : ¬ t.ep < r.ep) (hb : begs R r t = true) : Calls Tryz.prog 22 #[.pointer (some ⟨R.p, 0, none⟩), .agg (tlA t)] w (Heard w R r t) := by
  obtain ⟨w1, hw1⟩ : ∃ w1, w1 = w.alloc (.cells (tlA t) 46) := ⟨_, rfl⟩
  have hX1 : Hr w R r w.heap.size t w1 := Hr.make h hw1
  clear h
  have q1 : (t.rb != r.nb) = false := by simp [h1]
  have q2 : (t.kd == 1) = true := by rw [beq_iff_eq]; exact h2
  have HA : Hid (hearL R r t = none ∧ hearR R r t = begun r t ∧ hearH R r t = 1) := by
    have n1 : ¬ t.rb ≠ r.nb := fun f => f h1
    have n2 : ¬ (t.kd = 1 ∧ t.ep < r.ep) := fun f => h3 f.2
    exact ⟨by unfold hearL; rw [if_neg n1, if_neg n2, if_pos ⟨h2, hb⟩], by unfold hearR; rw [if_neg n1, if_neg n2, if_pos ⟨h2, hb⟩], by unfold hearH; rw [if_neg n1, if_neg n2, if_pos ⟨h2, hb⟩]⟩
  have q3 : decide (t.ep < r.ep) = false := decide_eq_false h3
  have HMY : Hid (∀ u, RbAt u R r → Calls Tryz.prog 50 #[.pointer (some ⟨R.p, 0, none⟩), .agg (tlA t)] u fun e w' => e = .returned (.bool true) ∧ Below u.heap.size u w') := fun u hu => by have := mayBegin_any hu t l0 l1; rw [hb] at this; exact this
  clear h1 h2 h3 hb
  go_enter Tryz.func22, Tryz.ntmps22
  go_upto_region 2 with (refine wpList_boxAt rfl 46 (.tmp 1) rfl (tlA t) rfl ?_; rw [← hw1]; clear hw1)
  refine start_held (S := Hr w R r w.heap.size t) 8 rfl (by kernel_rfl) (hX1.go (Below.refl _ _).drew) ?_
  simp only [Array.replicate_succ, Array.replicate_zero, List.push_toArray, List.nil_append, List.cons_append]
  have hX2 : Hr w R r w.heap.size t w1.drew := hX1.go (Below.refl _ _).drew
  clear hX1
  generalize w1.drew = x2 at *
  refine tk 0 hX2 rfl (v := ?v5042) ?y5042 ?r5042
  case y5042 => (intro u hu; go_simp; try rfl)
  simp only [Act.put, pA, pB, pC]
  refine tk 1 hX2 rfl (v := ?v5043) ?y5043 ?r5043
  case y5043 => (intro u hu; have zz0 := (fun u hu => tl_rb (Hr.tl hu)) u hu; go_simp; try rfl)
  simp only [Act.put, pA, pB, pC]
  refine tk 2 hX2 rfl (v := ?v5044) ?y5044 ?r5044
  case y5044 => (intro u hu; go_simp; try rfl)
  simp only [Act.put, pA, pB, pC]
  refine tk 3 hX2 rfl (v := ?v5045) ?y5045 ?r5045
  case y5045 => (intro u hu; go_simp; try rfl)
  simp only [Act.put, pA, pB, pC]
  refine tk 4 hX2 rfl (v := ?v5046) ?y5046 ?r5046
  case y5046 => (intro u hu; go_simp; try rfl)
  simp only [Act.put, pA, pB, pC]
  refine tk 5 hX2 rfl (v := ?v5047) ?y5047 ?r5047
  case y5047 => (intro u hu; have zz0 := (fun u hu => RbAt.c2 (Hr.rb hu)) u hu; go_simp; try rfl)
  simp only [Act.put, pA, pB, pC]
  refine tk 6 hX2 rfl (v := ?v5048) ?y5048 ?r5048
  case y5048 => (intro u hu; go_simp; try rfl)
  simp only [Act.put, pA, pB, pC]
  refine tk 7 hX2 rfl (v := ?v5049) ?y5049 ?r5049
  case y5049 => (intro u hu; go_simp; try rfl)
  simp only [Act.put, pA, pB, pC]
  refine done_held (by kernel_rfl) ?_ _
  go_upto_region 3 with fail
  refine start_held (S := Hr w R r w.heap.size t) 13 rfl (by kernel_rfl) (hX2.go (Below.refl _ _).drew) ?_
  simp only [Array.replicate_succ, Array.replicate_zero, List.push_toArray, List.nil_append, List.cons_append]
  have hX3 : Hr w R r w.heap.size t x2.drew := hX2.go (Below.refl _ _).drew
  clear hX2
  generalize x2.drew = x3 at *
  refine tk 0 hX3 rfl (v := ?v5029) ?y5029 ?r5029
  case y5029 => (intro u hu; go_simp; try rfl)
  simp only [Act.put, pA, pB, pC]
  refine tk 1 hX3 rfl (v := ?v5030) ?y5030 ?r5030
  case y5030 => (intro u hu; have zz0 := (fun u hu => tl_kd (Hr.tl hu)) u hu; go_simp; try rfl)
  simp only [Act.put, pA, pB, pC]
  refine tk 2 hX3 rfl (v := ?v5031) ?y5031 ?r5031
  case y5031 => (intro u hu; go_simp; try rfl)
  simp only [Act.put, pA, pB, pC]
  refine tk 3 hX3 rfl (v := ?v5032) ?y5032 ?r5032
  case y5032 => (intro u hu; go_simp; try rfl)
  simp only [Act.put, pA, pB, pC]
  refine tk 4 hX3 rfl (v := ?v5033) ?y5033 ?r5033
  case y5033 => (intro u hu; go_simp; try rfl)
  simp only [Act.put, pA, pB, pC]
  refine tk 5 hX3 rfl (v := ?v5034) ?y5034 ?r5034
  case y5034 => (intro u hu; have zz0 := (fun u hu => tl_ep (Hr.tl hu)) u hu; go_simp; try rfl)
  simp only [Act.put, pA, pB, pC]
  refine tk 6 hX3 rfl (v := ?v5035) ?y5035 ?r5035
  case y5035 => (intro u hu; go_simp; try rfl)
  simp only [Act.put, pA, pB, pC]
  refine tk 7 hX3 rfl (v := ?v5036) ?y5036 ?r5036
  case y5036 => (intro u hu; go_simp; try rfl)
  simp only [Act.put, pA, pB, pC]
  refine tk 8 hX3 rfl (v := ?v5037) ?y5037 ?r5037
  case y5037 => (intro u hu; go_simp; try rfl)
  simp only [Act.put, pA, pB, pC]
  refine tk 9 hX3 rfl (v := ?v5038) ?y5038 ?r5038
  case y5038 => (intro u hu; have zz0 := (fun u hu => RbAt.c7 (Hr.rb hu)) u hu; go_simp; try rfl)
  simp only [Act.put, pA, pB, pC]
  refine tk 10 hX3 rfl (v := ?v5039) ?y5039 ?r5039
  case y5039 => (intro u hu; go_simp; try rfl)
  simp only [Act.put, pA, pB, pC]
  refine tk 11 hX3 rfl (v := ?v5040) ?y5040 ?r5040
  case y5040 => (intro u hu; go_simp; try rfl)
  simp only [Act.put, pA, pB, pC]
  refine tk 12 hX3 rfl (v := ?v5041) ?y5041 ?r5041
  case y5041 => (intro u hu; go_simp; try rfl)
  simp only [Act.put, pA, pB, pC]
  refine done_held (by kernel_rfl) ?_ _
  have k0 := tl_kd hX3.tl
  have HX : Hid (Hr w R r w.heap.size t x3) := hX3
  have HMB : Hid _ := HMY.out x3 hX3.rb
  have HMB : Hid (Calls Tryz.prog 50 #[.pointer (some ⟨R.p, 0, none⟩), .agg (tlA t)] x3 fun e w' => e = .returned (.bool true) ∧ Below x3.heap.size x3 w') := HMB
  clear hX3
  go_wp2_with (first
    | (refine wpList_load_w (by kernel_rfl) 46 (.tmp 3) rfl ⟨w.heap.size, 0, none⟩ rfl (tlA t) (load_tele HX.out.tl) ?_)
    | (go_at_call 50; refine HMB.out.mono ?_; rintro e wm ⟨rfl, bm⟩; have hXm := HX.out.go bm)
    | (have hXm' := hXm; refine wpList_load_at rfl 44 (.tmp 55) rfl ⟨w.heap.size, 4, none⟩ rfl (mvA (tmv t)) (tl_move hXm'.tl) ?_)
    | (have hXm' := hXm; go_at_call 51; refine (begin_any hXm'.rb t).mono ?_; rintro e wb ⟨rfl, hRb, Tb⟩))
  go_ret2
  exact heard_of HA.out.1 HA.out.2.1 HA.out.2.2 (show LsAt _ _ (.slice none 0 0) none from rfl) hRb ((Tn.below hXm.bel).trans Tb)
set_option maxRecDepth 100000 in
set_option maxHeartbeats 2000000 in
theorem hear_go (t : Tl) (l0 : 0 ≤ r.lt) (l1 : r.lt ≤ 4000000000000000000) (h1 : t.rb = r.nb) (h2 : t.kd = 1) (h3 : ¬ t.ep < r.ep) (hb : begs R r t = false) : Calls Tryz.prog 22 #[.pointer (some ⟨R.p, 0, none⟩), .agg (tlA t)] w (Heard w R r t) := by
  obtain ⟨w1, hw1⟩ : ∃ w1, w1 = w.alloc (.cells (tlA t) 46) := ⟨_, rfl⟩
  have hX1 : Hr w R r w.heap.size t w1 := Hr.make h hw1
  clear h
  have q1 : (t.rb != r.nb) = false := by simp [h1]
  have q2 : (t.kd == 1) = true := by rw [beq_iff_eq]; exact h2
  have q2b : (t.kd == 2) = false := by rw [beq_eq_false_iff_ne]; omega
  have HA : Hid (hearL R r t = (if (lastP r t && !under r) = true then some (tellP r) else none) ∧ hearR R r t = r ∧ hearH R r t = 0) := by
    have n1 : ¬ t.rb ≠ r.nb := fun f => f h1
    have n2 : ¬ (t.kd = 1 ∧ t.ep < r.ep) := fun f => h3 f.2
    have n3 : ¬ (t.kd = 1 ∧ begs R r t = true) := fun f => by rw [hb] at f; cases f.2
    have n4 : ¬ (t.kd = 2 ∧ r.ep < t.ep) := fun f => by omega
    exact ⟨by unfold hearL; rw [if_neg n1, if_neg n2, if_neg n3, if_neg n4], by unfold hearR; rw [if_neg n1, if_neg n2, if_neg n3, if_neg n4], by unfold hearH; rw [if_neg n1, if_neg n2, if_neg n3, if_neg n4]⟩
  have q3 : decide (t.ep < r.ep) = false := decide_eq_false h3
  have HMY : Hid (∀ u, RbAt u R r → Calls Tryz.prog 50 #[.pointer (some ⟨R.p, 0, none⟩), .agg (tlA t)] u fun e w' => e = .returned (.bool false) ∧ Below u.heap.size u w') := fun u hu => by have := mayBegin_any hu t l0 l1; rw [hb] at this; exact this
  clear h1 h2 h3 hb
  go_enter Tryz.func22, Tryz.ntmps22
  go_upto_region 2 with (refine wpList_boxAt rfl 46 (.tmp 1) rfl (tlA t) rfl ?_; rw [← hw1]; clear hw1)
  refine start_held (S := Hr w R r w.heap.size t) 8 rfl (by kernel_rfl) (hX1.go (Below.refl _ _).drew) ?_
  simp only [Array.replicate_succ, Array.replicate_zero, List.push_toArray, List.nil_append, List.cons_append]
  have hX2 : Hr w R r w.heap.size t w1.drew := hX1.go (Below.refl _ _).drew
  clear hX1
  generalize w1.drew = x2 at *
  refine tk 0 hX2 rfl (v := ?v5069) ?y5069 ?r5069
  case y5069 => (intro u hu; go_simp; try rfl)
  simp only [Act.put, pA, pB, pC]
  refine tk 1 hX2 rfl (v := ?v5070) ?y5070 ?r5070
  case y5070 => (intro u hu; have zz0 := (fun u hu => tl_rb (Hr.tl hu)) u hu; go_simp; try rfl)
  simp only [Act.put, pA, pB, pC]
  refine tk 2 hX2 rfl (v := ?v5071) ?y5071 ?r5071
  case y5071 => (intro u hu; go_simp; try rfl)
  simp only [Act.put, pA, pB, pC]
  refine tk 3 hX2 rfl (v := ?v5072) ?y5072 ?r5072
  case y5072 => (intro u hu; go_simp; try rfl)
  simp only [Act.put, pA, pB, pC]
  refine tk 4 hX2 rfl (v := ?v5073) ?y5073 ?r5073
  case y5073 => (intro u hu; go_simp; try rfl)
  simp only [Act.put, pA, pB, pC]
  refine tk 5 hX2 rfl (v := ?v5074) ?y5074 ?r5074
  case y5074 => (intro u hu; have zz0 := (fun u hu => RbAt.c2 (Hr.rb hu)) u hu; go_simp; try rfl)
  simp only [Act.put, pA, pB, pC]
  refine tk 6 hX2 rfl (v := ?v5075) ?y5075 ?r5075
  case y5075 => (intro u hu; go_simp; try rfl)
  simp only [Act.put, pA, pB, pC]
  refine tk 7 hX2 rfl (v := ?v5076) ?y5076 ?r5076
  case y5076 => (intro u hu; go_simp; try rfl)
  simp only [Act.put, pA, pB, pC]
  refine done_held (by kernel_rfl) ?_ _
  go_upto_region 3 with fail
  refine start_held (S := Hr w R r w.heap.size t) 13 rfl (by kernel_rfl) (hX2.go (Below.refl _ _).drew) ?_
  simp only [Array.replicate_succ, Array.replicate_zero, List.push_toArray, List.nil_append, List.cons_append]
  have hX3 : Hr w R r w.heap.size t x2.drew := hX2.go (Below.refl _ _).drew
  clear hX2
  generalize x2.drew = x3 at *
  refine tk 0 hX3 rfl (v := ?v5056) ?y5056 ?r5056
  case y5056 => (intro u hu; go_simp; try rfl)
  simp only [Act.put, pA, pB, pC]
  refine tk 1 hX3 rfl (v := ?v5057) ?y5057 ?r5057
  case y5057 => (intro u hu; have zz0 := (fun u hu => tl_kd (Hr.tl hu)) u hu; go_simp; try rfl)
  simp only [Act.put, pA, pB, pC]
  refine tk 2 hX3 rfl (v := ?v5058) ?y5058 ?r5058
  case y5058 => (intro u hu; go_simp; try rfl)
  simp only [Act.put, pA, pB, pC]
  refine tk 3 hX3 rfl (v := ?v5059) ?y5059 ?r5059
  case y5059 => (intro u hu; go_simp; try rfl)
  simp only [Act.put, pA, pB, pC]
  refine tk 4 hX3 rfl (v := ?v5060) ?y5060 ?r5060
  case y5060 => (intro u hu; go_simp; try rfl)
  simp only [Act.put, pA, pB, pC]
  refine tk 5 hX3 rfl (v := ?v5061) ?y5061 ?r5061
  case y5061 => (intro u hu; have zz0 := (fun u hu => tl_ep (Hr.tl hu)) u hu; go_simp; try rfl)
  simp only [Act.put, pA, pB, pC]
  refine tk 6 hX3 rfl (v := ?v5062) ?y5062 ?r5062
  case y5062 => (intro u hu; go_simp; try rfl)
  simp only [Act.put, pA, pB, pC]
  refine tk 7 hX3 rfl (v := ?v5063) ?y5063 ?r5063
  case y5063 => (intro u hu; go_simp; try rfl)
  simp only [Act.put, pA, pB, pC]
  refine tk 8 hX3 rfl (v := ?v5064) ?y5064 ?r5064
  case y5064 => (intro u hu; go_simp; try rfl)
  simp only [Act.put, pA, pB, pC]
  refine tk 9 hX3 rfl (v := ?v5065) ?y5065 ?r5065
  case y5065 => (intro u hu; have zz0 := (fun u hu => RbAt.c7 (Hr.rb hu)) u hu; go_simp; try rfl)
  simp only [Act.put, pA, pB, pC]
  refine tk 10 hX3 rfl (v := ?v5066) ?y5066 ?r5066
  case y5066 => (intro u hu; go_simp; try rfl)
  simp only [Act.put, pA, pB, pC]
  refine tk 11 hX3 rfl (v := ?v5067) ?y5067 ?r5067
  case y5067 => (intro u hu; go_simp; try rfl)
  simp only [Act.put, pA, pB, pC]
  refine tk 12 hX3 rfl (v := ?v5068) ?y5068 ?r5068
  case y5068 => (intro u hu; go_simp; try rfl)
  simp only [Act.put, pA, pB, pC]
  refine done_held (by kernel_rfl) ?_ _
  have k0 := tl_kd hX3.tl
  have HX : Hid (Hr w R r w.heap.size t x3) := hX3
  have HMB : Hid (Calls Tryz.prog 50 #[.pointer (some ⟨R.p, 0, none⟩), .agg (tlA t)] x3 fun e w' => e = .returned (.bool false) ∧ Below x3.heap.size x3 w') := HMY.out x3 hX3.rb
  clear hX3
  go_upto_region 5 with (first
    | (refine wpList_load_w (by kernel_rfl) 46 (.tmp 3) rfl ⟨w.heap.size, 0, none⟩ rfl (tlA t) (load_tele HX.out.tl) ?_)
    | (go_at_call 50; refine HMB.out.mono ?_; rintro e x4 ⟨rfl, bm⟩; have hX4 := HX.out.go bm))
  clear k0
  refine start_held (S := Hr w R r w.heap.size t) 13 rfl (by kernel_rfl) (hX4.go (Below.refl _ _).drew) ?_
  simp only [Array.replicate_succ, Array.replicate_zero, List.push_toArray, List.nil_append, List.cons_append]
  have hX5 : Hr w R r w.heap.size t x4.drew := hX4.go (Below.refl _ _).drew
  clear hX4
  generalize x4.drew = x5 at *
  refine tk 0 hX5 rfl (v := ?v5050) ?y5050 ?r5050
  case y5050 => (intro u hu; go_simp; try rfl)
  simp only [Act.put, pA, pB, pC]
  refine tk 1 hX5 rfl (v := ?v5051) ?y5051 ?r5051
  case y5051 => (intro u hu; have zz0 := (fun u hu => tl_kd (Hr.tl hu)) u hu; go_simp; try rfl)
  simp only [Act.put, pA, pB, pC]
  refine tk 2 hX5 rfl (v := ?v5052) ?y5052 ?r5052
  case y5052 => (intro u hu; go_simp; try rfl)
  simp only [Act.put, pA, pB, pC]
  refine tk 3 hX5 rfl (v := ?v5053) ?y5053 ?r5053
  case y5053 => (intro u hu; go_simp; try rfl)
  simp only [Act.put, pA, pB, pC]
  refine skip_held 4 hX5 rfl (by kernel_rfl) (by kernel_rfl) (by kernel_rfl) (fun _ _ _ h => h) (by kernel_rfl) ?_
  simp only [Act.put, pA, pB, pC]
  refine skip_held 5 hX5 rfl (by kernel_rfl) (by kernel_rfl) (by kernel_rfl) (fun _ _ _ h => h) (by kernel_rfl) ?_
  simp only [Act.put, pA, pB, pC]
  refine skip_held 6 hX5 rfl (by kernel_rfl) (by kernel_rfl) (by kernel_rfl) (fun _ _ _ h => h) (by kernel_rfl) ?_
  simp only [Act.put, pA, pB, pC]
  refine skip_held 7 hX5 rfl (by kernel_rfl) (by kernel_rfl) (by kernel_rfl) (fun _ _ _ h => h) (by kernel_rfl) ?_
  simp only [Act.put, pA, pB, pC]
  refine skip_held 8 hX5 rfl (by kernel_rfl) (by kernel_rfl) (by kernel_rfl) (fun _ _ _ h => h) (by kernel_rfl) ?_
  simp only [Act.put, pA, pB, pC]
  refine skip_held 9 hX5 rfl (by kernel_rfl) (by kernel_rfl) (by kernel_rfl) (fun _ _ _ h => h) (by kernel_rfl) ?_
  simp only [Act.put, pA, pB, pC]
  refine skip_held 10 hX5 rfl (by kernel_rfl) (by kernel_rfl) (by kernel_rfl) (fun _ _ _ h => h) (by kernel_rfl) ?_
  simp only [Act.put, pA, pB, pC]
  refine tk 11 hX5 rfl (v := ?v5054) ?y5054 ?r5054
  case y5054 => (intro u hu; go_simp; try rfl)
  simp only [Act.put, pA, pB, pC]
  refine tk 12 hX5 rfl (v := ?v5055) ?y5055 ?r5055
  case y5055 => (intro u hu; go_simp; try rfl)
  simp only [Act.put, pA, pB, pC]
  refine done_held (by kernel_rfl) ?_ _
  have HY : Hid (Hr w R r w.heap.size t x5) := hX5
  clear hX5
  cases hl : lastP r t with
  | false =>
    have HB : Hid (lastP r t = false) := hl
    go_wp2_with (first
      | (refine wpList_load_at rfl 46 (.tmp 3) rfl ⟨w.heap.size, 0, none⟩ rfl (tlA t) (load_tele HY.out.tl) ?_)
      | (go_at_call 53; refine (isLast_any HY.out.rb t).mono ?_; rintro e wl ⟨rfl, bl⟩; have hXl := HY.out.go bl; rw [HB.out]))
    go_ret2
    exact heard_none ((HA.out.1).trans (by rw [hl]; rfl)) HA.out.2.1 HA.out.2.2 hXl
  | true =>
    have HB : Hid (lastP r t = true) := hl
    cases hu : under r with
    | true =>
      go_wp2_with (first
        | (refine wpList_load_at rfl 46 (.tmp 3) rfl ⟨w.heap.size, 0, none⟩ rfl (tlA t) (load_tele HY.out.tl) ?_)
        | (go_at_call 53; refine (isLast_any HY.out.rb t).mono ?_; rintro e wl ⟨rfl, bl⟩; have hXl := HY.out.go bl; have HC := moves_any hXl.rb; rw [hu] at HC; rw [HB.out])
        | (go_at_call 48; refine HC.mono ?_; rintro e wq ⟨rfl, hwq⟩; rw [hwq]; clear hwq))
      go_ret2
      exact heard_none ((HA.out.1).trans (by rw [hl, hu]; rfl)) HA.out.2.1 HA.out.2.2 hXl
    | false =>
      go_wp2_with (first
        | (refine wpList_load_at rfl 46 (.tmp 3) rfl ⟨w.heap.size, 0, none⟩ rfl (tlA t) (load_tele HY.out.tl) ?_)
        | (go_at_call 53; refine (isLast_any HY.out.rb t).mono ?_; rintro e wl ⟨rfl, bl⟩; have hXl := HY.out.go bl; have HC := moves_any hXl.rb; rw [hu] at HC; have HTE := tell_any hXl.rb; rw [HB.out])
        | (go_at_call 48; refine HC.mono ?_; rintro e wq ⟨rfl, hwq⟩; rw [hwq]; clear hwq)
        | (go_at_call 26; refine HTE.mono ?_; rintro e wt ⟨v, rfl, lv, bt⟩))
      go_ret2
      exact heard_of ((HA.out.1).trans (by rw [hl, hu]; rfl)) HA.out.2.1 HA.out.2.2 (lv.mono hXl.bel.size) (hXl.rb.go bt) ((Tn.below hXl.bel).trans (Tn.below bt))
set_option maxRecDepth 100000 in
set_option maxHeartbeats 2000000 in
theorem hear_stop (t : Tl) (e0 : 0 ≤ r.ep) (g1 : r.gn ≤ 9223372036854775807) (h1 : t.rb = r.nb) (h2 : t.kd = 2) (h3 : r.ep < t.ep) : Calls Tryz.prog 22 #[.pointer (some ⟨R.p, 0, none⟩), .agg (tlA t)] w (Heard w R r t) := by
  obtain ⟨w1, hw1⟩ : ∃ w1, w1 = w.alloc (.cells (tlA t) 46) := ⟨_, rfl⟩
  have hX1 : Hr w R r w.heap.size t w1 := Hr.make h hw1
  clear h
  have q1 : (t.rb != r.nb) = false := by simp [h1]
  have q2 : (t.kd == 1) = false := by rw [beq_eq_false_iff_ne]; omega
  have q2b : (t.kd == 2) = true := by rw [beq_iff_eq]; exact h2
  have HA : Hid (hearL R r t = (if under r then none else some (tellP (newEp r t.ep))) ∧ hearR R r t = stopP R r t.ep ∧ hearH R r t = stopH r) := by
    have n1 : ¬ t.rb ≠ r.nb := fun f => f h1
    have n2 : ¬ (t.kd = 1 ∧ t.ep < r.ep) := fun f => by omega
    have n3 : ¬ (t.kd = 1 ∧ begs R r t = true) := fun f => by omega
    exact ⟨by unfold hearL; rw [if_neg n1, if_neg n2, if_neg n3, if_pos ⟨h2, h3⟩], by unfold hearR; rw [if_neg n1, if_neg n2, if_neg n3, if_pos ⟨h2, h3⟩], by unfold hearH; rw [if_neg n1, if_neg n2, if_neg n3, if_pos ⟨h2, h3⟩]⟩
  have q3 : decide (r.ep < t.ep) = true := decide_eq_true h3
  have HG : Hid (r.gn ≤ 9223372036854775807) := g1
  clear h1 h2 h3 g1
  go_enter Tryz.func22, Tryz.ntmps22
  go_upto_region 2 with (refine wpList_boxAt rfl 46 (.tmp 1) rfl (tlA t) rfl ?_; rw [← hw1]; clear hw1)
  refine start_held (S := Hr w R r w.heap.size t) 8 rfl (by kernel_rfl) (hX1.go (Below.refl _ _).drew) ?_
  simp only [Array.replicate_succ, Array.replicate_zero, List.push_toArray, List.nil_append, List.cons_append]
  have hX2 : Hr w R r w.heap.size t w1.drew := hX1.go (Below.refl _ _).drew
  clear hX1
  generalize w1.drew = x2 at *
  refine tk 0 hX2 rfl (v := ?v5096) ?y5096 ?r5096
  case y5096 => (intro u hu; go_simp; try rfl)
  simp only [Act.put, pA, pB, pC]
  refine tk 1 hX2 rfl (v := ?v5097) ?y5097 ?r5097
  case y5097 => (intro u hu; have zz0 := (fun u hu => tl_rb (Hr.tl hu)) u hu; go_simp; try rfl)
  simp only [Act.put, pA, pB, pC]
  refine tk 2 hX2 rfl (v := ?v5098) ?y5098 ?r5098
  case y5098 => (intro u hu; go_simp; try rfl)
  simp only [Act.put, pA, pB, pC]
  refine tk 3 hX2 rfl (v := ?v5099) ?y5099 ?r5099
  case y5099 => (intro u hu; go_simp; try rfl)
  simp only [Act.put, pA, pB, pC]
  refine tk 4 hX2 rfl (v := ?v5100) ?y5100 ?r5100
  case y5100 => (intro u hu; go_simp; try rfl)
  simp only [Act.put, pA, pB, pC]
  refine tk 5 hX2 rfl (v := ?v5101) ?y5101 ?r5101
  case y5101 => (intro u hu; have zz0 := (fun u hu => RbAt.c2 (Hr.rb hu)) u hu; go_simp; try rfl)
  simp only [Act.put, pA, pB, pC]
  refine tk 6 hX2 rfl (v := ?v5102) ?y5102 ?r5102
  case y5102 => (intro u hu; go_simp; try rfl)
  simp only [Act.put, pA, pB, pC]
  refine tk 7 hX2 rfl (v := ?v5103) ?y5103 ?r5103
  case y5103 => (intro u hu; go_simp; try rfl)
  simp only [Act.put, pA, pB, pC]
  refine done_held (by kernel_rfl) ?_ _
  go_upto_region 3 with fail
  refine start_held (S := Hr w R r w.heap.size t) 13 rfl (by kernel_rfl) (hX2.go (Below.refl _ _).drew) ?_
  simp only [Array.replicate_succ, Array.replicate_zero, List.push_toArray, List.nil_append, List.cons_append]
  have hX3 : Hr w R r w.heap.size t x2.drew := hX2.go (Below.refl _ _).drew
  clear hX2
  generalize x2.drew = x3 at *
  refine tk 0 hX3 rfl (v := ?v5090) ?y5090 ?r5090
  case y5090 => (intro u hu; go_simp; try rfl)
  simp only [Act.put, pA, pB, pC]
  refine tk 1 hX3 rfl (v := ?v5091) ?y5091 ?r5091
  case y5091 => (intro u hu; have zz0 := (fun u hu => tl_kd (Hr.tl hu)) u hu; go_simp; try rfl)
  simp only [Act.put, pA, pB, pC]
  refine tk 2 hX3 rfl (v := ?v5092) ?y5092 ?r5092
  case y5092 => (intro u hu; go_simp; try rfl)
  simp only [Act.put, pA, pB, pC]
  refine tk 3 hX3 rfl (v := ?v5093) ?y5093 ?r5093
  case y5093 => (intro u hu; go_simp; try rfl)
  simp only [Act.put, pA, pB, pC]
  refine skip_held 4 hX3 rfl (by kernel_rfl) (by kernel_rfl) (by kernel_rfl) (fun _ _ _ h => h) (by kernel_rfl) ?_
  simp only [Act.put, pA, pB, pC]
  refine skip_held 5 hX3 rfl (by kernel_rfl) (by kernel_rfl) (by kernel_rfl) (fun _ _ _ h => h) (by kernel_rfl) ?_
  simp only [Act.put, pA, pB, pC]
  refine skip_held 6 hX3 rfl (by kernel_rfl) (by kernel_rfl) (by kernel_rfl) (fun _ _ _ h => h) (by kernel_rfl) ?_
  simp only [Act.put, pA, pB, pC]
  refine skip_held 7 hX3 rfl (by kernel_rfl) (by kernel_rfl) (by kernel_rfl) (fun _ _ _ h => h) (by kernel_rfl) ?_
  simp only [Act.put, pA, pB, pC]
  refine skip_held 8 hX3 rfl (by kernel_rfl) (by kernel_rfl) (by kernel_rfl) (fun _ _ _ h => h) (by kernel_rfl) ?_
  simp only [Act.put, pA, pB, pC]
  refine skip_held 9 hX3 rfl (by kernel_rfl) (by kernel_rfl) (by kernel_rfl) (fun _ _ _ h => h) (by kernel_rfl) ?_
  simp only [Act.put, pA, pB, pC]
  refine skip_held 10 hX3 rfl (by kernel_rfl) (by kernel_rfl) (by kernel_rfl) (fun _ _ _ h => h) (by kernel_rfl) ?_
  simp only [Act.put, pA, pB, pC]
  refine tk 11 hX3 rfl (v := ?v5094) ?y5094 ?r5094
  case y5094 => (intro u hu; go_simp; try rfl)
  simp only [Act.put, pA, pB, pC]
  refine tk 12 hX3 rfl (v := ?v5095) ?y5095 ?r5095
  case y5095 => (intro u hu; go_simp; try rfl)
  simp only [Act.put, pA, pB, pC]
  refine done_held (by kernel_rfl) ?_ _
  have k0 := tl_kd hX3.tl
  go_upto_region 5 with fail
  clear k0
  refine start_held (S := Hr w R r w.heap.size t) 13 rfl (by kernel_rfl) (hX3.go (Below.refl _ _).drew) ?_
  simp only [Array.replicate_succ, Array.replicate_zero, List.push_toArray, List.nil_append, List.cons_append]
  have hX5 : Hr w R r w.heap.size t x3.drew := hX3.go (Below.refl _ _).drew
  clear hX3
  generalize x3.drew = x5 at *
  refine tk 0 hX5 rfl (v := ?v5077) ?y5077 ?r5077
  case y5077 => (intro u hu; go_simp; try rfl)
  simp only [Act.put, pA, pB, pC]
  refine tk 1 hX5 rfl (v := ?v5078) ?y5078 ?r5078
  case y5078 => (intro u hu; have zz0 := (fun u hu => tl_kd (Hr.tl hu)) u hu; go_simp; try rfl)
  simp only [Act.put, pA, pB, pC]
  refine tk 2 hX5 rfl (v := ?v5079) ?y5079 ?r5079
  case y5079 => (intro u hu; go_simp; try rfl)
  simp only [Act.put, pA, pB, pC]
  refine tk 3 hX5 rfl (v := ?v5080) ?y5080 ?r5080
  case y5080 => (intro u hu; go_simp; try rfl)
  simp only [Act.put, pA, pB, pC]
  refine tk 4 hX5 rfl (v := ?v5081) ?y5081 ?r5081
  case y5081 => (intro u hu; go_simp; try rfl)
  simp only [Act.put, pA, pB, pC]
  refine tk 5 hX5 rfl (v := ?v5082) ?y5082 ?r5082
  case y5082 => (intro u hu; have zz0 := (fun u hu => tl_ep (Hr.tl hu)) u hu; go_simp; try rfl)
  simp only [Act.put, pA, pB, pC]
  refine tk 6 hX5 rfl (v := ?v5083) ?y5083 ?r5083
  case y5083 => (intro u hu; go_simp; try rfl)
  simp only [Act.put, pA, pB, pC]
  refine tk 7 hX5 rfl (v := ?v5084) ?y5084 ?r5084
  case y5084 => (intro u hu; go_simp; try rfl)
  simp only [Act.put, pA, pB, pC]
  refine tk 8 hX5 rfl (v := ?v5085) ?y5085 ?r5085
  case y5085 => (intro u hu; go_simp; try rfl)
  simp only [Act.put, pA, pB, pC]
  refine tk 9 hX5 rfl (v := ?v5086) ?y5086 ?r5086
  case y5086 => (intro u hu; have zz0 := (fun u hu => RbAt.c7 (Hr.rb hu)) u hu; go_simp; try rfl)
  simp only [Act.put, pA, pB, pC]
  refine tk 10 hX5 rfl (v := ?v5087) ?y5087 ?r5087
  case y5087 => (intro u hu; go_simp; try rfl)
  simp only [Act.put, pA, pB, pC]
  refine tk 11 hX5 rfl (v := ?v5088) ?y5088 ?r5088
  case y5088 => (intro u hu; go_simp; try rfl)
  simp only [Act.put, pA, pB, pC]
  refine tk 12 hX5 rfl (v := ?v5089) ?y5089 ?r5089
  case y5089 => (intro u hu; go_simp; try rfl)
  simp only [Act.put, pA, pB, pC]
  refine done_held (by kernel_rfl) ?_ _
  have k2 := tl_ep hX5.tl
  have HX : Hid (Hr w R r w.heap.size t x5) := hX5
  clear hX5
  cases hu : under r with
  | true =>
    go_wp2_with (first
      | (go_at_call 52; refine (stop_any HX.out.rb t.ep HG.out).mono ?_; rintro e ws ⟨rfl, hRs, Ts⟩; have HC := moves_any hRs; rw [under_stop t.ep hu] at HC)
      | (go_at_call 48; refine HC.mono ?_; rintro e wq ⟨rfl, hwq⟩; rw [hwq]; clear hwq))
    go_ret2
    exact heard_of ((HA.out.1).trans (by rw [hu]; rfl)) HA.out.2.1 HA.out.2.2 (show LsAt _ _ (.slice none 0 0) none from rfl) hRs ((Tn.below HX.out.bel).trans Ts)
  | false =>
    have es : stopP R r t.ep = newEp r t.ep := by unfold stopP; rw [hu]; rfl
    go_wp2_with (first
      | (go_at_call 52; refine (stop_any HX.out.rb t.ep HG.out).mono ?_; rintro e ws ⟨rfl, hRs, Ts⟩; rw [es] at hRs; have HC := moves_any hRs; rw [show under (newEp r t.ep) = under r from rfl, hu] at HC; have HTE := tell_any hRs; have hsz := (Tn.below HX.out.bel).trans Ts)
      | (go_at_call 48; refine HC.mono ?_; rintro e wq ⟨rfl, hwq⟩; rw [hwq]; clear hwq)
      | (go_at_call 26; refine HTE.mono ?_; rintro e wt ⟨v, rfl, lv, bt⟩))
    go_ret2
    exact heard_of (L := some (tellP (newEp r t.ep))) ((HA.out.1).trans (by rw [hu]; rfl)) (HA.out.2.1.trans es) HA.out.2.2 (lv.mono hsz.size) (hRs.go bt) (hsz.trans (Tn.below bt))
set_option maxRecDepth 100000 in
set_option maxHeartbeats 2000000 in
theorem hear_stop2 (t : Tl) (h1 : t.rb = r.nb) (h2 : t.kd ≠ 1) (h3 : t.kd = 2 ∧ ¬ r.ep < t.ep) : Calls Tryz.prog 22 #[.pointer (some ⟨R.p, 0, none⟩), .agg (tlA t)] w (Heard w R r t) := by
  obtain ⟨w1, hw1⟩ : ∃ w1, w1 = w.alloc (.cells (tlA t) 46) := ⟨_, rfl⟩
  have hX1 : Hr w R r w.heap.size t w1 := Hr.make h hw1
  clear h
  have q1 : (t.rb != r.nb) = false := by simp [h1]
  have q2 : (t.kd == 1) = false := by rw [beq_eq_false_iff_ne]; exact h2
  have q2b : (t.kd == 2) = true := by rw [beq_iff_eq]; exact h3.1
  have HA : Hid (hearL R r t = (if (lastP r t && !under r) = true then some (tellP r) else none) ∧ hearR R r t = r ∧ hearH R r t = 0) := by
    have n1 : ¬ t.rb ≠ r.nb := fun f => f h1
    have n2 : ¬ (t.kd = 1 ∧ t.ep < r.ep) := fun f => h2 f.1
    have n3 : ¬ (t.kd = 1 ∧ begs R r t = true) := fun f => h2 f.1
    have n4 : ¬ (t.kd = 2 ∧ r.ep < t.ep) := fun f => h3.2 f.2
    exact ⟨by unfold hearL; rw [if_neg n1, if_neg n2, if_neg n3, if_neg n4], by unfold hearR; rw [if_neg n1, if_neg n2, if_neg n3, if_neg n4], by unfold hearH; rw [if_neg n1, if_neg n2, if_neg n3, if_neg n4]⟩
  have q3 : decide (r.ep < t.ep) = false := decide_eq_false h3.2
  clear h1 h2 h3
  go_enter Tryz.func22, Tryz.ntmps22
  go_upto_region 2 with (refine wpList_boxAt rfl 46 (.tmp 1) rfl (tlA t) rfl ?_; rw [← hw1]; clear hw1)
  refine start_held (S := Hr w R r w.heap.size t) 8 rfl (by kernel_rfl) (hX1.go (Below.refl _ _).drew) ?_
  simp only [Array.replicate_succ, Array.replicate_zero, List.push_toArray, List.nil_append, List.cons_append]
  have hX2 : Hr w R r w.heap.size t w1.drew := hX1.go (Below.refl _ _).drew
  clear hX1
  generalize w1.drew = x2 at *
  refine tk 0 hX2 rfl (v := ?v5123) ?y5123 ?r5123
  case y5123 => (intro u hu; go_simp; try rfl)
  simp only [Act.put, pA, pB, pC]
  refine tk 1 hX2 rfl (v := ?v5124) ?y5124 ?r5124
  case y5124 => (intro u hu; have zz0 := (fun u hu => tl_rb (Hr.tl hu)) u hu; go_simp; try rfl)
  simp only [Act.put, pA, pB, pC]
  refine tk 2 hX2 rfl (v := ?v5125) ?y5125 ?r5125
  case y5125 => (intro u hu; go_simp; try rfl)
  simp only [Act.put, pA, pB, pC]
  refine tk 3 hX2 rfl (v := ?v5126) ?y5126 ?r5126
  case y5126 => (intro u hu; go_simp; try rfl)
  simp only [Act.put, pA, pB, pC]
  refine tk 4 hX2 rfl (v := ?v5127) ?y5127 ?r5127
  case y5127 => (intro u hu; go_simp; try rfl)
  simp only [Act.put, pA, pB, pC]
  refine tk 5 hX2 rfl (v := ?v5128) ?y5128 ?r5128
  case y5128 => (intro u hu; have zz0 := (fun u hu => RbAt.c2 (Hr.rb hu)) u hu; go_simp; try rfl)
  simp only [Act.put, pA, pB, pC]
  refine tk 6 hX2 rfl (v := ?v5129) ?y5129 ?r5129
  case y5129 => (intro u hu; go_simp; try rfl)
  simp only [Act.put, pA, pB, pC]
  refine tk 7 hX2 rfl (v := ?v5130) ?y5130 ?r5130
  case y5130 => (intro u hu; go_simp; try rfl)
  simp only [Act.put, pA, pB, pC]
  refine done_held (by kernel_rfl) ?_ _
  go_upto_region 3 with fail
  refine start_held (S := Hr w R r w.heap.size t) 13 rfl (by kernel_rfl) (hX2.go (Below.refl _ _).drew) ?_
  simp only [Array.replicate_succ, Array.replicate_zero, List.push_toArray, List.nil_append, List.cons_append]
  have hX3 : Hr w R r w.heap.size t x2.drew := hX2.go (Below.refl _ _).drew
  clear hX2
  generalize x2.drew = x3 at *
  refine tk 0 hX3 rfl (v := ?v5117) ?y5117 ?r5117
  case y5117 => (intro u hu; go_simp; try rfl)
  simp only [Act.put, pA, pB, pC]
  refine tk 1 hX3 rfl (v := ?v5118) ?y5118 ?r5118
  case y5118 => (intro u hu; have zz0 := (fun u hu => tl_kd (Hr.tl hu)) u hu; go_simp; try rfl)
  simp only [Act.put, pA, pB, pC]
  refine tk 2 hX3 rfl (v := ?v5119) ?y5119 ?r5119
  case y5119 => (intro u hu; go_simp; try rfl)
  simp only [Act.put, pA, pB, pC]
  refine tk 3 hX3 rfl (v := ?v5120) ?y5120 ?r5120
  case y5120 => (intro u hu; go_simp; try rfl)
  simp only [Act.put, pA, pB, pC]
  refine skip_held 4 hX3 rfl (by kernel_rfl) (by kernel_rfl) (by kernel_rfl) (fun _ _ _ h => h) (by kernel_rfl) ?_
  simp only [Act.put, pA, pB, pC]
  refine skip_held 5 hX3 rfl (by kernel_rfl) (by kernel_rfl) (by kernel_rfl) (fun _ _ _ h => h) (by kernel_rfl) ?_
  simp only [Act.put, pA, pB, pC]
  refine skip_held 6 hX3 rfl (by kernel_rfl) (by kernel_rfl) (by kernel_rfl) (fun _ _ _ h => h) (by kernel_rfl) ?_
  simp only [Act.put, pA, pB, pC]
  refine skip_held 7 hX3 rfl (by kernel_rfl) (by kernel_rfl) (by kernel_rfl) (fun _ _ _ h => h) (by kernel_rfl) ?_
  simp only [Act.put, pA, pB, pC]
  refine skip_held 8 hX3 rfl (by kernel_rfl) (by kernel_rfl) (by kernel_rfl) (fun _ _ _ h => h) (by kernel_rfl) ?_
  simp only [Act.put, pA, pB, pC]
  refine skip_held 9 hX3 rfl (by kernel_rfl) (by kernel_rfl) (by kernel_rfl) (fun _ _ _ h => h) (by kernel_rfl) ?_
  simp only [Act.put, pA, pB, pC]
  refine skip_held 10 hX3 rfl (by kernel_rfl) (by kernel_rfl) (by kernel_rfl) (fun _ _ _ h => h) (by kernel_rfl) ?_
  simp only [Act.put, pA, pB, pC]
  refine tk 11 hX3 rfl (v := ?v5121) ?y5121 ?r5121
  case y5121 => (intro u hu; go_simp; try rfl)
  simp only [Act.put, pA, pB, pC]
  refine tk 12 hX3 rfl (v := ?v5122) ?y5122 ?r5122
  case y5122 => (intro u hu; go_simp; try rfl)
  simp only [Act.put, pA, pB, pC]
  refine done_held (by kernel_rfl) ?_ _
  have k0 := tl_kd hX3.tl
  go_upto_region 5 with fail
  clear k0
  refine start_held (S := Hr w R r w.heap.size t) 13 rfl (by kernel_rfl) (hX3.go (Below.refl _ _).drew) ?_
  simp only [Array.replicate_succ, Array.replicate_zero, List.push_toArray, List.nil_append, List.cons_append]
  have hX5 : Hr w R r w.heap.size t x3.drew := hX3.go (Below.refl _ _).drew
  clear hX3
  generalize x3.drew = x5 at *
  refine tk 0 hX5 rfl (v := ?v5104) ?y5104 ?r5104
  case y5104 => (intro u hu; go_simp; try rfl)
  simp only [Act.put, pA, pB, pC]
  refine tk 1 hX5 rfl (v := ?v5105) ?y5105 ?r5105
  case y5105 => (intro u hu; have zz0 := (fun u hu => tl_kd (Hr.tl hu)) u hu; go_simp; try rfl)
  simp only [Act.put, pA, pB, pC]
  refine tk 2 hX5 rfl (v := ?v5106) ?y5106 ?r5106
  case y5106 => (intro u hu; go_simp; try rfl)
  simp only [Act.put, pA, pB, pC]
  refine tk 3 hX5 rfl (v := ?v5107) ?y5107 ?r5107
  case y5107 => (intro u hu; go_simp; try rfl)
  simp only [Act.put, pA, pB, pC]
  refine tk 4 hX5 rfl (v := ?v5108) ?y5108 ?r5108
  case y5108 => (intro u hu; go_simp; try rfl)
  simp only [Act.put, pA, pB, pC]
  refine tk 5 hX5 rfl (v := ?v5109) ?y5109 ?r5109
  case y5109 => (intro u hu; have zz0 := (fun u hu => tl_ep (Hr.tl hu)) u hu; go_simp; try rfl)
  simp only [Act.put, pA, pB, pC]
  refine tk 6 hX5 rfl (v := ?v5110) ?y5110 ?r5110
  case y5110 => (intro u hu; go_simp; try rfl)
  simp only [Act.put, pA, pB, pC]
  refine tk 7 hX5 rfl (v := ?v5111) ?y5111 ?r5111
  case y5111 => (intro u hu; go_simp; try rfl)
  simp only [Act.put, pA, pB, pC]
  refine tk 8 hX5 rfl (v := ?v5112) ?y5112 ?r5112
  case y5112 => (intro u hu; go_simp; try rfl)
  simp only [Act.put, pA, pB, pC]
  refine tk 9 hX5 rfl (v := ?v5113) ?y5113 ?r5113
  case y5113 => (intro u hu; have zz0 := (fun u hu => RbAt.c7 (Hr.rb hu)) u hu; go_simp; try rfl)
  simp only [Act.put, pA, pB, pC]
  refine tk 10 hX5 rfl (v := ?v5114) ?y5114 ?r5114
  case y5114 => (intro u hu; go_simp; try rfl)
  simp only [Act.put, pA, pB, pC]
  refine tk 11 hX5 rfl (v := ?v5115) ?y5115 ?r5115
  case y5115 => (intro u hu; go_simp; try rfl)
  simp only [Act.put, pA, pB, pC]
  refine tk 12 hX5 rfl (v := ?v5116) ?y5116 ?r5116
  case y5116 => (intro u hu; go_simp; try rfl)
  simp only [Act.put, pA, pB, pC]
  refine done_held (by kernel_rfl) ?_ _
  have HY : Hid (Hr w R r w.heap.size t x5) := hX5
  clear hX5
  cases hl : lastP r t with
  | false =>
    have HB : Hid (lastP r t = false) := hl
    go_wp2_with (first
      | (refine wpList_load_at rfl 46 (.tmp 3) rfl ⟨w.heap.size, 0, none⟩ rfl (tlA t) (load_tele HY.out.tl) ?_)
      | (go_at_call 53; refine (isLast_any HY.out.rb t).mono ?_; rintro e wl ⟨rfl, bl⟩; have hXl := HY.out.go bl; rw [HB.out]))
    go_ret2
    exact heard_none ((HA.out.1).trans (by rw [hl]; rfl)) HA.out.2.1 HA.out.2.2 hXl
  | true =>
    have HB : Hid (lastP r t = true) := hl
    cases hu : under r with
    | true =>
      go_wp2_with (first
        | (refine wpList_load_at rfl 46 (.tmp 3) rfl ⟨w.heap.size, 0, none⟩ rfl (tlA t) (load_tele HY.out.tl) ?_)
        | (go_at_call 53; refine (isLast_any HY.out.rb t).mono ?_; rintro e wl ⟨rfl, bl⟩; have hXl := HY.out.go bl; have HC := moves_any hXl.rb; rw [hu] at HC; rw [HB.out])
        | (go_at_call 48; refine HC.mono ?_; rintro e wq ⟨rfl, hwq⟩; rw [hwq]; clear hwq))
      go_ret2
      exact heard_none ((HA.out.1).trans (by rw [hl, hu]; rfl)) HA.out.2.1 HA.out.2.2 hXl
    | false =>
      go_wp2_with (first
        | (refine wpList_load_at rfl 46 (.tmp 3) rfl ⟨w.heap.size, 0, none⟩ rfl (tlA t) (load_tele HY.out.tl) ?_)
        | (go_at_call 53; refine (isLast_any HY.out.rb t).mono ?_; rintro e wl ⟨rfl, bl⟩; have hXl := HY.out.go bl; have HC := moves_any hXl.rb; rw [hu] at HC; have HTE := tell_any hXl.rb; rw [HB.out])
        | (go_at_call 48; refine HC.mono ?_; rintro e wq ⟨rfl, hwq⟩; rw [hwq]; clear hwq)
        | (go_at_call 26; refine HTE.mono ?_; rintro e wt ⟨v, rfl, lv, bt⟩))
      go_ret2
      exact heard_of ((HA.out.1).trans (by rw [hl, hu]; rfl)) HA.out.2.1 HA.out.2.2 (lv.mono hXl.bel.size) (hXl.rb.go bt) ((Tn.below hXl.bel).trans (Tn.below bt))
set_option maxRecDepth 100000 in
set_option maxHeartbeats 2000000 in
theorem hear_kind (t : Tl) (h1 : t.rb = r.nb) (h2 : t.kd ≠ 1) (h3 : t.kd ≠ 2) : Calls Tryz.prog 22 #[.pointer (some ⟨R.p, 0, none⟩), .agg (tlA t)] w (Heard w R r t) := by
  obtain ⟨w1, hw1⟩ : ∃ w1, w1 = w.alloc (.cells (tlA t) 46) := ⟨_, rfl⟩
  have hX1 : Hr w R r w.heap.size t w1 := Hr.make h hw1
  clear h
  have q1 : (t.rb != r.nb) = false := by simp [h1]
  have q2 : (t.kd == 1) = false := by rw [beq_eq_false_iff_ne]; exact h2
  have q2b : (t.kd == 2) = false := by rw [beq_eq_false_iff_ne]; exact h3
  have HA : Hid (hearL R r t = (if (lastP r t && !under r) = true then some (tellP r) else none) ∧ hearR R r t = r ∧ hearH R r t = 0) := by
    have n1 : ¬ t.rb ≠ r.nb := fun f => f h1
    have n2 : ¬ (t.kd = 1 ∧ t.ep < r.ep) := fun f => h2 f.1
    have n3 : ¬ (t.kd = 1 ∧ begs R r t = true) := fun f => h2 f.1
    have n4 : ¬ (t.kd = 2 ∧ r.ep < t.ep) := fun f => h3 f.1
    exact ⟨by unfold hearL; rw [if_neg n1, if_neg n2, if_neg n3, if_neg n4], by unfold hearR; rw [if_neg n1, if_neg n2, if_neg n3, if_neg n4], by unfold hearH; rw [if_neg n1, if_neg n2, if_neg n3, if_neg n4]⟩
  skip
  clear h1 h2 h3
  go_enter Tryz.func22, Tryz.ntmps22
  go_upto_region 2 with (refine wpList_boxAt rfl 46 (.tmp 1) rfl (tlA t) rfl ?_; rw [← hw1]; clear hw1)
  refine start_held (S := Hr w R r w.heap.size t) 8 rfl (by kernel_rfl) (hX1.go (Below.refl _ _).drew) ?_
  simp only [Array.replicate_succ, Array.replicate_zero, List.push_toArray, List.nil_append, List.cons_append]
  have hX2 : Hr w R r w.heap.size t w1.drew := hX1.go (Below.refl _ _).drew
  clear hX1
  generalize w1.drew = x2 at *
  refine tk 0 hX2 rfl (v := ?v5143) ?y5143 ?r5143
  case y5143 => (intro u hu; go_simp; try rfl)
  simp only [Act.put, pA, pB, pC]
  refine tk 1 hX2 rfl (v := ?v5144) ?y5144 ?r5144
  case y5144 => (intro u hu; have zz0 := (fun u hu => tl_rb (Hr.tl hu)) u hu; go_simp; try rfl)
  simp only [Act.put, pA, pB, pC]
  refine tk 2 hX2 rfl (v := ?v5145) ?y5145 ?r5145
  case y5145 => (intro u hu; go_simp; try rfl)
  simp only [Act.put, pA, pB, pC]
  refine tk 3 hX2 rfl (v := ?v5146) ?y5146 ?r5146
  case y5146 => (intro u hu; go_simp; try rfl)
  simp only [Act.put, pA, pB, pC]
  refine tk 4 hX2 rfl (v := ?v5147) ?y5147 ?r5147
  case y5147 => (intro u hu; go_simp; try rfl)
  simp only [Act.put, pA, pB, pC]
  refine tk 5 hX2 rfl (v := ?v5148) ?y5148 ?r5148
  case y5148 => (intro u hu; have zz0 := (fun u hu => RbAt.c2 (Hr.rb hu)) u hu; go_simp; try rfl)
  simp only [Act.put, pA, pB, pC]
  refine tk 6 hX2 rfl (v := ?v5149) ?y5149 ?r5149
  case y5149 => (intro u hu; go_simp; try rfl)
  simp only [Act.put, pA, pB, pC]
  refine tk 7 hX2 rfl (v := ?v5150) ?y5150 ?r5150
  case y5150 => (intro u hu; go_simp; try rfl)
  simp only [Act.put, pA, pB, pC]
  refine done_held (by kernel_rfl) ?_ _
  go_upto_region 3 with fail
  refine start_held (S := Hr w R r w.heap.size t) 13 rfl (by kernel_rfl) (hX2.go (Below.refl _ _).drew) ?_
  simp only [Array.replicate_succ, Array.replicate_zero, List.push_toArray, List.nil_append, List.cons_append]
  have hX3 : Hr w R r w.heap.size t x2.drew := hX2.go (Below.refl _ _).drew
  clear hX2
  generalize x2.drew = x3 at *
  refine tk 0 hX3 rfl (v := ?v5137) ?y5137 ?r5137
  case y5137 => (intro u hu; go_simp; try rfl)
  simp only [Act.put, pA, pB, pC]
  refine tk 1 hX3 rfl (v := ?v5138) ?y5138 ?r5138
  case y5138 => (intro u hu; have zz0 := (fun u hu => tl_kd (Hr.tl hu)) u hu; go_simp; try rfl)
  simp only [Act.put, pA, pB, pC]
  refine tk 2 hX3 rfl (v := ?v5139) ?y5139 ?r5139
  case y5139 => (intro u hu; go_simp; try rfl)
  simp only [Act.put, pA, pB, pC]
  refine tk 3 hX3 rfl (v := ?v5140) ?y5140 ?r5140
  case y5140 => (intro u hu; go_simp; try rfl)
  simp only [Act.put, pA, pB, pC]
  refine skip_held 4 hX3 rfl (by kernel_rfl) (by kernel_rfl) (by kernel_rfl) (fun _ _ _ h => h) (by kernel_rfl) ?_
  simp only [Act.put, pA, pB, pC]
  refine skip_held 5 hX3 rfl (by kernel_rfl) (by kernel_rfl) (by kernel_rfl) (fun _ _ _ h => h) (by kernel_rfl) ?_
  simp only [Act.put, pA, pB, pC]
  refine skip_held 6 hX3 rfl (by kernel_rfl) (by kernel_rfl) (by kernel_rfl) (fun _ _ _ h => h) (by kernel_rfl) ?_
  simp only [Act.put, pA, pB, pC]
  refine skip_held 7 hX3 rfl (by kernel_rfl) (by kernel_rfl) (by kernel_rfl) (fun _ _ _ h => h) (by kernel_rfl) ?_
  simp only [Act.put, pA, pB, pC]
  refine skip_held 8 hX3 rfl (by kernel_rfl) (by kernel_rfl) (by kernel_rfl) (fun _ _ _ h => h) (by kernel_rfl) ?_
  simp only [Act.put, pA, pB, pC]
  refine skip_held 9 hX3 rfl (by kernel_rfl) (by kernel_rfl) (by kernel_rfl) (fun _ _ _ h => h) (by kernel_rfl) ?_
  simp only [Act.put, pA, pB, pC]
  refine skip_held 10 hX3 rfl (by kernel_rfl) (by kernel_rfl) (by kernel_rfl) (fun _ _ _ h => h) (by kernel_rfl) ?_
  simp only [Act.put, pA, pB, pC]
  refine tk 11 hX3 rfl (v := ?v5141) ?y5141 ?r5141
  case y5141 => (intro u hu; go_simp; try rfl)
  simp only [Act.put, pA, pB, pC]
  refine tk 12 hX3 rfl (v := ?v5142) ?y5142 ?r5142
  case y5142 => (intro u hu; go_simp; try rfl)
  simp only [Act.put, pA, pB, pC]
  refine done_held (by kernel_rfl) ?_ _
  have k0 := tl_kd hX3.tl
  go_upto_region 5 with fail
  clear k0
  refine start_held (S := Hr w R r w.heap.size t) 13 rfl (by kernel_rfl) (hX3.go (Below.refl _ _).drew) ?_
  simp only [Array.replicate_succ, Array.replicate_zero, List.push_toArray, List.nil_append, List.cons_append]
  have hX5 : Hr w R r w.heap.size t x3.drew := hX3.go (Below.refl _ _).drew
  clear hX3
  generalize x3.drew = x5 at *
  refine tk 0 hX5 rfl (v := ?v5131) ?y5131 ?r5131
  case y5131 => (intro u hu; go_simp; try rfl)
  simp only [Act.put, pA, pB, pC]
  refine tk 1 hX5 rfl (v := ?v5132) ?y5132 ?r5132
  case y5132 => (intro u hu; have zz0 := (fun u hu => tl_kd (Hr.tl hu)) u hu; go_simp; try rfl)
  simp only [Act.put, pA, pB, pC]
  refine tk 2 hX5 rfl (v := ?v5133) ?y5133 ?r5133
  case y5133 => (intro u hu; go_simp; try rfl)
  simp only [Act.put, pA, pB, pC]
  refine tk 3 hX5 rfl (v := ?v5134) ?y5134 ?r5134
  case y5134 => (intro u hu; go_simp; try rfl)
  simp only [Act.put, pA, pB, pC]
  refine skip_held 4 hX5 rfl (by kernel_rfl) (by kernel_rfl) (by kernel_rfl) (fun _ _ _ h => h) (by kernel_rfl) ?_
  simp only [Act.put, pA, pB, pC]
  refine skip_held 5 hX5 rfl (by kernel_rfl) (by kernel_rfl) (by kernel_rfl) (fun _ _ _ h => h) (by kernel_rfl) ?_
  simp only [Act.put, pA, pB, pC]
  refine skip_held 6 hX5 rfl (by kernel_rfl) (by kernel_rfl) (by kernel_rfl) (fun _ _ _ h => h) (by kernel_rfl) ?_
  simp only [Act.put, pA, pB, pC]
  refine skip_held 7 hX5 rfl (by kernel_rfl) (by kernel_rfl) (by kernel_rfl) (fun _ _ _ h => h) (by kernel_rfl) ?_
  simp only [Act.put, pA, pB, pC]
  refine skip_held 8 hX5 rfl (by kernel_rfl) (by kernel_rfl) (by kernel_rfl) (fun _ _ _ h => h) (by kernel_rfl) ?_
  simp only [Act.put, pA, pB, pC]
  refine skip_held 9 hX5 rfl (by kernel_rfl) (by kernel_rfl) (by kernel_rfl) (fun _ _ _ h => h) (by kernel_rfl) ?_
  simp only [Act.put, pA, pB, pC]
  refine skip_held 10 hX5 rfl (by kernel_rfl) (by kernel_rfl) (by kernel_rfl) (fun _ _ _ h => h) (by kernel_rfl) ?_
  simp only [Act.put, pA, pB, pC]
  refine tk 11 hX5 rfl (v := ?v5135) ?y5135 ?r5135
  case y5135 => (intro u hu; go_simp; try rfl)
  simp only [Act.put, pA, pB, pC]
  refine tk 12 hX5 rfl (v := ?v5136) ?y5136 ?r5136
  case y5136 => (intro u hu; go_simp; try rfl)
  simp only [Act.put, pA, pB, pC]
  refine done_held (by kernel_rfl) ?_ _
  have HY : Hid (Hr w R r w.heap.size t x5) := hX5
  clear hX5
  cases hl : lastP r t with
  | false =>
    have HB : Hid (lastP r t = false) := hl
    go_wp2_with (first
      | (refine wpList_load_at rfl 46 (.tmp 3) rfl ⟨w.heap.size, 0, none⟩ rfl (tlA t) (load_tele HY.out.tl) ?_)
      | (go_at_call 53; refine (isLast_any HY.out.rb t).mono ?_; rintro e wl ⟨rfl, bl⟩; have hXl := HY.out.go bl; rw [HB.out]))
    go_ret2
    exact heard_none ((HA.out.1).trans (by rw [hl]; rfl)) HA.out.2.1 HA.out.2.2 hXl
  | true =>
    have HB : Hid (lastP r t = true) := hl
    cases hu : under r with
    | true =>
      go_wp2_with (first
        | (refine wpList_load_at rfl 46 (.tmp 3) rfl ⟨w.heap.size, 0, none⟩ rfl (tlA t) (load_tele HY.out.tl) ?_)
        | (go_at_call 53; refine (isLast_any HY.out.rb t).mono ?_; rintro e wl ⟨rfl, bl⟩; have hXl := HY.out.go bl; have HC := moves_any hXl.rb; rw [hu] at HC; rw [HB.out])
        | (go_at_call 48; refine HC.mono ?_; rintro e wq ⟨rfl, hwq⟩; rw [hwq]; clear hwq))
      go_ret2
      exact heard_none ((HA.out.1).trans (by rw [hl, hu]; rfl)) HA.out.2.1 HA.out.2.2 hXl
    | false =>
      go_wp2_with (first
        | (refine wpList_load_at rfl 46 (.tmp 3) rfl ⟨w.heap.size, 0, none⟩ rfl (tlA t) (load_tele HY.out.tl) ?_)
        | (go_at_call 53; refine (isLast_any HY.out.rb t).mono ?_; rintro e wl ⟨rfl, bl⟩; have hXl := HY.out.go bl; have HC := moves_any hXl.rb; rw [hu] at HC; have HTE := tell_any hXl.rb; rw [HB.out])
        | (go_at_call 48; refine HC.mono ?_; rintro e wq ⟨rfl, hwq⟩; rw [hwq]; clear hwq)
        | (go_at_call 26; refine HTE.mono ?_; rintro e wt ⟨v, rfl, lv, bt⟩))
      go_ret2
      exact heard_of ((HA.out.1).trans (by rw [hl, hu]; rfl)) HA.out.2.1 HA.out.2.2 (lv.mono hXl.bel.size) (hXl.rb.go bt) ((Tn.below hXl.bel).trans (Tn.below bt))
theorem hear_any (t : Tl) {n : Int} (hn : n ≤ 1000000000000) (ok : OkR n r) : Calls Tryz.prog 22 #[.pointer (some ⟨R.p, 0, none⟩), .agg (tlA t)] w (Heard w R r t) := by
  have l0 := ok.lt0
  have l1 : r.lt ≤ 4000000000000000000 := by have := ok.ltn; omega
  have g1 : r.gn ≤ 9223372036854775807 := by have := ok.gnn; omega
  by_cases h1 : t.rb = r.nb
  · by_cases h2 : t.kd = 1
    · by_cases h3 : t.ep < r.ep
      · exact hear_old h t h1 h2 h3
      · cases hb : begs R r t with
        | true => exact hear_begs h t l0 l1 h1 h2 h3 hb
        | false => exact hear_go h t l0 l1 h1 h2 h3 hb
    · by_cases h3 : t.kd = 2
      · by_cases h4 : r.ep < t.ep
        · exact hear_stop h t ok.ep0 g1 h1 h3 h4
        · exact hear_stop2 h t h1 h2 ⟨h3, h4⟩
      · exact hear_kind h t h1 h2 h3
  · exact hear_other h t h1
end
end Go.Proofs.YtedmfhkdaifegaaGreat.Rob
