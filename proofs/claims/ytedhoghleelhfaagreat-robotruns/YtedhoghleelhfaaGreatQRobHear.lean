/-
  A telegram that is heard.
-/
import Derived.Test.YtedhoghleelhfaaGreatQRobXb
namespace Go.Proofs.YtedhoghleelhfaaGreat.Rob
set_option linter.unusedVariables false
set_option linter.unusedSimpArgs false
open Go Go.RowKit Go.Shelf Go.Proofs Go.Proofs.YtedhoghleelhfaaGreat.Lk Go.Proofs.YtedhoghleelhfaaGreat.Plain
attribute [local go_sem] Oper.semAt_some

theorem wpList_load_w {ops : Array Oper} {rest : List Oper} {o : Oper} {a : Act} {w : World} {Q : Exit → Act → World → Prop} (hw : Region.wanted o (yielded ops a.tmps) = true) (ty : TypeId) (x : Operand) (ho : o.op = .load ty x)
    (p : Addr) (hx : a.eval x = .pointer (some p)) (cs : Array Value) (hl : (loadVar ty p).run Tryz.prog w = .ok (.agg cs) w)
    (h : wpList Tryz.prog ops Q rest (a.put o.dst (.agg cs)) w) : wpList Tryz.prog ops Q (o :: rest) a w :=
  BigFrame.wpList_want hw fun _ hK => by
    unfold Oper.wp
    rw [run_load_at ty x ho p hx cs hl]
    exact hK _ _ h
/- What Hear leaves. -/
def Heard (w : World) (R : Wh) (r : Rb) (t : Tl) (e : Ending) (w' : World) : Prop :=
  ∃ v, e = .returned (.tuple #[v, .int .i64 (hearH R r t)]) ∧ LsAt w.heap.size w' v (hearL R r t) ∧ RbAt w' R (hearR R r t) ∧ Tn R w w'
theorem heard_none {w : World} {R : Wh} {r : Rb} {t : Tl} {w' : World} {n : Int} (hL : hearL R r t = none) (hR : hearR R r t = r) (hH : hearH R r t = n) (h : Hr w R r w.heap.size t w') : Heard w R r t (.returned (.tuple #[.slice none 0 0, .int .i64 n])) w' := by
  refine ⟨_, by rw [hH], by rw [hL]; rfl, by rw [hR]; exact h.rb, Tn.below h.bel⟩
theorem heard_of {w : World} {R : Wh} {r r' : Rb} {t : Tl} {w' : World} {n : Int} {v : Value} {L : Option Tl} (hL : hearL R r t = L) (hR : hearR R r t = r') (hH : hearH R r t = n) (lv : LsAt w.heap.size w' v L) (hr : RbAt w' R r') (T : Tn R w w') : Heard w R r t (.returned (.tuple #[v, .int .i64 n])) w' :=
  ⟨_, by rw [hH], by rw [hL]; exact lv, by rw [hR]; exact hr, T⟩
theorem under_stop {R : Wh} {r : Rb} (ep : Int) (hu : under r = true) : under (stopP R r ep) = true := by
  have hl : 0 < r.lf := by unfold under at hu; simpa using hu
  unfold stopP
  rw [if_pos hu]
  split
  · show decide (0 < max ((Kin.stopT R.ku R.ka R.kv r.mv.n r.gn : Nat) : Int) 1) = true
    rw [decide_eq_true_iff]
    omega
  · show decide (0 < r.lf) = true
    rw [decide_eq_true_iff]
    exact hl
section
variable {w : World} {R : Wh} {r : Rb} (h : RbAt w R r)
include h
set_option maxRecDepth 100000 in
set_option maxHeartbeats 2000000 in
theorem hear_other (t : Tl) (h1 : t.rb ≠ r.nb) : Calls Tryz.prog 26 #[.pointer (some ⟨R.p, 0, none⟩), .agg (tlA t)] w (Heard w R r t) := by
  obtain ⟨w1, hw1⟩ : ∃ w1, w1 = w.alloc (.cells (tlA t) 46) := ⟨_, rfl⟩
  have hX1 : Hr w R r w.heap.size t w1 := Hr.make h hw1
  clear h
  have q1 : (t.rb != r.nb) = true := by simp [h1]
  have HA : Hid (hearL R r t = none ∧ hearR R r t = r ∧ hearH R r t = 0) := ⟨by unfold hearL; rw [if_pos h1], by unfold hearR; rw [if_pos h1], by unfold hearH; rw [if_pos h1]⟩
  clear h1
  go_enter Tryz.func26, Tryz.ntmps26
  go_upto_region 2 with (refine wpList_boxAt rfl 46 (.tmp 1) rfl (tlA t) rfl ?_; rw [← hw1]; clear hw1)
  refine start_held (S := Hr w R r w.heap.size t) 8 rfl (by kernel_rfl) (hX1.go (Below.refl _ _).drew) ?_
  simp only [Array.replicate_succ, Array.replicate_zero, List.push_toArray, List.nil_append, List.cons_append]
  have hX2 : Hr w R r w.heap.size t w1.drew := hX1.go (Below.refl _ _).drew
  clear hX1
  generalize w1.drew = x2 at *
  refine tkq 0 hX2 ?_
  refine tkf 1 hX2 rfl (fun u hu => by have zz0 := (fun u hu => tl_rb (Hr.tl hu)) u hu; go_simp; try rfl) ?_
  refine tkq 2 hX2 ?_
  refine tkq 3 hX2 ?_
  refine tkq 4 hX2 ?_
  refine tkf 5 hX2 rfl (fun u hu => by have zz0 := (fun u hu => RbAt.c2 (Hr.rb hu)) u hu; go_simp; try rfl) ?_
  refine tkq 6 hX2 ?_
  refine tkq 7 hX2 ?_
  refine done_held (by kernel_rfl) ?_ _
  go_wp2
  go_ret2
  exact heard_none HA.out.1 HA.out.2.1 HA.out.2.2 hX2
set_option maxRecDepth 100000 in
set_option maxHeartbeats 2000000 in
theorem hear_old (t : Tl) (h1 : t.rb = r.nb) (h2 : t.kd = 1) (h3 : t.ep < r.ep) : Calls Tryz.prog 26 #[.pointer (some ⟨R.p, 0, none⟩), .agg (tlA t)] w (Heard w R r t) := by
  obtain ⟨w1, hw1⟩ : ∃ w1, w1 = w.alloc (.cells (tlA t) 46) := ⟨_, rfl⟩
  have hX1 : Hr w R r w.heap.size t w1 := Hr.make h hw1
  clear h
  have q1 : (t.rb != r.nb) = false := by simp [h1]
  have q2 : (t.kd == 1) = true := by rw [beq_iff_eq]; exact h2
  have HA : Hid (hearL R r t = none ∧ hearR R r t = r ∧ hearH R r t = 2) := by
    have n1 : ¬ t.rb ≠ r.nb := fun f => f h1
    exact ⟨by unfold hearL; rw [if_neg n1, if_pos ⟨h2, h3⟩], by unfold hearR; rw [if_neg n1, if_pos ⟨h2, h3⟩], by unfold hearH; rw [if_neg n1, if_pos ⟨h2, h3⟩]⟩
  have q3 : decide (t.ep < r.ep) = true := decide_eq_true h3
  clear h1 h2 h3
  go_enter Tryz.func26, Tryz.ntmps26
  go_upto_region 2 with (refine wpList_boxAt rfl 46 (.tmp 1) rfl (tlA t) rfl ?_; rw [← hw1]; clear hw1)
  refine start_held (S := Hr w R r w.heap.size t) 8 rfl (by kernel_rfl) (hX1.go (Below.refl _ _).drew) ?_
  simp only [Array.replicate_succ, Array.replicate_zero, List.push_toArray, List.nil_append, List.cons_append]
  have hX2 : Hr w R r w.heap.size t w1.drew := hX1.go (Below.refl _ _).drew
  clear hX1
  generalize w1.drew = x2 at *
  refine tkq 0 hX2 ?_
  refine tkf 1 hX2 rfl (fun u hu => by have zz0 := (fun u hu => tl_rb (Hr.tl hu)) u hu; go_simp; try rfl) ?_
  refine tkq 2 hX2 ?_
  refine tkq 3 hX2 ?_
  refine tkq 4 hX2 ?_
  refine tkf 5 hX2 rfl (fun u hu => by have zz0 := (fun u hu => RbAt.c2 (Hr.rb hu)) u hu; go_simp; try rfl) ?_
  refine tkq 6 hX2 ?_
  refine tkq 7 hX2 ?_
  refine done_held (by kernel_rfl) ?_ _
  go_upto_region 3 with fail
  refine start_held (S := Hr w R r w.heap.size t) 13 rfl (by kernel_rfl) (hX2.go (Below.refl _ _).drew) ?_
  simp only [Array.replicate_succ, Array.replicate_zero, List.push_toArray, List.nil_append, List.cons_append]
  have hX3 : Hr w R r w.heap.size t x2.drew := hX2.go (Below.refl _ _).drew
  clear hX2
  generalize x2.drew = x3 at *
  refine tkq 0 hX3 ?_
  refine tkf 1 hX3 rfl (fun u hu => by have zz0 := (fun u hu => tl_kd (Hr.tl hu)) u hu; go_simp; try rfl) ?_
  refine tkq 2 hX3 ?_
  refine tkq 3 hX3 ?_
  refine tkq 4 hX3 ?_
  refine tkf 5 hX3 rfl (fun u hu => by have zz0 := (fun u hu => tl_ep (Hr.tl hu)) u hu; go_simp; try rfl) ?_
  refine tkq 6 hX3 ?_
  refine tkq 7 hX3 ?_
  refine tkq 8 hX3 ?_
  refine tkf 9 hX3 rfl (fun u hu => by have zz0 := (fun u hu => RbAt.c7 (Hr.rb hu)) u hu; go_simp; try rfl) ?_
  refine tkq 10 hX3 ?_
  refine tkq 11 hX3 ?_
  refine tkq 12 hX3 ?_
  refine done_held (by kernel_rfl) ?_ _
  go_wp2
  go_ret2
  exact heard_none HA.out.1 HA.out.2.1 HA.out.2.2 hX3
set_option maxRecDepth 100000 in
set_option maxHeartbeats 2000000 in
theorem hear_begs (t : Tl) (l0 : 0 ≤ r.lt) (l1 : r.lt ≤ 4000000000000000000) (h1 : t.rb = r.nb) (h2 : t.kd = 1) (h3 : ¬ t.ep < r.ep) (hb : begs R r t = true) : Calls Tryz.prog 26 #[.pointer (some ⟨R.p, 0, none⟩), .agg (tlA t)] w (Heard w R r t) := by
  obtain ⟨w1, hw1⟩ : ∃ w1, w1 = w.alloc (.cells (tlA t) 46) := ⟨_, rfl⟩
  have hX1 : Hr w R r w.heap.size t w1 := Hr.make h hw1
  clear h
  have q1 : (t.rb != r.nb) = false := by simp [h1]
  have q2 : (t.kd == 1) = true := by rw [beq_iff_eq]; exact h2
  have HA : Hid (hearL R r t = none ∧ hearR R r t = begun r t ∧ hearH R r t = 1) := by
    have n1 : ¬ t.rb ≠ r.nb := fun f => f h1
    have n2 : ¬ (t.kd = 1 ∧ t.ep < r.ep) := fun f => h3 f.2
    exact ⟨by unfold hearL; rw [if_neg n1, if_neg n2, if_pos ⟨h2, hb⟩], by unfold hearR; rw [if_neg n1, if_neg n2, if_pos ⟨h2, hb⟩], by unfold hearH; rw [if_neg n1, if_neg n2, if_pos ⟨h2, hb⟩]⟩
  have q3 : decide (t.ep < r.ep) = false := decide_eq_false h3
  have HMY : Hid (∀ u, RbAt u R r → Calls Tryz.prog 53 #[.pointer (some ⟨R.p, 0, none⟩), .agg (tlA t)] u fun e w' => e = .returned (.bool true) ∧ Below u.heap.size u w') := fun u hu => by have := mayBegin_any hu t l0 l1; rw [hb] at this; exact this
  clear h1 h2 h3 hb
  go_enter Tryz.func26, Tryz.ntmps26
  go_upto_region 2 with (refine wpList_boxAt rfl 46 (.tmp 1) rfl (tlA t) rfl ?_; rw [← hw1]; clear hw1)
  refine start_held (S := Hr w R r w.heap.size t) 8 rfl (by kernel_rfl) (hX1.go (Below.refl _ _).drew) ?_
  simp only [Array.replicate_succ, Array.replicate_zero, List.push_toArray, List.nil_append, List.cons_append]
  have hX2 : Hr w R r w.heap.size t w1.drew := hX1.go (Below.refl _ _).drew
  clear hX1
  generalize w1.drew = x2 at *
  refine tkq 0 hX2 ?_
  refine tkf 1 hX2 rfl (fun u hu => by have zz0 := (fun u hu => tl_rb (Hr.tl hu)) u hu; go_simp; try rfl) ?_
  refine tkq 2 hX2 ?_
  refine tkq 3 hX2 ?_
  refine tkq 4 hX2 ?_
  refine tkf 5 hX2 rfl (fun u hu => by have zz0 := (fun u hu => RbAt.c2 (Hr.rb hu)) u hu; go_simp; try rfl) ?_
  refine tkq 6 hX2 ?_
  refine tkq 7 hX2 ?_
  refine done_held (by kernel_rfl) ?_ _
  go_upto_region 3 with fail
  refine start_held (S := Hr w R r w.heap.size t) 13 rfl (by kernel_rfl) (hX2.go (Below.refl _ _).drew) ?_
  simp only [Array.replicate_succ, Array.replicate_zero, List.push_toArray, List.nil_append, List.cons_append]
  have hX3 : Hr w R r w.heap.size t x2.drew := hX2.go (Below.refl _ _).drew
  clear hX2
  generalize x2.drew = x3 at *
  refine tkq 0 hX3 ?_
  refine tkf 1 hX3 rfl (fun u hu => by have zz0 := (fun u hu => tl_kd (Hr.tl hu)) u hu; go_simp; try rfl) ?_
  refine tkq 2 hX3 ?_
  refine tkq 3 hX3 ?_
  refine tkq 4 hX3 ?_
  refine tkf 5 hX3 rfl (fun u hu => by have zz0 := (fun u hu => tl_ep (Hr.tl hu)) u hu; go_simp; try rfl) ?_
  refine tkq 6 hX3 ?_
  refine tkq 7 hX3 ?_
  refine tkq 8 hX3 ?_
  refine tkf 9 hX3 rfl (fun u hu => by have zz0 := (fun u hu => RbAt.c7 (Hr.rb hu)) u hu; go_simp; try rfl) ?_
  refine tkq 10 hX3 ?_
  refine tkq 11 hX3 ?_
  refine tkq 12 hX3 ?_
  refine done_held (by kernel_rfl) ?_ _
  have k0 := tl_kd hX3.tl
  have HX : Hid (Hr w R r w.heap.size t x3) := hX3
  have HMB : Hid _ := HMY.out x3 hX3.rb
  have HMB : Hid (Calls Tryz.prog 53 #[.pointer (some ⟨R.p, 0, none⟩), .agg (tlA t)] x3 fun e w' => e = .returned (.bool true) ∧ Below x3.heap.size x3 w') := HMB
  clear hX3
  go_wp2_with (first
    | (refine wpList_load_w (by kernel_rfl) 46 (.tmp 3) rfl ⟨w.heap.size, 0, none⟩ rfl (tlA t) (load_tele HX.out.tl) ?_)
    | (go_at_call 53; refine HMB.out.mono ?_; rintro e wm ⟨rfl, bm⟩; have hXm := HX.out.go bm)
    | (have hXm' := hXm; refine wpList_load_at rfl 44 (.tmp 55) rfl ⟨w.heap.size, 4, none⟩ rfl (mvA (tmv t)) (tl_move hXm'.tl) ?_)
    | (have hXm' := hXm; go_at_call 54; refine (begin_any hXm'.rb t).mono ?_; rintro e wb ⟨rfl, hRb, Tb⟩))
  go_ret2
  exact heard_of HA.out.1 HA.out.2.1 HA.out.2.2 (show LsAt _ _ (.slice none 0 0) none from rfl) hRb ((Tn.below hXm.bel).trans Tb)
set_option maxRecDepth 100000 in
set_option maxHeartbeats 2000000 in
theorem hear_go (t : Tl) (l0 : 0 ≤ r.lt) (l1 : r.lt ≤ 4000000000000000000) (h1 : t.rb = r.nb) (h2 : t.kd = 1) (h3 : ¬ t.ep < r.ep) (hb : begs R r t = false) : Calls Tryz.prog 26 #[.pointer (some ⟨R.p, 0, none⟩), .agg (tlA t)] w (Heard w R r t) := by
  obtain ⟨w1, hw1⟩ : ∃ w1, w1 = w.alloc (.cells (tlA t) 46) := ⟨_, rfl⟩
  have hX1 : Hr w R r w.heap.size t w1 := Hr.make h hw1
  clear h
  have q1 : (t.rb != r.nb) = false := by simp [h1]
  have q2 : (t.kd == 1) = true := by rw [beq_iff_eq]; exact h2
  have q2b : (t.kd == 2) = false := by rw [beq_eq_false_iff_ne]; omega
  have HA : Hid (hearL R r t = (if (lastP r t && !under r) = true then some (tellP r) else none) ∧ hearR R r t = r ∧ hearH R r t = 0) := by
    have n1 : ¬ t.rb ≠ r.nb := fun f => f h1
    have n2 : ¬ (t.kd = 1 ∧ t.ep < r.ep) := fun f => h3 f.2
    have n3 : ¬ (t.kd = 1 ∧ begs R r t = true) := fun f => by rw [hb] at f; cases f.2
    have n4 : ¬ (t.kd = 2 ∧ r.ep < t.ep) := fun f => by omega
    exact ⟨by unfold hearL; rw [if_neg n1, if_neg n2, if_neg n3, if_neg n4], by unfold hearR; rw [if_neg n1, if_neg n2, if_neg n3, if_neg n4], by unfold hearH; rw [if_neg n1, if_neg n2, if_neg n3, if_neg n4]⟩
  have q3 : decide (t.ep < r.ep) = false := decide_eq_false h3
  have HMY : Hid (∀ u, RbAt u R r → Calls Tryz.prog 53 #[.pointer (some ⟨R.p, 0, none⟩), .agg (tlA t)] u fun e w' => e = .returned (.bool false) ∧ Below u.heap.size u w') := fun u hu => by have := mayBegin_any hu t l0 l1; rw [hb] at this; exact this
  clear h1 h2 h3 hb
  go_enter Tryz.func26, Tryz.ntmps26
  go_upto_region 2 with (refine wpList_boxAt rfl 46 (.tmp 1) rfl (tlA t) rfl ?_; rw [← hw1]; clear hw1)
  refine start_held (S := Hr w R r w.heap.size t) 8 rfl (by kernel_rfl) (hX1.go (Below.refl _ _).drew) ?_
  simp only [Array.replicate_succ, Array.replicate_zero, List.push_toArray, List.nil_append, List.cons_append]
  have hX2 : Hr w R r w.heap.size t w1.drew := hX1.go (Below.refl _ _).drew
  clear hX1
  generalize w1.drew = x2 at *
  refine tkq 0 hX2 ?_
  refine tkf 1 hX2 rfl (fun u hu => by have zz0 := (fun u hu => tl_rb (Hr.tl hu)) u hu; go_simp; try rfl) ?_
  refine tkq 2 hX2 ?_
  refine tkq 3 hX2 ?_
  refine tkq 4 hX2 ?_
  refine tkf 5 hX2 rfl (fun u hu => by have zz0 := (fun u hu => RbAt.c2 (Hr.rb hu)) u hu; go_simp; try rfl) ?_
  refine tkq 6 hX2 ?_
  refine tkq 7 hX2 ?_
  refine done_held (by kernel_rfl) ?_ _
  go_upto_region 3 with fail
  refine start_held (S := Hr w R r w.heap.size t) 13 rfl (by kernel_rfl) (hX2.go (Below.refl _ _).drew) ?_
  simp only [Array.replicate_succ, Array.replicate_zero, List.push_toArray, List.nil_append, List.cons_append]
  have hX3 : Hr w R r w.heap.size t x2.drew := hX2.go (Below.refl _ _).drew
  clear hX2
  generalize x2.drew = x3 at *
  refine tkq 0 hX3 ?_
  refine tkf 1 hX3 rfl (fun u hu => by have zz0 := (fun u hu => tl_kd (Hr.tl hu)) u hu; go_simp; try rfl) ?_
  refine tkq 2 hX3 ?_
  refine tkq 3 hX3 ?_
  refine tkq 4 hX3 ?_
  refine tkf 5 hX3 rfl (fun u hu => by have zz0 := (fun u hu => tl_ep (Hr.tl hu)) u hu; go_simp; try rfl) ?_
  refine tkq 6 hX3 ?_
  refine tkq 7 hX3 ?_
  refine tkq 8 hX3 ?_
  refine tkf 9 hX3 rfl (fun u hu => by have zz0 := (fun u hu => RbAt.c7 (Hr.rb hu)) u hu; go_simp; try rfl) ?_
  refine tkq 10 hX3 ?_
  refine tkq 11 hX3 ?_
  refine tkq 12 hX3 ?_
  refine done_held (by kernel_rfl) ?_ _
  have k0 := tl_kd hX3.tl
  have HX : Hid (Hr w R r w.heap.size t x3) := hX3
  have HMB : Hid (Calls Tryz.prog 53 #[.pointer (some ⟨R.p, 0, none⟩), .agg (tlA t)] x3 fun e w' => e = .returned (.bool false) ∧ Below x3.heap.size x3 w') := HMY.out x3 hX3.rb
  clear hX3
  go_upto_region 5 with (first
    | (refine wpList_load_w (by kernel_rfl) 46 (.tmp 3) rfl ⟨w.heap.size, 0, none⟩ rfl (tlA t) (load_tele HX.out.tl) ?_)
    | (go_at_call 53; refine HMB.out.mono ?_; rintro e x4 ⟨rfl, bm⟩; have hX4 := HX.out.go bm))
  clear k0
  refine start_held (S := Hr w R r w.heap.size t) 13 rfl (by kernel_rfl) (hX4.go (Below.refl _ _).drew) ?_
  simp only [Array.replicate_succ, Array.replicate_zero, List.push_toArray, List.nil_append, List.cons_append]
  have hX5 : Hr w R r w.heap.size t x4.drew := hX4.go (Below.refl _ _).drew
  clear hX4
  generalize x4.drew = x5 at *
  refine tkq 0 hX5 ?_
  refine tkf 1 hX5 rfl (fun u hu => by have zz0 := (fun u hu => tl_kd (Hr.tl hu)) u hu; go_simp; try rfl) ?_
  refine tkq 2 hX5 ?_
  refine tkq 3 hX5 ?_
  refine skq 4 hX5 ?_
  refine skq 5 hX5 ?_
  refine skq 6 hX5 ?_
  refine skq 7 hX5 ?_
  refine skq 8 hX5 ?_
  refine skq 9 hX5 ?_
  refine skq 10 hX5 ?_
  refine tkq 11 hX5 ?_
  refine tkq 12 hX5 ?_
  refine done_held (by kernel_rfl) ?_ _
  have HY : Hid (Hr w R r w.heap.size t x5) := hX5
  clear hX5
  cases hl : lastP r t with
  | false =>
    have HB : Hid (lastP r t = false) := hl
    go_wp2_with (first
      | (refine wpList_load_at rfl 46 (.tmp 3) rfl ⟨w.heap.size, 0, none⟩ rfl (tlA t) (load_tele HY.out.tl) ?_)
      | (go_at_call 56; refine (isLast_any HY.out.rb t).mono ?_; rintro e wl ⟨rfl, bl⟩; have hXl := HY.out.go bl; rw [HB.out]))
    go_ret2
    exact heard_none ((HA.out.1).trans (by rw [hl]; rfl)) HA.out.2.1 HA.out.2.2 hXl
  | true =>
    have HB : Hid (lastP r t = true) := hl
    cases hu : under r with
    | true =>
      go_wp2_with (first
        | (refine wpList_load_at rfl 46 (.tmp 3) rfl ⟨w.heap.size, 0, none⟩ rfl (tlA t) (load_tele HY.out.tl) ?_)
        | (go_at_call 56; refine (isLast_any HY.out.rb t).mono ?_; rintro e wl ⟨rfl, bl⟩; have hXl := HY.out.go bl; have HC := moves_any hXl.rb; rw [hu] at HC; rw [HB.out])
        | (go_at_call 57; refine HC.mono ?_; rintro e wq ⟨rfl, hwq⟩; rw [hwq]; clear hwq))
      go_ret2
      exact heard_none ((HA.out.1).trans (by rw [hl, hu]; rfl)) HA.out.2.1 HA.out.2.2 hXl
    | false =>
      go_wp2_with (first
        | (refine wpList_load_at rfl 46 (.tmp 3) rfl ⟨w.heap.size, 0, none⟩ rfl (tlA t) (load_tele HY.out.tl) ?_)
        | (go_at_call 56; refine (isLast_any HY.out.rb t).mono ?_; rintro e wl ⟨rfl, bl⟩; have hXl := HY.out.go bl; have HC := moves_any hXl.rb; rw [hu] at HC; have HTE := tell_any hXl.rb; rw [HB.out])
        | (go_at_call 57; refine HC.mono ?_; rintro e wq ⟨rfl, hwq⟩; rw [hwq]; clear hwq)
        | (go_at_call 32; refine HTE.mono ?_; rintro e wt ⟨v, rfl, lv, bt⟩))
      go_ret2
      exact heard_of ((HA.out.1).trans (by rw [hl, hu]; rfl)) HA.out.2.1 HA.out.2.2 (lv.mono hXl.bel.size) (hXl.rb.go bt) ((Tn.below hXl.bel).trans (Tn.below bt))
set_option maxRecDepth 100000 in
set_option maxHeartbeats 2000000 in
theorem hear_stop (t : Tl) (e0 : 0 ≤ r.ep) (g1 : r.gn ≤ 9223372036854775807) (h1 : t.rb = r.nb) (h2 : t.kd = 2) (h3 : r.ep < t.ep) : Calls Tryz.prog 26 #[.pointer (some ⟨R.p, 0, none⟩), .agg (tlA t)] w (Heard w R r t) := by
  obtain ⟨w1, hw1⟩ : ∃ w1, w1 = w.alloc (.cells (tlA t) 46) := ⟨_, rfl⟩
  have hX1 : Hr w R r w.heap.size t w1 := Hr.make h hw1
  clear h
  have q1 : (t.rb != r.nb) = false := by simp [h1]
  have q2 : (t.kd == 1) = false := by rw [beq_eq_false_iff_ne]; omega
  have q2b : (t.kd == 2) = true := by rw [beq_iff_eq]; exact h2
  have HA : Hid (hearL R r t = (if under r then none else some (tellP (newEp r t.ep))) ∧ hearR R r t = stopP R r t.ep ∧ hearH R r t = stopH r) := by
    have n1 : ¬ t.rb ≠ r.nb := fun f => f h1
    have n2 : ¬ (t.kd = 1 ∧ t.ep < r.ep) := fun f => by omega
    have n3 : ¬ (t.kd = 1 ∧ begs R r t = true) := fun f => by omega
    exact ⟨by unfold hearL; rw [if_neg n1, if_neg n2, if_neg n3, if_pos ⟨h2, h3⟩], by unfold hearR; rw [if_neg n1, if_neg n2, if_neg n3, if_pos ⟨h2, h3⟩], by unfold hearH; rw [if_neg n1, if_neg n2, if_neg n3, if_pos ⟨h2, h3⟩]⟩
  have q3 : decide (r.ep < t.ep) = true := decide_eq_true h3
  have HG : Hid (r.gn ≤ 9223372036854775807) := g1
  clear h1 h2 h3 g1
  go_enter Tryz.func26, Tryz.ntmps26
  go_upto_region 2 with (refine wpList_boxAt rfl 46 (.tmp 1) rfl (tlA t) rfl ?_; rw [← hw1]; clear hw1)
  refine start_held (S := Hr w R r w.heap.size t) 8 rfl (by kernel_rfl) (hX1.go (Below.refl _ _).drew) ?_
  simp only [Array.replicate_succ, Array.replicate_zero, List.push_toArray, List.nil_append, List.cons_append]
  have hX2 : Hr w R r w.heap.size t w1.drew := hX1.go (Below.refl _ _).drew
  clear hX1
  generalize w1.drew = x2 at *
  refine tkq 0 hX2 ?_
  refine tkf 1 hX2 rfl (fun u hu => by have zz0 := (fun u hu => tl_rb (Hr.tl hu)) u hu; go_simp; try rfl) ?_
  refine tkq 2 hX2 ?_
  refine tkq 3 hX2 ?_
  refine tkq 4 hX2 ?_
  refine tkf 5 hX2 rfl (fun u hu => by have zz0 := (fun u hu => RbAt.c2 (Hr.rb hu)) u hu; go_simp; try rfl) ?_
  refine tkq 6 hX2 ?_
  refine tkq 7 hX2 ?_
  refine done_held (by kernel_rfl) ?_ _
  go_upto_region 3 with fail
  refine start_held (S := Hr w R r w.heap.size t) 13 rfl (by kernel_rfl) (hX2.go (Below.refl _ _).drew) ?_
  simp only [Array.replicate_succ, Array.replicate_zero, List.push_toArray, List.nil_append, List.cons_append]
  have hX3 : Hr w R r w.heap.size t x2.drew := hX2.go (Below.refl _ _).drew
  clear hX2
  generalize x2.drew = x3 at *
  refine tkq 0 hX3 ?_
  refine tkf 1 hX3 rfl (fun u hu => by have zz0 := (fun u hu => tl_kd (Hr.tl hu)) u hu; go_simp; try rfl) ?_
  refine tkq 2 hX3 ?_
  refine tkq 3 hX3 ?_
  refine skq 4 hX3 ?_
  refine skq 5 hX3 ?_
  refine skq 6 hX3 ?_
  refine skq 7 hX3 ?_
  refine skq 8 hX3 ?_
  refine skq 9 hX3 ?_
  refine skq 10 hX3 ?_
  refine tkq 11 hX3 ?_
  refine tkq 12 hX3 ?_
  refine done_held (by kernel_rfl) ?_ _
  have k0 := tl_kd hX3.tl
  go_upto_region 5 with fail
  clear k0
  refine start_held (S := Hr w R r w.heap.size t) 13 rfl (by kernel_rfl) (hX3.go (Below.refl _ _).drew) ?_
  simp only [Array.replicate_succ, Array.replicate_zero, List.push_toArray, List.nil_append, List.cons_append]
  have hX5 : Hr w R r w.heap.size t x3.drew := hX3.go (Below.refl _ _).drew
  clear hX3
  generalize x3.drew = x5 at *
  refine tkq 0 hX5 ?_
  refine tkf 1 hX5 rfl (fun u hu => by have zz0 := (fun u hu => tl_kd (Hr.tl hu)) u hu; go_simp; try rfl) ?_
  refine tkq 2 hX5 ?_
  refine tkq 3 hX5 ?_
  refine tkq 4 hX5 ?_
  refine tkf 5 hX5 rfl (fun u hu => by have zz0 := (fun u hu => tl_ep (Hr.tl hu)) u hu; go_simp; try rfl) ?_
  refine tkq 6 hX5 ?_
  refine tkq 7 hX5 ?_
  refine tkq 8 hX5 ?_
  refine tkf 9 hX5 rfl (fun u hu => by have zz0 := (fun u hu => RbAt.c7 (Hr.rb hu)) u hu; go_simp; try rfl) ?_
  refine tkq 10 hX5 ?_
  refine tkq 11 hX5 ?_
  refine tkq 12 hX5 ?_
  refine done_held (by kernel_rfl) ?_ _
  have k2 := tl_ep hX5.tl
  have HX : Hid (Hr w R r w.heap.size t x5) := hX5
  clear hX5
  cases hu : under r with
  | true =>
    go_wp2_with (first
      | (go_at_call 55; refine (stop_any HX.out.rb t.ep HG.out).mono ?_; rintro e ws ⟨rfl, hRs, Ts⟩; have HC := moves_any hRs; rw [under_stop t.ep hu] at HC)
      | (go_at_call 57; refine HC.mono ?_; rintro e wq ⟨rfl, hwq⟩; rw [hwq]; clear hwq))
    go_ret2
    exact heard_of ((HA.out.1).trans (by rw [hu]; rfl)) HA.out.2.1 HA.out.2.2 (show LsAt _ _ (.slice none 0 0) none from rfl) hRs ((Tn.below HX.out.bel).trans Ts)
  | false =>
    have es : stopP R r t.ep = newEp r t.ep := by unfold stopP; rw [hu]; rfl
    go_wp2_with (first
      | (go_at_call 55; refine (stop_any HX.out.rb t.ep HG.out).mono ?_; rintro e ws ⟨rfl, hRs, Ts⟩; rw [es] at hRs; have HC := moves_any hRs; rw [show under (newEp r t.ep) = under r from rfl, hu] at HC; have HTE := tell_any hRs; have hsz := (Tn.below HX.out.bel).trans Ts)
      | (go_at_call 57; refine HC.mono ?_; rintro e wq ⟨rfl, hwq⟩; rw [hwq]; clear hwq)
      | (go_at_call 32; refine HTE.mono ?_; rintro e wt ⟨v, rfl, lv, bt⟩))
    go_ret2
    exact heard_of (L := some (tellP (newEp r t.ep))) ((HA.out.1).trans (by rw [hu]; rfl)) (HA.out.2.1.trans es) HA.out.2.2 (lv.mono hsz.size) (hRs.go bt) (hsz.trans (Tn.below bt))
set_option maxRecDepth 100000 in
set_option maxHeartbeats 2000000 in
theorem hear_stop2 (t : Tl) (h1 : t.rb = r.nb) (h2 : t.kd ≠ 1) (h3 : t.kd = 2 ∧ ¬ r.ep < t.ep) : Calls Tryz.prog 26 #[.pointer (some ⟨R.p, 0, none⟩), .agg (tlA t)] w (Heard w R r t) := by
  obtain ⟨w1, hw1⟩ : ∃ w1, w1 = w.alloc (.cells (tlA t) 46) := ⟨_, rfl⟩
  have hX1 : Hr w R r w.heap.size t w1 := Hr.make h hw1
  clear h
  have q1 : (t.rb != r.nb) = false := by simp [h1]
  have q2 : (t.kd == 1) = false := by rw [beq_eq_false_iff_ne]; exact h2
  have q2b : (t.kd == 2) = true := by rw [beq_iff_eq]; exact h3.1
  have HA : Hid (hearL R r t = (if (lastP r t && !under r) = true then some (tellP r) else none) ∧ hearR R r t = r ∧ hearH R r t = 0) := by
    have n1 : ¬ t.rb ≠ r.nb := fun f => f h1
    have n2 : ¬ (t.kd = 1 ∧ t.ep < r.ep) := fun f => h2 f.1
    have n3 : ¬ (t.kd = 1 ∧ begs R r t = true) := fun f => h2 f.1
    have n4 : ¬ (t.kd = 2 ∧ r.ep < t.ep) := fun f => h3.2 f.2
    exact ⟨by unfold hearL; rw [if_neg n1, if_neg n2, if_neg n3, if_neg n4], by unfold hearR; rw [if_neg n1, if_neg n2, if_neg n3, if_neg n4], by unfold hearH; rw [if_neg n1, if_neg n2, if_neg n3, if_neg n4]⟩
  have q3 : decide (r.ep < t.ep) = false := decide_eq_false h3.2
  clear h1 h2 h3
  go_enter Tryz.func26, Tryz.ntmps26
  go_upto_region 2 with (refine wpList_boxAt rfl 46 (.tmp 1) rfl (tlA t) rfl ?_; rw [← hw1]; clear hw1)
  refine start_held (S := Hr w R r w.heap.size t) 8 rfl (by kernel_rfl) (hX1.go (Below.refl _ _).drew) ?_
  simp only [Array.replicate_succ, Array.replicate_zero, List.push_toArray, List.nil_append, List.cons_append]
  have hX2 : Hr w R r w.heap.size t w1.drew := hX1.go (Below.refl _ _).drew
  clear hX1
  generalize w1.drew = x2 at *
  refine tkq 0 hX2 ?_
  refine tkf 1 hX2 rfl (fun u hu => by have zz0 := (fun u hu => tl_rb (Hr.tl hu)) u hu; go_simp; try rfl) ?_
  refine tkq 2 hX2 ?_
  refine tkq 3 hX2 ?_
  refine tkq 4 hX2 ?_
  refine tkf 5 hX2 rfl (fun u hu => by have zz0 := (fun u hu => RbAt.c2 (Hr.rb hu)) u hu; go_simp; try rfl) ?_
  refine tkq 6 hX2 ?_
  refine tkq 7 hX2 ?_
  refine done_held (by kernel_rfl) ?_ _
  go_upto_region 3 with fail
  refine start_held (S := Hr w R r w.heap.size t) 13 rfl (by kernel_rfl) (hX2.go (Below.refl _ _).drew) ?_
  simp only [Array.replicate_succ, Array.replicate_zero, List.push_toArray, List.nil_append, List.cons_append]
  have hX3 : Hr w R r w.heap.size t x2.drew := hX2.go (Below.refl _ _).drew
  clear hX2
  generalize x2.drew = x3 at *
  refine tkq 0 hX3 ?_
  refine tkf 1 hX3 rfl (fun u hu => by have zz0 := (fun u hu => tl_kd (Hr.tl hu)) u hu; go_simp; try rfl) ?_
  refine tkq 2 hX3 ?_
  refine tkq 3 hX3 ?_
  refine skq 4 hX3 ?_
  refine skq 5 hX3 ?_
  refine skq 6 hX3 ?_
  refine skq 7 hX3 ?_
  refine skq 8 hX3 ?_
  refine skq 9 hX3 ?_
  refine skq 10 hX3 ?_
  refine tkq 11 hX3 ?_
  refine tkq 12 hX3 ?_
  refine done_held (by kernel_rfl) ?_ _
  have k0 := tl_kd hX3.tl
  go_upto_region 5 with fail
  clear k0
  refine start_held (S := Hr w R r w.heap.size t) 13 rfl (by kernel_rfl) (hX3.go (Below.refl _ _).drew) ?_
  simp only [Array.replicate_succ, Array.replicate_zero, List.push_toArray, List.nil_append, List.cons_append]
  have hX5 : Hr w R r w.heap.size t x3.drew := hX3.go (Below.refl _ _).drew
  clear hX3
  generalize x3.drew = x5 at *
  refine tkq 0 hX5 ?_
  refine tkf 1 hX5 rfl (fun u hu => by have zz0 := (fun u hu => tl_kd (Hr.tl hu)) u hu; go_simp; try rfl) ?_
  refine tkq 2 hX5 ?_
  refine tkq 3 hX5 ?_
  refine tkq 4 hX5 ?_
  refine tkf 5 hX5 rfl (fun u hu => by have zz0 := (fun u hu => tl_ep (Hr.tl hu)) u hu; go_simp; try rfl) ?_
  refine tkq 6 hX5 ?_
  refine tkq 7 hX5 ?_
  refine tkq 8 hX5 ?_
  refine tkf 9 hX5 rfl (fun u hu => by have zz0 := (fun u hu => RbAt.c7 (Hr.rb hu)) u hu; go_simp; try rfl) ?_
  refine tkq 10 hX5 ?_
  refine tkq 11 hX5 ?_
  refine tkq 12 hX5 ?_
  refine done_held (by kernel_rfl) ?_ _
  have HY : Hid (Hr w R r w.heap.size t x5) := hX5
  clear hX5
  cases hl : lastP r t with
  | false =>
    have HB : Hid (lastP r t = false) := hl
    go_wp2_with (first
      | (refine wpList_load_at rfl 46 (.tmp 3) rfl ⟨w.heap.size, 0, none⟩ rfl (tlA t) (load_tele HY.out.tl) ?_)
      | (go_at_call 56; refine (isLast_any HY.out.rb t).mono ?_; rintro e wl ⟨rfl, bl⟩; have hXl := HY.out.go bl; rw [HB.out]))
    go_ret2
    exact heard_none ((HA.out.1).trans (by rw [hl]; rfl)) HA.out.2.1 HA.out.2.2 hXl
  | true =>
    have HB : Hid (lastP r t = true) := hl
    cases hu : under r with
    | true =>
      go_wp2_with (first
        | (refine wpList_load_at rfl 46 (.tmp 3) rfl ⟨w.heap.size, 0, none⟩ rfl (tlA t) (load_tele HY.out.tl) ?_)
        | (go_at_call 56; refine (isLast_any HY.out.rb t).mono ?_; rintro e wl ⟨rfl, bl⟩; have hXl := HY.out.go bl; have HC := moves_any hXl.rb; rw [hu] at HC; rw [HB.out])
        | (go_at_call 57; refine HC.mono ?_; rintro e wq ⟨rfl, hwq⟩; rw [hwq]; clear hwq))
      go_ret2
      exact heard_none ((HA.out.1).trans (by rw [hl, hu]; rfl)) HA.out.2.1 HA.out.2.2 hXl
    | false =>
      go_wp2_with (first
        | (refine wpList_load_at rfl 46 (.tmp 3) rfl ⟨w.heap.size, 0, none⟩ rfl (tlA t) (load_tele HY.out.tl) ?_)
        | (go_at_call 56; refine (isLast_any HY.out.rb t).mono ?_; rintro e wl ⟨rfl, bl⟩; have hXl := HY.out.go bl; have HC := moves_any hXl.rb; rw [hu] at HC; have HTE := tell_any hXl.rb; rw [HB.out])
        | (go_at_call 57; refine HC.mono ?_; rintro e wq ⟨rfl, hwq⟩; rw [hwq]; clear hwq)
        | (go_at_call 32; refine HTE.mono ?_; rintro e wt ⟨v, rfl, lv, bt⟩))
      go_ret2
      exact heard_of ((HA.out.1).trans (by rw [hl, hu]; rfl)) HA.out.2.1 HA.out.2.2 (lv.mono hXl.bel.size) (hXl.rb.go bt) ((Tn.below hXl.bel).trans (Tn.below bt))
set_option maxRecDepth 100000 in
set_option maxHeartbeats 2000000 in
theorem hear_kind (t : Tl) (h1 : t.rb = r.nb) (h2 : t.kd ≠ 1) (h3 : t.kd ≠ 2) : Calls Tryz.prog 26 #[.pointer (some ⟨R.p, 0, none⟩), .agg (tlA t)] w (Heard w R r t) := by
  obtain ⟨w1, hw1⟩ : ∃ w1, w1 = w.alloc (.cells (tlA t) 46) := ⟨_, rfl⟩
  have hX1 : Hr w R r w.heap.size t w1 := Hr.make h hw1
  clear h
  have q1 : (t.rb != r.nb) = false := by simp [h1]
  have q2 : (t.kd == 1) = false := by rw [beq_eq_false_iff_ne]; exact h2
  have q2b : (t.kd == 2) = false := by rw [beq_eq_false_iff_ne]; exact h3
  have HA : Hid (hearL R r t = (if (lastP r t && !under r) = true then some (tellP r) else none) ∧ hearR R r t = r ∧ hearH R r t = 0) := by
    have n1 : ¬ t.rb ≠ r.nb := fun f => f h1
    have n2 : ¬ (t.kd = 1 ∧ t.ep < r.ep) := fun f => h2 f.1
    have n3 : ¬ (t.kd = 1 ∧ begs R r t = true) := fun f => h2 f.1
    have n4 : ¬ (t.kd = 2 ∧ r.ep < t.ep) := fun f => h3 f.1
    exact ⟨by unfold hearL; rw [if_neg n1, if_neg n2, if_neg n3, if_neg n4], by unfold hearR; rw [if_neg n1, if_neg n2, if_neg n3, if_neg n4], by unfold hearH; rw [if_neg n1, if_neg n2, if_neg n3, if_neg n4]⟩
  skip
  clear h1 h2 h3
  go_enter Tryz.func26, Tryz.ntmps26
  go_upto_region 2 with (refine wpList_boxAt rfl 46 (.tmp 1) rfl (tlA t) rfl ?_; rw [← hw1]; clear hw1)
  refine start_held (S := Hr w R r w.heap.size t) 8 rfl (by kernel_rfl) (hX1.go (Below.refl _ _).drew) ?_
  simp only [Array.replicate_succ, Array.replicate_zero, List.push_toArray, List.nil_append, List.cons_append]
  have hX2 : Hr w R r w.heap.size t w1.drew := hX1.go (Below.refl _ _).drew
  clear hX1
  generalize w1.drew = x2 at *
  refine tkq 0 hX2 ?_
  refine tkf 1 hX2 rfl (fun u hu => by have zz0 := (fun u hu => tl_rb (Hr.tl hu)) u hu; go_simp; try rfl) ?_
  refine tkq 2 hX2 ?_
  refine tkq 3 hX2 ?_
  refine tkq 4 hX2 ?_
  refine tkf 5 hX2 rfl (fun u hu => by have zz0 := (fun u hu => RbAt.c2 (Hr.rb hu)) u hu; go_simp; try rfl) ?_
  refine tkq 6 hX2 ?_
  refine tkq 7 hX2 ?_
  refine done_held (by kernel_rfl) ?_ _
  go_upto_region 3 with fail
  refine start_held (S := Hr w R r w.heap.size t) 13 rfl (by kernel_rfl) (hX2.go (Below.refl _ _).drew) ?_
  simp only [Array.replicate_succ, Array.replicate_zero, List.push_toArray, List.nil_append, List.cons_append]
  have hX3 : Hr w R r w.heap.size t x2.drew := hX2.go (Below.refl _ _).drew
  clear hX2
  generalize x2.drew = x3 at *
  refine tkq 0 hX3 ?_
  refine tkf 1 hX3 rfl (fun u hu => by have zz0 := (fun u hu => tl_kd (Hr.tl hu)) u hu; go_simp; try rfl) ?_
  refine tkq 2 hX3 ?_
  refine tkq 3 hX3 ?_
  refine skq 4 hX3 ?_
  refine skq 5 hX3 ?_
  refine skq 6 hX3 ?_
  refine skq 7 hX3 ?_
  refine skq 8 hX3 ?_
  refine skq 9 hX3 ?_
  refine skq 10 hX3 ?_
  refine tkq 11 hX3 ?_
  refine tkq 12 hX3 ?_
  refine done_held (by kernel_rfl) ?_ _
  have k0 := tl_kd hX3.tl
  go_upto_region 5 with fail
  clear k0
  refine start_held (S := Hr w R r w.heap.size t) 13 rfl (by kernel_rfl) (hX3.go (Below.refl _ _).drew) ?_
  simp only [Array.replicate_succ, Array.replicate_zero, List.push_toArray, List.nil_append, List.cons_append]
  have hX5 : Hr w R r w.heap.size t x3.drew := hX3.go (Below.refl _ _).drew
  clear hX3
  generalize x3.drew = x5 at *
  refine tkq 0 hX5 ?_
  refine tkf 1 hX5 rfl (fun u hu => by have zz0 := (fun u hu => tl_kd (Hr.tl hu)) u hu; go_simp; try rfl) ?_
  refine tkq 2 hX5 ?_
  refine tkq 3 hX5 ?_
  refine skq 4 hX5 ?_
  refine skq 5 hX5 ?_
  refine skq 6 hX5 ?_
  refine skq 7 hX5 ?_
  refine skq 8 hX5 ?_
  refine skq 9 hX5 ?_
  refine skq 10 hX5 ?_
  refine tkq 11 hX5 ?_
  refine tkq 12 hX5 ?_
  refine done_held (by kernel_rfl) ?_ _
  have HY : Hid (Hr w R r w.heap.size t x5) := hX5
  clear hX5
  cases hl : lastP r t with
  | false =>
    have HB : Hid (lastP r t = false) := hl
    go_wp2_with (first
      | (refine wpList_load_at rfl 46 (.tmp 3) rfl ⟨w.heap.size, 0, none⟩ rfl (tlA t) (load_tele HY.out.tl) ?_)
      | (go_at_call 56; refine (isLast_any HY.out.rb t).mono ?_; rintro e wl ⟨rfl, bl⟩; have hXl := HY.out.go bl; rw [HB.out]))
    go_ret2
    exact heard_none ((HA.out.1).trans (by rw [hl]; rfl)) HA.out.2.1 HA.out.2.2 hXl
  | true =>
    have HB : Hid (lastP r t = true) := hl
    cases hu : under r with
    | true =>
      go_wp2_with (first
        | (refine wpList_load_at rfl 46 (.tmp 3) rfl ⟨w.heap.size, 0, none⟩ rfl (tlA t) (load_tele HY.out.tl) ?_)
        | (go_at_call 56; refine (isLast_any HY.out.rb t).mono ?_; rintro e wl ⟨rfl, bl⟩; have hXl := HY.out.go bl; have HC := moves_any hXl.rb; rw [hu] at HC; rw [HB.out])
        | (go_at_call 57; refine HC.mono ?_; rintro e wq ⟨rfl, hwq⟩; rw [hwq]; clear hwq))
      go_ret2
      exact heard_none ((HA.out.1).trans (by rw [hl, hu]; rfl)) HA.out.2.1 HA.out.2.2 hXl
    | false =>
      go_wp2_with (first
        | (refine wpList_load_at rfl 46 (.tmp 3) rfl ⟨w.heap.size, 0, none⟩ rfl (tlA t) (load_tele HY.out.tl) ?_)
        | (go_at_call 56; refine (isLast_any HY.out.rb t).mono ?_; rintro e wl ⟨rfl, bl⟩; have hXl := HY.out.go bl; have HC := moves_any hXl.rb; rw [hu] at HC; have HTE := tell_any hXl.rb; rw [HB.out])
        | (go_at_call 57; refine HC.mono ?_; rintro e wq ⟨rfl, hwq⟩; rw [hwq]; clear hwq)
        | (go_at_call 32; refine HTE.mono ?_; rintro e wt ⟨v, rfl, lv, bt⟩))
      go_ret2
      exact heard_of ((HA.out.1).trans (by rw [hl, hu]; rfl)) HA.out.2.1 HA.out.2.2 (lv.mono hXl.bel.size) (hXl.rb.go bt) ((Tn.below hXl.bel).trans (Tn.below bt))
theorem hear_any (t : Tl) {n : Int} (hn : n ≤ 1000000000000) (ok : OkR n r) : Calls Tryz.prog 26 #[.pointer (some ⟨R.p, 0, none⟩), .agg (tlA t)] w (Heard w R r t) := by
  have l0 := ok.lt0
  have l1 : r.lt ≤ 4000000000000000000 := by have := ok.ltn; omega
  have g1 : r.gn ≤ 9223372036854775807 := by have := ok.gnn; omega
  by_cases h1 : t.rb = r.nb
  · by_cases h2 : t.kd = 1
    · by_cases h3 : t.ep < r.ep
      · exact hear_old h t h1 h2 h3
      · cases hb : begs R r t with
        | true => exact hear_begs h t l0 l1 h1 h2 h3 hb
        | false => exact hear_go h t l0 l1 h1 h2 h3 hb
    · by_cases h3 : t.kd = 2
      · by_cases h4 : r.ep < t.ep
        · exact hear_stop h t ok.ep0 g1 h1 h3 h4
        · exact hear_stop2 h t h1 h2 ⟨h3, h4⟩
      · exact hear_kind h t h1 h2 h3
  · exact hear_other h t h1
end
end Go.Proofs.YtedhoghleelhfaaGreat.Rob
