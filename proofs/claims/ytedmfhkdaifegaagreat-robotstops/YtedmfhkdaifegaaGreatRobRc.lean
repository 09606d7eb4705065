/-
  The chapter's own robot in memory; its New.
-/
import Derived.Test.YtedmfhkdaifegaaGreatRobRef
namespace Go.Proofs.YtedmfhkdaifegaaGreat.Rob
set_option linter.unusedVariables false
set_option linter.unusedSimpArgs false
open Go Go.RowKit Go.Shelf Go.Proofs Go.Proofs.YtedmfhkdaifegaaGreat.Lk Go.Proofs.YtedmfhkdaifegaaGreat.Plain
attribute [local go_sem] Oper.semAt_some

/- The chapter's own robot: its config, its numbers (the ticks gone and whether it was cut are its own). -/
def rcL (cs : List Value) (r : Rb) (gn : Int) (cu : Bool) : List Value := cs ++ ([.int .i64 r.nb, .int .i64 r.px, .int .i64 r.py, .bool r.pd, .int .i64 r.ld, .int .i64 r.ep, .int .i64 r.lt, .bool (under r)] ++ (mvL r.mv ++ [.int .i64 r.lf, .int .i64 gn, .int .i64 r.la, .bool r.st, .bool cu]))
def rcA (cs : Array Value) (r : Rb) (gn : Int) (cu : Bool) : Array Value := (rcL cs.toList r gn cu).toArray
structure RcAt (w : World) (q : Nat) (cs : Array Value) (r : Rb) (gn : Int) (cu : Bool) : Prop where
  at_ : w.heap[q]? = some (.cells (rcA cs r gn cu) 53 (0, 0))
  len : cs.size = 16
  run_ : under r = true → gn = r.gn ∧ cu = (r.st && decide (r.mv.kd = 1))
theorem RcAt.lt {w : World} {q : Nat} {cs : Array Value} {r : Rb} {gn : Int} {cu : Bool} (h : RcAt w q cs r gn cu) : q < w.heap.size := (Array.getElem?_eq_some_iff.1 h.at_).1
theorem RcAt.go {w w' : World} {q : Nat} {cs : Array Value} {r : Rb} {gn : Int} {cu : Bool} (h : RcAt w q cs r gn cu) (b : Below w.heap.size w w') : RcAt w' q cs r gn cu := ⟨(b.block _ h.lt).trans h.at_, h.len, h.run_⟩
theorem RcAt.cell {w : World} {q : Nat} {cs : Array Value} {r : Rb} {gn : Int} {cu : Bool} (h : RcAt w q cs r gn cu) (j : Nat) : w.cell? ⟨q, 16 + j, none⟩ = ([.int .i64 r.nb, .int .i64 r.px, .int .i64 r.py, .bool r.pd, .int .i64 r.ld, .int .i64 r.ep, .int .i64 r.lt, .bool (under r)] ++ (mvL r.mv ++ [.int .i64 r.lf, .int .i64 gn, .int .i64 r.la, .bool r.st, .bool cu]))[j]? := by
  rw [cell_of' h.at_]
  unfold rcA rcL
  rw [List.getElem?_toArray, List.getElem?_append_right (by rw [Array.length_toList, h.len]; omega), Array.length_toList, h.len, Nat.add_sub_cancel_left]
theorem RcAt.froz {w : World} {q : Nat} {cs : Array Value} {r : Rb} {gn : Int} {cu : Bool} (h : RcAt w q cs r gn cu) (j : Nat) : w.frozen? ⟨q, j, none⟩ = false := by simp [World.frozen?, h.at_]
theorem RcAt.nb {w : World} {q : Nat} {cs : Array Value} {r : Rb} {gn : Int} {cu : Bool} (h : RcAt w q cs r gn cu) : w.cell? ⟨q, 16, none⟩ = some (.int .i64 r.nb) := h.cell 0
theorem RcAt.ld {w : World} {q : Nat} {cs : Array Value} {r : Rb} {gn : Int} {cu : Bool} (h : RcAt w q cs r gn cu) : w.cell? ⟨q, 20, none⟩ = some (.int .i64 r.ld) := h.cell 4
theorem RcAt.ep {w : World} {q : Nat} {cs : Array Value} {r : Rb} {gn : Int} {cu : Bool} (h : RcAt w q cs r gn cu) : w.cell? ⟨q, 21, none⟩ = some (.int .i64 r.ep) := h.cell 5
theorem RcAt.nm {w : World} {q : Nat} {cs : Array Value} {r : Rb} {gn : Int} {cu : Bool} (h : RcAt w q cs r gn cu) : w.cell? ⟨q, 22, none⟩ = some (.int .i64 r.lt) := h.cell 6
theorem RcAt.un {w : World} {q : Nat} {cs : Array Value} {r : Rb} {gn : Int} {cu : Bool} (h : RcAt w q cs r gn cu) : w.cell? ⟨q, 23, none⟩ = some (.bool (under r)) := h.cell 7
theorem RcAt.kd {w : World} {q : Nat} {cs : Array Value} {r : Rb} {gn : Int} {cu : Bool} (h : RcAt w q cs r gn cu) : w.cell? ⟨q, 24, none⟩ = some (.int .i64 r.mv.kd) := h.cell 8
theorem RcAt.lf {w : World} {q : Nat} {cs : Array Value} {r : Rb} {gn : Int} {cu : Bool} (h : RcAt w q cs r gn cu) : w.cell? ⟨q, 35, none⟩ = some (.int .i64 r.lf) := h.cell 19
theorem RcAt.gn {w : World} {q : Nat} {cs : Array Value} {r : Rb} {gn : Int} {cu : Bool} (h : RcAt w q cs r gn cu) : w.cell? ⟨q, 36, none⟩ = some (.int .i64 gn) := h.cell 20
theorem RcAt.la {w : World} {q : Nat} {cs : Array Value} {r : Rb} {gn : Int} {cu : Bool} (h : RcAt w q cs r gn cu) : w.cell? ⟨q, 37, none⟩ = some (.int .i64 r.la) := h.cell 21
theorem RcAt.st {w : World} {q : Nat} {cs : Array Value} {r : Rb} {gn : Int} {cu : Bool} (h : RcAt w q cs r gn cu) : w.cell? ⟨q, 38, none⟩ = some (.bool r.st) := h.cell 22
theorem RcAt.cu {w : World} {q : Nat} {cs : Array Value} {r : Rb} {gn : Int} {cu : Bool} (h : RcAt w q cs r gn cu) : w.cell? ⟨q, 39, none⟩ = some (.bool cu) := h.cell 23
theorem RcAt.pose {w : World} {q : Nat} {cs : Array Value} {r : Rb} {gn : Int} {cu : Bool} (h : RcAt w q cs r gn cu) : (loadVar 42 ⟨q, 17, none⟩).run Tryz.prog w = .ok (.agg (poA r.px r.py r.pd)) w :=
  run_loadVar_at w _ _ _ (fun j v hv => by
    rw [Addr.add_mid, show 17 + j = 16 + (1 + j) by omega, h.cell]
    match j with
    | 0 => exact hv
    | 1 => exact hv
    | 2 => exact hv
    | j + 3 => simp [poA] at hv) (aggPose _) infoPose
theorem RcAt.move {w : World} {q : Nat} {cs : Array Value} {r : Rb} {gn : Int} {cu : Bool} (h : RcAt w q cs r gn cu) : (loadVar 44 ⟨q, 24, none⟩).run Tryz.prog w = .ok (.agg (mvA r.mv)) w :=
  run_loadVar_at w _ _ _ (fun j v hv => by
    rw [Addr.add_mid, show 24 + j = 16 + (8 + j) by omega, h.cell]
    unfold mvA at hv
    rw [List.getElem?_toArray] at hv
    exact pre_at [_, _, _, _, _, _, _, _] (mvL r.mv) [_, _, _, _, _] j v hv) (aggMove _) infoMove
theorem built_rc (c : Grid.Conf) (v1 v2 v3 v4 : Value) (i x y : Int) (d : Bool) : Tryz.prog.built 53 [(0, .agg #[.int .i64 c.W, .int .i64 c.H, .int .i64 c.height, v1, v2, v3, v4, .int .i64 c.unit, .int .i64 c.accel, .int .i64 c.speed, .int .i64 c.turn, .int .i64 c.hoist, .int .i64 c.queue, .int .i64 c.resend, .int .i64 c.budget, .bool c.back]), (1, .int .i64 i), (2, .agg (poA x y d))] = some (rcA #[.int .i64 c.W, .int .i64 c.H, .int .i64 c.height, v1, v2, v3, v4, .int .i64 c.unit, .int .i64 c.accel, .int .i64 c.speed, .int .i64 c.turn, .int .i64 c.hoist, .int .i64 c.queue, .int .i64 c.resend, .int .i64 c.budget, .bool c.back] (firstR i x y d) 0 false) := by kernel_rfl
section
variable {F : Nat → Prop} {c : Grid.Conf} {v1 v2 v3 v4 : Value} {w : World} (hA : Grid.ConfAt F c v1 v2 v3 v4 w) (hF : ∀ b, F b → b < w.heap.size)
include hA hF
set_option maxRecDepth 100000 in
set_option maxHeartbeats 2000000 in
theorem rcnew_any (i : Nat) (hi : i < c.robots.length) : Calls Tryz.prog 13 #[.agg #[.int .i64 c.W, .int .i64 c.H, .int .i64 c.height, v1, v2, v3, v4, .int .i64 c.unit, .int .i64 c.accel, .int .i64 c.speed, .int .i64 c.turn, .int .i64 c.hoist, .int .i64 c.queue, .int .i64 c.resend, .int .i64 c.budget, .bool c.back], .int .i64 i] w fun e w' => ∃ q, e = .returned (.pointer (some ⟨q, 0, none⟩)) ∧ RcAt w' q #[.int .i64 c.W, .int .i64 c.H, .int .i64 c.height, v1, v2, v3, v4, .int .i64 c.unit, .int .i64 c.accel, .int .i64 c.speed, .int .i64 c.turn, .int .i64 c.hoist, .int .i64 c.queue, .int .i64 c.resend, .int .i64 c.budget, .bool c.back] (firstR i (c.robots[i]'hi).1.1 (c.robots[i]'hi).1.2 (c.robots[i]'hi).2) 0 false ∧ w.heap.size ≤ q ∧ Below w.heap.size w w' := by
  obtain ⟨p, cs, cap, hv, hpF, hcs, hrd⟩ := hA.r.item hi
  obtain ⟨⟨⟨rx, ry⟩, rd⟩, hr⟩ : ∃ z, c.robots[i]'hi = z := ⟨_, rfl⟩
  rw [hr] at hcs ⊢
  have hcs : cs = poA rx ry rd := hcs
  subst hcs
  have hbu := built_rc c v1 v2 v3 v4
  subst hv
  have hpl : p.block < w.heap.size := hF _ hpF
  have HP : Hid (∀ u, Below w.heap.size w u → (loadVar 42 (p.add (i * 3))).run Tryz.prog u = .ok (.agg (poA rx ry rd)) u) := fun u b =>
    run_loadVar_at u _ _ _ (fun j v hj => (cell_block (by rw [Grid.block_add, Grid.block_add]; exact b.block _ hpl)).trans (hrd j v hj)) (aggPose _) infoPose
  obtain ⟨w1, hw1⟩ : ∃ w1, w1 = w.alloc (.cells #[.int .i64 c.W, .int .i64 c.H, .int .i64 c.height, v1, v2, (.slice (some p) c.robots.length cap), v4, .int .i64 c.unit, .int .i64 c.accel, .int .i64 c.speed, .int .i64 c.turn, .int .i64 c.hoist, .int .i64 c.queue, .int .i64 c.resend, .int .i64 c.budget, .bool c.back] 26) := ⟨_, rfl⟩
  have b1 : Below w.heap.size w w1 := by rw [hw1]; exact (Below.refl _ _).alloc (Nat.le_refl _) _
  have hc1 : w1.heap[w.heap.size]? = some (.cells #[.int .i64 c.W, .int .i64 c.H, .int .i64 c.height, v1, v2, (.slice (some p) c.robots.length cap), v4, .int .i64 c.unit, .int .i64 c.accel, .int .i64 c.speed, .int .i64 c.turn, .int .i64 c.hoist, .int .i64 c.queue, .int .i64 c.resend, .int .i64 c.budget, .bool c.back] 26 (0, 0)) := by rw [hw1]; exact World.alloc_heap_new _ _
  have HSS : Hid (Below w.heap.size w w1.drew ∧ w1.drew.heap[w.heap.size]? = some (.cells #[.int .i64 c.W, .int .i64 c.H, .int .i64 c.height, v1, v2, (.slice (some p) c.robots.length cap), v4, .int .i64 c.unit, .int .i64 c.accel, .int .i64 c.speed, .int .i64 c.turn, .int .i64 c.hoist, .int .i64 c.queue, .int .i64 c.resend, .int .i64 c.budget, .bool c.back] 26 (0, 0)) ∧ (loadVar 42 (p.add (i * 3))).run Tryz.prog w1.drew = .ok (.agg (poA rx ry rd)) w1.drew) := ⟨b1.drew, hc1, HP.out _ b1.drew⟩
  have hi2 : i < c.robots.length := hi
  have HBU : Hid (∀ (i x y : Int) (d : Bool), Tryz.prog.built 53 [(0, .agg #[.int .i64 c.W, .int .i64 c.H, .int .i64 c.height, v1, v2, (.slice (some p) c.robots.length cap), v4, .int .i64 c.unit, .int .i64 c.accel, .int .i64 c.speed, .int .i64 c.turn, .int .i64 c.hoist, .int .i64 c.queue, .int .i64 c.resend, .int .i64 c.budget, .bool c.back]), (1, .int .i64 i), (2, .agg (poA x y d))] = some (rcA #[.int .i64 c.W, .int .i64 c.H, .int .i64 c.height, v1, v2, (.slice (some p) c.robots.length cap), v4, .int .i64 c.unit, .int .i64 c.accel, .int .i64 c.speed, .int .i64 c.turn, .int .i64 c.hoist, .int .i64 c.queue, .int .i64 c.resend, .int .i64 c.budget, .bool c.back] (firstR i x y d) 0 false)) := hbu
  clear hA hF hpF hrd hr b1 hc1 hbu
  go_enter Tryz.func13, Tryz.ntmps13
  go_upto_region 1 with (refine wpList_boxAt rfl 26 (.tmp 0) rfl #[.int .i64 c.W, .int .i64 c.H, .int .i64 c.height, v1, v2, (.slice (some p) c.robots.length cap), v4, .int .i64 c.unit, .int .i64 c.accel, .int .i64 c.speed, .int .i64 c.turn, .int .i64 c.hoist, .int .i64 c.queue, .int .i64 c.resend, .int .i64 c.budget, .bool c.back] rfl ?_; rw [← hw1]; clear hw1)
  refine start_held (S := fun u => Below w.heap.size w u ∧ u.heap[w.heap.size]? = some (.cells #[.int .i64 c.W, .int .i64 c.H, .int .i64 c.height, v1, v2, (.slice (some p) c.robots.length cap), v4, .int .i64 c.unit, .int .i64 c.accel, .int .i64 c.speed, .int .i64 c.turn, .int .i64 c.hoist, .int .i64 c.queue, .int .i64 c.resend, .int .i64 c.budget, .bool c.back] 26 (0, 0)) ∧ (loadVar 42 (p.add (i * 3))).run Tryz.prog u = .ok (.agg (poA rx ry rd)) u) 10 rfl (by kernel_rfl) (HSS.out) ?_
  simp only [Array.replicate_succ, Array.replicate_zero, List.push_toArray, List.nil_append, List.cons_append]
  have hS0 := HSS.out
  clear HSS
  generalize w1.drew = x0 at *
  refine tk 0 hS0 rfl (v := .agg #[.int .i64 c.W, .int .i64 c.H, .int .i64 c.height, v1, v2, (.slice (some p) c.robots.length cap), v4, .int .i64 c.unit, .int .i64 c.accel, .int .i64 c.speed, .int .i64 c.turn, .int .i64 c.hoist, .int .i64 c.queue, .int .i64 c.resend, .int .i64 c.budget, .bool c.back]) ?y5000 ?r5000
  case y5000 => (intro u hu; exact run_load_at 26 _ rfl ⟨w.heap.size, 0, none⟩ rfl _ (load_row_of hu.2.1 (Grid.aggConf _) Grid.info_conf))
  simp only [Act.put, pA, pB, pC]
  refine tk 1 hS0 rfl (v := ?v5001) ?y5001 ?r5001
  case y5001 => (intro u hu; go_simp; try rfl)
  simp only [Act.put, pA, pB, pC]
  refine tk 2 hS0 rfl (v := ?v5002) ?y5002 ?r5002
  case y5002 => (intro u hu; go_simp; try rfl)
  simp only [Act.put, pA, pB, pC]
  refine tk 3 hS0 rfl (v := ?v5003) ?y5003 ?r5003
  case y5003 => (intro u hu; have zz0 := (fun (u : World) (hu : Below w.heap.size w u ∧ u.heap[w.heap.size]? = some (.cells #[.int .i64 c.W, .int .i64 c.H, .int .i64 c.height, v1, v2, (.slice (some p) c.robots.length cap), v4, .int .i64 c.unit, .int .i64 c.accel, .int .i64 c.speed, .int .i64 c.turn, .int .i64 c.hoist, .int .i64 c.queue, .int .i64 c.resend, .int .i64 c.budget, .bool c.back] 26 (0, 0)) ∧ (loadVar 42 (p.add (i * 3))).run Tryz.prog u = .ok (.agg (poA rx ry rd)) u) => (cell_of' hu.2.1 5).trans (rfl : _ = some (Value.slice (some p) c.robots.length cap))) u hu; go_simp; try rfl)
  simp only [Act.put, pA, pB, pC]
  refine tk 4 hS0 rfl (v := ?v5004) ?y5004 ?r5004
  case y5004 => (intro u hu; go_simp; try rfl)
  simp only [Act.put, pA, pB, pC]
  refine tk 5 hS0 rfl (v := ?v5005) ?y5005 ?r5005
  case y5005 => (intro u hu; go_simp; try rfl)
  simp only [Act.put, pA, pB, pC]
  refine tk 6 hS0 rfl (v := .agg (poA rx ry rd)) ?y5006 ?r5006
  case y5006 => (intro u hu; exact run_load_at 42 _ rfl (p.add (i * 3)) rfl _ hu.2.2)
  simp only [Act.put, pA, pB, pC]
  refine tk 7 hS0 rfl (v := .agg (rcA #[.int .i64 c.W, .int .i64 c.H, .int .i64 c.height, v1, v2, (.slice (some p) c.robots.length cap), v4, .int .i64 c.unit, .int .i64 c.accel, .int .i64 c.speed, .int .i64 c.turn, .int .i64 c.hoist, .int .i64 c.queue, .int .i64 c.resend, .int .i64 c.budget, .bool c.back] (firstR i rx ry rd) 0 false)) ?y5007 ?r5007
  case y5007 => (intro u hu; refine run_build_op _ _ rfl _ _ ?_ (HBU.out i rx ry rd); simp only [List.map_toArray, List.map_cons, List.map_nil]; rfl)
  simp only [Act.put, pA, pB, pC]
  refine wpAnyH_ready (rs := [8]) (by kernel_rfl) (by simp) (AllReadyH.cons ((nth_eq _ 8).trans rfl) ?_ AllReadyH.nil)
  intro K1 hK1
  obtain ⟨x1, hx1⟩ : ∃ x, x = x0.alloc (.cells (rcA #[.int .i64 c.W, .int .i64 c.H, .int .i64 c.height, v1, v2, (.slice (some p) c.robots.length cap), v4, .int .i64 c.unit, .int .i64 c.accel, .int .i64 c.speed, .int .i64 c.turn, .int .i64 c.hoist, .int .i64 c.queue, .int .i64 c.resend, .int .i64 c.budget, .bool c.back] (firstR i rx ry rd) 0 false) 53) := ⟨_, rfl⟩
  have hS1 := (show _ ∧ _ ∧ _ from ⟨hS0.1.trans ((show Below x0.heap.size x0 x1 by rw [hx1]; exact (Below.refl _ _).alloc (Nat.le_refl _) _).mono hS0.1.size), ((show Below x0.heap.size x0 x1 by rw [hx1]; exact (Below.refl _ _).alloc (Nat.le_refl _) _).block _ (Array.getElem?_eq_some_iff.1 hS0.2.1).1).trans hS0.2.1, HP.out x1 (hS0.1.trans ((show Below x0.heap.size x0 x1 by rw [hx1]; exact (Below.refl _ _).alloc (Nat.le_refl _) _).mono hS0.1.size))⟩)
  refine value_in hK1 (by kernel_rfl) (.pointer (some ⟨x0.heap.size, 0, none⟩)) x1 (by rw [hx1]; go_simp; try rfl) hS1 ?_
  simp only [Act.put, pA, pB, pC]
  refine tk 9 hS1 rfl (v := ?v5008) ?y5008 ?r5008
  case y5008 => (intro u hu; go_simp; try rfl)
  simp only [Act.put, pA, pB, pC]
  refine done_held (by kernel_rfl) ?_ _
  go_wp2
  go_ret
  exact ⟨x0.heap.size, rfl, ⟨by rw [hx1]; exact World.alloc_heap_new _ _, rfl, fun hu => by cases hu⟩, hS0.1.size, hS1.1⟩
end
end Go.Proofs.YtedmfhkdaifegaaGreat.Rob
