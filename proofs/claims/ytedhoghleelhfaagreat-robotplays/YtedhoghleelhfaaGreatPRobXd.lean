/-
  How long a move takes by the chapter; the chapter's own robot.
-/
import Derived.Test.YtedhoghleelhfaaGreatPRobNew
import Derived.Test.YtedhoghleelhfaaGreatPRkD
import Derived.Test.YtedhoghleelhfaaGreatPRobXc
import Derived.Test.YtedhoghleelhfaaGreatPRgL
import Derived.Test.YtedhoghleelhfaaGreatPRgK
import Derived.Test.YtedhoghleelhfaaGreatPRobXb
namespace Go.Proofs.YtedhoghleelhfaaGreat.Rob
set_option linter.unusedVariables false
set_option linter.unusedSimpArgs false
open Go Go.RowKit Go.Shelf Go.Proofs Go.Proofs.YtedhoghleelhfaaGreat.Lk Go.Proofs.YtedhoghleelhfaaGreat.Plain
attribute [local go_sem] Oper.semAt_some

/- How long a move takes. -/
def lastsP (turn hoist : Int) (ku ka kv : Nat) (m : Mv) : Int := if m.kd = 1 then ((Kin.profI ku ka kv m.n).length : Nat) else if m.kd = 2 then turn else if m.kd = 3 ∨ m.kd = 4 then hoist else 0
/- A config and a move that were boxed. -/
structure Cm (w : World) (cs : Array Value) (m : Mv) (u : World) : Prop where
  cf : u.heap[w.heap.size]? = some (.cells cs 26 (0, 0))
  mv : u.heap[w.heap.size + 1]? = some (.cells (mvA m) 44 (0, 0))
  bel : Below w.heap.size w u
theorem Cm.go {w : World} {cs : Array Value} {m : Mv} {u u' : World} (h : Cm w cs m u) (b : Below u.heap.size u u') : Cm w cs m u' :=
  ⟨(b.block _ (Array.getElem?_eq_some_iff.1 h.cf).1).trans h.cf, (b.block _ (Array.getElem?_eq_some_iff.1 h.mv).1).trans h.mv, bcat h.bel b⟩
section
variable (c : Grid.Conf) (v1 v2 v3 v4 : Value) (ku ka kv : Nat) (w : World)
set_option maxRecDepth 100000 in
set_option maxHeartbeats 2000000 in
theorem kinR_any : Calls Tryz.prog 64 #[.agg #[.int .i64 c.W, .int .i64 c.H, .int .i64 c.height, v1, v2, v3, v4, .int .i64 ku, .int .i64 ka, .int .i64 kv, .int .i64 c.turn, .int .i64 c.hoist, .int .i64 c.queue, .int .i64 c.resend, .int .i64 c.budget, .bool c.back]] w fun e w' => ∃ z, e = .returned z ∧ (z = .agg #[.int .i64 ku, .int .i64 ka, .int .i64 kv] ∧ Below w.heap.size w w') := by
  go_enter Tryz.func64, Tryz.ntmps64
  go_wp2
  exact bodyPost_ret (results_cell_row rfl _ _ (w.heap.size + 1) 121 _ (0, 0) _ rfl (Grid.heap_new2 _ _ _) Tryz.underlying121 rfl (by kernel_rfl)) rfl ⟨_, rfl, rfl, Grid.below_two _ _ _⟩
end
end Go.Proofs.YtedhoghleelhfaaGreat.Rob
/-
  The go-ahead that leads a robot on from where it stands, in plain words.
-/
namespace Go.Proofs.YtedhoghleelhfaaGreat.Rob
set_option linter.unusedVariables false
set_option linter.unusedSimpArgs false
open Go Go.RowKit Go.Shelf Go.Proofs Go.Proofs.YtedhoghleelhfaaGreat.Lk Go.Proofs.YtedhoghleelhfaaGreat.Plain

/- A move that a robot at p can do, as long as it takes. -/
structure Led (W H : Int) (us : List Int) (turn hoist : Int) (ku ka kv : Nat) (p : Grid.Pose) (m : Mv) : Prop where
  frm : ((m.fx, m.fy), m.fd) = p
  legal : Grid.legalU W H us (gm m) = true
  at0 : 0 ≤ m.ma
  at1 : m.ma ≤ 1000
  en : m.me = m.ma + lastsP turn hoist ku ka kv m
  l1 : 1 ≤ lastsP turn hoist ku ka kv m
  l2 : lastsP turn hoist ku ka kv m ≤ 16000
end Go.Proofs.YtedhoghleelhfaaGreat.Rob
/-
  The chapter's own robot in memory; its New.
-/
namespace Go.Proofs.YtedhoghleelhfaaGreat.Rob
set_option linter.unusedVariables false
set_option linter.unusedSimpArgs false
open Go Go.RowKit Go.Shelf Go.Proofs Go.Proofs.YtedhoghleelhfaaGreat.Lk Go.Proofs.YtedhoghleelhfaaGreat.Plain
attribute [local go_sem] Oper.semAt_some

/- The chapter's own robot: its config, its numbers (the ticks gone and whether it was cut are its own). -/
def rcL (cs : List Value) (r : Rb) (gn : Int) (cu : Bool) : List Value := cs ++ ([.int .i64 r.nb, .int .i64 r.px, .int .i64 r.py, .bool r.pd, .int .i64 r.ld, .int .i64 r.ep, .int .i64 r.lt, .bool (under r)] ++ (mvL r.mv ++ [.int .i64 r.lf, .int .i64 gn, .int .i64 r.la, .bool r.st, .bool cu]))
def rcA (cs : Array Value) (r : Rb) (gn : Int) (cu : Bool) : Array Value := (rcL cs.toList r gn cu).toArray
structure RcAt (w : World) (q : Nat) (cs : Array Value) (r : Rb) (gn : Int) (cu : Bool) : Prop where
  at_ : w.heap[q]? = some (.cells (rcA cs r gn cu) 53 (0, 0))
  len : cs.size = 16
  run_ : under r = true → gn = r.gn ∧ cu = (r.st && decide (r.mv.kd = 1))
theorem RcAt.lt {w : World} {q : Nat} {cs : Array Value} {r : Rb} {gn : Int} {cu : Bool} (h : RcAt w q cs r gn cu) : q < w.heap.size := (Array.getElem?_eq_some_iff.1 h.at_).1
theorem RcAt.go {w w' : World} {q : Nat} {cs : Array Value} {r : Rb} {gn : Int} {cu : Bool} (h : RcAt w q cs r gn cu) (b : Below w.heap.size w w') : RcAt w' q cs r gn cu := ⟨(b.block _ h.lt).trans h.at_, h.len, h.run_⟩
theorem RcAt.cell {w : World} {q : Nat} {cs : Array Value} {r : Rb} {gn : Int} {cu : Bool} (h : RcAt w q cs r gn cu) (j : Nat) : w.cell? ⟨q, 16 + j, none⟩ = ([.int .i64 r.nb, .int .i64 r.px, .int .i64 r.py, .bool r.pd, .int .i64 r.ld, .int .i64 r.ep, .int .i64 r.lt, .bool (under r)] ++ (mvL r.mv ++ [.int .i64 r.lf, .int .i64 gn, .int .i64 r.la, .bool r.st, .bool cu]))[j]? := by
  rw [cell_of' h.at_]
  unfold rcA rcL
  rw [List.getElem?_toArray, List.getElem?_append_right (by rw [Array.length_toList, h.len]; omega), Array.length_toList, h.len, Nat.add_sub_cancel_left]
theorem RcAt.froz {w : World} {q : Nat} {cs : Array Value} {r : Rb} {gn : Int} {cu : Bool} (h : RcAt w q cs r gn cu) (j : Nat) : w.frozen? ⟨q, j, none⟩ = false := by simp [World.frozen?, h.at_]
theorem RcAt.nb {w : World} {q : Nat} {cs : Array Value} {r : Rb} {gn : Int} {cu : Bool} (h : RcAt w q cs r gn cu) : w.cell? ⟨q, 16, none⟩ = some (.int .i64 r.nb) := h.cell 0
theorem RcAt.ld {w : World} {q : Nat} {cs : Array Value} {r : Rb} {gn : Int} {cu : Bool} (h : RcAt w q cs r gn cu) : w.cell? ⟨q, 20, none⟩ = some (.int .i64 r.ld) := h.cell 4
theorem RcAt.ep {w : World} {q : Nat} {cs : Array Value} {r : Rb} {gn : Int} {cu : Bool} (h : RcAt w q cs r gn cu) : w.cell? ⟨q, 21, none⟩ = some (.int .i64 r.ep) := h.cell 5
theorem RcAt.nm {w : World} {q : Nat} {cs : Array Value} {r : Rb} {gn : Int} {cu : Bool} (h : RcAt w q cs r gn cu) : w.cell? ⟨q, 22, none⟩ = some (.int .i64 r.lt) := h.cell 6
theorem RcAt.un {w : World} {q : Nat} {cs : Array Value} {r : Rb} {gn : Int} {cu : Bool} (h : RcAt w q cs r gn cu) : w.cell? ⟨q, 23, none⟩ = some (.bool (under r)) := h.cell 7
theorem RcAt.kd {w : World} {q : Nat} {cs : Array Value} {r : Rb} {gn : Int} {cu : Bool} (h : RcAt w q cs r gn cu) : w.cell? ⟨q, 24, none⟩ = some (.int .i64 r.mv.kd) := h.cell 8
theorem RcAt.lf {w : World} {q : Nat} {cs : Array Value} {r : Rb} {gn : Int} {cu : Bool} (h : RcAt w q cs r gn cu) : w.cell? ⟨q, 35, none⟩ = some (.int .i64 r.lf) := h.cell 19
theorem RcAt.gn {w : World} {q : Nat} {cs : Array Value} {r : Rb} {gn : Int} {cu : Bool} (h : RcAt w q cs r gn cu) : w.cell? ⟨q, 36, none⟩ = some (.int .i64 gn) := h.cell 20
theorem RcAt.la {w : World} {q : Nat} {cs : Array Value} {r : Rb} {gn : Int} {cu : Bool} (h : RcAt w q cs r gn cu) : w.cell? ⟨q, 37, none⟩ = some (.int .i64 r.la) := h.cell 21
theorem RcAt.st {w : World} {q : Nat} {cs : Array Value} {r : Rb} {gn : Int} {cu : Bool} (h : RcAt w q cs r gn cu) : w.cell? ⟨q, 38, none⟩ = some (.bool r.st) := h.cell 22
theorem RcAt.cu {w : World} {q : Nat} {cs : Array Value} {r : Rb} {gn : Int} {cu : Bool} (h : RcAt w q cs r gn cu) : w.cell? ⟨q, 39, none⟩ = some (.bool cu) := h.cell 23
theorem RcAt.pose {w : World} {q : Nat} {cs : Array Value} {r : Rb} {gn : Int} {cu : Bool} (h : RcAt w q cs r gn cu) : (loadVar 42 ⟨q, 17, none⟩).run Tryz.prog w = .ok (.agg (poA r.px r.py r.pd)) w :=
  run_loadVar_at w _ _ _ (fun j v hv => by
    rw [Addr.add_mid, show 17 + j = 16 + (1 + j) by omega, h.cell]
    match j with
    | 0 => exact hv
    | 1 => exact hv
    | 2 => exact hv
    | j + 3 => simp [poA] at hv) (aggPose _) infoPose
theorem RcAt.move {w : World} {q : Nat} {cs : Array Value} {r : Rb} {gn : Int} {cu : Bool} (h : RcAt w q cs r gn cu) : (loadVar 44 ⟨q, 24, none⟩).run Tryz.prog w = .ok (.agg (mvA r.mv)) w :=
  run_loadVar_at w _ _ _ (fun j v hv => by
    rw [Addr.add_mid, show 24 + j = 16 + (8 + j) by omega, h.cell]
    unfold mvA at hv
    rw [List.getElem?_toArray] at hv
    exact pre_at [_, _, _, _, _, _, _, _] (mvL r.mv) [_, _, _, _, _] j v hv) (aggMove _) infoMove
theorem built_rc (c : Grid.Conf) (v1 v2 v3 v4 : Value) (i x y : Int) (d : Bool) : Tryz.prog.built 53 [(0, .agg #[.int .i64 c.W, .int .i64 c.H, .int .i64 c.height, v1, v2, v3, v4, .int .i64 c.unit, .int .i64 c.accel, .int .i64 c.speed, .int .i64 c.turn, .int .i64 c.hoist, .int .i64 c.queue, .int .i64 c.resend, .int .i64 c.budget, .bool c.back]), (1, .int .i64 i), (2, .agg (poA x y d))] = some (rcA #[.int .i64 c.W, .int .i64 c.H, .int .i64 c.height, v1, v2, v3, v4, .int .i64 c.unit, .int .i64 c.accel, .int .i64 c.speed, .int .i64 c.turn, .int .i64 c.hoist, .int .i64 c.queue, .int .i64 c.resend, .int .i64 c.budget, .bool c.back] (firstR i x y d) 0 false) := by kernel_rfl
section
variable {F : Nat → Prop} {c : Grid.Conf} {v1 v2 v3 v4 : Value} {w : World} (hA : Grid.ConfAt F c v1 v2 v3 v4 w) (hF : ∀ b, F b → b < w.heap.size)
include hA hF
set_option maxRecDepth 100000 in
set_option maxHeartbeats 2000000 in
theorem rcnew_any (i : Nat) (hi : i < c.robots.length) : Calls Tryz.prog 9 #[.agg #[.int .i64 c.W, .int .i64 c.H, .int .i64 c.height, v1, v2, v3, v4, .int .i64 c.unit, .int .i64 c.accel, .int .i64 c.speed, .int .i64 c.turn, .int .i64 c.hoist, .int .i64 c.queue, .int .i64 c.resend, .int .i64 c.budget, .bool c.back], .int .i64 i] w fun e w' => ∃ q, e = .returned (.pointer (some ⟨q, 0, none⟩)) ∧ RcAt w' q #[.int .i64 c.W, .int .i64 c.H, .int .i64 c.height, v1, v2, v3, v4, .int .i64 c.unit, .int .i64 c.accel, .int .i64 c.speed, .int .i64 c.turn, .int .i64 c.hoist, .int .i64 c.queue, .int .i64 c.resend, .int .i64 c.budget, .bool c.back] (firstR i (c.robots[i]'hi).1.1 (c.robots[i]'hi).1.2 (c.robots[i]'hi).2) 0 false ∧ w.heap.size ≤ q ∧ Below w.heap.size w w' := by
  obtain ⟨p, cs, cap, hv, hpF, hcs, hrd⟩ := hA.r.item hi
  obtain ⟨⟨⟨rx, ry⟩, rd⟩, hr⟩ : ∃ z, c.robots[i]'hi = z := ⟨_, rfl⟩
  rw [hr] at hcs ⊢
  have hcs : cs = poA rx ry rd := hcs
  subst hcs
  have hbu := built_rc c v1 v2 v3 v4
  subst hv
  have hpl : p.block < w.heap.size := hF _ hpF
  have HP : Hid (∀ u, Below w.heap.size w u → (loadVar 42 (p.add (i * 3))).run Tryz.prog u = .ok (.agg (poA rx ry rd)) u) := fun u b =>
    run_loadVar_at u _ _ _ (fun j v hj => (cell_block (by rw [Grid.block_add, Grid.block_add]; exact b.block _ hpl)).trans (hrd j v hj)) (aggPose _) infoPose
  obtain ⟨w1, hw1⟩ : ∃ w1, w1 = w.alloc (.cells #[.int .i64 c.W, .int .i64 c.H, .int .i64 c.height, v1, v2, (.slice (some p) c.robots.length cap), v4, .int .i64 c.unit, .int .i64 c.accel, .int .i64 c.speed, .int .i64 c.turn, .int .i64 c.hoist, .int .i64 c.queue, .int .i64 c.resend, .int .i64 c.budget, .bool c.back] 26) := ⟨_, rfl⟩
  have b1 : Below w.heap.size w w1 := by rw [hw1]; exact (Below.refl _ _).alloc (Nat.le_refl _) _
  have hc1 : w1.heap[w.heap.size]? = some (.cells #[.int .i64 c.W, .int .i64 c.H, .int .i64 c.height, v1, v2, (.slice (some p) c.robots.length cap), v4, .int .i64 c.unit, .int .i64 c.accel, .int .i64 c.speed, .int .i64 c.turn, .int .i64 c.hoist, .int .i64 c.queue, .int .i64 c.resend, .int .i64 c.budget, .bool c.back] 26 (0, 0)) := by rw [hw1]; exact World.alloc_heap_new _ _
  have HSS : Hid (Below w.heap.size w w1.drew ∧ w1.drew.heap[w.heap.size]? = some (.cells #[.int .i64 c.W, .int .i64 c.H, .int .i64 c.height, v1, v2, (.slice (some p) c.robots.length cap), v4, .int .i64 c.unit, .int .i64 c.accel, .int .i64 c.speed, .int .i64 c.turn, .int .i64 c.hoist, .int .i64 c.queue, .int .i64 c.resend, .int .i64 c.budget, .bool c.back] 26 (0, 0)) ∧ (loadVar 42 (p.add (i * 3))).run Tryz.prog w1.drew = .ok (.agg (poA rx ry rd)) w1.drew) := ⟨b1.drew, hc1, HP.out _ b1.drew⟩
  have hi2 : i < c.robots.length := hi
  have HBU : Hid (∀ (i x y : Int) (d : Bool), Tryz.prog.built 53 [(0, .agg #[.int .i64 c.W, .int .i64 c.H, .int .i64 c.height, v1, v2, (.slice (some p) c.robots.length cap), v4, .int .i64 c.unit, .int .i64 c.accel, .int .i64 c.speed, .int .i64 c.turn, .int .i64 c.hoist, .int .i64 c.queue, .int .i64 c.resend, .int .i64 c.budget, .bool c.back]), (1, .int .i64 i), (2, .agg (poA x y d))] = some (rcA #[.int .i64 c.W, .int .i64 c.H, .int .i64 c.height, v1, v2, (.slice (some p) c.robots.length cap), v4, .int .i64 c.unit, .int .i64 c.accel, .int .i64 c.speed, .int .i64 c.turn, .int .i64 c.hoist, .int .i64 c.queue, .int .i64 c.resend, .int .i64 c.budget, .bool c.back] (firstR i x y d) 0 false)) := hbu
  clear hA hF hpF hrd hr b1 hc1 hbu
  go_enter Tryz.func9, Tryz.ntmps9
  go_upto_region 1 with (refine wpList_boxAt rfl 26 (.tmp 0) rfl #[.int .i64 c.W, .int .i64 c.H, .int .i64 c.height, v1, v2, (.slice (some p) c.robots.length cap), v4, .int .i64 c.unit, .int .i64 c.accel, .int .i64 c.speed, .int .i64 c.turn, .int .i64 c.hoist, .int .i64 c.queue, .int .i64 c.resend, .int .i64 c.budget, .bool c.back] rfl ?_; rw [← hw1]; clear hw1)
  refine start_held (S := fun u => Below w.heap.size w u ∧ u.heap[w.heap.size]? = some (.cells #[.int .i64 c.W, .int .i64 c.H, .int .i64 c.height, v1, v2, (.slice (some p) c.robots.length cap), v4, .int .i64 c.unit, .int .i64 c.accel, .int .i64 c.speed, .int .i64 c.turn, .int .i64 c.hoist, .int .i64 c.queue, .int .i64 c.resend, .int .i64 c.budget, .bool c.back] 26 (0, 0)) ∧ (loadVar 42 (p.add (i * 3))).run Tryz.prog u = .ok (.agg (poA rx ry rd)) u) 10 rfl (by kernel_rfl) (HSS.out) ?_
  simp only [Array.replicate_succ, Array.replicate_zero, List.push_toArray, List.nil_append, List.cons_append]
  have hS0 := HSS.out
  clear HSS
  generalize w1.drew = x0 at *
  refine tkf 0 hS0 rfl (v := .agg #[.int .i64 c.W, .int .i64 c.H, .int .i64 c.height, v1, v2, (.slice (some p) c.robots.length cap), v4, .int .i64 c.unit, .int .i64 c.accel, .int .i64 c.speed, .int .i64 c.turn, .int .i64 c.hoist, .int .i64 c.queue, .int .i64 c.resend, .int .i64 c.budget, .bool c.back]) (fun u hu => by exact run_load_at 26 _ rfl ⟨w.heap.size, 0, none⟩ rfl _ (load_row_of hu.2.1 (Grid.aggConf _) Grid.info_conf)) ?_
  refine tkq 1 hS0 ?_
  refine tkq 2 hS0 ?_
  refine tkf 3 hS0 rfl (fun u hu => by have zz0 := (fun (u : World) (hu : Below w.heap.size w u ∧ u.heap[w.heap.size]? = some (.cells #[.int .i64 c.W, .int .i64 c.H, .int .i64 c.height, v1, v2, (.slice (some p) c.robots.length cap), v4, .int .i64 c.unit, .int .i64 c.accel, .int .i64 c.speed, .int .i64 c.turn, .int .i64 c.hoist, .int .i64 c.queue, .int .i64 c.resend, .int .i64 c.budget, .bool c.back] 26 (0, 0)) ∧ (loadVar 42 (p.add (i * 3))).run Tryz.prog u = .ok (.agg (poA rx ry rd)) u) => (cell_of' hu.2.1 5).trans (rfl : _ = some (Value.slice (some p) c.robots.length cap))) u hu; go_simp; try rfl) ?_
  refine tkq 4 hS0 ?_
  refine tkq 5 hS0 ?_
  refine tkf 6 hS0 rfl (v := .agg (poA rx ry rd)) (fun u hu => by exact run_load_at 42 _ rfl (p.add (i * 3)) rfl _ hu.2.2) ?_
  refine tkf 7 hS0 rfl (v := .agg (rcA #[.int .i64 c.W, .int .i64 c.H, .int .i64 c.height, v1, v2, (.slice (some p) c.robots.length cap), v4, .int .i64 c.unit, .int .i64 c.accel, .int .i64 c.speed, .int .i64 c.turn, .int .i64 c.hoist, .int .i64 c.queue, .int .i64 c.resend, .int .i64 c.budget, .bool c.back] (firstR i rx ry rd) 0 false)) (fun u hu => by refine run_build_op _ _ rfl _ _ ?_ (HBU.out i rx ry rd); simp only [List.map_toArray, List.map_cons, List.map_nil]; rfl) ?_
  refine wpAnyH_ready (rs := [8]) (by kernel_rfl) (by simp) (AllReadyH.cons ((nth_eq _ 8).trans rfl) ?_ AllReadyH.nil)
  intro K1 hK1
  obtain ⟨x1, hx1⟩ : ∃ x, x = x0.alloc (.cells (rcA #[.int .i64 c.W, .int .i64 c.H, .int .i64 c.height, v1, v2, (.slice (some p) c.robots.length cap), v4, .int .i64 c.unit, .int .i64 c.accel, .int .i64 c.speed, .int .i64 c.turn, .int .i64 c.hoist, .int .i64 c.queue, .int .i64 c.resend, .int .i64 c.budget, .bool c.back] (firstR i rx ry rd) 0 false) 53) := ⟨_, rfl⟩
  have hS1 := (show _ ∧ _ ∧ _ from ⟨hS0.1.trans ((show Below x0.heap.size x0 x1 by rw [hx1]; exact (Below.refl _ _).alloc (Nat.le_refl _) _).mono hS0.1.size), ((show Below x0.heap.size x0 x1 by rw [hx1]; exact (Below.refl _ _).alloc (Nat.le_refl _) _).block _ (Array.getElem?_eq_some_iff.1 hS0.2.1).1).trans hS0.2.1, HP.out x1 (hS0.1.trans ((show Below x0.heap.size x0 x1 by rw [hx1]; exact (Below.refl _ _).alloc (Nat.le_refl _) _).mono hS0.1.size))⟩)
  refine value_in hK1 (by kernel_rfl) (.pointer (some ⟨x0.heap.size, 0, none⟩)) x1 (by rw [hx1]; go_simp; try rfl) hS1 ?_
  simp only [Act.put, List.setIfInBounds_toArray, List.set_cons_zero, List.set_cons_succ]
  refine tkq 9 hS1 ?_
  refine done_held (by kernel_rfl) ?_ _
  go_wp2
  go_ret
  exact ⟨x0.heap.size, rfl, ⟨by rw [hx1]; exact World.alloc_heap_new _ _, rfl, fun hu => by cases hu⟩, hS0.1.size, hS1.1⟩
end
end Go.Proofs.YtedhoghleelhfaaGreat.Rob
/-
  What the law's gos tells: a go-ahead that leads a robot on.
-/
namespace Go.Proofs.YtedhoghleelhfaaGreat.Rob
set_option linter.unusedVariables false
set_option linter.unusedSimpArgs false
open Go Go.RowKit Go.Shelf Go.Proofs Go.Proofs.YtedhoghleelhfaaGreat.Lk Go.Proofs.YtedhoghleelhfaaGreat.Plain
attribute [local go_sem] Oper.semAt_some

theorem tl_put (t : Tl) : setAll (tlA tl0) 0 (tlL t) = tlA t := by
  simp only [tlA, tlL, tl0, setAll, List.setIfInBounds_toArray, List.set_cons_succ, List.set_cons_zero]
theorem Below.only {w u u' : World} {g : Nat} (h : Below w.heap.size w u) (o : Only g u u') (hg : w.heap.size ≤ g) : Below w.heap.size w u' :=
  ⟨o.os.trans h.os, o.tape.trans h.tape, o.output.trans h.output, by rw [o.size]; exact h.size, fun i hi => (o.block i (by omega)).trans (h.block i hi)⟩
/- What stands in memory while gos goes on: the config, the place of the result, the chapter's robot. -/
structure Gs (w : World) (CS : Array Value) (r : Rb) (q : Nat) (gn : Int) (cu : Bool) (u : World) : Prop where
  bel : Below w.heap.size w u
  cf : u.heap[w.heap.size]? = some (.cells CS 26 (0, 0))
  rs : u.heap[w.heap.size + 1]? = some (.cells (tlA tl0) 46 (0, 0))
  rc : RcAt u q CS r gn cu
  ql : q < w.heap.size
theorem Gs.go {w : World} {CS : Array Value} {r : Rb} {q : Nat} {gn : Int} {cu : Bool} {u u' : World} (h : Gs w CS r q gn cu u) (b : Below u.heap.size u u') : Gs w CS r q gn cu u' :=
  ⟨bcat h.bel b, (b.block _ (Array.getElem?_eq_some_iff.1 h.cf).1).trans h.cf, (b.block _ (Array.getElem?_eq_some_iff.1 h.rs).1).trans h.rs, h.rc.go b, h.ql⟩
theorem Gs.only {w : World} {CS : Array Value} {r : Rb} {q : Nat} {gn : Int} {cu : Bool} {u u' : World} {g : Nat} (h : Gs w CS r q gn cu u) (o : Only g u u') (hg : w.heap.size + 2 ≤ g) : Gs w CS r q gn cu u' :=
  ⟨Below.only h.bel o (by omega), (o.block _ (by omega)).trans h.cf, (o.block _ (by omega)).trans h.rs, ⟨(o.block _ (by have := h.ql; omega)).trans h.rc.at_, h.rc.len, h.rc.run_⟩, h.ql⟩
structure Gv (w : World) (CS : Array Value) (r : Rb) (q : Nat) (gn : Int) (cu : Bool) (g : Nat) (t : Tl) (u : World) : Prop where
  gs : Gs w CS r q gn cu u
  tl : u.heap[g]? = some (.cells (tlA t) 46 (0, 0))
  far : w.heap.size + 2 ≤ g
theorem Gv.go {w : World} {CS : Array Value} {r : Rb} {q : Nat} {gn : Int} {cu : Bool} {g : Nat} {t : Tl} {u u' : World} (h : Gv w CS r q gn cu g t u) (b : Below u.heap.size u u') : Gv w CS r q gn cu g t u' :=
  ⟨h.gs.go b, (b.block _ (Array.getElem?_eq_some_iff.1 h.tl).1).trans h.tl, h.far⟩
theorem Gv.put {w : World} {CS : Array Value} {r : Rb} {q : Nat} {gn : Int} {cu : Bool} {g : Nat} {t : Tl} {u : World} (h : Gv w CS r q gn cu g t u) (o : Nat) (vs : List Value) (t' : Tl) (e : setAll (tlA t) o vs = tlA t') : Gv w CS r q gn cu g t' (u.setCells g o vs) :=
  ⟨h.gs.only (Only.setCells _ _ _ _) h.far, by rw [← e]; exact setCells_same g _ _ vs o u _ h.tl, h.far⟩
/- The place of the result, filled. -/
theorem Gv.told {w : World} {CS : Array Value} {r : Rb} {q : Nat} {gn : Int} {cu : Bool} {g : Nat} {t : Tl} {u : World} (h : Gv w CS r q gn cu g t u) : (u.setCells (w.heap.size + 1) 0 (tlL t)).heap[w.heap.size + 1]? = some (.cells (tlA t) 46 (0, 0)) ∧ Below w.heap.size w (u.setCells (w.heap.size + 1) 0 (tlL t)) :=
  ⟨by rw [← tl_put]; exact setCells_same _ _ _ (tlL t) 0 u _ h.gs.rs, Below.only h.gs.bel (Only.setCells _ _ _ _) (by omega)⟩
theorem Bn.only {N : Nat} {w u u' : World} {g : Nat} (h : Below N w u) (o : Only g u u') (hg : N ≤ g) : Below N w u' :=
  ⟨o.os.trans h.os, o.tape.trans h.tape, o.output.trans h.output, by rw [o.size]; exact h.size, fun i hi => (o.block i (by omega)).trans (h.block i hi)⟩
section
variable (c : Grid.Conf) (va vb vc vd : Value) (w : World) (hA : Grid.ConfAt (Grid.Old w) c va vb vc vd w) (l1 : c.blocked.length ≤ 8796093022208) (l2 : c.ports.length ≤ 8796093022208) (l3 : c.robots.length ≤ 5864062014805) (l4 : c.stacks.length ≤ 3518437208880) (l5 : ∀ s ∈ c.stacks, s.2.length ≤ 17592186044416) {G : Grid.GS} (hN : Grid.newP c = some G) (ku ka kv : Nat) (ok : Kin.Ok ku ka kv) (hku : (ku : Int) = c.unit) (hka : (ka : Int) = c.accel) (hkv : (kv : Int) = c.speed)
include ok hku hka hkv
include hA l1 l2 l3 l4 l5 hN
end
end Go.Proofs.YtedhoghleelhfaaGreat.Rob
