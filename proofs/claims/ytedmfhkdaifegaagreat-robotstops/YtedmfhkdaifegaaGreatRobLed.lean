/-
  What RobotDelays, RobotThere and RobotStops have in common.
-/
import Derived.Test.YtedmfhkdaifegaaGreatRobGos
import Derived.Test.YtedmfhkdaifegaaGreatRobOldWalk
import Derived.Test.YtedmfhkdaifegaaGreatRobFacts
import Derived.Test.YtedmfhkdaifegaaGreatRgN
import Derived.Deep.DeepCutAuto
import Derived.Deep.CutRange
namespace Go.Proofs.YtedmfhkdaifegaaGreat.Rob
set_option linter.unusedVariables false
set_option linter.unusedSimpArgs false
open Go Go.RowKit Go.Shelf Go.Proofs Go.Proofs.YtedmfhkdaifegaaGreat.Lk Go.Proofs.YtedmfhkdaifegaaGreat.Plain
attribute [local go_sem] Oper.semAt_some

theorem wpList_eql_agg {ops : Array Oper} {rest : List Oper} {o : Oper} {a : Act} {w : World} {Q : Exit → Act → World → Prop} (hw : Region.wanted o (yielded ops a.tmps) = true) (T : TypeId) (x y : Operand) (ho : o.op = .binOp .eql T x y T) (hg : Tryz.prog.eqGuardType Tryz.prog.depth T = false) (xs ys : Array Value) (b : Bool) (hx : a.eval x = .agg xs) (hy : a.eval y = .agg ys)
    (hq : (Op.equalIn 10000 T (.agg xs) (.agg ys)).run Tryz.prog w = .ok b w) (h : wpList Tryz.prog ops Q rest (a.put o.dst (.bool b)) w) : wpList Tryz.prog ops Q (o :: rest) a w :=
  BigFrame.wpList_want hw fun _ hK => by
    unfold Oper.wp
    rw [run_eql_agg T x y ho hg xs ys b hx hy hq]
    exact hK _ _ h
theorem eqMv_self (m : Mv) (w : World) : (Op.equalIn 10000 44 (.agg (mvA m)) (.agg (mvA m))).run Tryz.prog w = .ok true w := by
  cases m
  simp only [mvA, mvL]
  go_simp
theorem gTl : Tryz.prog.eqGuardType Tryz.prog.depth 46 = false := by kernel_rfl
/- The robot at its beginning, the chapter's, and what gos tells. -/
section
variable (c : Grid.Conf) (va vb vc vd : Value) (w : World) {G : Grid.GS} (hN : Grid.newP c = some G) (hr0 : 0 < c.robots.length) (r : Rb) (hr : firstR 0 (c.robots[0]'hr0).1.1 (c.robots[0]'hr0).1.2 (c.robots[0]'hr0).2 = r)
theorem first_facts (hr : firstR 0 (c.robots[0]'hr0).1.1 (c.robots[0]'hr0).1.2 (c.robots[0]'hr0).2 = r) : r.nb = 0 ∧ r.lt = 0 ∧ r.ep = 0 ∧ under r = false ∧ OkR 0 r ∧ posR r ∈ c.robots ∧ posR r = c.robots[0]'hr0 := by
  subst hr
  exact ⟨rfl, rfl, rfl, rfl, OkR.first _ _ _ _, List.getElem_mem hr0, rfl⟩
include hN hr
theorem new_r {F : Nat → Prop} (hA : Grid.ConfAt F c va vb vc vd w) (hF : ∀ b, F b → b < w.heap.size) (l1 : c.blocked.length ≤ 8796093022208) (l2 : c.ports.length ≤ 8796093022208) (l3 : c.robots.length ≤ 5864062014805) (l4 : c.stacks.length ≤ 3518437208880) :
    Calls Tryz.prog 9 #[.agg #[.int .i64 c.W, .int .i64 c.H, .int .i64 c.height, va, vb, vc, vd, .int .i64 c.unit, .int .i64 c.accel, .int .i64 c.speed, .int .i64 c.turn, .int .i64 c.hoist, .int .i64 c.queue, .int .i64 c.resend, .int .i64 c.budget, .bool c.back], .int .i64 0] w fun e w' => ∃ R : Wh, e = .returned (.tuple #[.pointer (some ⟨R.p, 0, none⟩), .int .i64 0]) ∧ RbAt w' R r ∧ w.heap.size ≤ R.p ∧ w.heap.size ≤ R.k ∧ (R.W = c.W ∧ R.H = c.H ∧ R.us = G.uses ∧ (R.ku : Int) = c.unit ∧ (R.ka : Int) = c.accel ∧ (R.kv : Int) = c.speed) ∧ Below w.heap.size w w' := by
  rw [← hr]
  exact Calls.mono (show Calls Tryz.prog 9 #[.agg #[.int .i64 c.W, .int .i64 c.H, .int .i64 c.height, va, vb, vc, vd, .int .i64 c.unit, .int .i64 c.accel, .int .i64 c.speed, .int .i64 c.turn, .int .i64 c.hoist, .int .i64 c.queue, .int .i64 c.resend, .int .i64 c.budget, .bool c.back], .int .i64 0] w _ from new_ok hA hF l1 l2 l3 l4 0 hN hr0) (fun _ _ h => h)
omit hN in
theorem rc_r {F : Nat → Prop} (hA : Grid.ConfAt F c va vb vc vd w) (hF : ∀ b, F b → b < w.heap.size) :
    Calls Tryz.prog 13 #[.agg #[.int .i64 c.W, .int .i64 c.H, .int .i64 c.height, va, vb, vc, vd, .int .i64 c.unit, .int .i64 c.accel, .int .i64 c.speed, .int .i64 c.turn, .int .i64 c.hoist, .int .i64 c.queue, .int .i64 c.resend, .int .i64 c.budget, .bool c.back], .int .i64 0] w fun e w' => ∃ z, e = .returned z ∧ (∃ q, z = .pointer (some ⟨q, 0, none⟩) ∧ RcAt w' q #[.int .i64 c.W, .int .i64 c.H, .int .i64 c.height, va, vb, vc, vd, .int .i64 c.unit, .int .i64 c.accel, .int .i64 c.speed, .int .i64 c.turn, .int .i64 c.hoist, .int .i64 c.queue, .int .i64 c.resend, .int .i64 c.budget, .bool c.back] r 0 false ∧ Below w.heap.size w w') := by
  rw [← hr]
  refine Calls.mono (show Calls Tryz.prog 13 #[.agg #[.int .i64 c.W, .int .i64 c.H, .int .i64 c.height, va, vb, vc, vd, .int .i64 c.unit, .int .i64 c.accel, .int .i64 c.speed, .int .i64 c.turn, .int .i64 c.hoist, .int .i64 c.queue, .int .i64 c.resend, .int .i64 c.budget, .bool c.back], .int .i64 0] w _ from rcnew_any hA hF 0 hr0) ?_
  rintro e w' ⟨q, rfl, hq, _, b⟩
  exact ⟨_, rfl, q, rfl, hq, b⟩
end
/- A delay leaves little behind. -/
theorem late_la {n : Int} {r : Rb} (ok : OkR n r) (m : Int) (hm : m ≤ 30) : (lateR r m).la ≤ r.la + 30 := by
  have h0 := ok.la0
  unfold lateR
  split
  · show min (r.la + min m 1000000) 1000000 ≤ r.la + 30
    omega
  · omega
/- A robot under way with the move m, so many ticks left, in a world where the telegram stands at g. -/
structure Dl (w : World) (R : Wh) (g : Nat) (T : Tl) (m : Mv) (ep : Int) (n lt left : Int) (u : World) (r : Rb) : Prop where
  rb : RbAt u R r
  ok : OkR n r
  un : under r = true
  rest_ : rest r = left
  mv : r.mv = m
  st : r.st = false
  lt_ : r.lt = lt
  ep_ : r.ep = ep
  nb : r.nb = 0
  bel : Below w.heap.size w u
  tl : u.heap[g]? = some (.cells (tlA T) 46 (0, 0))
  gp : g ≠ R.p
  gk : g ≠ R.k
  pp : w.heap.size ≤ R.p
  pk : w.heap.size ≤ R.k
theorem Dl.go {w : World} {R : Wh} {g : Nat} {T : Tl} {m : Mv} {ep n lt left : Int} {u u' : World} {r : Rb} (h : Dl w R g T m ep n lt left u r) (b : Below u.heap.size u u') : Dl w R g T m ep n lt left u' r :=
  ⟨h.rb.go b, h.ok, h.un, h.rest_, h.mv, h.st, h.lt_, h.ep_, h.nb, bcat h.bel b, (b.block _ (Array.getElem?_eq_some_iff.1 h.tl).1).trans h.tl, h.gp, h.gk, h.pp, h.pk⟩
theorem Dl.gl {w : World} {R : Wh} {g : Nat} {T : Tl} {m : Mv} {ep n lt left : Int} {u : World} {r : Rb} (h : Dl w R g T m ep n lt left u r) : g < u.heap.size := (Array.getElem?_eq_some_iff.1 h.tl).1
theorem Dl.late {w : World} {R : Wh} {g : Nat} {T : Tl} {m : Mv} {ep n lt left : Int} {u u' : World} {r : Rb} (h : Dl w R g T m ep n lt left u r) (d : Int) (hd : d ≤ 1000) (hl : r.la ≤ 900000) (hR : RbAt u' R (lateR r d)) (o : Only R.p u u') : Dl w R g T m ep n lt (left + max 0 d) u' (lateR r d) := by
  obtain ⟨a1, a2, a3, a4, a5, a6, _, a8⟩ := late_under h.ok h.un d
  exact ⟨hR, h.ok.late d, a1, by rw [a8 hd hl, h.rest_], a2.trans h.mv, a3.trans h.st, a4.trans h.lt_, a5.trans h.ep_, a6.trans h.nb, Below.only h.bel o h.pp, (o.block _ h.gp).trans h.tl, h.gp, h.gk, h.pp, h.pk⟩
theorem Dl.tick {w : World} {R : Wh} {g : Nat} {T : Tl} {m : Mv} {ep n lt left : Int} {u u' : World} {r : Rb} (h : Dl w R g T m ep n lt left u r) (hn : 0 ≤ n) (hl : 1 < left) (hR : RbAt u' R (tickR r)) (T1 : Tn R u u') : Dl w R g T m ep (n + 1) lt (left - 1) u' (tickR r) := by
  obtain ⟨_, _, a1, a2, a3, a4, a5, a6, a7, _, _, _⟩ := tick_more h.ok h.un (by rw [h.rest_]; exact hl)
  exact ⟨hR, h.ok.tick hn, a1, by rw [a2, h.rest_], a3.trans h.mv, a4.trans h.st, a5.trans h.lt_, a6.trans h.ep_, a7.trans h.nb, bel_tn h.bel T1 h.pp h.pk h.bel.size, (T1.block _ h.gl h.gp h.gk).trans h.tl, h.gp, h.gk, h.pp, h.pk⟩
theorem Dl.how {w : World} {R : Wh} {g : Nat} {T : Tl} {m : Mv} {ep n lt left : Int} {u : World} {r : Rb} (h : Dl w R g T m ep n lt left u r) (hl : 1 < left) : tickH r = 0 ∧ tickM r = mv0 := by
  obtain ⟨a1, a2, _⟩ := tick_more h.ok h.un (by rw [h.rest_]; exact hl)
  exact ⟨a1, a2⟩
theorem Dl.last {w : World} {R : Wh} {g : Nat} {T : Tl} {m : Mv} {ep n lt left : Int} {u : World} {r : Rb} (h : Dl w R g T m ep n lt left u r) (hl : left ≤ 1) : tickH r = 1 ∧ tickM r = m ∧ tickR r = ended r ∧ (ended r).lt = lt + 1 ∧ (ended r).ep = ep ∧ (ended r).nb = 0 ∧ under (ended r) = false ∧ posR (ended r) = ((m.tx, m.ty), m.td) := by
  obtain ⟨a1, a2, a3⟩ := tick_last h.ok h.un (by rw [h.rest_]; exact hl)
  rw [h.st] at a1
  refine ⟨a1, a2.trans h.mv, a3, ?_, h.ep_, h.nb, rfl, ?_⟩
  · show (if r.st then r.lt else r.lt + 1) = _
    rw [h.st, h.lt_]
    rfl
  · rw [← h.mv]; rfl
theorem tell_ack {r : Rb} (h : 0 < r.lt) : tellP r = ackP r := by
  unfold tellP
  rw [if_neg (by unfold stopd; simp; omega)]
/- A robot that has heard a go-ahead is under way with it. -/
theorem Dl.begun {w : World} {R : Wh} {g : Nat} {m : Mv} {turn hoist : Int} {ku ka kv : Nat} {n : Int} {u u' : World} {r : Rb} (hb : Below w.heap.size w u) (hT : Tn R u u') (hL : Led R.W R.H R.us turn hoist ku ka kv (posR r) m) (hu : under r = false) (hn : 0 ≤ n) (hnb : r.nb = 0) (ok : OkR n r) (hR : RbAt u' R (begun r (goT r.nb r.ep (r.lt + 1) m))) (hg : u.heap[g]? = some (.cells (tlA (goT r.nb r.ep (r.lt + 1) m)) 46 (0, 0))) (gp : g ≠ R.p) (gk : g ≠ R.k) (pp : w.heap.size ≤ R.p) (pk : w.heap.size ≤ R.k) :
    Dl w R g (goT r.nb r.ep (r.lt + 1) m) m r.ep n r.lt (m.me - m.ma) u' (begun r (goT r.nb r.ep (r.lt + 1) m)) := by
  obtain ⟨a1, a2, a3, a4, _, _⟩ := led_begun hL hu
  exact ⟨hR, ok.begun hn (led_begs hL hu), a1, a2, a3, a4, rfl, rfl, hnb, bel_tn hb hT pp pk hb.size, (hT.block _ (Array.getElem?_eq_some_iff.1 hg).1 gp gk).trans hg, gp, gk, pp, pk⟩
end Go.Proofs.YtedmfhkdaifegaaGreat.Rob
