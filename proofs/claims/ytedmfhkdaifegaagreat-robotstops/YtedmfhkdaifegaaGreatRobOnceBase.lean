/-
  A robot begins a move only by the next go-ahead of its epoch.
-/
import Derived.Test.YtedmfhkdaifegaaGreatRobPlace
import Derived.Test.YtedmfhkdaifegaaGreatRobTick
import Derived.Test.YtedmfhkdaifegaaGreatRobFacts
import Derived.Test.YtedmfhkdaifegaaGreatRobOldWalk
import Derived.Deep.DeepCutAuto
import Derived.Deep.CutRange
namespace Go.Proofs.YtedmfhkdaifegaaGreat.Rob
set_option linter.unusedVariables false
set_option linter.unusedSimpArgs false
open Go Go.RowKit Go.Shelf Go.Proofs Go.Proofs.YtedmfhkdaifegaaGreat.Lk Go.Proofs.YtedmfhkdaifegaaGreat.Plain
attribute [local go_sem] Oper.semAt_some

theorem zeroCl (w : World) : (zeroValue 48).run Tryz.prog w = .ok (.agg (clA ⟨0, 0, tl0⟩)) w := by kernel_rfl
theorem clA_one (x : Cl) : (clA x).all (·.oneCell') = true := by
  obtain ⟨a, b, t⟩ := x
  cases t
  simp [clA, clL, tlL, Value.oneCell']
theorem cl_cell {w : World} {g : Nat} {x : Cl} {T : TypeId} {fr : Nat × Nat} (h : w.heap[g]? = some (.cells (clA x) T fr)) (j : Nat) : w.cell? ⟨g, j, none⟩ = (clA x)[j]? := by simp [World.cell?, h]
theorem cl_tele {w : World} {g : Nat} {x : Cl} {T : TypeId} {fr : Nat × Nat} (h : w.heap[g]? = some (.cells (clA x) T fr)) : (loadVar 46 ⟨g, 2, none⟩).run Tryz.prog w = .ok (.agg (tlA x.te)) w :=
  run_loadVar_at w _ _ _ (fun j v hv => by
    rw [Addr.add_mid, cl_cell h]
    unfold tlA at hv
    rw [List.getElem?_toArray] at hv
    unfold clA clL
    rw [List.getElem?_toArray]
    rw [List.getElem?_append_right (by simp only [List.length_cons, List.length_nil]; omega)]
    simp only [List.length_cons, List.length_nil]
    rw [show 2 + j - (0 + 1 + 1) = j by omega]
    exact hv) (aggTele _) infoTele
theorem cl_from {w : World} {g : Nat} {x : Cl} {T : TypeId} {fr : Nat × Nat} (h : w.heap[g]? = some (.cells (clA x) T fr)) : (loadVar 42 ⟨g, 9, none⟩).run Tryz.prog w = .ok (.agg (poA x.te.fx x.te.fy x.te.fd)) w :=
  run_loadVar_at w _ _ _ (fun j v hv => by
    rw [Addr.add_mid, cl_cell h]
    match j with
    | 0 => exact hv
    | 1 => exact hv
    | 2 => exact hv
    | j + 3 => simp [poA] at hv) (aggPose _) infoPose
theorem new_ok0 {F : Nat → Prop} {c : Grid.Conf} {v1 v2 v3 v4 : Value} {w : World} (hA : Grid.ConfAt F c v1 v2 v3 v4 w) (hF : ∀ b, F b → b < w.heap.size) (l1 : c.blocked.length ≤ 8796093022208) (l2 : c.ports.length ≤ 8796093022208) (l3 : c.robots.length ≤ 5864062014805) (l4 : c.stacks.length ≤ 3518437208880) {G : Grid.GS} (hN : Grid.newP c = some G) (hi : 0 < c.robots.length) :
    Calls Tryz.prog 9 #[.agg #[.int .i64 c.W, .int .i64 c.H, .int .i64 c.height, v1, v2, v3, v4, .int .i64 c.unit, .int .i64 c.accel, .int .i64 c.speed, .int .i64 c.turn, .int .i64 c.hoist, .int .i64 c.queue, .int .i64 c.resend, .int .i64 c.budget, .bool c.back], .int .i64 0] w fun e w' => ∃ (R : Wh) (r : Rb), e = .returned (.tuple #[.pointer (some ⟨R.p, 0, none⟩), .int .i64 0]) ∧ RbAt w' R r ∧ r.nb = 0 ∧ r.lt = 0 ∧ r.ep = 0 ∧ OkR 0 r ∧ w.heap.size ≤ R.p ∧ w.heap.size ≤ R.k ∧ Below w.heap.size w w' := by
  refine Calls.mono (show Calls Tryz.prog 9 #[.agg #[.int .i64 c.W, .int .i64 c.H, .int .i64 c.height, v1, v2, v3, v4, .int .i64 c.unit, .int .i64 c.accel, .int .i64 c.speed, .int .i64 c.turn, .int .i64 c.hoist, .int .i64 c.queue, .int .i64 c.resend, .int .i64 c.budget, .bool c.back], .int .i64 0] w _ from new_ok hA hF l1 l2 l3 l4 0 hN hi) ?_
  rintro e w' ⟨R, rfl, hR, h1, h2, _, h3⟩
  exact ⟨R, _, rfl, hR, rfl, rfl, rfl, OkR.first _ _ _ _, h1, h2, h3⟩
/- How a tick turns done. -/
theorem tick_done {n : Int} {r : Rb} (ok : OkR n r) : (tickR r).nb = r.nb ∧ (tickR r).ep = r.ep ∧ (tickR r).lt = (if tickH r = 1 then r.lt + 1 else if tickH r = 2 then 0 else r.lt) := by
  rcases tick_how r with h | h | h
  · obtain ⟨a, b, c, _⟩ := tick_zero h
    rw [h]
    exact ⟨c, b, a⟩
  · obtain ⟨_, _, a, b, c, _⟩ := tick_one h
    rw [h]
    exact ⟨c, b, a⟩
  · obtain ⟨_, _, a, b, c⟩ := tick_two ok h
    rw [h]
    exact ⟨c, b, a⟩
end Go.Proofs.YtedmfhkdaifegaaGreat.Rob
