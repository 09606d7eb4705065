/-
  Go-aheads one behind the other, stops and delays on the way: a robot does what the chapter's own does.
-/
import Derived.Test.YtedhoghleelhfaaGreatQRobXg
namespace Go.Proofs.YtedhoghleelhfaaGreat.Rob
set_option linter.unusedVariables false
set_option linter.unusedSimpArgs false
open Go Go.RowKit Go.Shelf Go.Proofs Go.Proofs.YtedhoghleelhfaaGreat.Lk Go.Proofs.YtedhoghleelhfaaGreat.Plain
attribute [local go_sem] Oper.semAt_some

def InI (w : World) (a : Option Addr) (n : Nat) (zs : Nat → Int) : Prop := ∀ i, i < n → ∃ x : Addr, a = some x ∧ w.cell? (x.add i) = some (.int .i64 (zs i))
theorem InI.go {w w' : World} {a : Option Addr} {n : Nat} {zs : Nat → Int} (h : InI w a n zs) (hb : Below w.heap.size w w') : InI w' a n zs := fun i hi => by
  obtain ⟨x, hx, h1⟩ := h i hi
  exact ⟨x, hx, (hb.cell (World.block_lt_of_cell? w _ h1)).trans h1⟩
theorem ints_in {w : World} {a : Option Addr} {n cap : Nat} {xs : List Int} (h : Grid.ListAt 1 Grid.intEl (Grid.Old w) xs (.slice a n cap) w) : InI w a n (fun i => xs.getD i 0) := fun i hi => by
  obtain ⟨a', cap', e, _⟩ := h.form
  simp only [Value.slice.injEq] at e
  obtain ⟨rfl, rfl, rfl⟩ := e
  obtain ⟨p, cs, cap2, hv, _, hcs, hrd⟩ := h.item hi
  simp only [Value.slice.injEq] at hv
  have hcs : cs = #[.int .i64 (xs[i]'hi)] := hcs
  subst hcs
  refine ⟨p, hv.1, ?_⟩
  have := hrd 0 (.int .i64 (xs[i]'hi)) rfl
  have e0 : ∀ q : Addr, q.add 0 = q := fun q => by unfold Addr.add; simp
  rw [Nat.mul_one, e0] at this
  show w.cell? (p.add i) = some (.int .i64 (xs.getD i 0))
  rw [List.getD_eq_getElem?_getD, List.getElem?_eq_getElem hi, Option.getD_some]
  exact this
theorem manyT_ep (r : Rb) : ∀ n : Nat, (manyT n r).ep = r.ep
  | 0 => rfl
  | n + 1 => by
    have q := manyT_ep r n
    show (tickR (manyT n r)).ep = r.ep
    rw [← q]
    unfold tickR
    split
    · rfl
    · split
      · rfl
      · split <;> rfl
theorem doR_ep (R : Wh) (r : Rb) (x : Cl) : (doR R r x).ep = r.ep ∨ (doR R r x).ep = x.te.ep := by
  unfold doR
  split
  · exact Or.inl (manyT_ep _ _)
  · split
    · exact Or.inl (by unfold lateR; split <;> rfl)
    · split
      · exact Or.inl rfl
      · by_cases h : newStop r x.te
        · rw [(hear_new (R := R) h).1]
          exact Or.inr (stop_stay R r x.te.ep).2.2.2.1
        · exact Or.inl (hear_same h).1
theorem builtT (t : Tl) : Tryz.prog.built 48 [(2, .agg (tlA t))] = some (clA ⟨0, 0, t⟩) := by cases t; kernel_rfl
theorem builtK (k n : Int) : Tryz.prog.built 48 [(0, .int .i64 k), (1, .int .i64 n)] = some (clA ⟨k, n, tl0⟩) := by kernel_rfl
theorem built3 : Tryz.prog.built 48 [(0, .int .i64 3)] = some (clA ⟨3, 0, tl0⟩) := by kernel_rfl
theorem wpList_bldw {ops : Array Oper} {rest : List Oper} {o : Oper} {a : Act} {w : World} {Q : Exit → Act → World → Prop} (hw : Region.wanted o (yielded ops a.tmps) = true) (t : TypeId) (parts : Array (Nat × Operand)) (ho : o.op = .build t parts) (vs : List (Nat × Value)) (cs : Array Value) (hv : (parts.map fun (i, x) => (i, a.eval x)).toList = vs) (hf : Tryz.prog.built t vs = some cs)
    (h : wpList Tryz.prog ops Q rest (a.put o.dst (.agg cs)) w) : wpList Tryz.prog ops Q (o :: rest) a w :=
  BigFrame.wpList_want hw fun _ hK => by
    unfold Oper.wp
    rw [run_build_op t parts ho vs cs hv hf]
    exact hK _ _ h
set_option maxRecDepth 100000 in
set_option maxHeartbeats 16000000 in
theorem runs_all (c : Grid.Conf) (va vb vc vd : Value) (w : World) (hA : Grid.ConfAt (Grid.Old w) c va vb vc vd w) (l1 : c.blocked.length ≤ 8796093022208) (l2 : c.ports.length ≤ 8796093022208) (l3 : c.robots.length ≤ 5864062014805) (l4 : c.stacks.length ≤ 3518437208880) (l5 : ∀ s ∈ c.stacks, s.2.length ≤ 17592186044416) (a : Option Addr) (n cap : Nat) (zs : Nat → Int) (hZ : InI w a n zs) (a2 : Option Addr) (n2 cap2 : Nat) (ss : Nat → Int) (hS : InI w a2 n2 ss) :
    Calls Tryz.prog 4 #[.agg #[.int .i64 c.W, .int .i64 c.H, .int .i64 c.height, va, vb, vc, vd, .int .i64 c.unit, .int .i64 c.accel, .int .i64 c.speed, .int .i64 c.turn, .int .i64 c.hoist, .int .i64 c.queue, .int .i64 c.resend, .int .i64 c.budget, .bool c.back], .slice a n cap, .slice a2 n2 cap2] w fun e w' => e = .returned (.bool true) ∧ Below w.heap.size w w' := by
  have hO : ∀ b, Grid.Old w b → b < w.heap.size := fun b h => h
  obtain ⟨a3, cap3, hv3, _⟩ := hA.r.form
  subst hv3
  have HAH : Hid (Grid.ConfAt (Grid.Old w) c va vb (.slice a3 c.robots.length cap3) vd w) := hA
  obtain ⟨w1, hw1⟩ : ∃ w1, w1 = w.alloc (.cells #[.int .i64 c.W, .int .i64 c.H, .int .i64 c.height, va, vb, (.slice a3 c.robots.length cap3), vd, .int .i64 c.unit, .int .i64 c.accel, .int .i64 c.speed, .int .i64 c.turn, .int .i64 c.hoist, .int .i64 c.queue, .int .i64 c.resend, .int .i64 c.budget, .bool c.back] 26) := ⟨_, rfl⟩
  have b1 : Below w.heap.size w w1 := by rw [hw1]; exact (Below.refl _ _).alloc (Nat.le_refl _) _
  have hc1 : w1.heap[w.heap.size]? = some (.cells #[.int .i64 c.W, .int .i64 c.H, .int .i64 c.height, va, vb, (.slice a3 c.robots.length cap3), vd, .int .i64 c.unit, .int .i64 c.accel, .int .i64 c.speed, .int .i64 c.turn, .int .i64 c.hoist, .int .i64 c.queue, .int .i64 c.resend, .int .i64 c.budget, .bool c.back] 26 (0, 0)) := by rw [hw1]; exact World.alloc_heap_new _ _
  have HW1 : Hid (w1 = w.alloc (.cells #[.int .i64 c.W, .int .i64 c.H, .int .i64 c.height, va, vb, (.slice a3 c.robots.length cap3), vd, .int .i64 c.unit, .int .i64 c.accel, .int .i64 c.speed, .int .i64 c.turn, .int .i64 c.hoist, .int .i64 c.queue, .int .i64 c.resend, .int .i64 c.budget, .bool c.back] 26)) := hw1
  have HB1 : Hid (Below w.heap.size w w1) := b1
  have HZ1 : Hid (∀ u, Below w1.heap.size w1 u → InI u a n zs) := fun u hu => (hZ.go b1).go hu
  have HS1 : Hid (∀ u, Below w1.heap.size w1 u → InI u a2 n2 ss) := fun u hu => (hS.go b1).go hu
  have HC1 : Hid (∀ u, Below w1.heap.size w1 u → u.heap[w.heap.size]? = some (.cells #[.int .i64 c.W, .int .i64 c.H, .int .i64 c.height, va, vb, (.slice a3 c.robots.length cap3), vd, .int .i64 c.unit, .int .i64 c.accel, .int .i64 c.speed, .int .i64 c.turn, .int .i64 c.hoist, .int .i64 c.queue, .int .i64 c.resend, .int .i64 c.budget, .bool c.back] 26 (0, 0))) := fun u b => (b.block _ (Array.getElem?_eq_some_iff.1 hc1).1).trans hc1
  have HC5 : Hid (∀ u, Below w1.heap.size w1 u → u.cell? ⟨w.heap.size, 5, none⟩ = some (.slice a3 c.robots.length cap3)) := fun u b => (cell_of' (HC1.out u b) 5).trans rfl
  have HLDu : Hid (∀ u, Below w1.heap.size w1 u → (loadVar 26 ⟨w.heap.size, 0, none⟩).run Tryz.prog u = .ok (.agg #[.int .i64 c.W, .int .i64 c.H, .int .i64 c.height, va, vb, (.slice a3 c.robots.length cap3), vd, .int .i64 c.unit, .int .i64 c.accel, .int .i64 c.speed, .int .i64 c.turn, .int .i64 c.hoist, .int .i64 c.queue, .int .i64 c.resend, .int .i64 c.budget, .bool c.back]) u) := fun u b => load_row_of (HC1.out u b) (Grid.aggConf _) Grid.info_conf
  have cS := Dig.small_any (Grid.Old w) c va vb _ vd w1 (hA.go hO b1) (fun b hb => Nat.lt_of_lt_of_le (hO b hb) b1.size) l1 l2 l3 l4 l5
  have cC := fun u (b : Below w.heap.size w u) => Grid.copyConf_any (Grid.Old w) c va vb _ vd u (hA.go hO b) (fun q hq => Nat.lt_of_lt_of_le (hO q hq) b.size) l1 l2 l3 l4 l5
  clear hA b1 hc1 hw1 hZ hS
  cases hsm : (Dig.smallN c && (Grid.newP c).isSome) with
  | false =>
    rw [hsm] at cS
    go_enter Tryz.func4, Tryz.ntmps4
    go_wp2_with (first | (have X' := HW1; refine wpList_boxAt rfl 26 (.tmp 0) rfl #[.int .i64 c.W, .int .i64 c.H, .int .i64 c.height, va, vb, (.slice a3 c.robots.length cap3), vd, .int .i64 c.unit, .int .i64 c.accel, .int .i64 c.speed, .int .i64 c.turn, .int .i64 c.hoist, .int .i64 c.queue, .int .i64 c.resend, .int .i64 c.budget, .bool c.back] rfl ?_; rw [← HW1.out]; clear HW1) | (refine wpList_load_at rfl 26 (.tmp 3) rfl ⟨w.heap.size, 0, none⟩ rfl #[.int .i64 c.W, .int .i64 c.H, .int .i64 c.height, va, vb, (.slice a3 c.robots.length cap3), vd, .int .i64 c.unit, .int .i64 c.accel, .int .i64 c.speed, .int .i64 c.turn, .int .i64 c.hoist, .int .i64 c.queue, .int .i64 c.resend, .int .i64 c.budget, .bool c.back] (HLDu.out _ (Below.refl _ _)) ?_) | (go_at_call 12; refine cS.mono ?_; rintro e w3 ⟨rs, rfl, rfl, b3⟩; have HB3 : Hid (Below w1.heap.size w1 w3) := b3; have k5 := HC5.out _ b3) | (go_at_call 8; refine (awake18_any _).mono ?_; rintro e w9 ⟨rfl, b9⟩))
    go_ret
    exact ⟨rfl, bcat (bcat HB1.out HB3.out) b9⟩
  | true =>
    rw [hsm] at cS
    obtain ⟨G, hN⟩ : ∃ G, Grid.newP c = some G := by
      cases h : Grid.newP c with
      | none => rw [h] at hsm; simp at hsm
      | some G => exact ⟨G, rfl⟩
    clear hsm
    by_cases h0 : c.robots.length = 0
    · have q0 : ((c.robots.length : Int) == 0) = true := by rw [beq_iff_eq]; omega
      clear h0
      go_enter Tryz.func4, Tryz.ntmps4
      go_wp2_with (first | (have X' := HW1; refine wpList_boxAt rfl 26 (.tmp 0) rfl #[.int .i64 c.W, .int .i64 c.H, .int .i64 c.height, va, vb, (.slice a3 c.robots.length cap3), vd, .int .i64 c.unit, .int .i64 c.accel, .int .i64 c.speed, .int .i64 c.turn, .int .i64 c.hoist, .int .i64 c.queue, .int .i64 c.resend, .int .i64 c.budget, .bool c.back] rfl ?_; rw [← HW1.out]; clear HW1) | (refine wpList_load_at rfl 26 (.tmp 3) rfl ⟨w.heap.size, 0, none⟩ rfl #[.int .i64 c.W, .int .i64 c.H, .int .i64 c.height, va, vb, (.slice a3 c.robots.length cap3), vd, .int .i64 c.unit, .int .i64 c.accel, .int .i64 c.speed, .int .i64 c.turn, .int .i64 c.hoist, .int .i64 c.queue, .int .i64 c.resend, .int .i64 c.budget, .bool c.back] (HLDu.out _ (Below.refl _ _)) ?_) | (go_at_call 12; refine cS.mono ?_; rintro e w3 ⟨rs, rfl, rfl, b3⟩; have HB3 : Hid (Below w1.heap.size w1 w3) := b3; have k5 := HC5.out _ b3) | (go_at_call 8; refine (awake18_any _).mono ?_; rintro e w9 ⟨rfl, b9⟩))
      go_ret
      exact ⟨rfl, bcat (bcat HB1.out HB3.out) b9⟩
    · have q0 : ((c.robots.length : Int) == 0) = false := by rw [beq_eq_false_iff_ne]; omega
      have hr0 : 0 < c.robots.length := by omega
      clear h0
      obtain ⟨r, hr⟩ : ∃ r, firstR 0 (c.robots[0]'hr0).1.1 (c.robots[0]'hr0).1.2 (c.robots[0]'hr0).2 = r := ⟨_, rfl⟩
      have HOK0_ : Hid (OkR 0 r ∧ r.ep = 0) := by
        show OkR 0 r ∧ r.ep = 0
        rw [← hr]
        exact ⟨OkR.first _ _ _ _, rfl⟩
      have HN : Hid (Grid.newP c = some G) := hN
      have HNW : Hid (∀ {u : World} {k1 k2 k3 k4 : Value} {m : Nat}, Grid.ConfAt (Grid.Since m u) c k1 k2 k3 k4 u → Calls Tryz.prog 5 #[.agg #[.int .i64 c.W, .int .i64 c.H, .int .i64 c.height, k1, k2, k3, k4, .int .i64 c.unit, .int .i64 c.accel, .int .i64 c.speed, .int .i64 c.turn, .int .i64 c.hoist, .int .i64 c.queue, .int .i64 c.resend, .int .i64 c.budget, .bool c.back], .int .i64 0] u fun e w' => ∃ R : Wh, e = .returned (.tuple #[.pointer (some ⟨R.p, 0, none⟩), .int .i64 0]) ∧ RbAt w' R r ∧ u.heap.size ≤ R.p ∧ u.heap.size ≤ R.k ∧ (R.W = c.W ∧ R.H = c.H ∧ R.us = G.uses ∧ (R.ku : Int) = c.unit ∧ (R.ka : Int) = c.accel ∧ (R.kv : Int) = c.speed) ∧ Below u.heap.size u w') := fun hC => by
        rw [← hr]
        exact new_ok hC Grid.since_lt l1 l2 l3 l4 0 HN.out hr0
      have HRN : Hid (∀ u, Below w1.heap.size w1 u → Calls Tryz.prog 9 #[.agg #[.int .i64 c.W, .int .i64 c.H, .int .i64 c.height, va, vb, (.slice a3 c.robots.length cap3), vd, .int .i64 c.unit, .int .i64 c.accel, .int .i64 c.speed, .int .i64 c.turn, .int .i64 c.hoist, .int .i64 c.queue, .int .i64 c.resend, .int .i64 c.budget, .bool c.back], .int .i64 0] u fun e w' => ∃ q, e = .returned (.pointer (some ⟨q, 0, none⟩)) ∧ RcAt w' q #[.int .i64 c.W, .int .i64 c.H, .int .i64 c.height, va, vb, (.slice a3 c.robots.length cap3), vd, .int .i64 c.unit, .int .i64 c.accel, .int .i64 c.speed, .int .i64 c.turn, .int .i64 c.hoist, .int .i64 c.queue, .int .i64 c.resend, .int .i64 c.budget, .bool c.back] r 0 false ∧ u.heap.size ≤ q ∧ Below u.heap.size u w') := fun u b => by
        rw [← hr]
        exact rcnew_any (HAH.out.go hO (bcat HB1.out b)) (fun q hq => Nat.lt_of_lt_of_le (hO q hq) (bcat HB1.out b).size) 0 hr0
      have HCH : Hid (∀ R : Wh, Kin.Ok R.ku R.ka R.kv → (R.W = c.W ∧ R.H = c.H ∧ R.us = G.uses ∧ (R.ku : Int) = c.unit ∧ (R.ka : Int) = c.accel ∧ (R.kv : Int) = c.speed) → Ch w1 #[.int .i64 c.W, .int .i64 c.H, .int .i64 c.height, va, vb, (.slice a3 c.robots.length cap3), vd, .int .i64 c.unit, .int .i64 c.accel, .int .i64 c.speed, .int .i64 c.turn, .int .i64 c.hoist, .int .i64 c.queue, .int .i64 c.resend, .int .i64 c.budget, .bool c.back] R) := fun R ok ⟨e1, e2, e3, e4, e5, e6⟩ => by
        refine ⟨fun u b m => ?_, fun u => ?_, ok⟩
        · have h := Grid.rlegal_old c va vb (.slice a3 c.robots.length cap3) vd w HAH.out l1 l2 l3 l4 l5 HN.out (gm m) u (bcat HB1.out b)
          rw [e1, e2, e3]
          exact h
        · have h := kinR_any c va vb (.slice a3 c.robots.length cap3) vd R.ku R.ka R.kv u
          rw [e4, e5, e6] at h
          rw [e4, e5, e6]
          exact h
      clear hr hN
      go_enter Tryz.func4, Tryz.ntmps4
      go_wp2_with (first
        | (have X' := HW1; refine wpList_boxAt rfl 26 (.tmp 0) rfl #[.int .i64 c.W, .int .i64 c.H, .int .i64 c.height, va, vb, (.slice a3 c.robots.length cap3), vd, .int .i64 c.unit, .int .i64 c.accel, .int .i64 c.speed, .int .i64 c.turn, .int .i64 c.hoist, .int .i64 c.queue, .int .i64 c.resend, .int .i64 c.budget, .bool c.back] rfl ?_; rw [← HW1.out]; clear HW1)
        | (first | (have X5 := HB5; refine wpList_load_at rfl 26 (.tmp 3) rfl ⟨w.heap.size, 0, none⟩ rfl #[.int .i64 c.W, .int .i64 c.H, .int .i64 c.height, va, vb, (.slice a3 c.robots.length cap3), vd, .int .i64 c.unit, .int .i64 c.accel, .int .i64 c.speed, .int .i64 c.turn, .int .i64 c.hoist, .int .i64 c.queue, .int .i64 c.resend, .int .i64 c.budget, .bool c.back] (HLDu.out _ HB5.out) ?_) | (have X3 := HB3; refine wpList_load_at rfl 26 (.tmp 3) rfl ⟨w.heap.size, 0, none⟩ rfl #[.int .i64 c.W, .int .i64 c.H, .int .i64 c.height, va, vb, (.slice a3 c.robots.length cap3), vd, .int .i64 c.unit, .int .i64 c.accel, .int .i64 c.speed, .int .i64 c.turn, .int .i64 c.hoist, .int .i64 c.queue, .int .i64 c.resend, .int .i64 c.budget, .bool c.back] (HLDu.out _ HB3.out) ?_) | (refine wpList_load_at rfl 26 (.tmp 3) rfl ⟨w.heap.size, 0, none⟩ rfl #[.int .i64 c.W, .int .i64 c.H, .int .i64 c.height, va, vb, (.slice a3 c.robots.length cap3), vd, .int .i64 c.unit, .int .i64 c.accel, .int .i64 c.speed, .int .i64 c.turn, .int .i64 c.hoist, .int .i64 c.queue, .int .i64 c.resend, .int .i64 c.budget, .bool c.back] (HLDu.out _ (Below.refl _ _)) ?_))
        | (go_at_call 12; refine cS.mono ?_; rintro e w3 ⟨rs, rfl, rfl, b3⟩; have HB3 : Hid (Below w1.heap.size w1 w3) := b3; have k5 := HC5.out _ b3)
        | (have X' := cC; go_at_call 6; refine (cC _ (bcat HB1.out HB3.out)).mono ?_; clear cC; rintro e w4 ⟨rc, rfl, ⟨k1, k2, k3, k4, rfl, hC4⟩, b4⟩; have HB4 : Hid (Below w1.heap.size w1 w4) := bcat HB3.out b4; have HC4 : Hid (Grid.ConfAt (Grid.Since w3.heap.size w4) c k1 k2 k3 k4 w4) := hC4; clear hC4 b4)
        | (go_at_call 5; refine (HNW.out HC4.out).mono ?_; rintro e w5 ⟨R, rfl, hR, hp, hk, hRW, b5⟩; have HPK : Hid (w1.heap.size ≤ R.p ∧ w1.heap.size ≤ R.k) := ⟨Nat.le_trans HB4.out.size hp, Nat.le_trans HB4.out.size hk⟩; have HR5 : Hid (RbAt w5 R r) := hR; have HRW : Hid (R.W = c.W ∧ R.H = c.H ∧ R.us = G.uses ∧ (R.ku : Int) = c.unit ∧ (R.ka : Int) = c.accel ∧ (R.kv : Int) = c.speed) := hRW; have HB5 : Hid (Below w1.heap.size w1 w5) := bcat HB4.out b5; clear b5 hp hk HC4 hR hRW k5)
        | (go_at_call 9; refine (HRN.out _ HB5.out).mono ?_; rintro e w8 ⟨q, rfl, hq, lq, b8⟩; have HA8_ : Hid (Al w1 w8 w8 R q #[.int .i64 c.W, .int .i64 c.H, .int .i64 c.height, va, vb, (.slice a3 c.robots.length cap3), vd, .int .i64 c.unit, .int .i64 c.accel, .int .i64 c.speed, .int .i64 c.turn, .int .i64 c.hoist, .int .i64 c.queue, .int .i64 c.resend, .int .i64 c.budget, .bool c.back] (r) (r)) := ⟨HR5.out.go b8, ⟨0, false, hq⟩, HR5.out.off lq, bcat HB5.out b8, HPK.out.1, HPK.out.2, Nat.le_trans HB5.out.size lq, Fr.refl _ _ _⟩; have HCC : Hid (Ch w1 #[.int .i64 c.W, .int .i64 c.H, .int .i64 c.height, va, vb, (.slice a3 c.robots.length cap3), vd, .int .i64 c.unit, .int .i64 c.accel, .int .i64 c.speed, .int .i64 c.turn, .int .i64 c.hoist, .int .i64 c.queue, .int .i64 c.resend, .int .i64 c.budget, .bool c.back] R) := HCH.out R HR5.out.ok HRW.out; clear hq lq b8))
      clear cS HC5
      go_loopw [10] (fun ci wr => ∃ (i : Nat) (r1 : Rb), ci = .int .i64 i ∧ i ≤ 12 ∧ Al w1 wr wr R q #[.int .i64 c.W, .int .i64 c.H, .int .i64 c.height, va, vb, (.slice a3 c.robots.length cap3), vd, .int .i64 c.unit, .int .i64 c.accel, .int .i64 c.speed, .int .i64 c.turn, .int .i64 c.hoist, .int .i64 c.queue, .int .i64 c.resend, .int .i64 c.budget, .bool c.back] (r1) (r1) ∧ OkR ((i : Int) * 4000) r1 ∧ r1.ep ≤ (i : Int)) (fun ci _ => 12 - (intOf ci).toNat)
      case atStart => exact ⟨0, r, rfl, Nat.zero_le _, HA8_.out, by simpa using HOK0_.out.1, by rw [HOK0_.out.2]; omega⟩
      case round =>
        clear HA8_ HOK0_
        obtain ⟨i, r1_, rfl, hi, hal, hok, hep⟩ := hrel
        by_cases hmore : i < n ∧ i < 12
        · obtain ⟨hc1, hc2⟩ := hmore
          have g1 : (i : Int) < (n : Int) := by omega
          have g2 : (i : Int) < 12 := by omega
          obtain ⟨n0, hn0⟩ : ∃ n0 : Int, n0 = (i : Int) * 4000 := ⟨_, rfl⟩
          have HN0 : Hid (n0 = (i : Int) * 4000) := hn0
          have HI12 : Hid ((i : Int) < 12) := g2
          rw [← hn0] at hok
          have hna : 0 ≤ n0 := by omega
          have hnb : n0 ≤ 48000 := by omega
          clear hn0
          obtain ⟨xs, rfl, _⟩ := HZ1.out _ hal.bel i hc1
          have HZ : Hid (∀ u, Below w1.heap.size w1 u → u.cell? (xs.add i) = some (.int .i64 (zs i))) := fun u hu => by
            obtain ⟨x', e', h'⟩ := HZ1.out u hu i hc1
            cases e'
            exact h'
          obtain ⟨T, hT⟩ : ∃ T, goT r1_.nb r1_.ep (r1_.lt + 1) (gosM c.turn c.hoist R.ku R.ka R.kv (Grid.movesP c.W c.H G.uses (posR r1_)) (posR r1_) (zs i) (i : Int)) = T := ⟨_, rfl⟩
          have HTE : Hid (T.ep = r1_.ep) := by rw [← hT]; rfl
          have HBR : Hid (Below w1.heap.size w1 wr) := hal.bel
          have HGO0 : Hid (∀ u, Below wr.heap.size wr u → Calls Tryz.prog 13 #[.agg #[.int .i64 c.W, .int .i64 c.H, .int .i64 c.height, va, vb, (.slice a3 c.robots.length cap3), vd, .int .i64 c.unit, .int .i64 c.accel, .int .i64 c.speed, .int .i64 c.turn, .int .i64 c.hoist, .int .i64 c.queue, .int .i64 c.resend, .int .i64 c.budget, .bool c.back], .pointer (some ⟨q, 0, none⟩), .int .i64 (zs i), .int .i64 (i : Int)] u fun e w' => ∃ z, e = .returned z ∧ (z = .agg (tlA T) ∧ Below u.heap.size u w')) := fun u b => by
            obtain ⟨gn, cu, hq⟩ := hal.rc
            have h := gos_any c va vb _ vd u (Grid.old_go HAH.out (bcat (bcat HB1.out hal.bel) b)) l1 l2 l3 l4 l5 HN.out R.ku R.ka R.kv hal.rb.ok HRW.out.2.2.2.1 HRW.out.2.2.2.2.1 HRW.out.2.2.2.2.2 q r1_ gn cu (hq.go b) hok.lt0 (by have := hok.ltn; omega) (zs i) (i : Int)
            rw [hT] at h
            exact h
          have HALr : Hid (Al w1 wr wr R q #[.int .i64 c.W, .int .i64 c.H, .int .i64 c.height, va, vb, (.slice a3 c.robots.length cap3), vd, .int .i64 c.unit, .int .i64 c.accel, .int .i64 c.speed, .int .i64 c.turn, .int .i64 c.hoist, .int .i64 c.queue, .int .i64 c.resend, .int .i64 c.budget, .bool c.back] (r1_) (r1_)) := hal
          have HOK0 : Hid (OkR (n0 + 0) r1_) := by show OkR (n0 + 0) r1_; simpa using hok
          have HEP0 : Hid (r1_.ep ≤ (i : Int)) := hep
          clear hal hok hep hT
          go_upto_region 10 with fail
          try simp only [Act.put, List.setIfInBounds_toArray, List.set_cons_zero, List.set_cons_succ]
          go_cut [11] from 47 to 54 (fun v wx => ∃ g, v = .pointer (some ⟨g, 0, none⟩) ∧ wx.heap[g]? = some (.cells (tlA T) 46 (0, 0)) ∧ wr.heap.size ≤ g ∧ Below wr.heap.size wr wx)
          case first =>
            refine start_held (S := fun u => Below wr.drew.heap.size wr.drew u) 10 rfl (by kernel_rfl) (Below.refl _ _) ?_
            simp only [Array.replicate_succ, Array.replicate_zero, List.push_toArray, List.nil_append, List.cons_append]
            have hS0 : Below wr.drew.heap.size wr.drew wr.drew := Below.refl _ _
            have HBX0 : Hid (Below w1.heap.size w1 wr.drew) := HBR.out.drew
            have HD0 : Hid (Below wr.heap.size wr wr.drew) := (Below.refl _ _).drew
            have HGO : Hid (∀ u, Below wr.drew.heap.size wr.drew u → Calls Tryz.prog 13 #[.agg #[.int .i64 c.W, .int .i64 c.H, .int .i64 c.height, va, vb, (.slice a3 c.robots.length cap3), vd, .int .i64 c.unit, .int .i64 c.accel, .int .i64 c.speed, .int .i64 c.turn, .int .i64 c.hoist, .int .i64 c.queue, .int .i64 c.resend, .int .i64 c.budget, .bool c.back], .pointer (some ⟨q, 0, none⟩), .int .i64 (zs i), .int .i64 (i : Int)] u fun e w' => ∃ z, e = .returned z ∧ (z = .agg (tlA T) ∧ Below u.heap.size u w')) := fun u hu => HGO0.out u (HD0.out.trans (hu.mono HD0.out.size))
            generalize wr.drew = x0 at *
            refine tkf 0 hS0 rfl (v := .agg #[.int .i64 c.W, .int .i64 c.H, .int .i64 c.height, va, vb, (.slice a3 c.robots.length cap3), vd, .int .i64 c.unit, .int .i64 c.accel, .int .i64 c.speed, .int .i64 c.turn, .int .i64 c.hoist, .int .i64 c.queue, .int .i64 c.resend, .int .i64 c.budget, .bool c.back]) (fun u hu => by exact run_load_at 26 _ rfl ⟨w.heap.size, 0, none⟩ rfl _ (HLDu.out _ (bcat HBX0.out hu))) ?_
            refine tkq 1 hS0 ?_
            refine tkq 2 hS0 ?_
            refine tkq 3 hS0 ?_
            refine tkq 4 hS0 ?_
            refine tkf 5 hS0 rfl (fun u hu => by have zz0 := (fun (u : World) (hu : Below x0.heap.size x0 u) => HZ.out u (bcat HBX0.out hu)) u hu; go_simp; try rfl) ?_
            refine tkq 6 hS0 ?_
            refine wpAnyH_ready (rs := [7, 8]) (by kernel_rfl) (by simp) (AllReadyH.cons ((nth_eq _ 7).trans rfl) ?_ (AllReadyH.cons ((nth_eq _ 8).trans rfl) ?_ AllReadyH.nil))
            · intro K1 hK1
              refine call_in hK1 (by kernel_rfl) 13 #[.agg #[.int .i64 c.W, .int .i64 c.H, .int .i64 c.height, va, vb, (.slice a3 c.robots.length cap3), vd, .int .i64 c.unit, .int .i64 c.accel, .int .i64 c.speed, .int .i64 c.turn, .int .i64 c.hoist, .int .i64 c.queue, .int .i64 c.resend, .int .i64 c.budget, .bool c.back], .pointer (some ⟨q, 0, none⟩), .int .i64 (zs i), .int .i64 (i : Int)] (by go_simp) _ (HGO.out _ hS0) ?_
              rintro y1 x1 ⟨rfl, b1⟩
              have hS1 := hS0.trans (b1.mono hS0.size)
              refine ⟨hS1, ?_⟩
              simp only [Act.put, List.setIfInBounds_toArray, List.set_cons_zero, List.set_cons_succ]
              refine wpAnyH_ready (rs := [8]) (by kernel_rfl) (by simp) (AllReadyH.cons ((nth_eq _ 8).trans rfl) ?_ AllReadyH.nil)
              intro K2 hK2
              obtain ⟨x2, hx2⟩ : ∃ x, x = x1.alloc (.cells (tlA tl0) 46) := ⟨_, rfl⟩
              have b2 : Below x1.heap.size x1 x2 := by rw [hx2]; exact (Below.refl _ _).alloc (Nat.le_refl _) _
              have hS2 := hS1.trans (b2.mono hS1.size)
              have ha2 : x2.heap[x1.heap.size]? = some (.cells (tlA tl0) 46 (0, 0)) := by rw [hx2]; exact World.alloc_heap_new _ _
              refine value_in hK2 (by kernel_rfl) (.pointer (some ⟨x1.heap.size, 0, none⟩)) x2 (by rw [hx2]; exact run_alloc_op 46 rfl (tlA tl0) (zeroTele _)) hS2 ?_
              simp only [Act.put, List.setIfInBounds_toArray, List.set_cons_zero, List.set_cons_succ]
              refine wpAnyH_ready (rs := [9]) (by kernel_rfl) (by simp) (AllReadyH.cons ((nth_eq _ 9).trans rfl) ?_ AllReadyH.nil)
              intro K3 hK3
              obtain ⟨x3, hx3⟩ : ∃ x, x = x2.setCells x1.heap.size 0 (tlL T) := ⟨_, rfl⟩
              have hS3 : Below x0.heap.size x0 x3 := by rw [hx3]; exact Bn.only hS2 (Only.setCells _ _ _ _) hS1.size
              have hb3 : x3.heap[x1.heap.size]? = some (.cells (tlA T) 46 (0, 0)) := by rw [hx3, ← tl_put]; exact setCells_same _ _ _ (tlL T) 0 _ _ ha2
              refine skip_in hK3 (by kernel_rfl) x3 (by rw [hx3]; exact run_store_mid_op 46 _ _ rfl x1.heap.size 0 (tlA T) rfl rfl (there_of ha2 0 19 (Nat.le_refl _)) infoTele (tlA_one _)) hS3 ?_
              simp only [Act.put, List.setIfInBounds_toArray, List.set_cons_zero, List.set_cons_succ]
              refine done_held (by kernel_rfl) ?_ _
              go_wp2
              go_meet
              exact ⟨_, rfl, hb3, Nat.le_trans HD0.out.size hS1.size, HD0.out.trans (hS3.mono HD0.out.size)⟩
            · intro K1 hK1
              obtain ⟨x1, hx1⟩ : ∃ x, x = x0.alloc (.cells (tlA tl0) 46) := ⟨_, rfl⟩
              have b1 : Below x0.heap.size x0 x1 := by rw [hx1]; exact (Below.refl _ _).alloc (Nat.le_refl _) _
              have hS1 := hS0.trans (b1.mono hS0.size)
              have ha1 : x1.heap[x0.heap.size]? = some (.cells (tlA tl0) 46 (0, 0)) := by rw [hx1]; exact World.alloc_heap_new _ _
              refine value_in hK1 (by kernel_rfl) (.pointer (some ⟨x0.heap.size, 0, none⟩)) x1 (by rw [hx1]; exact run_alloc_op 46 rfl (tlA tl0) (zeroTele _)) hS1 ?_
              simp only [Act.put, List.setIfInBounds_toArray, List.set_cons_zero, List.set_cons_succ]
              refine wpAnyH_ready (rs := [7]) (by kernel_rfl) (by simp) (AllReadyH.cons ((nth_eq _ 7).trans rfl) ?_ AllReadyH.nil)
              intro K2 hK2
              refine call_in hK2 (by kernel_rfl) 13 #[.agg #[.int .i64 c.W, .int .i64 c.H, .int .i64 c.height, va, vb, (.slice a3 c.robots.length cap3), vd, .int .i64 c.unit, .int .i64 c.accel, .int .i64 c.speed, .int .i64 c.turn, .int .i64 c.hoist, .int .i64 c.queue, .int .i64 c.resend, .int .i64 c.budget, .bool c.back], .pointer (some ⟨q, 0, none⟩), .int .i64 (zs i), .int .i64 (i : Int)] (by go_simp) _ (HGO.out _ hS1) ?_
              rintro y2 x2 ⟨rfl, b2⟩
              have hS2 := hS1.trans (b2.mono hS1.size)
              have ha2 := (b2.block _ (Array.getElem?_eq_some_iff.1 ha1).1).trans ha1
              refine ⟨hS2, ?_⟩
              simp only [Act.put, List.setIfInBounds_toArray, List.set_cons_zero, List.set_cons_succ]
              refine wpAnyH_ready (rs := [9]) (by kernel_rfl) (by simp) (AllReadyH.cons ((nth_eq _ 9).trans rfl) ?_ AllReadyH.nil)
              intro K3 hK3
              obtain ⟨x3, hx3⟩ : ∃ x, x = x2.setCells x0.heap.size 0 (tlL T) := ⟨_, rfl⟩
              have hS3 : Below x0.heap.size x0 x3 := by rw [hx3]; exact Bn.only hS2 (Only.setCells _ _ _ _) hS0.size
              have hb3 : x3.heap[x0.heap.size]? = some (.cells (tlA T) 46 (0, 0)) := by rw [hx3, ← tl_put]; exact setCells_same _ _ _ (tlL T) 0 _ _ ha2
              refine skip_in hK3 (by kernel_rfl) x3 (by rw [hx3]; exact run_store_mid_op 46 _ _ rfl x0.heap.size 0 (tlA T) rfl rfl (there_of ha2 0 19 (Nat.le_refl _)) infoTele (tlA_one _)) hS3 ?_
              simp only [Act.put, List.setIfInBounds_toArray, List.set_cons_zero, List.set_cons_succ]
              refine done_held (by kernel_rfl) ?_ _
              go_wp2
              go_meet
              exact ⟨_, rfl, hb3, Nat.le_trans HD0.out.size hS0.size, HD0.out.trans (hS3.mono HD0.out.size)⟩
          case rest =>
            obtain ⟨g, rfl, hg, hgl, bc⟩ := hcut
            have HG : Hid (wc.heap[g]? = some (.cells (tlA T) 46 (0, 0))) := hg
            have HGP : Hid (g ≠ R.p ∧ g ≠ R.k ∧ g ≠ q) := ⟨Ne.symm (Nat.ne_of_lt (Nat.lt_of_lt_of_le HALr.out.rb.plt hgl)), Ne.symm (Nat.ne_of_lt (Nat.lt_of_lt_of_le HALr.out.rb.klt hgl)), Ne.symm (Nat.ne_of_lt (Nat.lt_of_lt_of_le HALr.out.qlt hgl))⟩
            have HAL0 : Hid (Al w1 wc wc R q #[.int .i64 c.W, .int .i64 c.H, .int .i64 c.height, va, vb, (.slice a3 c.robots.length cap3), vd, .int .i64 c.unit, .int .i64 c.accel, .int .i64 c.speed, .int .i64 c.turn, .int .i64 c.hoist, .int .i64 c.queue, .int .i64 c.resend, .int .i64 c.budget, .bool c.back] (r1_) (r1_)) := (HALr.out.go bc).base
            clear hg hgl bc HGO0 HALr
            have cD1 := do_any HAL0.out (n := n0 + 0) (by omega) (by omega) HOK0.out (⟨0, 0, T⟩ : Cl) HCC.out
            by_cases hs : i < n2
            · have g4 : (i : Int) < (n2 : Int) := by omega
              obtain ⟨ys, rfl, _⟩ := HS1.out _ HAL0.out.bel i hs
              obtain ⟨y, hy⟩ : ∃ y, ss i = y := ⟨_, rfl⟩
              have HY : Hid (∀ u, Below w1.heap.size w1 u → u.cell? (ys.add i) = some (.int .i64 y)) := fun u hu => by
                obtain ⟨x', e', h'⟩ := HS1.out u hu i hs
                cases e'
                rw [← hy]
                exact h'
              clear hy hs
              by_cases y3 : y.tmod 3 = 0
              · have q3 : (y.tmod 3 == 0) = true := by rw [beq_iff_eq]; exact y3
                obtain ⟨yq, hyq⟩ : ∃ yq, wrap64 (y.tdiv 3) = yq := ⟨_, rfl⟩
                by_cases y5 : y.tmod 5 = 0
                · have q5 : (y.tmod 5 == 0) = true := by rw [beq_iff_eq]; exact y5
                  clear y3 y5
                  go_wp2_with (first
                    | (have X' := cD2; refine wpList_load_w (by kernel_rfl) 46 (.tmp 11) rfl ⟨g, 0, none⟩ rfl (tlA T) (load_tele HG1.out) ?_)
                    | (have X' := cD2; refine wpList_bldw (by kernel_rfl) 48 _ rfl [(2, .agg (tlA T))] (clA (⟨0, 0, T⟩ : Cl)) (by simp only [List.map_toArray, List.map_cons, List.map_nil]; rfl) (builtT T) ?_)
                    | (have X' := cD1; refine wpList_load_at rfl 46 (.tmp 11) rfl ⟨g, 0, none⟩ rfl (tlA T) (load_tele HG.out) ?_)
                    | (have X' := cD1; refine wpList_buildAs rfl 48 _ rfl (clA (⟨0, 0, T⟩ : Cl)) [(2, .agg (tlA T))] (by simp only [List.map_toArray, List.map_cons, List.map_nil]; rfl) (builtT T) ?_)
                    | (have X' := cD1; go_at_call 11; refine cD1.mono ?_; clear cD1; rintro e u1 ⟨z1, rfl, rfl, ah1⟩; obtain ⟨r1, hr1⟩ : ∃ rr, doR R r1_ (⟨0, 0, T⟩ : Cl) = rr := ⟨_, rfl⟩; rw [hr1] at ah1; have HAL1 : Hid (Al w1 wc u1 R q #[.int .i64 c.W, .int .i64 c.H, .int .i64 c.height, va, vb, (.slice a3 c.robots.length cap3), vd, .int .i64 c.unit, .int .i64 c.accel, .int .i64 c.speed, .int .i64 c.turn, .int .i64 c.hoist, .int .i64 c.queue, .int .i64 c.resend, .int .i64 c.budget, .bool c.back] (r1) (r1)) := ah1; have HOK1 : Hid (OkR (n0 + 9) r1) := (by have z := HOK0.out.doR (by omega) HAL0.out.rb.hT (⟨0, 0, T⟩ : Cl); rw [hr1] at z; exact z.more (by omega)); have HEP1 : Hid (r1.ep ≤ (i : Int)) := (by show r1.ep ≤ _; have z := doR_ep R r1_ (⟨0, 0, T⟩ : Cl); rw [hr1] at z; have y1 := HEP0.out; have y2 := HEP0.out; rcases z with z | z; (case inl => rw [z]; omega); (case inr => rw [z]; show T.ep ≤ _; have y3 := HTE.out; omega)); clear ah1 hr1; have HG1 : Hid (u1.heap[g]? = some (.cells (tlA T) 46 (0, 0))) := HAL1.out.box HG.out HGP.out.1 HGP.out.2.1 HGP.out.2.2; have cD2 := do_any HAL1.out (n := n0 + 9) (by omega) (by omega) HOK1.out (⟨0, 0, T⟩ : Cl) HCC.out)
                    | (have X' := cD2; go_at_call 11; refine cD2.mono ?_; clear cD2; rintro e u2 ⟨z2, rfl, rfl, ah2⟩; obtain ⟨r2, hr2⟩ : ∃ rr, doR R r1 (⟨0, 0, T⟩ : Cl) = rr := ⟨_, rfl⟩; rw [hr2] at ah2; have HAL2 : Hid (Al w1 wc u2 R q #[.int .i64 c.W, .int .i64 c.H, .int .i64 c.height, va, vb, (.slice a3 c.robots.length cap3), vd, .int .i64 c.unit, .int .i64 c.accel, .int .i64 c.speed, .int .i64 c.turn, .int .i64 c.hoist, .int .i64 c.queue, .int .i64 c.resend, .int .i64 c.budget, .bool c.back] (r2) (r2)) := ah2; have HOK2 : Hid (OkR (n0 + 18) r2) := (by have z := HOK1.out.doR (by omega) HAL1.out.rb.hT (⟨0, 0, T⟩ : Cl); rw [hr2] at z; exact z.more (by omega)); have HEP2 : Hid (r2.ep ≤ (i : Int)) := (by show r2.ep ≤ _; have z := doR_ep R r1 (⟨0, 0, T⟩ : Cl); rw [hr2] at z; have y1 := HEP1.out; have y2 := HEP0.out; rcases z with z | z; (case inl => rw [z]; omega); (case inr => rw [z]; show T.ep ≤ _; have y3 := HTE.out; omega)); clear ah2 hr2; have ky2 := HY.out _ HAL2.out.bel; have cD3 := do_any HAL2.out (n := n0 + 18) (by omega) (by omega) HOK2.out (⟨3, yq, tl0⟩ : Cl) HCC.out)
                    | (have X' := cD3; refine wpList_buildAs rfl 48 _ rfl (clA (⟨3, _, tl0⟩ : Cl)) _ (by simp only [List.map_toArray, List.map_cons, List.map_nil]; rfl) (builtK 3 _) ?_)
                    | (have X' := cD3; go_at_call 11; refine cD3.mono ?_; clear cD3; rintro e u3 ⟨z3, rfl, rfl, ah3⟩; obtain ⟨r3, hr3⟩ : ∃ rr, doR R r2 (⟨3, yq, tl0⟩ : Cl) = rr := ⟨_, rfl⟩; rw [hr3] at ah3; have HAL3 : Hid (Al w1 wc u3 R q #[.int .i64 c.W, .int .i64 c.H, .int .i64 c.height, va, vb, (.slice a3 c.robots.length cap3), vd, .int .i64 c.unit, .int .i64 c.accel, .int .i64 c.speed, .int .i64 c.turn, .int .i64 c.hoist, .int .i64 c.queue, .int .i64 c.resend, .int .i64 c.budget, .bool c.back] (r3) (r3)) := ah3; have HOK3 : Hid (OkR (n0 + 27) r3) := (by have z := HOK2.out.doR (by omega) HAL2.out.rb.hT (⟨3, yq, tl0⟩ : Cl); rw [hr3] at z; exact z.more (by omega)); have HEP3 : Hid (r3.ep ≤ (i : Int)) := (by show r3.ep ≤ _; have z := doR_ep R r2 (⟨3, yq, tl0⟩ : Cl); rw [hr3] at z; have y1 := HEP2.out; have y2 := HEP0.out; rcases z with z | z; (case inl => rw [z]; omega); (case inr => rw [z]; show (0 : Int) ≤ _; have y3 := HTE.out; omega)); clear ah3 hr3; obtain ⟨gn3, cu3, rc3⟩ := HAL3.out.rc; have k21 : u3.cell? ⟨q, 21, none⟩ = some (.int .i64 r3.ep) := (XAt.of rc3).ep; have hwr : IntKind.i64.wrap (r3.ep + 1) = r3.ep + 1 := (by rw [IntKind.wrap_i64]; have := HOK3.out.ep0; have := HEP3.out; have := HI12.out; omega); clear rc3; have cD4 := do_any HAL3.out (n := n0 + 27) (by omega) (by omega) HOK3.out (⟨0, 0, tlG 2 (r3.ep + 1) 0⟩ : Cl) HCC.out)
                    | (have X' := cD4; refine wpList_bldw (by kernel_rfl) 46 _ rfl [(0, .int .i64 2), (2, .int .i64 (r3.ep + 1))] (tlA (tlG 2 (r3.ep + 1) 0)) (by simp only [List.map_toArray, List.map_cons, List.map_nil]; rfl) (built_stop (r3.ep + 1)) ?_)
                    | (have X' := cD4; refine wpList_bldw (by kernel_rfl) 48 _ rfl [(2, .agg (tlA (tlG 2 (r3.ep + 1) 0)))] (clA (⟨0, 0, tlG 2 (r3.ep + 1) 0⟩ : Cl)) (by simp only [List.map_toArray, List.map_cons, List.map_nil]; rfl) (builtT _) ?_)
                    | (have X' := cD4; go_at_call 11; refine cD4.mono ?_; clear cD4; rintro e u4 ⟨z4, rfl, rfl, ah4⟩; obtain ⟨r4, hr4⟩ : ∃ rr, doR R r3 (⟨0, 0, tlG 2 (r3.ep + 1) 0⟩ : Cl) = rr := ⟨_, rfl⟩; rw [hr4] at ah4; have HAL4 : Hid (Al w1 wc u4 R q #[.int .i64 c.W, .int .i64 c.H, .int .i64 c.height, va, vb, (.slice a3 c.robots.length cap3), vd, .int .i64 c.unit, .int .i64 c.accel, .int .i64 c.speed, .int .i64 c.turn, .int .i64 c.hoist, .int .i64 c.queue, .int .i64 c.resend, .int .i64 c.budget, .bool c.back] (r4) (r4)) := ah4; have HOK4 : Hid (OkR (n0 + 36) r4) := (by have z := HOK3.out.doR (by omega) HAL3.out.rb.hT (⟨0, 0, tlG 2 (r3.ep + 1) 0⟩ : Cl); rw [hr4] at z; exact z.more (by omega)); have HEP4 : Hid (r4.ep ≤ (i : Int) + 1) := (by show r4.ep ≤ _; have z := doR_ep R r3 (⟨0, 0, tlG 2 (r3.ep + 1) 0⟩ : Cl); rw [hr4] at z; have y1 := HEP3.out; have y2 := HEP0.out; rcases z with z | z; (case inl => rw [z]; omega); (case inr => rw [z]; show r3.ep + 1 ≤ _; have y3 := HTE.out; omega)); clear ah4 hr4; have ky4 := HY.out _ HAL4.out.bel; have cD5 := do_any HAL4.out (n := n0 + 36) (by omega) (by omega) HOK4.out (⟨6, y, tl0⟩ : Cl) HCC.out)
                    | (have X' := cD5; refine wpList_bldw (by kernel_rfl) 48 _ rfl [(0, .int .i64 6), (1, .int .i64 y)] (clA (⟨6, y, tl0⟩ : Cl)) (by simp only [List.map_toArray, List.map_cons, List.map_nil]; rfl) (builtK 6 y) ?_)
                    | (have X' := cD5; go_at_call 11; refine cD5.mono ?_; clear cD5; rintro e u5 ⟨z5, rfl, rfl, ah5⟩; obtain ⟨r5, hr5⟩ : ∃ rr, doR R r4 (⟨6, y, tl0⟩ : Cl) = rr := ⟨_, rfl⟩; rw [hr5] at ah5; have HAL5 : Hid (Al w1 wc u5 R q #[.int .i64 c.W, .int .i64 c.H, .int .i64 c.height, va, vb, (.slice a3 c.robots.length cap3), vd, .int .i64 c.unit, .int .i64 c.accel, .int .i64 c.speed, .int .i64 c.turn, .int .i64 c.hoist, .int .i64 c.queue, .int .i64 c.resend, .int .i64 c.budget, .bool c.back] (r5) (r5)) := ah5; have HOK5 : Hid (OkR (n0 + 45) r5) := (by have z := HOK4.out.doR (by omega) HAL4.out.rb.hT (⟨6, y, tl0⟩ : Cl); rw [hr5] at z; exact z.more (by omega)); have HEP5 : Hid (r5.ep ≤ (i : Int) + 1) := (by show r5.ep ≤ _; have z := doR_ep R r4 (⟨6, y, tl0⟩ : Cl); rw [hr5] at z; have y1 := HEP4.out; have y2 := HEP0.out; rcases z with z | z; (case inl => rw [z]; omega); (case inr => rw [z]; show (0 : Int) ≤ _; have y3 := HTE.out; omega)); clear ah5 hr5))
                  obtain ⟨r8, hr8⟩ : ∃ rr, rr = r5 := ⟨_, rfl⟩
                  have HA8 := HAL5
                  have HO8 := HOK5
                  rw [← hr8] at HA8 HO8
                  have HE8 : Hid (r8.ep ≤ (i : Int) + 1 ∧ 0 ≤ r8.ep) := ⟨by rw [hr8]; have := HEP5.out; omega, by rw [hr8]; exact HOK5.out.ep0⟩
                  clear hr8
                  go_loopw [12] (fun ck wq => ∃ (k : Nat) (r9 : Rb), ck = .int .i64 k ∧ k ≤ 400 ∧ Al w1 wq wq R q #[.int .i64 c.W, .int .i64 c.H, .int .i64 c.height, va, vb, (.slice a3 c.robots.length cap3), vd, .int .i64 c.unit, .int .i64 c.accel, .int .i64 c.speed, .int .i64 c.turn, .int .i64 c.hoist, .int .i64 c.queue, .int .i64 c.resend, .int .i64 c.budget, .bool c.back] (r9) (r9) ∧ OkR (n0 + 60 + (k : Int) * 9) r9 ∧ (r9.ep ≤ (i : Int) + 1)) (fun ck _ => 400 - (intOf ck).toNat)
                  case atStart => exact ⟨0, r8, rfl, Nat.zero_le _, HA8.out.base, HO8.out.more (by omega), HE8.out.1⟩
                  case round =>
                    clear HA8 HO8 HE8
                    obtain ⟨k, r9, rfl, hk, hal, hok, hep⟩ := hrel
                    have HAL9 : Hid (Al w1 wr wr R q #[.int .i64 c.W, .int .i64 c.H, .int .i64 c.height, va, vb, (.slice a3 c.robots.length cap3), vd, .int .i64 c.unit, .int .i64 c.accel, .int .i64 c.speed, .int .i64 c.turn, .int .i64 c.hoist, .int .i64 c.queue, .int .i64 c.resend, .int .i64 c.budget, .bool c.back] (r9) (r9)) := hal
                    have HOK9 : Hid (OkR (n0 + 60 + (k : Int) * 9) r9) := hok
                    obtain ⟨gn9, cu9, rc9⟩ := hal.rc
                    have k23 : wr.cell? ⟨q, 23, none⟩ = some (.bool (under r9)) := (XAt.of rc9).un
                    have HEP9 : Hid (r9.ep ≤ (i : Int) + 1) := hep
                    clear hal hok rc9 hep
                    cases hun : under r9 with
                    | true =>
                      rw [hun] at k23
                      by_cases hlt : k < 400
                      · have h3 : (k : Int) < 400 := by omega
                        have cD := do_any HAL9.out (n := n0 + 60 + (k : Int) * 9) (by omega) (by omega) HOK9.out (⟨3, 0, tl0⟩ : Cl) HCC.out
                        clear hun
                        go_wp2_with (first
                          | (refine wpList_buildAs rfl 48 _ rfl (clA ⟨3, 0, tl0⟩) _ rfl built3 ?_)
                          | (have X' := cD; go_at_call 11; refine cD.mono ?_; clear cD; rintro e ux ⟨zx, rfl, rfl, ax⟩; obtain ⟨rx, hrx⟩ : ∃ rr, doR R r9 (⟨3, 0, tl0⟩ : Cl) = rr := ⟨_, rfl⟩; rw [hrx] at ax; have HALx : Hid (Al w1 ux ux R q #[.int .i64 c.W, .int .i64 c.H, .int .i64 c.height, va, vb, (.slice a3 c.robots.length cap3), vd, .int .i64 c.unit, .int .i64 c.accel, .int .i64 c.speed, .int .i64 c.turn, .int .i64 c.hoist, .int .i64 c.queue, .int .i64 c.resend, .int .i64 c.budget, .bool c.back] (rx) (rx)) := ax.base; have HOKx : Hid (OkR (n0 + 60 + ((k + 1 : Nat) : Int) * 9) rx) := (by have z := HOK9.out.doR (by omega) HAL9.out.rb.hT (⟨3, 0, tl0⟩ : Cl); rw [hrx] at z; exact z.more (by omega)); have HEPx : Hid (rx.ep ≤ (i : Int) + 1) := (by show rx.ep ≤ _; have z := doR_ep R r9 (⟨3, 0, tl0⟩ : Cl); rw [hrx] at z; have := HEP9.out; rcases z with z | z; (case inl => rw [z]; exact this); (case inr => rw [z]; show (0 : Int) ≤ _; omega)); clear ax hrx))
                        go_roundw
                        case rel => exact ⟨k + 1, rx, by go_num, by omega, HALx.out, HOKx.out, HEPx.out⟩
                        case measure => simp [intOf]; omega
                      · have h3 : ¬ (k : Int) < 400 := by omega
                        clear hun
                        go_wp2_with fail
                        go_roundw
                        case rel => exact ⟨i + 1, r9, by go_num, by omega, HAL9.out.base, HOK9.out.more (by have := HN0.out; omega), by have := HEP9.out; omega⟩
                        case measure => simp [intOf]; omega
                    | false =>
                      rw [hun] at k23
                      clear hun
                      by_cases hlt : k < 400
                      · have h3 : (k : Int) < 400 := by omega
                        go_wp2_with fail
                        go_roundw
                        case rel => exact ⟨i + 1, r9, by go_num, by omega, HAL9.out.base, HOK9.out.more (by have := HN0.out; omega), by have := HEP9.out; omega⟩
                        case measure => simp [intOf]; omega
                      · have h3 : ¬ (k : Int) < 400 := by omega
                        go_wp2_with fail
                        go_roundw
                        case rel => exact ⟨i + 1, r9, by go_num, by omega, HAL9.out.base, HOK9.out.more (by have := HN0.out; omega), by have := HEP9.out; omega⟩
                        case measure => simp [intOf]; omega
                · have q5 : (y.tmod 5 == 0) = false := by rw [beq_eq_false_iff_ne]; exact y5
                  clear y3 y5
                  go_wp2_with (first
                    | (have X' := cD2; refine wpList_load_w (by kernel_rfl) 46 (.tmp 11) rfl ⟨g, 0, none⟩ rfl (tlA T) (load_tele HG1.out) ?_)
                    | (have X' := cD2; refine wpList_bldw (by kernel_rfl) 48 _ rfl [(2, .agg (tlA T))] (clA (⟨0, 0, T⟩ : Cl)) (by simp only [List.map_toArray, List.map_cons, List.map_nil]; rfl) (builtT T) ?_)
                    | (have X' := cD1; refine wpList_load_at rfl 46 (.tmp 11) rfl ⟨g, 0, none⟩ rfl (tlA T) (load_tele HG.out) ?_)
                    | (have X' := cD1; refine wpList_buildAs rfl 48 _ rfl (clA (⟨0, 0, T⟩ : Cl)) [(2, .agg (tlA T))] (by simp only [List.map_toArray, List.map_cons, List.map_nil]; rfl) (builtT T) ?_)
                    | (have X' := cD1; go_at_call 11; refine cD1.mono ?_; clear cD1; rintro e u1 ⟨z1, rfl, rfl, ah1⟩; obtain ⟨r1, hr1⟩ : ∃ rr, doR R r1_ (⟨0, 0, T⟩ : Cl) = rr := ⟨_, rfl⟩; rw [hr1] at ah1; have HAL1 : Hid (Al w1 wc u1 R q #[.int .i64 c.W, .int .i64 c.H, .int .i64 c.height, va, vb, (.slice a3 c.robots.length cap3), vd, .int .i64 c.unit, .int .i64 c.accel, .int .i64 c.speed, .int .i64 c.turn, .int .i64 c.hoist, .int .i64 c.queue, .int .i64 c.resend, .int .i64 c.budget, .bool c.back] (r1) (r1)) := ah1; have HOK1 : Hid (OkR (n0 + 9) r1) := (by have z := HOK0.out.doR (by omega) HAL0.out.rb.hT (⟨0, 0, T⟩ : Cl); rw [hr1] at z; exact z.more (by omega)); have HEP1 : Hid (r1.ep ≤ (i : Int)) := (by show r1.ep ≤ _; have z := doR_ep R r1_ (⟨0, 0, T⟩ : Cl); rw [hr1] at z; have y1 := HEP0.out; have y2 := HEP0.out; rcases z with z | z; (case inl => rw [z]; omega); (case inr => rw [z]; show T.ep ≤ _; have y3 := HTE.out; omega)); clear ah1 hr1; have HG1 : Hid (u1.heap[g]? = some (.cells (tlA T) 46 (0, 0))) := HAL1.out.box HG.out HGP.out.1 HGP.out.2.1 HGP.out.2.2; have cD2 := do_any HAL1.out (n := n0 + 9) (by omega) (by omega) HOK1.out (⟨0, 0, T⟩ : Cl) HCC.out)
                    | (have X' := cD2; go_at_call 11; refine cD2.mono ?_; clear cD2; rintro e u2 ⟨z2, rfl, rfl, ah2⟩; obtain ⟨r2, hr2⟩ : ∃ rr, doR R r1 (⟨0, 0, T⟩ : Cl) = rr := ⟨_, rfl⟩; rw [hr2] at ah2; have HAL2 : Hid (Al w1 wc u2 R q #[.int .i64 c.W, .int .i64 c.H, .int .i64 c.height, va, vb, (.slice a3 c.robots.length cap3), vd, .int .i64 c.unit, .int .i64 c.accel, .int .i64 c.speed, .int .i64 c.turn, .int .i64 c.hoist, .int .i64 c.queue, .int .i64 c.resend, .int .i64 c.budget, .bool c.back] (r2) (r2)) := ah2; have HOK2 : Hid (OkR (n0 + 18) r2) := (by have z := HOK1.out.doR (by omega) HAL1.out.rb.hT (⟨0, 0, T⟩ : Cl); rw [hr2] at z; exact z.more (by omega)); have HEP2 : Hid (r2.ep ≤ (i : Int)) := (by show r2.ep ≤ _; have z := doR_ep R r1 (⟨0, 0, T⟩ : Cl); rw [hr2] at z; have y1 := HEP1.out; have y2 := HEP0.out; rcases z with z | z; (case inl => rw [z]; omega); (case inr => rw [z]; show T.ep ≤ _; have y3 := HTE.out; omega)); clear ah2 hr2; have ky2 := HY.out _ HAL2.out.bel; have cD3 := do_any HAL2.out (n := n0 + 18) (by omega) (by omega) HOK2.out (⟨3, yq, tl0⟩ : Cl) HCC.out)
                    | (have X' := cD3; refine wpList_buildAs rfl 48 _ rfl (clA (⟨3, _, tl0⟩ : Cl)) _ (by simp only [List.map_toArray, List.map_cons, List.map_nil]; rfl) (builtK 3 _) ?_)
                    | (have X' := cD3; go_at_call 11; refine cD3.mono ?_; clear cD3; rintro e u3 ⟨z3, rfl, rfl, ah3⟩; obtain ⟨r3, hr3⟩ : ∃ rr, doR R r2 (⟨3, yq, tl0⟩ : Cl) = rr := ⟨_, rfl⟩; rw [hr3] at ah3; have HAL3 : Hid (Al w1 wc u3 R q #[.int .i64 c.W, .int .i64 c.H, .int .i64 c.height, va, vb, (.slice a3 c.robots.length cap3), vd, .int .i64 c.unit, .int .i64 c.accel, .int .i64 c.speed, .int .i64 c.turn, .int .i64 c.hoist, .int .i64 c.queue, .int .i64 c.resend, .int .i64 c.budget, .bool c.back] (r3) (r3)) := ah3; have HOK3 : Hid (OkR (n0 + 27) r3) := (by have z := HOK2.out.doR (by omega) HAL2.out.rb.hT (⟨3, yq, tl0⟩ : Cl); rw [hr3] at z; exact z.more (by omega)); have HEP3 : Hid (r3.ep ≤ (i : Int)) := (by show r3.ep ≤ _; have z := doR_ep R r2 (⟨3, yq, tl0⟩ : Cl); rw [hr3] at z; have y1 := HEP2.out; have y2 := HEP0.out; rcases z with z | z; (case inl => rw [z]; omega); (case inr => rw [z]; show (0 : Int) ≤ _; have y3 := HTE.out; omega)); clear ah3 hr3; obtain ⟨gn3, cu3, rc3⟩ := HAL3.out.rc; have k21 : u3.cell? ⟨q, 21, none⟩ = some (.int .i64 r3.ep) := (XAt.of rc3).ep; have hwr : IntKind.i64.wrap (r3.ep + 1) = r3.ep + 1 := (by rw [IntKind.wrap_i64]; have := HOK3.out.ep0; have := HEP3.out; have := HI12.out; omega); clear rc3; have cD4 := do_any HAL3.out (n := n0 + 27) (by omega) (by omega) HOK3.out (⟨0, 0, tlG 2 (r3.ep + 1) 0⟩ : Cl) HCC.out)
                    | (have X' := cD4; refine wpList_bldw (by kernel_rfl) 46 _ rfl [(0, .int .i64 2), (2, .int .i64 (r3.ep + 1))] (tlA (tlG 2 (r3.ep + 1) 0)) (by simp only [List.map_toArray, List.map_cons, List.map_nil]; rfl) (built_stop (r3.ep + 1)) ?_)
                    | (have X' := cD4; refine wpList_bldw (by kernel_rfl) 48 _ rfl [(2, .agg (tlA (tlG 2 (r3.ep + 1) 0)))] (clA (⟨0, 0, tlG 2 (r3.ep + 1) 0⟩ : Cl)) (by simp only [List.map_toArray, List.map_cons, List.map_nil]; rfl) (builtT _) ?_)
                    | (have X' := cD4; go_at_call 11; refine cD4.mono ?_; clear cD4; rintro e u4 ⟨z4, rfl, rfl, ah4⟩; obtain ⟨r4, hr4⟩ : ∃ rr, doR R r3 (⟨0, 0, tlG 2 (r3.ep + 1) 0⟩ : Cl) = rr := ⟨_, rfl⟩; rw [hr4] at ah4; have HAL4 : Hid (Al w1 wc u4 R q #[.int .i64 c.W, .int .i64 c.H, .int .i64 c.height, va, vb, (.slice a3 c.robots.length cap3), vd, .int .i64 c.unit, .int .i64 c.accel, .int .i64 c.speed, .int .i64 c.turn, .int .i64 c.hoist, .int .i64 c.queue, .int .i64 c.resend, .int .i64 c.budget, .bool c.back] (r4) (r4)) := ah4; have HOK4 : Hid (OkR (n0 + 36) r4) := (by have z := HOK3.out.doR (by omega) HAL3.out.rb.hT (⟨0, 0, tlG 2 (r3.ep + 1) 0⟩ : Cl); rw [hr4] at z; exact z.more (by omega)); have HEP4 : Hid (r4.ep ≤ (i : Int) + 1) := (by show r4.ep ≤ _; have z := doR_ep R r3 (⟨0, 0, tlG 2 (r3.ep + 1) 0⟩ : Cl); rw [hr4] at z; have y1 := HEP3.out; have y2 := HEP0.out; rcases z with z | z; (case inl => rw [z]; omega); (case inr => rw [z]; show r3.ep + 1 ≤ _; have y3 := HTE.out; omega)); clear ah4 hr4; have ky4 := HY.out _ HAL4.out.bel))
                  obtain ⟨r8, hr8⟩ : ∃ rr, rr = r4 := ⟨_, rfl⟩
                  have HA8 := HAL4
                  have HO8 := HOK4
                  rw [← hr8] at HA8 HO8
                  have HE8 : Hid (r8.ep ≤ (i : Int) + 1 ∧ 0 ≤ r8.ep) := ⟨by rw [hr8]; have := HEP4.out; omega, by rw [hr8]; exact HOK4.out.ep0⟩
                  clear hr8
                  go_loopw [12] (fun ck wq => ∃ (k : Nat) (r9 : Rb), ck = .int .i64 k ∧ k ≤ 400 ∧ Al w1 wq wq R q #[.int .i64 c.W, .int .i64 c.H, .int .i64 c.height, va, vb, (.slice a3 c.robots.length cap3), vd, .int .i64 c.unit, .int .i64 c.accel, .int .i64 c.speed, .int .i64 c.turn, .int .i64 c.hoist, .int .i64 c.queue, .int .i64 c.resend, .int .i64 c.budget, .bool c.back] (r9) (r9) ∧ OkR (n0 + 60 + (k : Int) * 9) r9 ∧ (r9.ep ≤ (i : Int) + 1)) (fun ck _ => 400 - (intOf ck).toNat)
                  case atStart => exact ⟨0, r8, rfl, Nat.zero_le _, HA8.out.base, HO8.out.more (by omega), HE8.out.1⟩
                  case round =>
                    clear HA8 HO8 HE8
                    obtain ⟨k, r9, rfl, hk, hal, hok, hep⟩ := hrel
                    have HAL9 : Hid (Al w1 wr wr R q #[.int .i64 c.W, .int .i64 c.H, .int .i64 c.height, va, vb, (.slice a3 c.robots.length cap3), vd, .int .i64 c.unit, .int .i64 c.accel, .int .i64 c.speed, .int .i64 c.turn, .int .i64 c.hoist, .int .i64 c.queue, .int .i64 c.resend, .int .i64 c.budget, .bool c.back] (r9) (r9)) := hal
                    have HOK9 : Hid (OkR (n0 + 60 + (k : Int) * 9) r9) := hok
                    obtain ⟨gn9, cu9, rc9⟩ := hal.rc
                    have k23 : wr.cell? ⟨q, 23, none⟩ = some (.bool (under r9)) := (XAt.of rc9).un
                    have HEP9 : Hid (r9.ep ≤ (i : Int) + 1) := hep
                    clear hal hok rc9 hep
                    cases hun : under r9 with
                    | true =>
                      rw [hun] at k23
                      by_cases hlt : k < 400
                      · have h3 : (k : Int) < 400 := by omega
                        have cD := do_any HAL9.out (n := n0 + 60 + (k : Int) * 9) (by omega) (by omega) HOK9.out (⟨3, 0, tl0⟩ : Cl) HCC.out
                        clear hun
                        go_wp2_with (first
                          | (refine wpList_buildAs rfl 48 _ rfl (clA ⟨3, 0, tl0⟩) _ rfl built3 ?_)
                          | (have X' := cD; go_at_call 11; refine cD.mono ?_; clear cD; rintro e ux ⟨zx, rfl, rfl, ax⟩; obtain ⟨rx, hrx⟩ : ∃ rr, doR R r9 (⟨3, 0, tl0⟩ : Cl) = rr := ⟨_, rfl⟩; rw [hrx] at ax; have HALx : Hid (Al w1 ux ux R q #[.int .i64 c.W, .int .i64 c.H, .int .i64 c.height, va, vb, (.slice a3 c.robots.length cap3), vd, .int .i64 c.unit, .int .i64 c.accel, .int .i64 c.speed, .int .i64 c.turn, .int .i64 c.hoist, .int .i64 c.queue, .int .i64 c.resend, .int .i64 c.budget, .bool c.back] (rx) (rx)) := ax.base; have HOKx : Hid (OkR (n0 + 60 + ((k + 1 : Nat) : Int) * 9) rx) := (by have z := HOK9.out.doR (by omega) HAL9.out.rb.hT (⟨3, 0, tl0⟩ : Cl); rw [hrx] at z; exact z.more (by omega)); have HEPx : Hid (rx.ep ≤ (i : Int) + 1) := (by show rx.ep ≤ _; have z := doR_ep R r9 (⟨3, 0, tl0⟩ : Cl); rw [hrx] at z; have := HEP9.out; rcases z with z | z; (case inl => rw [z]; exact this); (case inr => rw [z]; show (0 : Int) ≤ _; omega)); clear ax hrx))
                        go_roundw
                        case rel => exact ⟨k + 1, rx, by go_num, by omega, HALx.out, HOKx.out, HEPx.out⟩
                        case measure => simp [intOf]; omega
                      · have h3 : ¬ (k : Int) < 400 := by omega
                        clear hun
                        go_wp2_with fail
                        go_roundw
                        case rel => exact ⟨i + 1, r9, by go_num, by omega, HAL9.out.base, HOK9.out.more (by have := HN0.out; omega), by have := HEP9.out; omega⟩
                        case measure => simp [intOf]; omega
                    | false =>
                      rw [hun] at k23
                      clear hun
                      by_cases hlt : k < 400
                      · have h3 : (k : Int) < 400 := by omega
                        go_wp2_with fail
                        go_roundw
                        case rel => exact ⟨i + 1, r9, by go_num, by omega, HAL9.out.base, HOK9.out.more (by have := HN0.out; omega), by have := HEP9.out; omega⟩
                        case measure => simp [intOf]; omega
                      · have h3 : ¬ (k : Int) < 400 := by omega
                        go_wp2_with fail
                        go_roundw
                        case rel => exact ⟨i + 1, r9, by go_num, by omega, HAL9.out.base, HOK9.out.more (by have := HN0.out; omega), by have := HEP9.out; omega⟩
                        case measure => simp [intOf]; omega
              · have q3 : (y.tmod 3 == 0) = false := by rw [beq_eq_false_iff_ne]; exact y3
                by_cases y5 : y.tmod 5 = 0
                · have q5 : (y.tmod 5 == 0) = true := by rw [beq_iff_eq]; exact y5
                  clear y3 y5
                  go_wp2_with (first
                    | (have X' := cD2; refine wpList_load_w (by kernel_rfl) 46 (.tmp 11) rfl ⟨g, 0, none⟩ rfl (tlA T) (load_tele HG1.out) ?_)
                    | (have X' := cD2; refine wpList_bldw (by kernel_rfl) 48 _ rfl [(2, .agg (tlA T))] (clA (⟨0, 0, T⟩ : Cl)) (by simp only [List.map_toArray, List.map_cons, List.map_nil]; rfl) (builtT T) ?_)
                    | (have X' := cD1; refine wpList_load_at rfl 46 (.tmp 11) rfl ⟨g, 0, none⟩ rfl (tlA T) (load_tele HG.out) ?_)
                    | (have X' := cD1; refine wpList_buildAs rfl 48 _ rfl (clA (⟨0, 0, T⟩ : Cl)) [(2, .agg (tlA T))] (by simp only [List.map_toArray, List.map_cons, List.map_nil]; rfl) (builtT T) ?_)
                    | (have X' := cD1; go_at_call 11; refine cD1.mono ?_; clear cD1; rintro e u1 ⟨z1, rfl, rfl, ah1⟩; obtain ⟨r1, hr1⟩ : ∃ rr, doR R r1_ (⟨0, 0, T⟩ : Cl) = rr := ⟨_, rfl⟩; rw [hr1] at ah1; have HAL1 : Hid (Al w1 wc u1 R q #[.int .i64 c.W, .int .i64 c.H, .int .i64 c.height, va, vb, (.slice a3 c.robots.length cap3), vd, .int .i64 c.unit, .int .i64 c.accel, .int .i64 c.speed, .int .i64 c.turn, .int .i64 c.hoist, .int .i64 c.queue, .int .i64 c.resend, .int .i64 c.budget, .bool c.back] (r1) (r1)) := ah1; have HOK1 : Hid (OkR (n0 + 9) r1) := (by have z := HOK0.out.doR (by omega) HAL0.out.rb.hT (⟨0, 0, T⟩ : Cl); rw [hr1] at z; exact z.more (by omega)); have HEP1 : Hid (r1.ep ≤ (i : Int)) := (by show r1.ep ≤ _; have z := doR_ep R r1_ (⟨0, 0, T⟩ : Cl); rw [hr1] at z; have y1 := HEP0.out; have y2 := HEP0.out; rcases z with z | z; (case inl => rw [z]; omega); (case inr => rw [z]; show T.ep ≤ _; have y3 := HTE.out; omega)); clear ah1 hr1; have HG1 : Hid (u1.heap[g]? = some (.cells (tlA T) 46 (0, 0))) := HAL1.out.box HG.out HGP.out.1 HGP.out.2.1 HGP.out.2.2; have cD2 := do_any HAL1.out (n := n0 + 9) (by omega) (by omega) HOK1.out (⟨0, 0, T⟩ : Cl) HCC.out)
                    | (have X' := cD2; go_at_call 11; refine cD2.mono ?_; clear cD2; rintro e u2 ⟨z2, rfl, rfl, ah2⟩; obtain ⟨r2, hr2⟩ : ∃ rr, doR R r1 (⟨0, 0, T⟩ : Cl) = rr := ⟨_, rfl⟩; rw [hr2] at ah2; have HAL2 : Hid (Al w1 wc u2 R q #[.int .i64 c.W, .int .i64 c.H, .int .i64 c.height, va, vb, (.slice a3 c.robots.length cap3), vd, .int .i64 c.unit, .int .i64 c.accel, .int .i64 c.speed, .int .i64 c.turn, .int .i64 c.hoist, .int .i64 c.queue, .int .i64 c.resend, .int .i64 c.budget, .bool c.back] (r2) (r2)) := ah2; have HOK2 : Hid (OkR (n0 + 18) r2) := (by have z := HOK1.out.doR (by omega) HAL1.out.rb.hT (⟨0, 0, T⟩ : Cl); rw [hr2] at z; exact z.more (by omega)); have HEP2 : Hid (r2.ep ≤ (i : Int)) := (by show r2.ep ≤ _; have z := doR_ep R r1 (⟨0, 0, T⟩ : Cl); rw [hr2] at z; have y1 := HEP1.out; have y2 := HEP0.out; rcases z with z | z; (case inl => rw [z]; omega); (case inr => rw [z]; show T.ep ≤ _; have y3 := HTE.out; omega)); clear ah2 hr2; have ky2 := HY.out _ HAL2.out.bel; have cD3 := do_any HAL2.out (n := n0 + 18) (by omega) (by omega) HOK2.out (⟨6, y, tl0⟩ : Cl) HCC.out)
                    | (have X' := cD3; refine wpList_bldw (by kernel_rfl) 48 _ rfl [(0, .int .i64 6), (1, .int .i64 y)] (clA (⟨6, y, tl0⟩ : Cl)) (by simp only [List.map_toArray, List.map_cons, List.map_nil]; rfl) (builtK 6 y) ?_)
                    | (have X' := cD3; go_at_call 11; refine cD3.mono ?_; clear cD3; rintro e u3 ⟨z3, rfl, rfl, ah3⟩; obtain ⟨r3, hr3⟩ : ∃ rr, doR R r2 (⟨6, y, tl0⟩ : Cl) = rr := ⟨_, rfl⟩; rw [hr3] at ah3; have HAL3 : Hid (Al w1 wc u3 R q #[.int .i64 c.W, .int .i64 c.H, .int .i64 c.height, va, vb, (.slice a3 c.robots.length cap3), vd, .int .i64 c.unit, .int .i64 c.accel, .int .i64 c.speed, .int .i64 c.turn, .int .i64 c.hoist, .int .i64 c.queue, .int .i64 c.resend, .int .i64 c.budget, .bool c.back] (r3) (r3)) := ah3; have HOK3 : Hid (OkR (n0 + 27) r3) := (by have z := HOK2.out.doR (by omega) HAL2.out.rb.hT (⟨6, y, tl0⟩ : Cl); rw [hr3] at z; exact z.more (by omega)); have HEP3 : Hid (r3.ep ≤ (i : Int)) := (by show r3.ep ≤ _; have z := doR_ep R r2 (⟨6, y, tl0⟩ : Cl); rw [hr3] at z; have y1 := HEP2.out; have y2 := HEP0.out; rcases z with z | z; (case inl => rw [z]; omega); (case inr => rw [z]; show (0 : Int) ≤ _; have y3 := HTE.out; omega)); clear ah3 hr3))
                  obtain ⟨r8, hr8⟩ : ∃ rr, rr = r3 := ⟨_, rfl⟩
                  have HA8 := HAL3
                  have HO8 := HOK3
                  rw [← hr8] at HA8 HO8
                  have HE8 : Hid (r8.ep ≤ (i : Int) + 1 ∧ 0 ≤ r8.ep) := ⟨by rw [hr8]; have := HEP3.out; omega, by rw [hr8]; exact HOK3.out.ep0⟩
                  clear hr8
                  go_loopw [12] (fun ck wq => ∃ (k : Nat) (r9 : Rb), ck = .int .i64 k ∧ k ≤ 400 ∧ Al w1 wq wq R q #[.int .i64 c.W, .int .i64 c.H, .int .i64 c.height, va, vb, (.slice a3 c.robots.length cap3), vd, .int .i64 c.unit, .int .i64 c.accel, .int .i64 c.speed, .int .i64 c.turn, .int .i64 c.hoist, .int .i64 c.queue, .int .i64 c.resend, .int .i64 c.budget, .bool c.back] (r9) (r9) ∧ OkR (n0 + 60 + (k : Int) * 9) r9 ∧ (r9.ep ≤ (i : Int) + 1)) (fun ck _ => 400 - (intOf ck).toNat)
                  case atStart => exact ⟨0, r8, rfl, Nat.zero_le _, HA8.out.base, HO8.out.more (by omega), HE8.out.1⟩
                  case round =>
                    clear HA8 HO8 HE8
                    obtain ⟨k, r9, rfl, hk, hal, hok, hep⟩ := hrel
                    have HAL9 : Hid (Al w1 wr wr R q #[.int .i64 c.W, .int .i64 c.H, .int .i64 c.height, va, vb, (.slice a3 c.robots.length cap3), vd, .int .i64 c.unit, .int .i64 c.accel, .int .i64 c.speed, .int .i64 c.turn, .int .i64 c.hoist, .int .i64 c.queue, .int .i64 c.resend, .int .i64 c.budget, .bool c.back] (r9) (r9)) := hal
                    have HOK9 : Hid (OkR (n0 + 60 + (k : Int) * 9) r9) := hok
                    obtain ⟨gn9, cu9, rc9⟩ := hal.rc
                    have k23 : wr.cell? ⟨q, 23, none⟩ = some (.bool (under r9)) := (XAt.of rc9).un
                    have HEP9 : Hid (r9.ep ≤ (i : Int) + 1) := hep
                    clear hal hok rc9 hep
                    cases hun : under r9 with
                    | true =>
                      rw [hun] at k23
                      by_cases hlt : k < 400
                      · have h3 : (k : Int) < 400 := by omega
                        have cD := do_any HAL9.out (n := n0 + 60 + (k : Int) * 9) (by omega) (by omega) HOK9.out (⟨3, 0, tl0⟩ : Cl) HCC.out
                        clear hun
                        go_wp2_with (first
                          | (refine wpList_buildAs rfl 48 _ rfl (clA ⟨3, 0, tl0⟩) _ rfl built3 ?_)
                          | (have X' := cD; go_at_call 11; refine cD.mono ?_; clear cD; rintro e ux ⟨zx, rfl, rfl, ax⟩; obtain ⟨rx, hrx⟩ : ∃ rr, doR R r9 (⟨3, 0, tl0⟩ : Cl) = rr := ⟨_, rfl⟩; rw [hrx] at ax; have HALx : Hid (Al w1 ux ux R q #[.int .i64 c.W, .int .i64 c.H, .int .i64 c.height, va, vb, (.slice a3 c.robots.length cap3), vd, .int .i64 c.unit, .int .i64 c.accel, .int .i64 c.speed, .int .i64 c.turn, .int .i64 c.hoist, .int .i64 c.queue, .int .i64 c.resend, .int .i64 c.budget, .bool c.back] (rx) (rx)) := ax.base; have HOKx : Hid (OkR (n0 + 60 + ((k + 1 : Nat) : Int) * 9) rx) := (by have z := HOK9.out.doR (by omega) HAL9.out.rb.hT (⟨3, 0, tl0⟩ : Cl); rw [hrx] at z; exact z.more (by omega)); have HEPx : Hid (rx.ep ≤ (i : Int) + 1) := (by show rx.ep ≤ _; have z := doR_ep R r9 (⟨3, 0, tl0⟩ : Cl); rw [hrx] at z; have := HEP9.out; rcases z with z | z; (case inl => rw [z]; exact this); (case inr => rw [z]; show (0 : Int) ≤ _; omega)); clear ax hrx))
                        go_roundw
                        case rel => exact ⟨k + 1, rx, by go_num, by omega, HALx.out, HOKx.out, HEPx.out⟩
                        case measure => simp [intOf]; omega
                      · have h3 : ¬ (k : Int) < 400 := by omega
                        clear hun
                        go_wp2_with fail
                        go_roundw
                        case rel => exact ⟨i + 1, r9, by go_num, by omega, HAL9.out.base, HOK9.out.more (by have := HN0.out; omega), by have := HEP9.out; omega⟩
                        case measure => simp [intOf]; omega
                    | false =>
                      rw [hun] at k23
                      clear hun
                      by_cases hlt : k < 400
                      · have h3 : (k : Int) < 400 := by omega
                        go_wp2_with fail
                        go_roundw
                        case rel => exact ⟨i + 1, r9, by go_num, by omega, HAL9.out.base, HOK9.out.more (by have := HN0.out; omega), by have := HEP9.out; omega⟩
                        case measure => simp [intOf]; omega
                      · have h3 : ¬ (k : Int) < 400 := by omega
                        go_wp2_with fail
                        go_roundw
                        case rel => exact ⟨i + 1, r9, by go_num, by omega, HAL9.out.base, HOK9.out.more (by have := HN0.out; omega), by have := HEP9.out; omega⟩
                        case measure => simp [intOf]; omega
                · have q5 : (y.tmod 5 == 0) = false := by rw [beq_eq_false_iff_ne]; exact y5
                  clear y3 y5
                  go_wp2_with (first
                    | (have X' := cD2; refine wpList_load_w (by kernel_rfl) 46 (.tmp 11) rfl ⟨g, 0, none⟩ rfl (tlA T) (load_tele HG1.out) ?_)
                    | (have X' := cD2; refine wpList_bldw (by kernel_rfl) 48 _ rfl [(2, .agg (tlA T))] (clA (⟨0, 0, T⟩ : Cl)) (by simp only [List.map_toArray, List.map_cons, List.map_nil]; rfl) (builtT T) ?_)
                    | (have X' := cD1; refine wpList_load_at rfl 46 (.tmp 11) rfl ⟨g, 0, none⟩ rfl (tlA T) (load_tele HG.out) ?_)
                    | (have X' := cD1; refine wpList_buildAs rfl 48 _ rfl (clA (⟨0, 0, T⟩ : Cl)) [(2, .agg (tlA T))] (by simp only [List.map_toArray, List.map_cons, List.map_nil]; rfl) (builtT T) ?_)
                    | (have X' := cD1; go_at_call 11; refine cD1.mono ?_; clear cD1; rintro e u1 ⟨z1, rfl, rfl, ah1⟩; obtain ⟨r1, hr1⟩ : ∃ rr, doR R r1_ (⟨0, 0, T⟩ : Cl) = rr := ⟨_, rfl⟩; rw [hr1] at ah1; have HAL1 : Hid (Al w1 wc u1 R q #[.int .i64 c.W, .int .i64 c.H, .int .i64 c.height, va, vb, (.slice a3 c.robots.length cap3), vd, .int .i64 c.unit, .int .i64 c.accel, .int .i64 c.speed, .int .i64 c.turn, .int .i64 c.hoist, .int .i64 c.queue, .int .i64 c.resend, .int .i64 c.budget, .bool c.back] (r1) (r1)) := ah1; have HOK1 : Hid (OkR (n0 + 9) r1) := (by have z := HOK0.out.doR (by omega) HAL0.out.rb.hT (⟨0, 0, T⟩ : Cl); rw [hr1] at z; exact z.more (by omega)); have HEP1 : Hid (r1.ep ≤ (i : Int)) := (by show r1.ep ≤ _; have z := doR_ep R r1_ (⟨0, 0, T⟩ : Cl); rw [hr1] at z; have y1 := HEP0.out; have y2 := HEP0.out; rcases z with z | z; (case inl => rw [z]; omega); (case inr => rw [z]; show T.ep ≤ _; have y3 := HTE.out; omega)); clear ah1 hr1; have HG1 : Hid (u1.heap[g]? = some (.cells (tlA T) 46 (0, 0))) := HAL1.out.box HG.out HGP.out.1 HGP.out.2.1 HGP.out.2.2; have cD2 := do_any HAL1.out (n := n0 + 9) (by omega) (by omega) HOK1.out (⟨0, 0, T⟩ : Cl) HCC.out)
                    | (have X' := cD2; go_at_call 11; refine cD2.mono ?_; clear cD2; rintro e u2 ⟨z2, rfl, rfl, ah2⟩; obtain ⟨r2, hr2⟩ : ∃ rr, doR R r1 (⟨0, 0, T⟩ : Cl) = rr := ⟨_, rfl⟩; rw [hr2] at ah2; have HAL2 : Hid (Al w1 wc u2 R q #[.int .i64 c.W, .int .i64 c.H, .int .i64 c.height, va, vb, (.slice a3 c.robots.length cap3), vd, .int .i64 c.unit, .int .i64 c.accel, .int .i64 c.speed, .int .i64 c.turn, .int .i64 c.hoist, .int .i64 c.queue, .int .i64 c.resend, .int .i64 c.budget, .bool c.back] (r2) (r2)) := ah2; have HOK2 : Hid (OkR (n0 + 18) r2) := (by have z := HOK1.out.doR (by omega) HAL1.out.rb.hT (⟨0, 0, T⟩ : Cl); rw [hr2] at z; exact z.more (by omega)); have HEP2 : Hid (r2.ep ≤ (i : Int)) := (by show r2.ep ≤ _; have z := doR_ep R r1 (⟨0, 0, T⟩ : Cl); rw [hr2] at z; have y1 := HEP1.out; have y2 := HEP0.out; rcases z with z | z; (case inl => rw [z]; omega); (case inr => rw [z]; show T.ep ≤ _; have y3 := HTE.out; omega)); clear ah2 hr2; have ky2 := HY.out _ HAL2.out.bel))
                  obtain ⟨r8, hr8⟩ : ∃ rr, rr = r2 := ⟨_, rfl⟩
                  have HA8 := HAL2
                  have HO8 := HOK2
                  rw [← hr8] at HA8 HO8
                  have HE8 : Hid (r8.ep ≤ (i : Int) + 1 ∧ 0 ≤ r8.ep) := ⟨by rw [hr8]; have := HEP2.out; omega, by rw [hr8]; exact HOK2.out.ep0⟩
                  clear hr8
                  go_loopw [12] (fun ck wq => ∃ (k : Nat) (r9 : Rb), ck = .int .i64 k ∧ k ≤ 400 ∧ Al w1 wq wq R q #[.int .i64 c.W, .int .i64 c.H, .int .i64 c.height, va, vb, (.slice a3 c.robots.length cap3), vd, .int .i64 c.unit, .int .i64 c.accel, .int .i64 c.speed, .int .i64 c.turn, .int .i64 c.hoist, .int .i64 c.queue, .int .i64 c.resend, .int .i64 c.budget, .bool c.back] (r9) (r9) ∧ OkR (n0 + 60 + (k : Int) * 9) r9 ∧ (r9.ep ≤ (i : Int) + 1)) (fun ck _ => 400 - (intOf ck).toNat)
                  case atStart => exact ⟨0, r8, rfl, Nat.zero_le _, HA8.out.base, HO8.out.more (by omega), HE8.out.1⟩
                  case round =>
                    clear HA8 HO8 HE8
                    obtain ⟨k, r9, rfl, hk, hal, hok, hep⟩ := hrel
                    have HAL9 : Hid (Al w1 wr wr R q #[.int .i64 c.W, .int .i64 c.H, .int .i64 c.height, va, vb, (.slice a3 c.robots.length cap3), vd, .int .i64 c.unit, .int .i64 c.accel, .int .i64 c.speed, .int .i64 c.turn, .int .i64 c.hoist, .int .i64 c.queue, .int .i64 c.resend, .int .i64 c.budget, .bool c.back] (r9) (r9)) := hal
                    have HOK9 : Hid (OkR (n0 + 60 + (k : Int) * 9) r9) := hok
                    obtain ⟨gn9, cu9, rc9⟩ := hal.rc
                    have k23 : wr.cell? ⟨q, 23, none⟩ = some (.bool (under r9)) := (XAt.of rc9).un
                    have HEP9 : Hid (r9.ep ≤ (i : Int) + 1) := hep
                    clear hal hok rc9 hep
                    cases hun : under r9 with
                    | true =>
                      rw [hun] at k23
                      by_cases hlt : k < 400
                      · have h3 : (k : Int) < 400 := by omega
                        have cD := do_any HAL9.out (n := n0 + 60 + (k : Int) * 9) (by omega) (by omega) HOK9.out (⟨3, 0, tl0⟩ : Cl) HCC.out
                        clear hun
                        go_wp2_with (first
                          | (refine wpList_buildAs rfl 48 _ rfl (clA ⟨3, 0, tl0⟩) _ rfl built3 ?_)
                          | (have X' := cD; go_at_call 11; refine cD.mono ?_; clear cD; rintro e ux ⟨zx, rfl, rfl, ax⟩; obtain ⟨rx, hrx⟩ : ∃ rr, doR R r9 (⟨3, 0, tl0⟩ : Cl) = rr := ⟨_, rfl⟩; rw [hrx] at ax; have HALx : Hid (Al w1 ux ux R q #[.int .i64 c.W, .int .i64 c.H, .int .i64 c.height, va, vb, (.slice a3 c.robots.length cap3), vd, .int .i64 c.unit, .int .i64 c.accel, .int .i64 c.speed, .int .i64 c.turn, .int .i64 c.hoist, .int .i64 c.queue, .int .i64 c.resend, .int .i64 c.budget, .bool c.back] (rx) (rx)) := ax.base; have HOKx : Hid (OkR (n0 + 60 + ((k + 1 : Nat) : Int) * 9) rx) := (by have z := HOK9.out.doR (by omega) HAL9.out.rb.hT (⟨3, 0, tl0⟩ : Cl); rw [hrx] at z; exact z.more (by omega)); have HEPx : Hid (rx.ep ≤ (i : Int) + 1) := (by show rx.ep ≤ _; have z := doR_ep R r9 (⟨3, 0, tl0⟩ : Cl); rw [hrx] at z; have := HEP9.out; rcases z with z | z; (case inl => rw [z]; exact this); (case inr => rw [z]; show (0 : Int) ≤ _; omega)); clear ax hrx))
                        go_roundw
                        case rel => exact ⟨k + 1, rx, by go_num, by omega, HALx.out, HOKx.out, HEPx.out⟩
                        case measure => simp [intOf]; omega
                      · have h3 : ¬ (k : Int) < 400 := by omega
                        clear hun
                        go_wp2_with fail
                        go_roundw
                        case rel => exact ⟨i + 1, r9, by go_num, by omega, HAL9.out.base, HOK9.out.more (by have := HN0.out; omega), by have := HEP9.out; omega⟩
                        case measure => simp [intOf]; omega
                    | false =>
                      rw [hun] at k23
                      clear hun
                      by_cases hlt : k < 400
                      · have h3 : (k : Int) < 400 := by omega
                        go_wp2_with fail
                        go_roundw
                        case rel => exact ⟨i + 1, r9, by go_num, by omega, HAL9.out.base, HOK9.out.more (by have := HN0.out; omega), by have := HEP9.out; omega⟩
                        case measure => simp [intOf]; omega
                      · have h3 : ¬ (k : Int) < 400 := by omega
                        go_wp2_with fail
                        go_roundw
                        case rel => exact ⟨i + 1, r9, by go_num, by omega, HAL9.out.base, HOK9.out.more (by have := HN0.out; omega), by have := HEP9.out; omega⟩
                        case measure => simp [intOf]; omega
            · have g4 : ¬ (i : Int) < (n2 : Int) := by omega
              clear hs
              go_wp2_with (first
                | (have X' := cD2; refine wpList_load_w (by kernel_rfl) 46 (.tmp 11) rfl ⟨g, 0, none⟩ rfl (tlA T) (load_tele HG1.out) ?_)
                | (have X' := cD2; refine wpList_bldw (by kernel_rfl) 48 _ rfl [(2, .agg (tlA T))] (clA (⟨0, 0, T⟩ : Cl)) (by simp only [List.map_toArray, List.map_cons, List.map_nil]; rfl) (builtT T) ?_)
                | (have X' := cD1; refine wpList_load_at rfl 46 (.tmp 11) rfl ⟨g, 0, none⟩ rfl (tlA T) (load_tele HG.out) ?_)
                | (have X' := cD1; refine wpList_buildAs rfl 48 _ rfl (clA (⟨0, 0, T⟩ : Cl)) [(2, .agg (tlA T))] (by simp only [List.map_toArray, List.map_cons, List.map_nil]; rfl) (builtT T) ?_)
                | (have X' := cD1; go_at_call 11; refine cD1.mono ?_; clear cD1; rintro e u1 ⟨z1, rfl, rfl, ah1⟩; obtain ⟨r1, hr1⟩ : ∃ rr, doR R r1_ (⟨0, 0, T⟩ : Cl) = rr := ⟨_, rfl⟩; rw [hr1] at ah1; have HAL1 : Hid (Al w1 wc u1 R q #[.int .i64 c.W, .int .i64 c.H, .int .i64 c.height, va, vb, (.slice a3 c.robots.length cap3), vd, .int .i64 c.unit, .int .i64 c.accel, .int .i64 c.speed, .int .i64 c.turn, .int .i64 c.hoist, .int .i64 c.queue, .int .i64 c.resend, .int .i64 c.budget, .bool c.back] (r1) (r1)) := ah1; have HOK1 : Hid (OkR (n0 + 9) r1) := (by have z := HOK0.out.doR (by omega) HAL0.out.rb.hT (⟨0, 0, T⟩ : Cl); rw [hr1] at z; exact z.more (by omega)); have HEP1 : Hid (r1.ep ≤ (i : Int)) := (by show r1.ep ≤ _; have z := doR_ep R r1_ (⟨0, 0, T⟩ : Cl); rw [hr1] at z; have y1 := HEP0.out; have y2 := HEP0.out; rcases z with z | z; (case inl => rw [z]; omega); (case inr => rw [z]; show T.ep ≤ _; have y3 := HTE.out; omega)); clear ah1 hr1; have HG1 : Hid (u1.heap[g]? = some (.cells (tlA T) 46 (0, 0))) := HAL1.out.box HG.out HGP.out.1 HGP.out.2.1 HGP.out.2.2; have cD2 := do_any HAL1.out (n := n0 + 9) (by omega) (by omega) HOK1.out (⟨0, 0, T⟩ : Cl) HCC.out)
                | (have X' := cD2; go_at_call 11; refine cD2.mono ?_; clear cD2; rintro e u2 ⟨z2, rfl, rfl, ah2⟩; obtain ⟨r2, hr2⟩ : ∃ rr, doR R r1 (⟨0, 0, T⟩ : Cl) = rr := ⟨_, rfl⟩; rw [hr2] at ah2; have HAL2 : Hid (Al w1 wc u2 R q #[.int .i64 c.W, .int .i64 c.H, .int .i64 c.height, va, vb, (.slice a3 c.robots.length cap3), vd, .int .i64 c.unit, .int .i64 c.accel, .int .i64 c.speed, .int .i64 c.turn, .int .i64 c.hoist, .int .i64 c.queue, .int .i64 c.resend, .int .i64 c.budget, .bool c.back] (r2) (r2)) := ah2; have HOK2 : Hid (OkR (n0 + 18) r2) := (by have z := HOK1.out.doR (by omega) HAL1.out.rb.hT (⟨0, 0, T⟩ : Cl); rw [hr2] at z; exact z.more (by omega)); have HEP2 : Hid (r2.ep ≤ (i : Int)) := (by show r2.ep ≤ _; have z := doR_ep R r1 (⟨0, 0, T⟩ : Cl); rw [hr2] at z; have y1 := HEP1.out; have y2 := HEP0.out; rcases z with z | z; (case inl => rw [z]; omega); (case inr => rw [z]; show T.ep ≤ _; have y3 := HTE.out; omega)); clear ah2 hr2))
              obtain ⟨r8, hr8⟩ : ∃ rr, rr = r2 := ⟨_, rfl⟩
              have HA8 := HAL2
              have HO8 := HOK2
              rw [← hr8] at HA8 HO8
              have HE8 : Hid (r8.ep ≤ (i : Int) + 1 ∧ 0 ≤ r8.ep) := ⟨by rw [hr8]; have := HEP2.out; omega, by rw [hr8]; exact HOK2.out.ep0⟩
              clear hr8
              go_loopw [12] (fun ck wq => ∃ (k : Nat) (r9 : Rb), ck = .int .i64 k ∧ k ≤ 400 ∧ Al w1 wq wq R q #[.int .i64 c.W, .int .i64 c.H, .int .i64 c.height, va, vb, (.slice a3 c.robots.length cap3), vd, .int .i64 c.unit, .int .i64 c.accel, .int .i64 c.speed, .int .i64 c.turn, .int .i64 c.hoist, .int .i64 c.queue, .int .i64 c.resend, .int .i64 c.budget, .bool c.back] (r9) (r9) ∧ OkR (n0 + 60 + (k : Int) * 9) r9 ∧ (r9.ep ≤ (i : Int) + 1)) (fun ck _ => 400 - (intOf ck).toNat)
              case atStart => exact ⟨0, r8, rfl, Nat.zero_le _, HA8.out.base, HO8.out.more (by omega), HE8.out.1⟩
              case round =>
                clear HA8 HO8 HE8
                obtain ⟨k, r9, rfl, hk, hal, hok, hep⟩ := hrel
                have HAL9 : Hid (Al w1 wr wr R q #[.int .i64 c.W, .int .i64 c.H, .int .i64 c.height, va, vb, (.slice a3 c.robots.length cap3), vd, .int .i64 c.unit, .int .i64 c.accel, .int .i64 c.speed, .int .i64 c.turn, .int .i64 c.hoist, .int .i64 c.queue, .int .i64 c.resend, .int .i64 c.budget, .bool c.back] (r9) (r9)) := hal
                have HOK9 : Hid (OkR (n0 + 60 + (k : Int) * 9) r9) := hok
                obtain ⟨gn9, cu9, rc9⟩ := hal.rc
                have k23 : wr.cell? ⟨q, 23, none⟩ = some (.bool (under r9)) := (XAt.of rc9).un
                have HEP9 : Hid (r9.ep ≤ (i : Int) + 1) := hep
                clear hal hok rc9 hep
                cases hun : under r9 with
                | true =>
                  rw [hun] at k23
                  by_cases hlt : k < 400
                  · have h3 : (k : Int) < 400 := by omega
                    have cD := do_any HAL9.out (n := n0 + 60 + (k : Int) * 9) (by omega) (by omega) HOK9.out (⟨3, 0, tl0⟩ : Cl) HCC.out
                    clear hun
                    go_wp2_with (first
                      | (refine wpList_buildAs rfl 48 _ rfl (clA ⟨3, 0, tl0⟩) _ rfl built3 ?_)
                      | (have X' := cD; go_at_call 11; refine cD.mono ?_; clear cD; rintro e ux ⟨zx, rfl, rfl, ax⟩; obtain ⟨rx, hrx⟩ : ∃ rr, doR R r9 (⟨3, 0, tl0⟩ : Cl) = rr := ⟨_, rfl⟩; rw [hrx] at ax; have HALx : Hid (Al w1 ux ux R q #[.int .i64 c.W, .int .i64 c.H, .int .i64 c.height, va, vb, (.slice a3 c.robots.length cap3), vd, .int .i64 c.unit, .int .i64 c.accel, .int .i64 c.speed, .int .i64 c.turn, .int .i64 c.hoist, .int .i64 c.queue, .int .i64 c.resend, .int .i64 c.budget, .bool c.back] (rx) (rx)) := ax.base; have HOKx : Hid (OkR (n0 + 60 + ((k + 1 : Nat) : Int) * 9) rx) := (by have z := HOK9.out.doR (by omega) HAL9.out.rb.hT (⟨3, 0, tl0⟩ : Cl); rw [hrx] at z; exact z.more (by omega)); have HEPx : Hid (rx.ep ≤ (i : Int) + 1) := (by show rx.ep ≤ _; have z := doR_ep R r9 (⟨3, 0, tl0⟩ : Cl); rw [hrx] at z; have := HEP9.out; rcases z with z | z; (case inl => rw [z]; exact this); (case inr => rw [z]; show (0 : Int) ≤ _; omega)); clear ax hrx))
                    go_roundw
                    case rel => exact ⟨k + 1, rx, by go_num, by omega, HALx.out, HOKx.out, HEPx.out⟩
                    case measure => simp [intOf]; omega
                  · have h3 : ¬ (k : Int) < 400 := by omega
                    clear hun
                    go_wp2_with fail
                    go_roundw
                    case rel => exact ⟨i + 1, r9, by go_num, by omega, HAL9.out.base, HOK9.out.more (by have := HN0.out; omega), by have := HEP9.out; omega⟩
                    case measure => simp [intOf]; omega
                | false =>
                  rw [hun] at k23
                  clear hun
                  by_cases hlt : k < 400
                  · have h3 : (k : Int) < 400 := by omega
                    go_wp2_with fail
                    go_roundw
                    case rel => exact ⟨i + 1, r9, by go_num, by omega, HAL9.out.base, HOK9.out.more (by have := HN0.out; omega), by have := HEP9.out; omega⟩
                    case measure => simp [intOf]; omega
                  · have h3 : ¬ (k : Int) < 400 := by omega
                    go_wp2_with fail
                    go_roundw
                    case rel => exact ⟨i + 1, r9, by go_num, by omega, HAL9.out.base, HOK9.out.more (by have := HN0.out; omega), by have := HEP9.out; omega⟩
                    case measure => simp [intOf]; omega
        · have HE : Hid (Below w1.heap.size w1 wr) := hal.bel
          have g3 : ¬ ((i : Int) < (n : Int) ∧ (i : Int) < 12) := fun hh => hmore (by omega)
          clear hal hok hmore hep
          by_cases hc1 : (i : Int) < (n : Int)
          · have hc2 : ¬ (i : Int) < 12 := fun hh => g3 ⟨hc1, hh⟩
            clear g3
            go_wp2_with (go_at_call 8; refine (awake18_any _).mono ?_; rintro e w9 ⟨rfl, b9⟩)
            go_ret
            exact ⟨rfl, bcat (bcat HB1.out HE.out) b9⟩
          · clear g3
            go_wp2_with (go_at_call 8; refine (awake18_any _).mono ?_; rintro e w9 ⟨rfl, b9⟩)
            go_ret
            exact ⟨rfl, bcat (bcat HB1.out HE.out) b9⟩
end Go.Proofs.YtedhoghleelhfaaGreat.Rob
