/-
  A move takes just as much longer as it is delayed: the walk.
-/
import Derived.Test.YtedmfhkdaifegaaGreatRobLed
namespace Go.Proofs.YtedmfhkdaifegaaGreat.Rob
set_option linter.unusedVariables false
set_option linter.unusedSimpArgs false
open Go Go.RowKit Go.Shelf Go.Proofs Go.Proofs.YtedmfhkdaifegaaGreat.Lk Go.Proofs.YtedmfhkdaifegaaGreat.Plain
attribute [local go_sem] Oper.semAt_some

/- Numbers that came in. -/
def InI (w : World) (a : Option Addr) (n : Nat) (zs : Nat → Int) : Prop := ∀ i, i < n → ∃ x : Addr, a = some x ∧ w.cell? (x.add i) = some (.int .i64 (zs i))
theorem InI.go {w w' : World} {a : Option Addr} {n : Nat} {zs : Nat → Int} (h : InI w a n zs) (hb : Below w.heap.size w w') : InI w' a n zs := fun i hi => by
  obtain ⟨x, hx, h1⟩ := h i hi
  exact ⟨x, hx, (hb.cell (World.block_lt_of_cell? w _ h1)).trans h1⟩
theorem ints_in {w : World} {a : Option Addr} {n cap : Nat} {xs : List Int} (h : Grid.ListAt 1 Grid.intEl (Grid.Old w) xs (.slice a n cap) w) : InI w a n (fun i => xs.getD i 0) := fun i hi => by
  obtain ⟨a', cap', e, _⟩ := h.form
  simp only [Value.slice.injEq] at e
  obtain ⟨rfl, rfl, rfl⟩ := e
  obtain ⟨p, cs, cap2, hv, _, hcs, hrd⟩ := h.item hi
  simp only [Value.slice.injEq] at hv
  have hcs : cs = #[.int .i64 (xs[i]'hi)] := hcs
  subst hcs
  refine ⟨p, hv.1, ?_⟩
  have := hrd 0 (.int .i64 (xs[i]'hi)) rfl
  have e0 : ∀ q : Addr, q.add 0 = q := fun q => by unfold Addr.add; simp
  rw [Nat.mul_one, e0] at this
  show w.cell? (p.add i) = some (.int .i64 (xs.getD i 0))
  rw [List.getD_eq_getElem?_getD, List.getElem?_eq_getElem hi, Option.getD_some]
  exact this
theorem wpList_buildW {ops : Array Oper} {rest : List Oper} {o : Oper} {a : Act} {w : World} {Q : Exit → Act → World → Prop} (hw : Region.wanted o (yielded ops a.tmps) = true) (t : TypeId) (parts : Array (Nat × Operand)) (ho : o.op = .build t parts) (cs : Array Value) (vs : List (Nat × Value))
    (hv : (parts.map fun (i, x) => (i, a.eval x)).toList = vs) (hf : Tryz.prog.built t vs = some cs) (h : wpList Tryz.prog ops Q rest (a.put o.dst (.agg cs)) w) : wpList Tryz.prog ops Q (o :: rest) a w :=
  BigFrame.wpList_want hw fun _ hK => by
    unfold Oper.wp
    rw [run_build_op t parts ho vs cs hv hf]
    exact hK _ _ h
theorem built_ack1 : Tryz.prog.built 46 [(0, .int .i64 3), (3, .int .i64 1)] = some (tlA (tlG 3 0 1)) := by kernel_rfl
set_option maxRecDepth 100000 in
set_option maxHeartbeats 8000000 in
theorem delays_few (c : Grid.Conf) (va vb vc vd : Value) (w : World) (hA : Grid.ConfAt (Grid.Old w) c va vb vc vd w) (l1 : c.blocked.length ≤ 8796093022208) (l2 : c.ports.length ≤ 8796093022208) (l3 : c.robots.length ≤ 5864062014805) (l4 : c.stacks.length ≤ 3518437208880) (l5 : ∀ s ∈ c.stacks, s.2.length ≤ 17592186044416) (a1 : Int) (a : Option Addr) (n cap : Nat) (zs : Nat → Int) (hZ : InI w a n zs) (hn : n ≤ 8) :
    Calls Tryz.prog 7 #[.agg #[.int .i64 c.W, .int .i64 c.H, .int .i64 c.height, va, vb, vc, vd, .int .i64 c.unit, .int .i64 c.accel, .int .i64 c.speed, .int .i64 c.turn, .int .i64 c.hoist, .int .i64 c.queue, .int .i64 c.resend, .int .i64 c.budget, .bool c.back], .int .i64 a1, .slice a n cap] w fun e w' => e = .returned (.bool true) ∧ Below w.heap.size w w' := by
  have HIn : Hid (∀ u, Below w.heap.size w u → InI u a n zs) := fun u hu => hZ.go hu
  have HNN : Hid (n ≤ 8) := hn
  clear hZ hn
  have hO : ∀ b, Grid.Old w b → b < w.heap.size := fun b h => h
  obtain ⟨a3, cap3, hv3, _⟩ := hA.r.form
  subst hv3
  have HAH : Hid (Grid.ConfAt (Grid.Old w) c va vb (.slice a3 c.robots.length cap3) vd w) := hA
  obtain ⟨w1, hw1⟩ : ∃ w1, w1 = w.alloc (.cells #[.int .i64 c.W, .int .i64 c.H, .int .i64 c.height, va, vb, (.slice a3 c.robots.length cap3), vd, .int .i64 c.unit, .int .i64 c.accel, .int .i64 c.speed, .int .i64 c.turn, .int .i64 c.hoist, .int .i64 c.queue, .int .i64 c.resend, .int .i64 c.budget, .bool c.back] 26) := ⟨_, rfl⟩
  have b1 : Below w.heap.size w w1 := by rw [hw1]; exact (Below.refl _ _).alloc (Nat.le_refl _) _
  have hc1 : w1.heap[w.heap.size]? = some (.cells #[.int .i64 c.W, .int .i64 c.H, .int .i64 c.height, va, vb, (.slice a3 c.robots.length cap3), vd, .int .i64 c.unit, .int .i64 c.accel, .int .i64 c.speed, .int .i64 c.turn, .int .i64 c.hoist, .int .i64 c.queue, .int .i64 c.resend, .int .i64 c.budget, .bool c.back] 26 (0, 0)) := by rw [hw1]; exact World.alloc_heap_new _ _
  have HB1 : Hid (Below w.heap.size w w1) := b1
  have HC1 : Hid (∀ u, Below w1.heap.size w1 u → u.heap[w.heap.size]? = some (.cells #[.int .i64 c.W, .int .i64 c.H, .int .i64 c.height, va, vb, (.slice a3 c.robots.length cap3), vd, .int .i64 c.unit, .int .i64 c.accel, .int .i64 c.speed, .int .i64 c.turn, .int .i64 c.hoist, .int .i64 c.queue, .int .i64 c.resend, .int .i64 c.budget, .bool c.back] 26 (0, 0))) := fun u b => (b.block _ (Array.getElem?_eq_some_iff.1 hc1).1).trans hc1
  have HC5 : Hid (∀ u, Below w1.heap.size w1 u → u.cell? ⟨w.heap.size, 5, none⟩ = some (.slice a3 c.robots.length cap3)) := fun u b => (cell_of' (HC1.out u b) 5).trans rfl
  have HLDu : Hid (∀ u, Below w1.heap.size w1 u → (loadVar 26 ⟨w.heap.size, 0, none⟩).run Tryz.prog u = .ok (.agg #[.int .i64 c.W, .int .i64 c.H, .int .i64 c.height, va, vb, (.slice a3 c.robots.length cap3), vd, .int .i64 c.unit, .int .i64 c.accel, .int .i64 c.speed, .int .i64 c.turn, .int .i64 c.hoist, .int .i64 c.queue, .int .i64 c.resend, .int .i64 c.budget, .bool c.back]) u) := fun u b => load_row_of (HC1.out u b) (Grid.aggConf _) Grid.info_conf
  have cS := Dig.small_any (Grid.Old w) c va vb _ vd w1 (hA.go hO b1) (fun b hb => Nat.lt_of_lt_of_le (hO b hb) b1.size) l1 l2 l3 l4 l5
  have cC := fun u (b : Below w.heap.size w u) => Grid.copyConf_any (Grid.Old w) c va vb _ vd u (hA.go hO b) (fun q hq => Nat.lt_of_lt_of_le (hO q hq) b.size) l1 l2 l3 l4 l5
  clear hA b1 hc1
  cases hsm : (Dig.smallN c && (Grid.newP c).isSome) with
  | false =>
    rw [hsm] at cS
    go_enter Tryz.func7, Tryz.ntmps7
    go_wp2_with (first | (refine wpList_boxAt rfl 26 (.tmp 0) rfl #[.int .i64 c.W, .int .i64 c.H, .int .i64 c.height, va, vb, (.slice a3 c.robots.length cap3), vd, .int .i64 c.unit, .int .i64 c.accel, .int .i64 c.speed, .int .i64 c.turn, .int .i64 c.hoist, .int .i64 c.queue, .int .i64 c.resend, .int .i64 c.budget, .bool c.back] rfl ?_; rw [← hw1]; clear hw1) | (refine wpList_load_at rfl 26 (.tmp 3) rfl ⟨w.heap.size, 0, none⟩ rfl #[.int .i64 c.W, .int .i64 c.H, .int .i64 c.height, va, vb, (.slice a3 c.robots.length cap3), vd, .int .i64 c.unit, .int .i64 c.accel, .int .i64 c.speed, .int .i64 c.turn, .int .i64 c.hoist, .int .i64 c.queue, .int .i64 c.resend, .int .i64 c.budget, .bool c.back] (HLDu.out _ (Below.refl _ _)) ?_) | (go_at_call 16; refine cS.mono ?_; rintro e w3 ⟨rs, rfl, rfl, b3⟩; have HB3 : Hid (Below w1.heap.size w1 w3) := b3; have k5 := HC5.out _ b3) | (go_at_call 12; refine (awake18_any _).mono ?_; rintro e w9 ⟨rfl, b9⟩))
    go_ret
    exact ⟨rfl, bcat (bcat HB1.out HB3.out) b9⟩
  | true =>
    rw [hsm] at cS
    obtain ⟨G, hN⟩ : ∃ G, Grid.newP c = some G := by
      cases h : Grid.newP c with
      | none => rw [h] at hsm; simp at hsm
      | some G => exact ⟨G, rfl⟩
    clear hsm
    by_cases h0 : c.robots.length = 0
    · have q0 : ((c.robots.length : Int) == 0) = true := by rw [beq_iff_eq]; omega
      clear h0
      go_enter Tryz.func7, Tryz.ntmps7
      go_wp2_with (first | (refine wpList_boxAt rfl 26 (.tmp 0) rfl #[.int .i64 c.W, .int .i64 c.H, .int .i64 c.height, va, vb, (.slice a3 c.robots.length cap3), vd, .int .i64 c.unit, .int .i64 c.accel, .int .i64 c.speed, .int .i64 c.turn, .int .i64 c.hoist, .int .i64 c.queue, .int .i64 c.resend, .int .i64 c.budget, .bool c.back] rfl ?_; rw [← hw1]; clear hw1) | (refine wpList_load_at rfl 26 (.tmp 3) rfl ⟨w.heap.size, 0, none⟩ rfl #[.int .i64 c.W, .int .i64 c.H, .int .i64 c.height, va, vb, (.slice a3 c.robots.length cap3), vd, .int .i64 c.unit, .int .i64 c.accel, .int .i64 c.speed, .int .i64 c.turn, .int .i64 c.hoist, .int .i64 c.queue, .int .i64 c.resend, .int .i64 c.budget, .bool c.back] (HLDu.out _ (Below.refl _ _)) ?_) | (go_at_call 16; refine cS.mono ?_; rintro e w3 ⟨rs, rfl, rfl, b3⟩; have HB3 : Hid (Below w1.heap.size w1 w3) := b3; have k5 := HC5.out _ b3) | (go_at_call 12; refine (awake18_any _).mono ?_; rintro e w9 ⟨rfl, b9⟩))
      go_ret
      exact ⟨rfl, bcat (bcat HB1.out HB3.out) b9⟩
    · have q0 : ((c.robots.length : Int) == 0) = false := by rw [beq_eq_false_iff_ne]; omega
      have hr0 : 0 < c.robots.length := by omega
      clear h0
      obtain ⟨r, hr⟩ : ∃ r, firstR 0 (c.robots[0]'hr0).1.1 (c.robots[0]'hr0).1.2 (c.robots[0]'hr0).2 = r := ⟨_, rfl⟩
      have HR0 : Hid (firstR 0 (c.robots[0]'hr0).1.1 (c.robots[0]'hr0).1.2 (c.robots[0]'hr0).2 = r) := hr
      clear hr
      have HF0 : Hid (r.nb = 0 ∧ r.lt = 0 ∧ r.ep = 0 ∧ under r = false ∧ OkR 0 r ∧ posR r ∈ c.robots ∧ posR r = c.robots[0]'hr0) := first_facts c hr0 r HR0.out
      go_enter Tryz.func7, Tryz.ntmps7
      go_upto_region 7 with (first
      | (refine wpList_boxAt rfl 26 (.tmp 0) rfl #[.int .i64 c.W, .int .i64 c.H, .int .i64 c.height, va, vb, (.slice a3 c.robots.length cap3), vd, .int .i64 c.unit, .int .i64 c.accel, .int .i64 c.speed, .int .i64 c.turn, .int .i64 c.hoist, .int .i64 c.queue, .int .i64 c.resend, .int .i64 c.budget, .bool c.back] rfl ?_; rw [← hw1]; clear hw1)
      | (have X3 := HB3; refine wpList_load_at rfl 26 (.tmp 3) rfl ⟨w.heap.size, 0, none⟩ rfl #[.int .i64 c.W, .int .i64 c.H, .int .i64 c.height, va, vb, (.slice a3 c.robots.length cap3), vd, .int .i64 c.unit, .int .i64 c.accel, .int .i64 c.speed, .int .i64 c.turn, .int .i64 c.hoist, .int .i64 c.queue, .int .i64 c.resend, .int .i64 c.budget, .bool c.back] (HLDu.out _ HB3.out) ?_)
      | (refine wpList_load_at rfl 26 (.tmp 3) rfl ⟨w.heap.size, 0, none⟩ rfl #[.int .i64 c.W, .int .i64 c.H, .int .i64 c.height, va, vb, (.slice a3 c.robots.length cap3), vd, .int .i64 c.unit, .int .i64 c.accel, .int .i64 c.speed, .int .i64 c.turn, .int .i64 c.hoist, .int .i64 c.queue, .int .i64 c.resend, .int .i64 c.budget, .bool c.back] (HLDu.out _ (Below.refl _ _)) ?_)
      | (go_at_call 16; refine cS.mono ?_; rintro e w3 ⟨rs, rfl, rfl, b3⟩; have HB3 : Hid (Below w1.heap.size w1 w3) := b3; have k5 := HC5.out _ b3)
      | (go_at_call 10; refine (cC _ (bcat HB1.out HB3.out)).mono ?_; rintro e w4 ⟨rc, rfl, ⟨k1, k2, k3, k4, rfl, hC4⟩, b4⟩; have HB4 : Hid (Below w.heap.size w w4) := bcat (bcat HB1.out HB3.out) b4; have HB14 : Hid (Below w1.heap.size w1 w4) := bcat HB3.out b4; have HC4 : Hid (Grid.ConfAt (Grid.Since w3.heap.size w4) c k1 k2 k3 k4 w4) := hC4; clear hC4 b4)
      | (go_at_call 9; refine (new_r c _ _ _ _ _ hN hr0 r HR0.out HC4.out Grid.since_lt l1 l2 l3 l4).mono ?_; rintro e w5 ⟨R, rfl, hR, hp, hk, hRW, b5⟩; have HPK : Hid (w.heap.size ≤ R.p ∧ w.heap.size ≤ R.k) := ⟨Nat.le_trans HB4.out.size hp, Nat.le_trans HB4.out.size hk⟩; have HR5 : Hid (RbAt w5 R r) := hR; have HRW : Hid (R.W = c.W ∧ R.H = c.H ∧ R.us = G.uses ∧ (R.ku : Int) = c.unit ∧ (R.ka : Int) = c.accel ∧ (R.kv : Int) = c.speed) := hRW; have HB5 : Hid (Below w.heap.size w w5) := bcat HB4.out b5; have HB15 : Hid (Below w1.heap.size w1 w5) := bcat HB14.out b5; have HPP : Hid (w4.heap.size ≤ R.p) := hp; clear b5 hp hk HC4 hR hRW)
      | (go_at_call 24; refine (delay_any HR5.out 50 HF0.out.2.2.2.2.1.la0 HF0.out.2.2.2.2.1.la1).mono ?_; rintro e w6 ⟨rfl, hR6, o6⟩; rw [late_none HF0.out.2.2.2.1] at hR6; have HR6 : Hid (RbAt w6 R r) := hR6; have HB6 : Hid (Below w.heap.size w w6) := Below.only HB5.out o6 HPK.out.1; have HB16 : Hid (Below w1.heap.size w1 w6) := (Bn.only HB15.out o6 (Nat.le_trans HB14.out.size HPP.out)); clear hR6 o6))
      clear cS cC HC5
      have hKo := HR6.out.ok
      have hsd := (Grid.new_some hN).1.1
      have hnm := limited_nums hsd
      obtain ⟨m, hm⟩ : ∃ m, gosM c.turn c.hoist R.ku R.ka R.kv (Grid.movesP c.W c.H G.uses (posR r)) (posR r) a1 1 = m := ⟨_, rfl⟩
      have HL : Hid (Led R.W R.H R.us c.turn c.hoist R.ku R.ka R.kv (posR r) m) := by
        show Led R.W R.H R.us c.turn c.hoist R.ku R.ka R.kv (posR r) m
        rw [← hm, HRW.out.1, HRW.out.2.1, HRW.out.2.2.1]
        exact gos_led (Grid.limited_sides hsd).2.1 (Grid.limited_sides hsd).2.2.2.1 hKo hnm.2.2.2.2.2.2.1 hnm.2.2.2.2.2.2.2.1 hnm.2.2.2.2.2.2.2.2.1 hnm.2.2.2.2.2.2.2.2.2 (home_fits hN HF0.out.2.2.2.2.2.1) a1 1
      obtain ⟨T, hT⟩ : ∃ T, (goT r.nb r.ep (r.lt + 1) m) = T := ⟨_, rfl⟩
      have HT : Hid ((goT r.nb r.ep (r.lt + 1) m) = T) := hT
      have HGO : Hid (∀ u q, Below w.heap.size w u → RcAt u q #[.int .i64 c.W, .int .i64 c.H, .int .i64 c.height, va, vb, (.slice a3 c.robots.length cap3), vd, .int .i64 c.unit, .int .i64 c.accel, .int .i64 c.speed, .int .i64 c.turn, .int .i64 c.hoist, .int .i64 c.queue, .int .i64 c.resend, .int .i64 c.budget, .bool c.back] r 0 false → Calls Tryz.prog 17 #[.agg #[.int .i64 c.W, .int .i64 c.H, .int .i64 c.height, va, vb, (.slice a3 c.robots.length cap3), vd, .int .i64 c.unit, .int .i64 c.accel, .int .i64 c.speed, .int .i64 c.turn, .int .i64 c.hoist, .int .i64 c.queue, .int .i64 c.resend, .int .i64 c.budget, .bool c.back], .pointer (some ⟨q, 0, none⟩), .int .i64 a1, .int .i64 1] u fun e w' => ∃ z, e = .returned z ∧ (z = .agg (tlA T) ∧ Below u.heap.size u w')) := fun u q b hq => by
        have h := gos_any c va vb _ vd u (Grid.old_go HAH.out b) l1 l2 l3 l4 l5 hN R.ku R.ka R.kv hKo HRW.out.2.2.2.1 HRW.out.2.2.2.2.1 HRW.out.2.2.2.2.2 q r 0 false hq (by rw [HF0.out.2.1]; decide) (by rw [HF0.out.2.1]; decide) a1 1
        rw [hm, hT] at h
        exact h
      clear hm hT hsd hnm hKo
      try simp only [Act.put, pA, pB, pC]
      go_cut [9] from 45 to 49 (fun v wx => ∃ g, v = .pointer (some ⟨g, 0, none⟩) ∧ wx.heap[g]? = some (.cells (tlA T) 46 (0, 0)) ∧ w6.heap.size ≤ g ∧ Below w6.heap.size w6 wx)
      case first =>
        refine start_held (S := fun u => Below w6.drew.heap.size w6.drew u) 7 rfl (by kernel_rfl) (Below.refl _ _) ?_
        simp only [Array.replicate_succ, Array.replicate_zero, List.push_toArray, List.nil_append, List.cons_append]
        have hS0 := Below.refl w6.drew.heap.size w6.drew
        have HB0 : Hid (Below w.heap.size w w6.drew) := HB6.out.drew
        have HBX0 : Hid (Below w1.heap.size w1 w6.drew) := HB16.out.drew
        have HD0 : Hid (Below w6.heap.size w6 w6.drew) := (Below.refl _ _).drew
        generalize w6.drew = x0 at *
        refine tk 0 hS0 rfl (v := .agg #[.int .i64 c.W, .int .i64 c.H, .int .i64 c.height, va, vb, (.slice a3 c.robots.length cap3), vd, .int .i64 c.unit, .int .i64 c.accel, .int .i64 c.speed, .int .i64 c.turn, .int .i64 c.hoist, .int .i64 c.queue, .int .i64 c.resend, .int .i64 c.budget, .bool c.back]) ?y5000 ?r5000
        case y5000 => (intro u hu; exact run_load_at 26 _ rfl ⟨w.heap.size, 0, none⟩ rfl _ (HLDu.out _ (bcat HBX0.out hu)))
        simp only [Act.put, pA, pB, pC]
        refine tk 1 hS0 rfl (v := .agg #[.int .i64 c.W, .int .i64 c.H, .int .i64 c.height, va, vb, (.slice a3 c.robots.length cap3), vd, .int .i64 c.unit, .int .i64 c.accel, .int .i64 c.speed, .int .i64 c.turn, .int .i64 c.hoist, .int .i64 c.queue, .int .i64 c.resend, .int .i64 c.budget, .bool c.back]) ?y5001 ?r5001
        case y5001 => (intro u hu; exact run_load_at 26 _ rfl ⟨w.heap.size, 0, none⟩ rfl _ (HLDu.out _ (bcat HBX0.out hu)))
        simp only [Act.put, pA, pB, pC]
        refine tk 3 hS0 rfl (v := ?v5002) ?y5002 ?r5002
        case y5002 => (intro u hu; go_simp; try rfl)
        simp only [Act.put, pA, pB, pC]
        refine wpAnyH_ready (rs := [2, 5]) (by kernel_rfl) (by simp) (AllReadyH.cons ((nth_eq _ 2).trans rfl) ?_ (AllReadyH.cons ((nth_eq _ 5).trans rfl) ?_ AllReadyH.nil))
        · intro K1 hK1
          refine call_in hK1 (by kernel_rfl) 13 #[.agg #[.int .i64 c.W, .int .i64 c.H, .int .i64 c.height, va, vb, (.slice a3 c.robots.length cap3), vd, .int .i64 c.unit, .int .i64 c.accel, .int .i64 c.speed, .int .i64 c.turn, .int .i64 c.hoist, .int .i64 c.queue, .int .i64 c.resend, .int .i64 c.budget, .bool c.back], .int .i64 0] (by go_simp) _ (rc_r c va vb _ vd x0 hr0 r HR0.out (Grid.old_go HAH.out (bcat HB0.out hS0)) (fun _ h => h)) ?_
          rintro y1 x1 ⟨q, rfl, hq1, b1⟩
          have hS1 := hS0.trans (b1.mono hS0.size)
          refine ⟨hS1, ?_⟩
          simp only [Act.put, pA, pB, pC]
          refine wpAnyH_ready (rs := [4, 5]) (by kernel_rfl) (by simp) (AllReadyH.cons ((nth_eq _ 4).trans rfl) ?_ (AllReadyH.cons ((nth_eq _ 5).trans rfl) ?_ AllReadyH.nil))
          · intro K2 hK2
            refine call_in hK2 (by kernel_rfl) 17 #[.agg #[.int .i64 c.W, .int .i64 c.H, .int .i64 c.height, va, vb, (.slice a3 c.robots.length cap3), vd, .int .i64 c.unit, .int .i64 c.accel, .int .i64 c.speed, .int .i64 c.turn, .int .i64 c.hoist, .int .i64 c.queue, .int .i64 c.resend, .int .i64 c.budget, .bool c.back], .pointer (some ⟨q, 0, none⟩), .int .i64 a1, .int .i64 1] (by go_simp) _ (HGO.out x1 q (bcat HB0.out hS1) hq1) ?_
            rintro y2 x2 ⟨rfl, b2⟩
            have hS2 := hS1.trans (b2.mono hS1.size)
            refine ⟨hS2, ?_⟩
            simp only [Act.put, pA, pB, pC]
            refine wpAnyH_ready (rs := [5]) (by kernel_rfl) (by simp) (AllReadyH.cons ((nth_eq _ 5).trans rfl) ?_ AllReadyH.nil)
            intro K3 hK3
            obtain ⟨x3, hx3⟩ : ∃ x, x = x2.alloc (.cells (tlA tl0) 46) := ⟨_, rfl⟩
            have b3 : Below x2.heap.size x2 x3 := by rw [hx3]; exact (Below.refl _ _).alloc (Nat.le_refl _) _
            have hS3 := hS2.trans (b3.mono hS2.size)
            have ha3 : x3.heap[x2.heap.size]? = some (.cells (tlA tl0) 46 (0, 0)) := by rw [hx3]; exact World.alloc_heap_new _ _
            have hl3 := hS2.size
            refine value_in hK3 (by kernel_rfl) (.pointer (some ⟨x2.heap.size, 0, none⟩)) x3 (by rw [hx3]; exact run_alloc_op 46 rfl (tlA tl0) (zeroTele _)) hS3 ?_
            simp only [Act.put, pA, pB, pC]
            refine wpAnyH_ready (rs := [6]) (by kernel_rfl) (by simp) (AllReadyH.cons ((nth_eq _ 6).trans rfl) ?_ AllReadyH.nil)
            intro K4 hK4
            obtain ⟨x4, hx4⟩ : ∃ x, x = x3.setCells x2.heap.size 0 (tlL T) := ⟨_, rfl⟩
            have hS4 : Below x0.heap.size x0 x4 := by rw [hx4]; exact Bn.only hS3 (Only.setCells _ _ _ _) hl3
            have hb4 : x4.heap[x2.heap.size]? = some (.cells (tlA T) 46 (0, 0)) := by rw [hx4, ← tl_put]; exact setCells_same _ _ _ (tlL T) 0 _ _ ha3
            refine skip_in hK4 (by kernel_rfl) x4 (by rw [hx4]; exact run_store_mid_op 46 _ _ rfl x2.heap.size 0 (tlA T) rfl rfl (there_of ha3 0 19 (Nat.le_refl _)) infoTele (tlA_one _)) hS4 ?_
            simp only [Act.put, pA, pB, pC]
            refine done_held (by kernel_rfl) ?_ _
            go_wp2
            go_meet
            exact ⟨_, rfl, hb4, Nat.le_trans HD0.out.size hl3, HD0.out.trans (hS4.mono HD0.out.size)⟩
          · intro K2 hK2
            obtain ⟨x2, hx2⟩ : ∃ x, x = x1.alloc (.cells (tlA tl0) 46) := ⟨_, rfl⟩
            have b2 : Below x1.heap.size x1 x2 := by rw [hx2]; exact (Below.refl _ _).alloc (Nat.le_refl _) _
            have hS2 := hS1.trans (b2.mono hS1.size)
            have ha2 : x2.heap[x1.heap.size]? = some (.cells (tlA tl0) 46 (0, 0)) := by rw [hx2]; exact World.alloc_heap_new _ _
            have hl2 := hS1.size
            have hq2 := hq1.go b2
            refine value_in hK2 (by kernel_rfl) (.pointer (some ⟨x1.heap.size, 0, none⟩)) x2 (by rw [hx2]; exact run_alloc_op 46 rfl (tlA tl0) (zeroTele _)) hS2 ?_
            simp only [Act.put, pA, pB, pC]
            refine wpAnyH_ready (rs := [4]) (by kernel_rfl) (by simp) (AllReadyH.cons ((nth_eq _ 4).trans rfl) ?_ AllReadyH.nil)
            intro K3 hK3
            refine call_in hK3 (by kernel_rfl) 17 #[.agg #[.int .i64 c.W, .int .i64 c.H, .int .i64 c.height, va, vb, (.slice a3 c.robots.length cap3), vd, .int .i64 c.unit, .int .i64 c.accel, .int .i64 c.speed, .int .i64 c.turn, .int .i64 c.hoist, .int .i64 c.queue, .int .i64 c.resend, .int .i64 c.budget, .bool c.back], .pointer (some ⟨q, 0, none⟩), .int .i64 a1, .int .i64 1] (by go_simp) _ (HGO.out x2 q (bcat HB0.out hS2) hq2) ?_
            rintro y3 x3 ⟨rfl, b3⟩
            have hS3 := hS2.trans (b3.mono hS2.size)
            have ha3 := (b3.block _ (Array.getElem?_eq_some_iff.1 ha2).1).trans ha2
            refine ⟨hS3, ?_⟩
            simp only [Act.put, pA, pB, pC]
            refine wpAnyH_ready (rs := [6]) (by kernel_rfl) (by simp) (AllReadyH.cons ((nth_eq _ 6).trans rfl) ?_ AllReadyH.nil)
            intro K4 hK4
            obtain ⟨x4, hx4⟩ : ∃ x, x = x3.setCells x1.heap.size 0 (tlL T) := ⟨_, rfl⟩
            have hS4 : Below x0.heap.size x0 x4 := by rw [hx4]; exact Bn.only hS3 (Only.setCells _ _ _ _) hl2
            have hb4 : x4.heap[x1.heap.size]? = some (.cells (tlA T) 46 (0, 0)) := by rw [hx4, ← tl_put]; exact setCells_same _ _ _ (tlL T) 0 _ _ ha3
            refine skip_in hK4 (by kernel_rfl) x4 (by rw [hx4]; exact run_store_mid_op 46 _ _ rfl x1.heap.size 0 (tlA T) rfl rfl (there_of ha3 0 19 (Nat.le_refl _)) infoTele (tlA_one _)) hS4 ?_
            simp only [Act.put, pA, pB, pC]
            refine done_held (by kernel_rfl) ?_ _
            go_wp2
            go_meet
            exact ⟨_, rfl, hb4, Nat.le_trans HD0.out.size hl2, HD0.out.trans (hS4.mono HD0.out.size)⟩
        · intro K1 hK1
          obtain ⟨x1, hx1⟩ : ∃ x, x = x0.alloc (.cells (tlA tl0) 46) := ⟨_, rfl⟩
          have b1 : Below x0.heap.size x0 x1 := by rw [hx1]; exact (Below.refl _ _).alloc (Nat.le_refl _) _
          have hS1 := hS0.trans (b1.mono hS0.size)
          have ha1 : x1.heap[x0.heap.size]? = some (.cells (tlA tl0) 46 (0, 0)) := by rw [hx1]; exact World.alloc_heap_new _ _
          have hl1 := hS0.size
          refine value_in hK1 (by kernel_rfl) (.pointer (some ⟨x0.heap.size, 0, none⟩)) x1 (by rw [hx1]; exact run_alloc_op 46 rfl (tlA tl0) (zeroTele _)) hS1 ?_
          simp only [Act.put, pA, pB, pC]
          refine wpAnyH_ready (rs := [2]) (by kernel_rfl) (by simp) (AllReadyH.cons ((nth_eq _ 2).trans rfl) ?_ AllReadyH.nil)
          intro K2 hK2
          refine call_in hK2 (by kernel_rfl) 13 #[.agg #[.int .i64 c.W, .int .i64 c.H, .int .i64 c.height, va, vb, (.slice a3 c.robots.length cap3), vd, .int .i64 c.unit, .int .i64 c.accel, .int .i64 c.speed, .int .i64 c.turn, .int .i64 c.hoist, .int .i64 c.queue, .int .i64 c.resend, .int .i64 c.budget, .bool c.back], .int .i64 0] (by go_simp) _ (rc_r c va vb _ vd x1 hr0 r HR0.out (Grid.old_go HAH.out (bcat HB0.out hS1)) (fun _ h => h)) ?_
          rintro y2 x2 ⟨q, rfl, hq2, b2⟩
          have hS2 := hS1.trans (b2.mono hS1.size)
          have ha2 := (b2.block _ (Array.getElem?_eq_some_iff.1 ha1).1).trans ha1
          refine ⟨hS2, ?_⟩
          simp only [Act.put, pA, pB, pC]
          refine wpAnyH_ready (rs := [4]) (by kernel_rfl) (by simp) (AllReadyH.cons ((nth_eq _ 4).trans rfl) ?_ AllReadyH.nil)
          intro K3 hK3
          refine call_in hK3 (by kernel_rfl) 17 #[.agg #[.int .i64 c.W, .int .i64 c.H, .int .i64 c.height, va, vb, (.slice a3 c.robots.length cap3), vd, .int .i64 c.unit, .int .i64 c.accel, .int .i64 c.speed, .int .i64 c.turn, .int .i64 c.hoist, .int .i64 c.queue, .int .i64 c.resend, .int .i64 c.budget, .bool c.back], .pointer (some ⟨q, 0, none⟩), .int .i64 a1, .int .i64 1] (by go_simp) _ (HGO.out x2 q (bcat HB0.out hS2) hq2) ?_
          rintro y3 x3 ⟨rfl, b3⟩
          have hS3 := hS2.trans (b3.mono hS2.size)
          have ha3 := (b3.block _ (Array.getElem?_eq_some_iff.1 ha2).1).trans ha2
          refine ⟨hS3, ?_⟩
          simp only [Act.put, pA, pB, pC]
          refine wpAnyH_ready (rs := [6]) (by kernel_rfl) (by simp) (AllReadyH.cons ((nth_eq _ 6).trans rfl) ?_ AllReadyH.nil)
          intro K4 hK4
          obtain ⟨x4, hx4⟩ : ∃ x, x = x3.setCells x0.heap.size 0 (tlL T) := ⟨_, rfl⟩
          have hS4 : Below x0.heap.size x0 x4 := by rw [hx4]; exact Bn.only hS3 (Only.setCells _ _ _ _) hl1
          have hb4 : x4.heap[x0.heap.size]? = some (.cells (tlA T) 46 (0, 0)) := by rw [hx4, ← tl_put]; exact setCells_same _ _ _ (tlL T) 0 _ _ ha3
          refine skip_in hK4 (by kernel_rfl) x4 (by rw [hx4]; exact run_store_mid_op 46 _ _ rfl x0.heap.size 0 (tlA T) rfl rfl (there_of ha3 0 19 (Nat.le_refl _)) infoTele (tlA_one _)) hS4 ?_
          simp only [Act.put, pA, pB, pC]
          refine done_held (by kernel_rfl) ?_ _
          go_wp2
          go_meet
          exact ⟨_, rfl, hb4, Nat.le_trans HD0.out.size hl1, HD0.out.trans (hS4.mono HD0.out.size)⟩
      case rest =>
      obtain ⟨g, rfl, hg, hgl, bc⟩ := hcut
      have HG : Hid (wc.heap[g]? = some (.cells (tlA T) 46 (0, 0))) := hg
      have HRc : Hid (RbAt wc R r) := HR6.out.go bc
      have HBc : Hid (Below w.heap.size w wc) := bcat HB6.out bc
      have HBc1 : Hid (Below w1.heap.size w1 wc) := bcat HB16.out bc
      have HGP : Hid (g ≠ R.p ∧ g ≠ R.k) := ⟨Ne.symm (Nat.ne_of_lt (Nat.lt_of_lt_of_le HR6.out.plt hgl)), Ne.symm (Nat.ne_of_lt (Nat.lt_of_lt_of_le HR6.out.klt hgl))⟩
      clear hg hgl bc HGO HR6
      obtain ⟨r1, hr1⟩ : ∃ r1, begun r T = r1 := ⟨_, rfl⟩
      have HR1 : Hid (begun r T = r1) := hr1
      have hq : hearL R r T = none ∧ hearR R r T = r1 ∧ hearH R r T = 1 := by
        have h := led_hear HL.out HF0.out.2.2.2.1
        rw [HT.out, hr1] at h
        exact h
      clear hr1
      obtain ⟨L, hL⟩ : ∃ L, m.me - m.ma = L := ⟨_, rfl⟩
      have hLb : 1 ≤ L ∧ L ≤ 16000 := by have h1 := HL.out.en; have h2 := HL.out.l1; have h3 := HL.out.l2; omega
      have hwL : IntKind.i64.wrap (m.me - m.ma) = L := by rw [IntKind.wrap_i64]; omega
      have HLL : Hid (m.me - m.ma = L) := hL
      clear hL
      go_upto_region 11 with (first
            | (refine wpList_load_at rfl 46 (.tmp 9) rfl ⟨g, 0, none⟩ rfl (tlA T) (load_tele HG.out) ?_)
            | (go_at_call 22; refine (hear_at HRc.out (n := 0) (by decide) HF0.out.2.2.2.2.1 hq.1 hq.2.1 hq.2.2).mono ?_; rintro e w8 ⟨v, rfl, lv, hR8, T8⟩; have hv : v = .slice none 0 0 := lv; subst hv; have HD8 : Hid (Dl w R g T m 0 0 0 (m.me - m.ma) w8 r1) := (by have d := Dl.begun HBc.out T8 HL.out HF0.out.2.2.2.1 (by decide : (0 : Int) ≤ 0) HF0.out.1 HF0.out.2.2.2.2.1 (by rw [HT.out, HR1.out]; exact hR8) (by rw [HT.out]; exact HG.out) HGP.out.1 HGP.out.2 HPK.out.1 HPK.out.2; rw [HT.out, HR1.out, HF0.out.2.1, HF0.out.2.2.1] at d; exact d); have HT8 : Hid (Tn R wc w8) := T8; clear hR8 T8 lv))
      have k14 : w8.cell? ⟨g, 14, none⟩ = some (.int .i64 m.me) := (tl_me HD8.out.tl).trans (by rw [← HT.out]; rfl)
      have k13 : w8.cell? ⟨g, 13, none⟩ = some (.int .i64 m.ma) := (tl_ma HD8.out.tl).trans (by rw [← HT.out]; rfl)
      go_wp2_with fail
      clear k14 k13 hwL
      go_loopw [12, 13] (fun v i wr => ∃ (k : Nat) (rr : Rb) (V : Int), v = .int .i64 V ∧ i = .int .i64 k ∧ k ≤ n ∧ Dl w R g T m 0 0 0 V wr rr ∧ rr.la ≤ 30 * k ∧ 1 ≤ V ∧ V ≤ 16000 + 30 * k) (fun _ i _ => n - (intOf i).toNat)
      case atStart => exact ⟨0, r1, L, rfl, rfl, by omega, by rw [← HLL.out]; exact HD8.out, by rw [← HR1.out]; exact Int.le_refl _, hLb.1, by omega⟩
      case round =>
        clear hLb HD8 HLL
        obtain ⟨k, rr, V, rfl, rfl, hk, hD, hla, hv1, hv2⟩ := hrel
        have HDK : Hid (Dl w R g T m 0 0 0 V wr rr) := hD
        clear hD
        by_cases hin : k < n
        · have g1 : (k : Int) < (n : Int) := by have := HNN.out; omega
          have g2 : (k : Int) < 8 := by have := HNN.out; omega
          obtain ⟨p, rfl, hld⟩ := HIn.out wr HDK.out.bel k (by have := HNN.out; omega)
          obtain ⟨z, hz⟩ : ∃ z, zs k = z := ⟨_, rfl⟩
          rw [hz] at hld
          have pz := place_bd z 30 (by decide)
          have cP := fun w => place_any z 30 w (by decide) (by decide)
          obtain ⟨d, hd⟩ : ∃ d, place z 30 - 4 = d := ⟨_, rfl⟩
          have hw1 : IntKind.i64.wrap (place z 30 - 4) = d := by rw [IntKind.wrap_i64]; omega
          have HDB : Hid (d ≤ 30 ∧ -4 ≤ d) := ⟨by omega, by omega⟩
          obtain ⟨V2, hV2⟩ : ∃ V2, V + max 0 d = V2 := ⟨_, rfl⟩
          have hw2 : IntKind.i64.wrap (V + max 0 d) = V2 := by rw [IntKind.wrap_i64]; omega
          have HV2 : Hid (V + max 0 d = V2) := hV2
          have hv3 : V ≤ V2 ∧ V2 ≤ V + 30 := by omega
          have h0 := HDK.out.ok.la0
          clear hz hd pz hV2
          go_wp2_with (first
            | (go_at_call 18; refine (cP _).mono ?_; rintro e yp ⟨rfl, hyp⟩; rw [hyp]; clear hyp)
            | (go_at_call 24; refine (delay_any HDK.out.rb d h0 HDK.out.ok.la1).mono ?_; rintro e x2 ⟨rfl, hR2, o2⟩; have HX2 : Hid (Dl w R g T m 0 0 0 V2 x2 (lateR rr d)) := (by rw [← HV2.out]; exact HDK.out.late d (by have := HDB.out; omega) (by omega) hR2 o2); clear hR2 o2))
          go_roundw
          case rel => exact ⟨k + 1, lateR rr d, V2, by first | rfl | exact congrArg (Value.int IntKind.i64) hw2, by go_num, by omega, HX2.out, by have := late_la HDK.out.ok d HDB.out.1; omega, by omega, by omega⟩
          case measure => simp [intOf]; omega
        · have g1 : ¬ (k : Int) < (n : Int) := by have := HNN.out; omega
          skip
          have hvb : V ≤ 20000 := by have := HNN.out; omega
          clear hin hla hk
          clear hv2
          go_upto_region 19 with fail
          go_loopw [15] (fun i wr => ∃ (k : Nat) (rr : Rb), i = .int .i64 k ∧ 1 ≤ k ∧ (k : Int) ≤ V ∧ Dl w R g T m 0 ((k : Int) - 1) 0 (V - ((k : Int) - 1)) wr rr) (fun i _ => V.toNat - (intOf i).toNat)
          case atStart => exact ⟨1, rr, rfl, by omega, by omega, by have := HDK.out; simpa using this⟩
          case round =>
            clear HDK g1 
            obtain ⟨k, rr, rfl, hk1, hkV, hD⟩ := hrel
            have HDK : Hid (Dl w R g T m 0 ((k : Int) - 1) 0 (V - ((k : Int) - 1)) wr rr) := hD
            have cT := tick_any hD.rb (n := (k : Int) - 1) (by omega) hD.ok
            clear hD
            by_cases hin : (k : Int) < V
            · rw [(HDK.out.how (by omega)).1, (HDK.out.how (by omega)).2] at cT
              go_wp2_with (first
                | (go_at_call 19; refine cT.mono ?_; rintro e x6 ⟨rfl, hR6, T6⟩; clear cT; have HX6 : Hid (Dl w R g T m 0 ((k : Int) - 1 + 1) 0 (V - ((k : Int) - 1) - 1) x6 (tickR rr)) := HDK.out.tick (by omega) (by omega) hR6 T6; obtain ⟨x7, hx7⟩ : ∃ y, y = x6.alloc (.cells (mvA mv0) 44) := ⟨_, rfl⟩; have d7 : Below x6.heap.size x6 x7 := (by rw [hx7]; exact (Below.refl _ _).alloc (Nat.le_refl _) _); have HM7 : Hid (x7.heap[x6.heap.size]? = some (.cells (mvA mv0) 44 (0, 0))) := (by rw [hx7]; exact World.alloc_heap_new _ _); have HD7 : Hid (Below x6.heap.size x6 x7) := d7; clear d7 hR6 T6)
                | (refine wpList_new rfl rfl 44 16 (.tmp 96) rfl rfl rfl rfl (mvA mv0) (mvA mv0) (zeroMove _) rfl rfl infoMove rfl (mvA_one _) ?_; rw [← hx7]; clear hx7))
              go_roundw
              case rel => exact ⟨k + 1, tickR rr, by go_num, by omega, by omega, by have := HX6.out.go HD7.out; rwa [show (k : Int) - 1 + 1 = ((k + 1 : Nat) : Int) - 1 by omega, show V - ((k : Int) - 1) - 1 = V - (((k + 1 : Nat) : Int) - 1) by omega] at this⟩
              case measure => simp [intOf]; omega
            · have ql := HDK.out.last (by omega)
              rw [ql.1, ql.2.1, ql.2.2.1] at cT
              have HQ : Hid (tellP (ended rr) = tlG 3 0 1) := by
                show tellP (ended rr) = tlG 3 0 1
                rw [tell_ack (by rw [ql.2.2.2.1]; decide)]
                unfold ackP tlG
                rw [ql.2.2.2.1, ql.2.2.2.2.1, ql.2.2.2.2.2.1]
                rfl
              clear ql hkV hk1
              go_upto_region 26 with (first
                | (go_at_call 19; refine cT.mono ?_; rintro e z6 ⟨rfl, hR6, T6⟩; clear cT; have HX6 : Hid (RbAt z6 R (ended rr) ∧ Below w.heap.size w z6 ∧ z6.heap[g]? = some (.cells (tlA T) 46 (0, 0))) := ⟨hR6, bel_tn HDK.out.bel T6 HPK.out.1 HPK.out.2 HDK.out.bel.size, (T6.block _ HDK.out.gl HGP.out.1 HGP.out.2).trans HDK.out.tl⟩; have cTl := tell_any (hR6.go (Below.refl _ _)); obtain ⟨z7, hz7⟩ : ∃ y, y = z6.alloc (.cells (mvA m) 44) := ⟨_, rfl⟩; have d7 : Below z6.heap.size z6 z7 := (by rw [hz7]; exact (Below.refl _ _).alloc (Nat.le_refl _) _); have HM7 : Hid (z7.heap[z6.heap.size]? = some (.cells (mvA m) 44 (0, 0))) := (by rw [hz7]; exact World.alloc_heap_new _ _); have HD7 : Hid (Below z6.heap.size z6 z7) := d7; clear d7 hR6 T6)
                | (refine wpList_new rfl rfl 44 18 (.tmp 103) rfl rfl rfl rfl (mvA mv0) (mvA m) (zeroMove _) rfl rfl infoMove rfl (mvA_one _) ?_; rw [← hz7]; clear hz7)
                | (go_at_call 26; refine (tell_any (HX6.out.1.go HD7.out)).mono ?_; rintro e z8 ⟨v8, rfl, lv8, b8⟩; rw [HQ.out] at lv8; have HLV : Hid (LsAt z7.heap.size z8 v8 (some (tlG 3 0 1))) := lv8; have HB8 : Hid (Below z6.heap.size z6 z8) := bcat HD7.out b8; have HM8 : Hid (z8.heap[z6.heap.size]? = some (.cells (mvA m) 44 (0, 0))) := (b8.block _ (Array.getElem?_eq_some_iff.1 HM7.out).1).trans HM7.out; clear lv8 b8))
              obtain ⟨gb, rfl, hgb, hgb2⟩ := HLV.out
              have HGB : Hid (z8.heap[gb]? = some (.cells (tlA (tlG 3 0 1)) 46 (0, 0))) := hgb2
              have HTM : Hid ((loadVar 44 ⟨g, 4, none⟩).run Tryz.prog z8 = .ok (.agg (mvA m)) z8) := (by have h := tl_move (t := T) (w := z8) ((HB8.out.block _ (Array.getElem?_eq_some_iff.1 HX6.out.2.2).1).trans HX6.out.2.2); rw [show tmv T = m by rw [← HT.out]; rfl] at h; exact h)
              have hBE : Hid (Below w.heap.size w z8) := bcat HX6.out.2.1 HB8.out
              clear hgb hgb2 HLV
              go_wp2_with (first
                | (refine wpList_load_at rfl 44 (.tmp 18) rfl ⟨z6.heap.size, 0, none⟩ rfl (mvA m) (mv_all HM8.out) ?_)
                | (refine wpList_load_at rfl 44 (.tmp 108) rfl ⟨g, 4, none⟩ rfl (mvA m) HTM.out ?_)
                | (refine wpList_eql_agg (by kernel_rfl) 44 (.tmp 107) (.tmp 109) rfl gMv (mvA m) (mvA m) true rfl rfl (eqMv_self m _) ?_)
                | (refine wpList_load_w (by kernel_rfl) 46 (.tmp 122) rfl ⟨gb, 0, none⟩ rfl (tlA (tlG 3 0 1)) (load_tele HGB.out) ?_)
                | (refine wpList_buildW (by kernel_rfl) 46 _ rfl (tlA (tlG 3 0 1)) _ rfl built_ack1 ?_)
                | (refine wpList_eql_agg (by kernel_rfl) 46 (.tmp 123) (.tmp 124) rfl gTl (tlA (tlG 3 0 1)) (tlA (tlG 3 0 1)) true rfl rfl (eqTele_self _ _) ?_)
                | (go_at_call 12; refine (awake18_any _).mono ?_; rintro e w9 ⟨rfl, b9⟩))
              go_ret
              exact ⟨rfl, bcat hBE.out b9⟩
set_option maxRecDepth 100000 in
set_option maxHeartbeats 8000000 in
theorem delays_many (c : Grid.Conf) (va vb vc vd : Value) (w : World) (hA : Grid.ConfAt (Grid.Old w) c va vb vc vd w) (l1 : c.blocked.length ≤ 8796093022208) (l2 : c.ports.length ≤ 8796093022208) (l3 : c.robots.length ≤ 5864062014805) (l4 : c.stacks.length ≤ 3518437208880) (l5 : ∀ s ∈ c.stacks, s.2.length ≤ 17592186044416) (a1 : Int) (a : Option Addr) (n cap : Nat) (zs : Nat → Int) (hZ : InI w a n zs) (hn : 8 < n) :
    Calls Tryz.prog 7 #[.agg #[.int .i64 c.W, .int .i64 c.H, .int .i64 c.height, va, vb, vc, vd, .int .i64 c.unit, .int .i64 c.accel, .int .i64 c.speed, .int .i64 c.turn, .int .i64 c.hoist, .int .i64 c.queue, .int .i64 c.resend, .int .i64 c.budget, .bool c.back], .int .i64 a1, .slice a n cap] w fun e w' => e = .returned (.bool true) ∧ Below w.heap.size w w' := by
  have HIn : Hid (∀ u, Below w.heap.size w u → InI u a n zs) := fun u hu => hZ.go hu
  have HNN : Hid (8 < n) := hn
  clear hZ hn
  have hO : ∀ b, Grid.Old w b → b < w.heap.size := fun b h => h
  obtain ⟨a3, cap3, hv3, _⟩ := hA.r.form
  subst hv3
  have HAH : Hid (Grid.ConfAt (Grid.Old w) c va vb (.slice a3 c.robots.length cap3) vd w) := hA
  obtain ⟨w1, hw1⟩ : ∃ w1, w1 = w.alloc (.cells #[.int .i64 c.W, .int .i64 c.H, .int .i64 c.height, va, vb, (.slice a3 c.robots.length cap3), vd, .int .i64 c.unit, .int .i64 c.accel, .int .i64 c.speed, .int .i64 c.turn, .int .i64 c.hoist, .int .i64 c.queue, .int .i64 c.resend, .int .i64 c.budget, .bool c.back] 26) := ⟨_, rfl⟩
  have b1 : Below w.heap.size w w1 := by rw [hw1]; exact (Below.refl _ _).alloc (Nat.le_refl _) _
  have hc1 : w1.heap[w.heap.size]? = some (.cells #[.int .i64 c.W, .int .i64 c.H, .int .i64 c.height, va, vb, (.slice a3 c.robots.length cap3), vd, .int .i64 c.unit, .int .i64 c.accel, .int .i64 c.speed, .int .i64 c.turn, .int .i64 c.hoist, .int .i64 c.queue, .int .i64 c.resend, .int .i64 c.budget, .bool c.back] 26 (0, 0)) := by rw [hw1]; exact World.alloc_heap_new _ _
  have HB1 : Hid (Below w.heap.size w w1) := b1
  have HC1 : Hid (∀ u, Below w1.heap.size w1 u → u.heap[w.heap.size]? = some (.cells #[.int .i64 c.W, .int .i64 c.H, .int .i64 c.height, va, vb, (.slice a3 c.robots.length cap3), vd, .int .i64 c.unit, .int .i64 c.accel, .int .i64 c.speed, .int .i64 c.turn, .int .i64 c.hoist, .int .i64 c.queue, .int .i64 c.resend, .int .i64 c.budget, .bool c.back] 26 (0, 0))) := fun u b => (b.block _ (Array.getElem?_eq_some_iff.1 hc1).1).trans hc1
  have HC5 : Hid (∀ u, Below w1.heap.size w1 u → u.cell? ⟨w.heap.size, 5, none⟩ = some (.slice a3 c.robots.length cap3)) := fun u b => (cell_of' (HC1.out u b) 5).trans rfl
  have HLDu : Hid (∀ u, Below w1.heap.size w1 u → (loadVar 26 ⟨w.heap.size, 0, none⟩).run Tryz.prog u = .ok (.agg #[.int .i64 c.W, .int .i64 c.H, .int .i64 c.height, va, vb, (.slice a3 c.robots.length cap3), vd, .int .i64 c.unit, .int .i64 c.accel, .int .i64 c.speed, .int .i64 c.turn, .int .i64 c.hoist, .int .i64 c.queue, .int .i64 c.resend, .int .i64 c.budget, .bool c.back]) u) := fun u b => load_row_of (HC1.out u b) (Grid.aggConf _) Grid.info_conf
  have cS := Dig.small_any (Grid.Old w) c va vb _ vd w1 (hA.go hO b1) (fun b hb => Nat.lt_of_lt_of_le (hO b hb) b1.size) l1 l2 l3 l4 l5
  have cC := fun u (b : Below w.heap.size w u) => Grid.copyConf_any (Grid.Old w) c va vb _ vd u (hA.go hO b) (fun q hq => Nat.lt_of_lt_of_le (hO q hq) b.size) l1 l2 l3 l4 l5
  clear hA b1 hc1
  cases hsm : (Dig.smallN c && (Grid.newP c).isSome) with
  | false =>
    rw [hsm] at cS
    go_enter Tryz.func7, Tryz.ntmps7
    go_wp2_with (first | (refine wpList_boxAt rfl 26 (.tmp 0) rfl #[.int .i64 c.W, .int .i64 c.H, .int .i64 c.height, va, vb, (.slice a3 c.robots.length cap3), vd, .int .i64 c.unit, .int .i64 c.accel, .int .i64 c.speed, .int .i64 c.turn, .int .i64 c.hoist, .int .i64 c.queue, .int .i64 c.resend, .int .i64 c.budget, .bool c.back] rfl ?_; rw [← hw1]; clear hw1) | (refine wpList_load_at rfl 26 (.tmp 3) rfl ⟨w.heap.size, 0, none⟩ rfl #[.int .i64 c.W, .int .i64 c.H, .int .i64 c.height, va, vb, (.slice a3 c.robots.length cap3), vd, .int .i64 c.unit, .int .i64 c.accel, .int .i64 c.speed, .int .i64 c.turn, .int .i64 c.hoist, .int .i64 c.queue, .int .i64 c.resend, .int .i64 c.budget, .bool c.back] (HLDu.out _ (Below.refl _ _)) ?_) | (go_at_call 16; refine cS.mono ?_; rintro e w3 ⟨rs, rfl, rfl, b3⟩; have HB3 : Hid (Below w1.heap.size w1 w3) := b3; have k5 := HC5.out _ b3) | (go_at_call 12; refine (awake18_any _).mono ?_; rintro e w9 ⟨rfl, b9⟩))
    go_ret
    exact ⟨rfl, bcat (bcat HB1.out HB3.out) b9⟩
  | true =>
    rw [hsm] at cS
    obtain ⟨G, hN⟩ : ∃ G, Grid.newP c = some G := by
      cases h : Grid.newP c with
      | none => rw [h] at hsm; simp at hsm
      | some G => exact ⟨G, rfl⟩
    clear hsm
    by_cases h0 : c.robots.length = 0
    · have q0 : ((c.robots.length : Int) == 0) = true := by rw [beq_iff_eq]; omega
      clear h0
      go_enter Tryz.func7, Tryz.ntmps7
      go_wp2_with (first | (refine wpList_boxAt rfl 26 (.tmp 0) rfl #[.int .i64 c.W, .int .i64 c.H, .int .i64 c.height, va, vb, (.slice a3 c.robots.length cap3), vd, .int .i64 c.unit, .int .i64 c.accel, .int .i64 c.speed, .int .i64 c.turn, .int .i64 c.hoist, .int .i64 c.queue, .int .i64 c.resend, .int .i64 c.budget, .bool c.back] rfl ?_; rw [← hw1]; clear hw1) | (refine wpList_load_at rfl 26 (.tmp 3) rfl ⟨w.heap.size, 0, none⟩ rfl #[.int .i64 c.W, .int .i64 c.H, .int .i64 c.height, va, vb, (.slice a3 c.robots.length cap3), vd, .int .i64 c.unit, .int .i64 c.accel, .int .i64 c.speed, .int .i64 c.turn, .int .i64 c.hoist, .int .i64 c.queue, .int .i64 c.resend, .int .i64 c.budget, .bool c.back] (HLDu.out _ (Below.refl _ _)) ?_) | (go_at_call 16; refine cS.mono ?_; rintro e w3 ⟨rs, rfl, rfl, b3⟩; have HB3 : Hid (Below w1.heap.size w1 w3) := b3; have k5 := HC5.out _ b3) | (go_at_call 12; refine (awake18_any _).mono ?_; rintro e w9 ⟨rfl, b9⟩))
      go_ret
      exact ⟨rfl, bcat (bcat HB1.out HB3.out) b9⟩
    · have q0 : ((c.robots.length : Int) == 0) = false := by rw [beq_eq_false_iff_ne]; omega
      have hr0 : 0 < c.robots.length := by omega
      clear h0
      obtain ⟨r, hr⟩ : ∃ r, firstR 0 (c.robots[0]'hr0).1.1 (c.robots[0]'hr0).1.2 (c.robots[0]'hr0).2 = r := ⟨_, rfl⟩
      have HR0 : Hid (firstR 0 (c.robots[0]'hr0).1.1 (c.robots[0]'hr0).1.2 (c.robots[0]'hr0).2 = r) := hr
      clear hr
      have HF0 : Hid (r.nb = 0 ∧ r.lt = 0 ∧ r.ep = 0 ∧ under r = false ∧ OkR 0 r ∧ posR r ∈ c.robots ∧ posR r = c.robots[0]'hr0) := first_facts c hr0 r HR0.out
      go_enter Tryz.func7, Tryz.ntmps7
      go_upto_region 7 with (first
      | (refine wpList_boxAt rfl 26 (.tmp 0) rfl #[.int .i64 c.W, .int .i64 c.H, .int .i64 c.height, va, vb, (.slice a3 c.robots.length cap3), vd, .int .i64 c.unit, .int .i64 c.accel, .int .i64 c.speed, .int .i64 c.turn, .int .i64 c.hoist, .int .i64 c.queue, .int .i64 c.resend, .int .i64 c.budget, .bool c.back] rfl ?_; rw [← hw1]; clear hw1)
      | (have X3 := HB3; refine wpList_load_at rfl 26 (.tmp 3) rfl ⟨w.heap.size, 0, none⟩ rfl #[.int .i64 c.W, .int .i64 c.H, .int .i64 c.height, va, vb, (.slice a3 c.robots.length cap3), vd, .int .i64 c.unit, .int .i64 c.accel, .int .i64 c.speed, .int .i64 c.turn, .int .i64 c.hoist, .int .i64 c.queue, .int .i64 c.resend, .int .i64 c.budget, .bool c.back] (HLDu.out _ HB3.out) ?_)
      | (refine wpList_load_at rfl 26 (.tmp 3) rfl ⟨w.heap.size, 0, none⟩ rfl #[.int .i64 c.W, .int .i64 c.H, .int .i64 c.height, va, vb, (.slice a3 c.robots.length cap3), vd, .int .i64 c.unit, .int .i64 c.accel, .int .i64 c.speed, .int .i64 c.turn, .int .i64 c.hoist, .int .i64 c.queue, .int .i64 c.resend, .int .i64 c.budget, .bool c.back] (HLDu.out _ (Below.refl _ _)) ?_)
      | (go_at_call 16; refine cS.mono ?_; rintro e w3 ⟨rs, rfl, rfl, b3⟩; have HB3 : Hid (Below w1.heap.size w1 w3) := b3; have k5 := HC5.out _ b3)
      | (go_at_call 10; refine (cC _ (bcat HB1.out HB3.out)).mono ?_; rintro e w4 ⟨rc, rfl, ⟨k1, k2, k3, k4, rfl, hC4⟩, b4⟩; have HB4 : Hid (Below w.heap.size w w4) := bcat (bcat HB1.out HB3.out) b4; have HB14 : Hid (Below w1.heap.size w1 w4) := bcat HB3.out b4; have HC4 : Hid (Grid.ConfAt (Grid.Since w3.heap.size w4) c k1 k2 k3 k4 w4) := hC4; clear hC4 b4)
      | (go_at_call 9; refine (new_r c _ _ _ _ _ hN hr0 r HR0.out HC4.out Grid.since_lt l1 l2 l3 l4).mono ?_; rintro e w5 ⟨R, rfl, hR, hp, hk, hRW, b5⟩; have HPK : Hid (w.heap.size ≤ R.p ∧ w.heap.size ≤ R.k) := ⟨Nat.le_trans HB4.out.size hp, Nat.le_trans HB4.out.size hk⟩; have HR5 : Hid (RbAt w5 R r) := hR; have HRW : Hid (R.W = c.W ∧ R.H = c.H ∧ R.us = G.uses ∧ (R.ku : Int) = c.unit ∧ (R.ka : Int) = c.accel ∧ (R.kv : Int) = c.speed) := hRW; have HB5 : Hid (Below w.heap.size w w5) := bcat HB4.out b5; have HB15 : Hid (Below w1.heap.size w1 w5) := bcat HB14.out b5; have HPP : Hid (w4.heap.size ≤ R.p) := hp; clear b5 hp hk HC4 hR hRW)
      | (go_at_call 24; refine (delay_any HR5.out 50 HF0.out.2.2.2.2.1.la0 HF0.out.2.2.2.2.1.la1).mono ?_; rintro e w6 ⟨rfl, hR6, o6⟩; rw [late_none HF0.out.2.2.2.1] at hR6; have HR6 : Hid (RbAt w6 R r) := hR6; have HB6 : Hid (Below w.heap.size w w6) := Below.only HB5.out o6 HPK.out.1; have HB16 : Hid (Below w1.heap.size w1 w6) := (Bn.only HB15.out o6 (Nat.le_trans HB14.out.size HPP.out)); clear hR6 o6))
      clear cS cC HC5
      have hKo := HR6.out.ok
      have hsd := (Grid.new_some hN).1.1
      have hnm := limited_nums hsd
      obtain ⟨m, hm⟩ : ∃ m, gosM c.turn c.hoist R.ku R.ka R.kv (Grid.movesP c.W c.H G.uses (posR r)) (posR r) a1 1 = m := ⟨_, rfl⟩
      have HL : Hid (Led R.W R.H R.us c.turn c.hoist R.ku R.ka R.kv (posR r) m) := by
        show Led R.W R.H R.us c.turn c.hoist R.ku R.ka R.kv (posR r) m
        rw [← hm, HRW.out.1, HRW.out.2.1, HRW.out.2.2.1]
        exact gos_led (Grid.limited_sides hsd).2.1 (Grid.limited_sides hsd).2.2.2.1 hKo hnm.2.2.2.2.2.2.1 hnm.2.2.2.2.2.2.2.1 hnm.2.2.2.2.2.2.2.2.1 hnm.2.2.2.2.2.2.2.2.2 (home_fits hN HF0.out.2.2.2.2.2.1) a1 1
      obtain ⟨T, hT⟩ : ∃ T, (goT r.nb r.ep (r.lt + 1) m) = T := ⟨_, rfl⟩
      have HT : Hid ((goT r.nb r.ep (r.lt + 1) m) = T) := hT
      have HGO : Hid (∀ u q, Below w.heap.size w u → RcAt u q #[.int .i64 c.W, .int .i64 c.H, .int .i64 c.height, va, vb, (.slice a3 c.robots.length cap3), vd, .int .i64 c.unit, .int .i64 c.accel, .int .i64 c.speed, .int .i64 c.turn, .int .i64 c.hoist, .int .i64 c.queue, .int .i64 c.resend, .int .i64 c.budget, .bool c.back] r 0 false → Calls Tryz.prog 17 #[.agg #[.int .i64 c.W, .int .i64 c.H, .int .i64 c.height, va, vb, (.slice a3 c.robots.length cap3), vd, .int .i64 c.unit, .int .i64 c.accel, .int .i64 c.speed, .int .i64 c.turn, .int .i64 c.hoist, .int .i64 c.queue, .int .i64 c.resend, .int .i64 c.budget, .bool c.back], .pointer (some ⟨q, 0, none⟩), .int .i64 a1, .int .i64 1] u fun e w' => ∃ z, e = .returned z ∧ (z = .agg (tlA T) ∧ Below u.heap.size u w')) := fun u q b hq => by
        have h := gos_any c va vb _ vd u (Grid.old_go HAH.out b) l1 l2 l3 l4 l5 hN R.ku R.ka R.kv hKo HRW.out.2.2.2.1 HRW.out.2.2.2.2.1 HRW.out.2.2.2.2.2 q r 0 false hq (by rw [HF0.out.2.1]; decide) (by rw [HF0.out.2.1]; decide) a1 1
        rw [hm, hT] at h
        exact h
      clear hm hT hsd hnm hKo
      try simp only [Act.put, pA, pB, pC]
      go_cut [9] from 45 to 49 (fun v wx => ∃ g, v = .pointer (some ⟨g, 0, none⟩) ∧ wx.heap[g]? = some (.cells (tlA T) 46 (0, 0)) ∧ w6.heap.size ≤ g ∧ Below w6.heap.size w6 wx)
      case first =>
        refine start_held (S := fun u => Below w6.drew.heap.size w6.drew u) 7 rfl (by kernel_rfl) (Below.refl _ _) ?_
        simp only [Array.replicate_succ, Array.replicate_zero, List.push_toArray, List.nil_append, List.cons_append]
        have hS0 := Below.refl w6.drew.heap.size w6.drew
        have HB0 : Hid (Below w.heap.size w w6.drew) := HB6.out.drew
        have HBX0 : Hid (Below w1.heap.size w1 w6.drew) := HB16.out.drew
        have HD0 : Hid (Below w6.heap.size w6 w6.drew) := (Below.refl _ _).drew
        generalize w6.drew = x0 at *
        refine tk 0 hS0 rfl (v := .agg #[.int .i64 c.W, .int .i64 c.H, .int .i64 c.height, va, vb, (.slice a3 c.robots.length cap3), vd, .int .i64 c.unit, .int .i64 c.accel, .int .i64 c.speed, .int .i64 c.turn, .int .i64 c.hoist, .int .i64 c.queue, .int .i64 c.resend, .int .i64 c.budget, .bool c.back]) ?y5003 ?r5003
        case y5003 => (intro u hu; exact run_load_at 26 _ rfl ⟨w.heap.size, 0, none⟩ rfl _ (HLDu.out _ (bcat HBX0.out hu)))
        simp only [Act.put, pA, pB, pC]
        refine tk 1 hS0 rfl (v := .agg #[.int .i64 c.W, .int .i64 c.H, .int .i64 c.height, va, vb, (.slice a3 c.robots.length cap3), vd, .int .i64 c.unit, .int .i64 c.accel, .int .i64 c.speed, .int .i64 c.turn, .int .i64 c.hoist, .int .i64 c.queue, .int .i64 c.resend, .int .i64 c.budget, .bool c.back]) ?y5004 ?r5004
        case y5004 => (intro u hu; exact run_load_at 26 _ rfl ⟨w.heap.size, 0, none⟩ rfl _ (HLDu.out _ (bcat HBX0.out hu)))
        simp only [Act.put, pA, pB, pC]
        refine tk 3 hS0 rfl (v := ?v5005) ?y5005 ?r5005
        case y5005 => (intro u hu; go_simp; try rfl)
        simp only [Act.put, pA, pB, pC]
        refine wpAnyH_ready (rs := [2, 5]) (by kernel_rfl) (by simp) (AllReadyH.cons ((nth_eq _ 2).trans rfl) ?_ (AllReadyH.cons ((nth_eq _ 5).trans rfl) ?_ AllReadyH.nil))
        · intro K1 hK1
          refine call_in hK1 (by kernel_rfl) 13 #[.agg #[.int .i64 c.W, .int .i64 c.H, .int .i64 c.height, va, vb, (.slice a3 c.robots.length cap3), vd, .int .i64 c.unit, .int .i64 c.accel, .int .i64 c.speed, .int .i64 c.turn, .int .i64 c.hoist, .int .i64 c.queue, .int .i64 c.resend, .int .i64 c.budget, .bool c.back], .int .i64 0] (by go_simp) _ (rc_r c va vb _ vd x0 hr0 r HR0.out (Grid.old_go HAH.out (bcat HB0.out hS0)) (fun _ h => h)) ?_
          rintro y1 x1 ⟨q, rfl, hq1, b1⟩
          have hS1 := hS0.trans (b1.mono hS0.size)
          refine ⟨hS1, ?_⟩
          simp only [Act.put, pA, pB, pC]
          refine wpAnyH_ready (rs := [4, 5]) (by kernel_rfl) (by simp) (AllReadyH.cons ((nth_eq _ 4).trans rfl) ?_ (AllReadyH.cons ((nth_eq _ 5).trans rfl) ?_ AllReadyH.nil))
          · intro K2 hK2
            refine call_in hK2 (by kernel_rfl) 17 #[.agg #[.int .i64 c.W, .int .i64 c.H, .int .i64 c.height, va, vb, (.slice a3 c.robots.length cap3), vd, .int .i64 c.unit, .int .i64 c.accel, .int .i64 c.speed, .int .i64 c.turn, .int .i64 c.hoist, .int .i64 c.queue, .int .i64 c.resend, .int .i64 c.budget, .bool c.back], .pointer (some ⟨q, 0, none⟩), .int .i64 a1, .int .i64 1] (by go_simp) _ (HGO.out x1 q (bcat HB0.out hS1) hq1) ?_
            rintro y2 x2 ⟨rfl, b2⟩
            have hS2 := hS1.trans (b2.mono hS1.size)
            refine ⟨hS2, ?_⟩
            simp only [Act.put, pA, pB, pC]
            refine wpAnyH_ready (rs := [5]) (by kernel_rfl) (by simp) (AllReadyH.cons ((nth_eq _ 5).trans rfl) ?_ AllReadyH.nil)
            intro K3 hK3
            obtain ⟨x3, hx3⟩ : ∃ x, x = x2.alloc (.cells (tlA tl0) 46) := ⟨_, rfl⟩
            have b3 : Below x2.heap.size x2 x3 := by rw [hx3]; exact (Below.refl _ _).alloc (Nat.le_refl _) _
            have hS3 := hS2.trans (b3.mono hS2.size)
            have ha3 : x3.heap[x2.heap.size]? = some (.cells (tlA tl0) 46 (0, 0)) := by rw [hx3]; exact World.alloc_heap_new _ _
            have hl3 := hS2.size
            refine value_in hK3 (by kernel_rfl) (.pointer (some ⟨x2.heap.size, 0, none⟩)) x3 (by rw [hx3]; exact run_alloc_op 46 rfl (tlA tl0) (zeroTele _)) hS3 ?_
            simp only [Act.put, pA, pB, pC]
            refine wpAnyH_ready (rs := [6]) (by kernel_rfl) (by simp) (AllReadyH.cons ((nth_eq _ 6).trans rfl) ?_ AllReadyH.nil)
            intro K4 hK4
            obtain ⟨x4, hx4⟩ : ∃ x, x = x3.setCells x2.heap.size 0 (tlL T) := ⟨_, rfl⟩
            have hS4 : Below x0.heap.size x0 x4 := by rw [hx4]; exact Bn.only hS3 (Only.setCells _ _ _ _) hl3
            have hb4 : x4.heap[x2.heap.size]? = some (.cells (tlA T) 46 (0, 0)) := by rw [hx4, ← tl_put]; exact setCells_same _ _ _ (tlL T) 0 _ _ ha3
            refine skip_in hK4 (by kernel_rfl) x4 (by rw [hx4]; exact run_store_mid_op 46 _ _ rfl x2.heap.size 0 (tlA T) rfl rfl (there_of ha3 0 19 (Nat.le_refl _)) infoTele (tlA_one _)) hS4 ?_
            simp only [Act.put, pA, pB, pC]
            refine done_held (by kernel_rfl) ?_ _
            go_wp2
            go_meet
            exact ⟨_, rfl, hb4, Nat.le_trans HD0.out.size hl3, HD0.out.trans (hS4.mono HD0.out.size)⟩
          · intro K2 hK2
            obtain ⟨x2, hx2⟩ : ∃ x, x = x1.alloc (.cells (tlA tl0) 46) := ⟨_, rfl⟩
            have b2 : Below x1.heap.size x1 x2 := by rw [hx2]; exact (Below.refl _ _).alloc (Nat.le_refl _) _
            have hS2 := hS1.trans (b2.mono hS1.size)
            have ha2 : x2.heap[x1.heap.size]? = some (.cells (tlA tl0) 46 (0, 0)) := by rw [hx2]; exact World.alloc_heap_new _ _
            have hl2 := hS1.size
            have hq2 := hq1.go b2
            refine value_in hK2 (by kernel_rfl) (.pointer (some ⟨x1.heap.size, 0, none⟩)) x2 (by rw [hx2]; exact run_alloc_op 46 rfl (tlA tl0) (zeroTele _)) hS2 ?_
            simp only [Act.put, pA, pB, pC]
            refine wpAnyH_ready (rs := [4]) (by kernel_rfl) (by simp) (AllReadyH.cons ((nth_eq _ 4).trans rfl) ?_ AllReadyH.nil)
            intro K3 hK3
            refine call_in hK3 (by kernel_rfl) 17 #[.agg #[.int .i64 c.W, .int .i64 c.H, .int .i64 c.height, va, vb, (.slice a3 c.robots.length cap3), vd, .int .i64 c.unit, .int .i64 c.accel, .int .i64 c.speed, .int .i64 c.turn, .int .i64 c.hoist, .int .i64 c.queue, .int .i64 c.resend, .int .i64 c.budget, .bool c.back], .pointer (some ⟨q, 0, none⟩), .int .i64 a1, .int .i64 1] (by go_simp) _ (HGO.out x2 q (bcat HB0.out hS2) hq2) ?_
            rintro y3 x3 ⟨rfl, b3⟩
            have hS3 := hS2.trans (b3.mono hS2.size)
            have ha3 := (b3.block _ (Array.getElem?_eq_some_iff.1 ha2).1).trans ha2
            refine ⟨hS3, ?_⟩
            simp only [Act.put, pA, pB, pC]
            refine wpAnyH_ready (rs := [6]) (by kernel_rfl) (by simp) (AllReadyH.cons ((nth_eq _ 6).trans rfl) ?_ AllReadyH.nil)
            intro K4 hK4
            obtain ⟨x4, hx4⟩ : ∃ x, x = x3.setCells x1.heap.size 0 (tlL T) := ⟨_, rfl⟩
            have hS4 : Below x0.heap.size x0 x4 := by rw [hx4]; exact Bn.only hS3 (Only.setCells _ _ _ _) hl2
            have hb4 : x4.heap[x1.heap.size]? = some (.cells (tlA T) 46 (0, 0)) := by rw [hx4, ← tl_put]; exact setCells_same _ _ _ (tlL T) 0 _ _ ha3
            refine skip_in hK4 (by kernel_rfl) x4 (by rw [hx4]; exact run_store_mid_op 46 _ _ rfl x1.heap.size 0 (tlA T) rfl rfl (there_of ha3 0 19 (Nat.le_refl _)) infoTele (tlA_one _)) hS4 ?_
            simp only [Act.put, pA, pB, pC]
            refine done_held (by kernel_rfl) ?_ _
            go_wp2
            go_meet
            exact ⟨_, rfl, hb4, Nat.le_trans HD0.out.size hl2, HD0.out.trans (hS4.mono HD0.out.size)⟩
        · intro K1 hK1
          obtain ⟨x1, hx1⟩ : ∃ x, x = x0.alloc (.cells (tlA tl0) 46) := ⟨_, rfl⟩
          have b1 : Below x0.heap.size x0 x1 := by rw [hx1]; exact (Below.refl _ _).alloc (Nat.le_refl _) _
          have hS1 := hS0.trans (b1.mono hS0.size)
          have ha1 : x1.heap[x0.heap.size]? = some (.cells (tlA tl0) 46 (0, 0)) := by rw [hx1]; exact World.alloc_heap_new _ _
          have hl1 := hS0.size
          refine value_in hK1 (by kernel_rfl) (.pointer (some ⟨x0.heap.size, 0, none⟩)) x1 (by rw [hx1]; exact run_alloc_op 46 rfl (tlA tl0) (zeroTele _)) hS1 ?_
          simp only [Act.put, pA, pB, pC]
          refine wpAnyH_ready (rs := [2]) (by kernel_rfl) (by simp) (AllReadyH.cons ((nth_eq _ 2).trans rfl) ?_ AllReadyH.nil)
          intro K2 hK2
          refine call_in hK2 (by kernel_rfl) 13 #[.agg #[.int .i64 c.W, .int .i64 c.H, .int .i64 c.height, va, vb, (.slice a3 c.robots.length cap3), vd, .int .i64 c.unit, .int .i64 c.accel, .int .i64 c.speed, .int .i64 c.turn, .int .i64 c.hoist, .int .i64 c.queue, .int .i64 c.resend, .int .i64 c.budget, .bool c.back], .int .i64 0] (by go_simp) _ (rc_r c va vb _ vd x1 hr0 r HR0.out (Grid.old_go HAH.out (bcat HB0.out hS1)) (fun _ h => h)) ?_
          rintro y2 x2 ⟨q, rfl, hq2, b2⟩
          have hS2 := hS1.trans (b2.mono hS1.size)
          have ha2 := (b2.block _ (Array.getElem?_eq_some_iff.1 ha1).1).trans ha1
          refine ⟨hS2, ?_⟩
          simp only [Act.put, pA, pB, pC]
          refine wpAnyH_ready (rs := [4]) (by kernel_rfl) (by simp) (AllReadyH.cons ((nth_eq _ 4).trans rfl) ?_ AllReadyH.nil)
          intro K3 hK3
          refine call_in hK3 (by kernel_rfl) 17 #[.agg #[.int .i64 c.W, .int .i64 c.H, .int .i64 c.height, va, vb, (.slice a3 c.robots.length cap3), vd, .int .i64 c.unit, .int .i64 c.accel, .int .i64 c.speed, .int .i64 c.turn, .int .i64 c.hoist, .int .i64 c.queue, .int .i64 c.resend, .int .i64 c.budget, .bool c.back], .pointer (some ⟨q, 0, none⟩), .int .i64 a1, .int .i64 1] (by go_simp) _ (HGO.out x2 q (bcat HB0.out hS2) hq2) ?_
          rintro y3 x3 ⟨rfl, b3⟩
          have hS3 := hS2.trans (b3.mono hS2.size)
          have ha3 := (b3.block _ (Array.getElem?_eq_some_iff.1 ha2).1).trans ha2
          refine ⟨hS3, ?_⟩
          simp only [Act.put, pA, pB, pC]
          refine wpAnyH_ready (rs := [6]) (by kernel_rfl) (by simp) (AllReadyH.cons ((nth_eq _ 6).trans rfl) ?_ AllReadyH.nil)
          intro K4 hK4
          obtain ⟨x4, hx4⟩ : ∃ x, x = x3.setCells x0.heap.size 0 (tlL T) := ⟨_, rfl⟩
          have hS4 : Below x0.heap.size x0 x4 := by rw [hx4]; exact Bn.only hS3 (Only.setCells _ _ _ _) hl1
          have hb4 : x4.heap[x0.heap.size]? = some (.cells (tlA T) 46 (0, 0)) := by rw [hx4, ← tl_put]; exact setCells_same _ _ _ (tlL T) 0 _ _ ha3
          refine skip_in hK4 (by kernel_rfl) x4 (by rw [hx4]; exact run_store_mid_op 46 _ _ rfl x0.heap.size 0 (tlA T) rfl rfl (there_of ha3 0 19 (Nat.le_refl _)) infoTele (tlA_one _)) hS4 ?_
          simp only [Act.put, pA, pB, pC]
          refine done_held (by kernel_rfl) ?_ _
          go_wp2
          go_meet
          exact ⟨_, rfl, hb4, Nat.le_trans HD0.out.size hl1, HD0.out.trans (hS4.mono HD0.out.size)⟩
      case rest =>
      obtain ⟨g, rfl, hg, hgl, bc⟩ := hcut
      have HG : Hid (wc.heap[g]? = some (.cells (tlA T) 46 (0, 0))) := hg
      have HRc : Hid (RbAt wc R r) := HR6.out.go bc
      have HBc : Hid (Below w.heap.size w wc) := bcat HB6.out bc
      have HBc1 : Hid (Below w1.heap.size w1 wc) := bcat HB16.out bc
      have HGP : Hid (g ≠ R.p ∧ g ≠ R.k) := ⟨Ne.symm (Nat.ne_of_lt (Nat.lt_of_lt_of_le HR6.out.plt hgl)), Ne.symm (Nat.ne_of_lt (Nat.lt_of_lt_of_le HR6.out.klt hgl))⟩
      clear hg hgl bc HGO HR6
      obtain ⟨r1, hr1⟩ : ∃ r1, begun r T = r1 := ⟨_, rfl⟩
      have HR1 : Hid (begun r T = r1) := hr1
      have hq : hearL R r T = none ∧ hearR R r T = r1 ∧ hearH R r T = 1 := by
        have h := led_hear HL.out HF0.out.2.2.2.1
        rw [HT.out, hr1] at h
        exact h
      clear hr1
      obtain ⟨L, hL⟩ : ∃ L, m.me - m.ma = L := ⟨_, rfl⟩
      have hLb : 1 ≤ L ∧ L ≤ 16000 := by have h1 := HL.out.en; have h2 := HL.out.l1; have h3 := HL.out.l2; omega
      have hwL : IntKind.i64.wrap (m.me - m.ma) = L := by rw [IntKind.wrap_i64]; omega
      have HLL : Hid (m.me - m.ma = L) := hL
      clear hL
      go_upto_region 11 with (first
            | (refine wpList_load_at rfl 46 (.tmp 9) rfl ⟨g, 0, none⟩ rfl (tlA T) (load_tele HG.out) ?_)
            | (go_at_call 22; refine (hear_at HRc.out (n := 0) (by decide) HF0.out.2.2.2.2.1 hq.1 hq.2.1 hq.2.2).mono ?_; rintro e w8 ⟨v, rfl, lv, hR8, T8⟩; have hv : v = .slice none 0 0 := lv; subst hv; have HD8 : Hid (Dl w R g T m 0 0 0 (m.me - m.ma) w8 r1) := (by have d := Dl.begun HBc.out T8 HL.out HF0.out.2.2.2.1 (by decide : (0 : Int) ≤ 0) HF0.out.1 HF0.out.2.2.2.2.1 (by rw [HT.out, HR1.out]; exact hR8) (by rw [HT.out]; exact HG.out) HGP.out.1 HGP.out.2 HPK.out.1 HPK.out.2; rw [HT.out, HR1.out, HF0.out.2.1, HF0.out.2.2.1] at d; exact d); have HT8 : Hid (Tn R wc w8) := T8; clear hR8 T8 lv))
      have k14 : w8.cell? ⟨g, 14, none⟩ = some (.int .i64 m.me) := (tl_me HD8.out.tl).trans (by rw [← HT.out]; rfl)
      have k13 : w8.cell? ⟨g, 13, none⟩ = some (.int .i64 m.ma) := (tl_ma HD8.out.tl).trans (by rw [← HT.out]; rfl)
      go_wp2_with fail
      clear k14 k13 hwL
      go_loopw [12, 13] (fun v i wr => ∃ (k : Nat) (rr : Rb) (V : Int), v = .int .i64 V ∧ i = .int .i64 k ∧ k ≤ 8 ∧ Dl w R g T m 0 0 0 V wr rr ∧ rr.la ≤ 30 * k ∧ 1 ≤ V ∧ V ≤ 16000 + 30 * k) (fun _ i _ => 8 - (intOf i).toNat)
      case atStart => exact ⟨0, r1, L, rfl, rfl, by omega, by rw [← HLL.out]; exact HD8.out, by rw [← HR1.out]; exact Int.le_refl _, hLb.1, by omega⟩
      case round =>
        clear hLb HD8 HLL
        obtain ⟨k, rr, V, rfl, rfl, hk, hD, hla, hv1, hv2⟩ := hrel
        have HDK : Hid (Dl w R g T m 0 0 0 V wr rr) := hD
        clear hD
        by_cases hin : k < 8
        · have g1 : (k : Int) < (n : Int) := by have := HNN.out; omega
          have g2 : (k : Int) < 8 := by have := HNN.out; omega
          obtain ⟨p, rfl, hld⟩ := HIn.out wr HDK.out.bel k (by have := HNN.out; omega)
          obtain ⟨z, hz⟩ : ∃ z, zs k = z := ⟨_, rfl⟩
          rw [hz] at hld
          have pz := place_bd z 30 (by decide)
          have cP := fun w => place_any z 30 w (by decide) (by decide)
          obtain ⟨d, hd⟩ : ∃ d, place z 30 - 4 = d := ⟨_, rfl⟩
          have hw1 : IntKind.i64.wrap (place z 30 - 4) = d := by rw [IntKind.wrap_i64]; omega
          have HDB : Hid (d ≤ 30 ∧ -4 ≤ d) := ⟨by omega, by omega⟩
          obtain ⟨V2, hV2⟩ : ∃ V2, V + max 0 d = V2 := ⟨_, rfl⟩
          have hw2 : IntKind.i64.wrap (V + max 0 d) = V2 := by rw [IntKind.wrap_i64]; omega
          have HV2 : Hid (V + max 0 d = V2) := hV2
          have hv3 : V ≤ V2 ∧ V2 ≤ V + 30 := by omega
          have h0 := HDK.out.ok.la0
          clear hz hd pz hV2
          go_wp2_with (first
            | (go_at_call 18; refine (cP _).mono ?_; rintro e yp ⟨rfl, hyp⟩; rw [hyp]; clear hyp)
            | (go_at_call 24; refine (delay_any HDK.out.rb d h0 HDK.out.ok.la1).mono ?_; rintro e x2 ⟨rfl, hR2, o2⟩; have HX2 : Hid (Dl w R g T m 0 0 0 V2 x2 (lateR rr d)) := (by rw [← HV2.out]; exact HDK.out.late d (by have := HDB.out; omega) (by omega) hR2 o2); clear hR2 o2))
          go_roundw
          case rel => exact ⟨k + 1, lateR rr d, V2, by first | rfl | exact congrArg (Value.int IntKind.i64) hw2, by go_num, by omega, HX2.out, by have := late_la HDK.out.ok d HDB.out.1; omega, by omega, by omega⟩
          case measure => simp [intOf]; omega
        · have g1 : (k : Int) < (n : Int) := by have := HNN.out; omega
          have g2 : ¬ (k : Int) < 8 := by omega
          have hvb : V ≤ 20000 := by have := HNN.out; omega
          clear hin hla hk
          clear hv2
          go_upto_region 19 with fail
          go_loopw [15] (fun i wr => ∃ (k : Nat) (rr : Rb), i = .int .i64 k ∧ 1 ≤ k ∧ (k : Int) ≤ V ∧ Dl w R g T m 0 ((k : Int) - 1) 0 (V - ((k : Int) - 1)) wr rr) (fun i _ => V.toNat - (intOf i).toNat)
          case atStart => exact ⟨1, rr, rfl, by omega, by omega, by have := HDK.out; simpa using this⟩
          case round =>
            clear HDK g1 g2
            obtain ⟨k, rr, rfl, hk1, hkV, hD⟩ := hrel
            have HDK : Hid (Dl w R g T m 0 ((k : Int) - 1) 0 (V - ((k : Int) - 1)) wr rr) := hD
            have cT := tick_any hD.rb (n := (k : Int) - 1) (by omega) hD.ok
            clear hD
            by_cases hin : (k : Int) < V
            · rw [(HDK.out.how (by omega)).1, (HDK.out.how (by omega)).2] at cT
              go_wp2_with (first
                | (go_at_call 19; refine cT.mono ?_; rintro e x6 ⟨rfl, hR6, T6⟩; clear cT; have HX6 : Hid (Dl w R g T m 0 ((k : Int) - 1 + 1) 0 (V - ((k : Int) - 1) - 1) x6 (tickR rr)) := HDK.out.tick (by omega) (by omega) hR6 T6; obtain ⟨x7, hx7⟩ : ∃ y, y = x6.alloc (.cells (mvA mv0) 44) := ⟨_, rfl⟩; have d7 : Below x6.heap.size x6 x7 := (by rw [hx7]; exact (Below.refl _ _).alloc (Nat.le_refl _) _); have HM7 : Hid (x7.heap[x6.heap.size]? = some (.cells (mvA mv0) 44 (0, 0))) := (by rw [hx7]; exact World.alloc_heap_new _ _); have HD7 : Hid (Below x6.heap.size x6 x7) := d7; clear d7 hR6 T6)
                | (refine wpList_new rfl rfl 44 16 (.tmp 96) rfl rfl rfl rfl (mvA mv0) (mvA mv0) (zeroMove _) rfl rfl infoMove rfl (mvA_one _) ?_; rw [← hx7]; clear hx7))
              go_roundw
              case rel => exact ⟨k + 1, tickR rr, by go_num, by omega, by omega, by have := HX6.out.go HD7.out; rwa [show (k : Int) - 1 + 1 = ((k + 1 : Nat) : Int) - 1 by omega, show V - ((k : Int) - 1) - 1 = V - (((k + 1 : Nat) : Int) - 1) by omega] at this⟩
              case measure => simp [intOf]; omega
            · have ql := HDK.out.last (by omega)
              rw [ql.1, ql.2.1, ql.2.2.1] at cT
              have HQ : Hid (tellP (ended rr) = tlG 3 0 1) := by
                show tellP (ended rr) = tlG 3 0 1
                rw [tell_ack (by rw [ql.2.2.2.1]; decide)]
                unfold ackP tlG
                rw [ql.2.2.2.1, ql.2.2.2.2.1, ql.2.2.2.2.2.1]
                rfl
              clear ql hkV hk1
              go_upto_region 26 with (first
                | (go_at_call 19; refine cT.mono ?_; rintro e z6 ⟨rfl, hR6, T6⟩; clear cT; have HX6 : Hid (RbAt z6 R (ended rr) ∧ Below w.heap.size w z6 ∧ z6.heap[g]? = some (.cells (tlA T) 46 (0, 0))) := ⟨hR6, bel_tn HDK.out.bel T6 HPK.out.1 HPK.out.2 HDK.out.bel.size, (T6.block _ HDK.out.gl HGP.out.1 HGP.out.2).trans HDK.out.tl⟩; have cTl := tell_any (hR6.go (Below.refl _ _)); obtain ⟨z7, hz7⟩ : ∃ y, y = z6.alloc (.cells (mvA m) 44) := ⟨_, rfl⟩; have d7 : Below z6.heap.size z6 z7 := (by rw [hz7]; exact (Below.refl _ _).alloc (Nat.le_refl _) _); have HM7 : Hid (z7.heap[z6.heap.size]? = some (.cells (mvA m) 44 (0, 0))) := (by rw [hz7]; exact World.alloc_heap_new _ _); have HD7 : Hid (Below z6.heap.size z6 z7) := d7; clear d7 hR6 T6)
                | (refine wpList_new rfl rfl 44 18 (.tmp 103) rfl rfl rfl rfl (mvA mv0) (mvA m) (zeroMove _) rfl rfl infoMove rfl (mvA_one _) ?_; rw [← hz7]; clear hz7)
                | (go_at_call 26; refine (tell_any (HX6.out.1.go HD7.out)).mono ?_; rintro e z8 ⟨v8, rfl, lv8, b8⟩; rw [HQ.out] at lv8; have HLV : Hid (LsAt z7.heap.size z8 v8 (some (tlG 3 0 1))) := lv8; have HB8 : Hid (Below z6.heap.size z6 z8) := bcat HD7.out b8; have HM8 : Hid (z8.heap[z6.heap.size]? = some (.cells (mvA m) 44 (0, 0))) := (b8.block _ (Array.getElem?_eq_some_iff.1 HM7.out).1).trans HM7.out; clear lv8 b8))
              obtain ⟨gb, rfl, hgb, hgb2⟩ := HLV.out
              have HGB : Hid (z8.heap[gb]? = some (.cells (tlA (tlG 3 0 1)) 46 (0, 0))) := hgb2
              have HTM : Hid ((loadVar 44 ⟨g, 4, none⟩).run Tryz.prog z8 = .ok (.agg (mvA m)) z8) := (by have h := tl_move (t := T) (w := z8) ((HB8.out.block _ (Array.getElem?_eq_some_iff.1 HX6.out.2.2).1).trans HX6.out.2.2); rw [show tmv T = m by rw [← HT.out]; rfl] at h; exact h)
              have hBE : Hid (Below w.heap.size w z8) := bcat HX6.out.2.1 HB8.out
              clear hgb hgb2 HLV
              go_wp2_with (first
                | (refine wpList_load_at rfl 44 (.tmp 18) rfl ⟨z6.heap.size, 0, none⟩ rfl (mvA m) (mv_all HM8.out) ?_)
                | (refine wpList_load_at rfl 44 (.tmp 108) rfl ⟨g, 4, none⟩ rfl (mvA m) HTM.out ?_)
                | (refine wpList_eql_agg (by kernel_rfl) 44 (.tmp 107) (.tmp 109) rfl gMv (mvA m) (mvA m) true rfl rfl (eqMv_self m _) ?_)
                | (refine wpList_load_w (by kernel_rfl) 46 (.tmp 122) rfl ⟨gb, 0, none⟩ rfl (tlA (tlG 3 0 1)) (load_tele HGB.out) ?_)
                | (refine wpList_buildW (by kernel_rfl) 46 _ rfl (tlA (tlG 3 0 1)) _ rfl built_ack1 ?_)
                | (refine wpList_eql_agg (by kernel_rfl) 46 (.tmp 123) (.tmp 124) rfl gTl (tlA (tlG 3 0 1)) (tlA (tlG 3 0 1)) true rfl rfl (eqTele_self _ _) ?_)
                | (go_at_call 12; refine (awake18_any _).mono ?_; rintro e w9 ⟨rfl, b9⟩))
              go_ret
              exact ⟨rfl, bcat hBE.out b9⟩
theorem delays_all (c : Grid.Conf) (va vb vc vd : Value) (w : World) (hA : Grid.ConfAt (Grid.Old w) c va vb vc vd w) (l1 : c.blocked.length ≤ 8796093022208) (l2 : c.ports.length ≤ 8796093022208) (l3 : c.robots.length ≤ 5864062014805) (l4 : c.stacks.length ≤ 3518437208880) (l5 : ∀ s ∈ c.stacks, s.2.length ≤ 17592186044416) (a1 : Int) (a : Option Addr) (n cap : Nat) (zs : Nat → Int) (hZ : InI w a n zs) :
    Calls Tryz.prog 7 #[.agg #[.int .i64 c.W, .int .i64 c.H, .int .i64 c.height, va, vb, vc, vd, .int .i64 c.unit, .int .i64 c.accel, .int .i64 c.speed, .int .i64 c.turn, .int .i64 c.hoist, .int .i64 c.queue, .int .i64 c.resend, .int .i64 c.budget, .bool c.back], .int .i64 a1, .slice a n cap] w fun e w' => e = .returned (.bool true) ∧ Below w.heap.size w w' := by
  by_cases hn : n ≤ 8
  · exact delays_few c va vb vc vd w hA l1 l2 l3 l4 l5 a1 a n cap zs hZ hn
  · exact delays_many c va vb vc vd w hA l1 l2 l3 l4 l5 a1 a n cap zs hZ (by omega)
end Go.Proofs.YtedmfhkdaifegaaGreat.Rob
