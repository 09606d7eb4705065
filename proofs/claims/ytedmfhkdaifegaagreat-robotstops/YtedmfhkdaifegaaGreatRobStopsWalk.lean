/-
  A run that is stopped on its way ends within it, as soon as it can: the walk.
-/
import Derived.Test.YtedmfhkdaifegaaGreatRobStopsMem
namespace Go.Proofs.YtedmfhkdaifegaaGreat.Rob
set_option linter.unusedVariables false
set_option linter.unusedSimpArgs false
open Go Go.RowKit Go.Shelf Go.Proofs Go.Proofs.YtedmfhkdaifegaaGreat.Lk Go.Proofs.YtedmfhkdaifegaaGreat.Plain
attribute [local go_sem] Oper.semAt_some

def haltQ (px py : Int) (pd : Bool) (ld : Int) : Tl := ⟨4, 0, 9, 0, 0, 0, 0, 0, 0, false, 0, 0, false, 0, 0, px, py, pd, ld⟩
theorem built_haltq (px py : Int) (pd : Bool) (ld : Int) : Tryz.prog.built 46 [(0, .int .i64 4), (2, .int .i64 9), (5, .agg (poA px py pd)), (6, .int .i64 ld)] = some (tlA (haltQ px py pd ld)) := by kernel_rfl
theorem tl_fr7 {w : World} {g : Nat} {nb ep nm : Int} {m : Mv} {T : TypeId} {fr : Nat × Nat} (h : w.heap[g]? = some (.cells (tlA (goT nb ep nm m)) T fr)) : (loadVar 42 ⟨g, 7, none⟩).run Tryz.prog w = .ok (.agg (poA m.fx m.fy m.fd)) w :=
  run_loadVar_at w _ _ _ (fun j v hv => by
    rw [Addr.add_mid, tl_cell h]
    match j with
    | 0 => exact hv
    | 1 => exact hv
    | 2 => exact hv
    | j + 3 => simp [poA] at hv) (aggPose _) infoPose
theorem bcat2 {w w1 w2 : World} (h : Below w.heap.size w w1) (h1 : Below w1.heap.size w1 w2) : Below w.heap.size w w2 := bcat h h1
theorem pose_ret {w : World} {R : Wh} {r : Rb} (h : RbAt w R r) : Calls Tryz.prog 20 #[.pointer (some ⟨R.p, 0, none⟩)] w fun e w' => ∃ v, e = .returned v ∧ (v = .agg (poA r.px r.py r.pd) ∧ Below w.heap.size w w') := (pose_any h).mono fun e w' ⟨a, b⟩ => ⟨_, a, rfl, b⟩
theorem pose_q {w : World} {R : Wh} {r : Rb} (h : RbAt w R r) {x y : Int} {d : Bool} (e : posR r = ((x, y), d)) : Calls Tryz.prog 20 #[.pointer (some ⟨R.p, 0, none⟩)] w fun e w' => ∃ v, e = .returned v ∧ (v = .agg (poA x y d) ∧ Below w.heap.size w w') := by
  unfold posR at e
  simp only [Prod.mk.injEq] at e
  obtain ⟨⟨rfl, rfl⟩, rfl⟩ := e
  exact pose_ret h
theorem load_ret {w : World} {R : Wh} {r : Rb} (h : RbAt w R r) : Calls Tryz.prog 27 #[.pointer (some ⟨R.p, 0, none⟩)] w fun e w' => ∃ v, e = .returned v ∧ (v = .int .i64 r.ld ∧ w' = w) := (load_any h).mono fun e w' ⟨a, b⟩ => ⟨_, a, rfl, b⟩
theorem awake_ret (w : World) : Calls Tryz.prog 12 #[] w fun e w' => ∃ v, e = .returned v ∧ (v = .bool true ∧ Below w.heap.size w w') := (awake18_any w).mono fun e w' ⟨a, b⟩ => ⟨_, a, rfl, b⟩
set_option maxRecDepth 100000 in
set_option maxHeartbeats 40000000 in
theorem stops_all (c : Grid.Conf) (va vb vc vd : Value) (w : World) (hA : Grid.ConfAt (Grid.Old w) c va vb vc vd w) (l1 : c.blocked.length ≤ 8796093022208) (l2 : c.ports.length ≤ 8796093022208) (l3 : c.robots.length ≤ 5864062014805) (l4 : c.stacks.length ≤ 3518437208880) (l5 : ∀ s ∈ c.stacks, s.2.length ≤ 17592186044416) (a1 a2 a3 : Int) :
    Calls Tryz.prog 6 #[.agg #[.int .i64 c.W, .int .i64 c.H, .int .i64 c.height, va, vb, vc, vd, .int .i64 c.unit, .int .i64 c.accel, .int .i64 c.speed, .int .i64 c.turn, .int .i64 c.hoist, .int .i64 c.queue, .int .i64 c.resend, .int .i64 c.budget, .bool c.back], .int .i64 a1, .int .i64 a2, .int .i64 a3] w fun e w' => e = .returned (.bool true) ∧ Below w.heap.size w w' := by
  have hO : ∀ b, Grid.Old w b → b < w.heap.size := fun b h => h
  obtain ⟨ar, cap3, hv3, _⟩ := hA.r.form
  subst hv3
  have HAH : Hid (Grid.ConfAt (Grid.Old w) c va vb (.slice ar c.robots.length cap3) vd w) := hA
  obtain ⟨w1, hw1⟩ : ∃ w1, w1 = w.alloc (.cells #[.int .i64 c.W, .int .i64 c.H, .int .i64 c.height, va, vb, (.slice ar c.robots.length cap3), vd, .int .i64 c.unit, .int .i64 c.accel, .int .i64 c.speed, .int .i64 c.turn, .int .i64 c.hoist, .int .i64 c.queue, .int .i64 c.resend, .int .i64 c.budget, .bool c.back] 26) := ⟨_, rfl⟩
  have b1 : Below w.heap.size w w1 := by rw [hw1]; exact (Below.refl _ _).alloc (Nat.le_refl _) _
  have hc1 : w1.heap[w.heap.size]? = some (.cells #[.int .i64 c.W, .int .i64 c.H, .int .i64 c.height, va, vb, (.slice ar c.robots.length cap3), vd, .int .i64 c.unit, .int .i64 c.accel, .int .i64 c.speed, .int .i64 c.turn, .int .i64 c.hoist, .int .i64 c.queue, .int .i64 c.resend, .int .i64 c.budget, .bool c.back] 26 (0, 0)) := by rw [hw1]; exact World.alloc_heap_new _ _
  have HB1 : Hid (Below w.heap.size w w1) := b1
  have HC1 : Hid (∀ u, Below w1.heap.size w1 u → u.heap[w.heap.size]? = some (.cells #[.int .i64 c.W, .int .i64 c.H, .int .i64 c.height, va, vb, (.slice ar c.robots.length cap3), vd, .int .i64 c.unit, .int .i64 c.accel, .int .i64 c.speed, .int .i64 c.turn, .int .i64 c.hoist, .int .i64 c.queue, .int .i64 c.resend, .int .i64 c.budget, .bool c.back] 26 (0, 0))) := fun u b => (b.block _ (Array.getElem?_eq_some_iff.1 hc1).1).trans hc1
  have HC5 : Hid (∀ u, Below w1.heap.size w1 u → u.cell? ⟨w.heap.size, 5, none⟩ = some (.slice ar c.robots.length cap3)) := fun u b => (cell_of' (HC1.out u b) 5).trans rfl
  have HLDu : Hid (∀ u, Below w1.heap.size w1 u → (loadVar 26 ⟨w.heap.size, 0, none⟩).run Tryz.prog u = .ok (.agg #[.int .i64 c.W, .int .i64 c.H, .int .i64 c.height, va, vb, (.slice ar c.robots.length cap3), vd, .int .i64 c.unit, .int .i64 c.accel, .int .i64 c.speed, .int .i64 c.turn, .int .i64 c.hoist, .int .i64 c.queue, .int .i64 c.resend, .int .i64 c.budget, .bool c.back]) u) := fun u b => load_row_of (HC1.out u b) (Grid.aggConf _) Grid.info_conf
  have cS := Dig.small_any (Grid.Old w) c va vb _ vd w1 (hA.go hO b1) (fun b hb => Nat.lt_of_lt_of_le (hO b hb) b1.size) l1 l2 l3 l4 l5
  have cC := fun u (b : Below w.heap.size w u) => Grid.copyConf_any (Grid.Old w) c va vb _ vd u (hA.go hO b) (fun q hq => Nat.lt_of_lt_of_le (hO q hq) b.size) l1 l2 l3 l4 l5
  clear hA b1 hc1
  cases hsm : (Dig.smallN c && (Grid.newP c).isSome) with
  | false =>
    rw [hsm] at cS
    go_enter Tryz.func6, Tryz.ntmps6
    go_wp2_with (first | (refine wpList_boxAt rfl 26 (.tmp 0) rfl #[.int .i64 c.W, .int .i64 c.H, .int .i64 c.height, va, vb, (.slice ar c.robots.length cap3), vd, .int .i64 c.unit, .int .i64 c.accel, .int .i64 c.speed, .int .i64 c.turn, .int .i64 c.hoist, .int .i64 c.queue, .int .i64 c.resend, .int .i64 c.budget, .bool c.back] rfl ?_; rw [← hw1]; clear hw1) | (refine wpList_load_at rfl 26 (.tmp 4) rfl ⟨w.heap.size, 0, none⟩ rfl #[.int .i64 c.W, .int .i64 c.H, .int .i64 c.height, va, vb, (.slice ar c.robots.length cap3), vd, .int .i64 c.unit, .int .i64 c.accel, .int .i64 c.speed, .int .i64 c.turn, .int .i64 c.hoist, .int .i64 c.queue, .int .i64 c.resend, .int .i64 c.budget, .bool c.back] (HLDu.out _ (Below.refl _ _)) ?_) | (go_at_call 16; refine cS.mono ?_; rintro e w3 ⟨rs, rfl, rfl, b3⟩; have HB3 : Hid (Below w1.heap.size w1 w3) := b3; have k5 := HC5.out _ b3) | (go_at_call 12; refine (awake18_any _).mono ?_; rintro e w9 ⟨rfl, b9⟩))
    go_ret
    exact ⟨rfl, bcat (bcat HB1.out HB3.out) b9⟩
  | true =>
    rw [hsm] at cS
    obtain ⟨G, hN⟩ : ∃ G, Grid.newP c = some G := by
      cases h : Grid.newP c with
      | none => rw [h] at hsm; simp at hsm
      | some G => exact ⟨G, rfl⟩
    have HSM : Hid (c.W ≤ 6 ∧ c.H ≤ 6) := by
      unfold Dig.smallN at hsm
      simp only [Bool.and_eq_true, decide_eq_true_eq] at hsm
      exact ⟨hsm.1.1.1.1.1.1.1, hsm.1.1.1.1.1.1.2⟩
    clear hsm
    by_cases h0 : c.robots.length = 0
    · have q0 : ((c.robots.length : Int) == 0) = true := by rw [beq_iff_eq]; omega
      clear h0
      go_enter Tryz.func6, Tryz.ntmps6
      go_wp2_with (first | (refine wpList_boxAt rfl 26 (.tmp 0) rfl #[.int .i64 c.W, .int .i64 c.H, .int .i64 c.height, va, vb, (.slice ar c.robots.length cap3), vd, .int .i64 c.unit, .int .i64 c.accel, .int .i64 c.speed, .int .i64 c.turn, .int .i64 c.hoist, .int .i64 c.queue, .int .i64 c.resend, .int .i64 c.budget, .bool c.back] rfl ?_; rw [← hw1]; clear hw1) | (refine wpList_load_at rfl 26 (.tmp 4) rfl ⟨w.heap.size, 0, none⟩ rfl #[.int .i64 c.W, .int .i64 c.H, .int .i64 c.height, va, vb, (.slice ar c.robots.length cap3), vd, .int .i64 c.unit, .int .i64 c.accel, .int .i64 c.speed, .int .i64 c.turn, .int .i64 c.hoist, .int .i64 c.queue, .int .i64 c.resend, .int .i64 c.budget, .bool c.back] (HLDu.out _ (Below.refl _ _)) ?_) | (go_at_call 16; refine cS.mono ?_; rintro e w3 ⟨rs, rfl, rfl, b3⟩; have HB3 : Hid (Below w1.heap.size w1 w3) := b3; have k5 := HC5.out _ b3) | (go_at_call 12; refine (awake18_any _).mono ?_; rintro e w9 ⟨rfl, b9⟩))
      go_ret
      exact ⟨rfl, bcat (bcat HB1.out HB3.out) b9⟩
    · have q0 : ((c.robots.length : Int) == 0) = false := by rw [beq_eq_false_iff_ne]; omega
      have hr0 : 0 < c.robots.length := by omega
      clear h0
      obtain ⟨r, hr⟩ : ∃ r, firstR 0 (c.robots[0]'hr0).1.1 (c.robots[0]'hr0).1.2 (c.robots[0]'hr0).2 = r := ⟨_, rfl⟩
      have HR0 : Hid (firstR 0 (c.robots[0]'hr0).1.1 (c.robots[0]'hr0).1.2 (c.robots[0]'hr0).2 = r) := hr
      clear hr
      have HF0 : Hid (r.nb = 0 ∧ r.lt = 0 ∧ r.ep = 0 ∧ under r = false ∧ OkR 0 r ∧ posR r ∈ c.robots ∧ posR r = c.robots[0]'hr0) := first_facts c hr0 r HR0.out
      go_enter Tryz.func6, Tryz.ntmps6
      go_upto_region 6 with (first
      | (refine wpList_boxAt rfl 26 (.tmp 0) rfl #[.int .i64 c.W, .int .i64 c.H, .int .i64 c.height, va, vb, (.slice ar c.robots.length cap3), vd, .int .i64 c.unit, .int .i64 c.accel, .int .i64 c.speed, .int .i64 c.turn, .int .i64 c.hoist, .int .i64 c.queue, .int .i64 c.resend, .int .i64 c.budget, .bool c.back] rfl ?_; rw [← hw1]; clear hw1)
      | (have X3 := HB3; refine wpList_load_at rfl 26 (.tmp 4) rfl ⟨w.heap.size, 0, none⟩ rfl #[.int .i64 c.W, .int .i64 c.H, .int .i64 c.height, va, vb, (.slice ar c.robots.length cap3), vd, .int .i64 c.unit, .int .i64 c.accel, .int .i64 c.speed, .int .i64 c.turn, .int .i64 c.hoist, .int .i64 c.queue, .int .i64 c.resend, .int .i64 c.budget, .bool c.back] (HLDu.out _ HB3.out) ?_)
      | (refine wpList_load_at rfl 26 (.tmp 4) rfl ⟨w.heap.size, 0, none⟩ rfl #[.int .i64 c.W, .int .i64 c.H, .int .i64 c.height, va, vb, (.slice ar c.robots.length cap3), vd, .int .i64 c.unit, .int .i64 c.accel, .int .i64 c.speed, .int .i64 c.turn, .int .i64 c.hoist, .int .i64 c.queue, .int .i64 c.resend, .int .i64 c.budget, .bool c.back] (HLDu.out _ (Below.refl _ _)) ?_)
      | (go_at_call 16; refine cS.mono ?_; rintro e w3 ⟨rs, rfl, rfl, b3⟩; have HB3 : Hid (Below w1.heap.size w1 w3) := b3; have k5 := HC5.out _ b3)
      | (go_at_call 10; refine (cC _ (bcat HB1.out HB3.out)).mono ?_; rintro e w4 ⟨rc, rfl, ⟨k1, k2, k3, k4, rfl, hC4⟩, b4⟩; have HB4 : Hid (Below w.heap.size w w4) := bcat (bcat HB1.out HB3.out) b4; have HB14 : Hid (Below w1.heap.size w1 w4) := bcat HB3.out b4; have HC4 : Hid (Grid.ConfAt (Grid.Since w3.heap.size w4) c k1 k2 k3 k4 w4) := hC4; clear hC4 b4)
      | (go_at_call 9; refine (new_r c _ _ _ _ _ hN hr0 r HR0.out HC4.out Grid.since_lt l1 l2 l3 l4).mono ?_; rintro e w5 ⟨R, rfl, hR, hp, hk, hRW, b5⟩; have HPK : Hid (w.heap.size ≤ R.p ∧ w.heap.size ≤ R.k) := ⟨Nat.le_trans HB4.out.size hp, Nat.le_trans HB4.out.size hk⟩; have HR5 : Hid (RbAt w5 R r) := hR; have HRW : Hid (R.W = c.W ∧ R.H = c.H ∧ R.us = G.uses ∧ (R.ku : Int) = c.unit ∧ (R.ka : Int) = c.accel ∧ (R.kv : Int) = c.speed) := hRW; have HB5 : Hid (Below w.heap.size w w5) := bcat HB4.out b5; have HB15 : Hid (Below w1.heap.size w1 w5) := bcat HB14.out b5; have HPK1 : Hid (w1.heap.size ≤ R.p ∧ w1.heap.size ≤ R.k) := ⟨Nat.le_trans HB14.out.size hp, Nat.le_trans HB14.out.size hk⟩; clear b5 hp hk HC4 hR hRW))
      clear cS cC HC5
      have hKo := HR5.out.ok
      have hsd := (Grid.new_some hN).1.1
      have hnm := limited_nums hsd
      obtain ⟨m, hm⟩ : ∃ m, gosM c.turn c.hoist R.ku R.ka R.kv (Grid.movesP c.W c.H G.uses (posR r)) (posR r) a1 3 = m := ⟨_, rfl⟩
      have HL : Hid (Led R.W R.H R.us c.turn c.hoist R.ku R.ka R.kv (posR r) m) := by
        show Led R.W R.H R.us c.turn c.hoist R.ku R.ka R.kv (posR r) m
        rw [← hm, HRW.out.1, HRW.out.2.1, HRW.out.2.2.1]
        exact gos_led (Grid.limited_sides hsd).2.1 (Grid.limited_sides hsd).2.2.2.1 hKo hnm.2.2.2.2.2.2.1 hnm.2.2.2.2.2.2.2.1 hnm.2.2.2.2.2.2.2.2.1 hnm.2.2.2.2.2.2.2.2.2 (home_fits hN HF0.out.2.2.2.2.2.1) a1 3
      obtain ⟨T, hT⟩ : ∃ T, (goT r.nb r.ep (r.lt + 1) m) = T := ⟨_, rfl⟩
      have HT : Hid ((goT r.nb r.ep (r.lt + 1) m) = T) := hT
      have HGO : Hid (∀ u q, Below w.heap.size w u → RcAt u q #[.int .i64 c.W, .int .i64 c.H, .int .i64 c.height, va, vb, (.slice ar c.robots.length cap3), vd, .int .i64 c.unit, .int .i64 c.accel, .int .i64 c.speed, .int .i64 c.turn, .int .i64 c.hoist, .int .i64 c.queue, .int .i64 c.resend, .int .i64 c.budget, .bool c.back] r 0 false → Calls Tryz.prog 17 #[.agg #[.int .i64 c.W, .int .i64 c.H, .int .i64 c.height, va, vb, (.slice ar c.robots.length cap3), vd, .int .i64 c.unit, .int .i64 c.accel, .int .i64 c.speed, .int .i64 c.turn, .int .i64 c.hoist, .int .i64 c.queue, .int .i64 c.resend, .int .i64 c.budget, .bool c.back], .pointer (some ⟨q, 0, none⟩), .int .i64 a1, .int .i64 3] u fun e w' => ∃ z, e = .returned z ∧ (z = .agg (tlA T) ∧ Below u.heap.size u w')) := fun u q b hq => by
        have h := gos_any c va vb _ vd u (Grid.old_go HAH.out b) l1 l2 l3 l4 l5 hN R.ku R.ka R.kv hKo HRW.out.2.2.2.1 HRW.out.2.2.2.2.1 HRW.out.2.2.2.2.2 q r 0 false hq (by rw [HF0.out.2.1]; decide) (by rw [HF0.out.2.1]; decide) a1 3
        rw [hm, hT] at h
        exact h
      clear hm hT hsd hnm hKo
      try simp only [Act.put, List.setIfInBounds_toArray, List.set_cons_zero, List.set_cons_succ]
      go_cut [11] from 50 to 54 (fun v wx => ∃ g, v = .pointer (some ⟨g, 0, none⟩) ∧ wx.heap[g]? = some (.cells (tlA T) 46 (0, 0)) ∧ w5.heap.size ≤ g ∧ Below w5.heap.size w5 wx)
      case first =>
        refine start_held (S := fun u => Below w5.drew.heap.size w5.drew u) 7 rfl (by kernel_rfl) (Below.refl _ _) ?_
        simp only [Array.replicate_succ, Array.replicate_zero, List.push_toArray, List.nil_append, List.cons_append]
        have hS0 := Below.refl w5.drew.heap.size w5.drew
        have HB0 : Hid (Below w.heap.size w w5.drew) := HB5.out.drew
        have HBX0 : Hid (Below w1.heap.size w1 w5.drew) := HB15.out.drew
        have HD0 : Hid (Below w5.heap.size w5 w5.drew) := (Below.refl _ _).drew
        generalize w5.drew = x0 at *
        refine take_held 0 hS0 rfl (by kernel_rfl) (by kernel_rfl) (by kernel_rfl) (fun _ _ _ h => h) (by kernel_rfl) (v := .agg #[.int .i64 c.W, .int .i64 c.H, .int .i64 c.height, va, vb, (.slice ar c.robots.length cap3), vd, .int .i64 c.unit, .int .i64 c.accel, .int .i64 c.speed, .int .i64 c.turn, .int .i64 c.hoist, .int .i64 c.queue, .int .i64 c.resend, .int .i64 c.budget, .bool c.back]) ?y5000 ?r5000
        case y5000 => (intro u hu; exact run_load_at 26 _ rfl ⟨w.heap.size, 0, none⟩ rfl _ (HLDu.out _ (bcat HBX0.out hu)))
        simp only [Act.put, List.setIfInBounds_toArray, List.set_cons_zero, List.set_cons_succ]
        refine take_held 1 hS0 rfl (by kernel_rfl) (by kernel_rfl) (by kernel_rfl) (fun _ _ _ h => h) (by kernel_rfl) (v := .agg #[.int .i64 c.W, .int .i64 c.H, .int .i64 c.height, va, vb, (.slice ar c.robots.length cap3), vd, .int .i64 c.unit, .int .i64 c.accel, .int .i64 c.speed, .int .i64 c.turn, .int .i64 c.hoist, .int .i64 c.queue, .int .i64 c.resend, .int .i64 c.budget, .bool c.back]) ?y5001 ?r5001
        case y5001 => (intro u hu; exact run_load_at 26 _ rfl ⟨w.heap.size, 0, none⟩ rfl _ (HLDu.out _ (bcat HBX0.out hu)))
        simp only [Act.put, List.setIfInBounds_toArray, List.set_cons_zero, List.set_cons_succ]
        refine take_held 3 hS0 rfl (by kernel_rfl) (by kernel_rfl) (by kernel_rfl) (fun _ _ _ h => h) (by kernel_rfl) (v := ?v5002) ?y5002 ?r5002
        case y5002 => (intro u hu; go_simp; try rfl)
        simp only [Act.put, List.setIfInBounds_toArray, List.set_cons_zero, List.set_cons_succ]
        refine wpAnyH_ready (rs := [2, 5]) (by kernel_rfl) (by simp) (AllReadyH.cons ((nth_eq _ 2).trans rfl) ?_ (AllReadyH.cons ((nth_eq _ 5).trans rfl) ?_ AllReadyH.nil))
        · intro K1 hK1
          refine call_in hK1 (by kernel_rfl) 13 #[.agg #[.int .i64 c.W, .int .i64 c.H, .int .i64 c.height, va, vb, (.slice ar c.robots.length cap3), vd, .int .i64 c.unit, .int .i64 c.accel, .int .i64 c.speed, .int .i64 c.turn, .int .i64 c.hoist, .int .i64 c.queue, .int .i64 c.resend, .int .i64 c.budget, .bool c.back], .int .i64 0] (by go_simp) _ (rc_r c va vb _ vd x0 hr0 r HR0.out (Grid.old_go HAH.out (bcat HB0.out hS0)) (fun _ h => h)) ?_
          rintro y1 x1 ⟨q, rfl, hq1, b1⟩
          have hS1 := hS0.trans (b1.mono hS0.size)
          refine ⟨hS1, ?_⟩
          simp only [Act.put, List.setIfInBounds_toArray, List.set_cons_zero, List.set_cons_succ]
          refine wpAnyH_ready (rs := [4, 5]) (by kernel_rfl) (by simp) (AllReadyH.cons ((nth_eq _ 4).trans rfl) ?_ (AllReadyH.cons ((nth_eq _ 5).trans rfl) ?_ AllReadyH.nil))
          · intro K2 hK2
            refine call_in hK2 (by kernel_rfl) 17 #[.agg #[.int .i64 c.W, .int .i64 c.H, .int .i64 c.height, va, vb, (.slice ar c.robots.length cap3), vd, .int .i64 c.unit, .int .i64 c.accel, .int .i64 c.speed, .int .i64 c.turn, .int .i64 c.hoist, .int .i64 c.queue, .int .i64 c.resend, .int .i64 c.budget, .bool c.back], .pointer (some ⟨q, 0, none⟩), .int .i64 a1, .int .i64 3] (by go_simp) _ (HGO.out x1 q (bcat HB0.out hS1) hq1) ?_
            rintro y2 x2 ⟨rfl, b2⟩
            have hS2 := hS1.trans (b2.mono hS1.size)
            refine ⟨hS2, ?_⟩
            simp only [Act.put, List.setIfInBounds_toArray, List.set_cons_zero, List.set_cons_succ]
            refine wpAnyH_ready (rs := [5]) (by kernel_rfl) (by simp) (AllReadyH.cons ((nth_eq _ 5).trans rfl) ?_ AllReadyH.nil)
            intro K3 hK3
            obtain ⟨x3, hx3⟩ : ∃ x, x = x2.alloc (.cells (tlA tl0) 46) := ⟨_, rfl⟩
            have b3 : Below x2.heap.size x2 x3 := by rw [hx3]; exact (Below.refl _ _).alloc (Nat.le_refl _) _
            have hS3 := hS2.trans (b3.mono hS2.size)
            have ha3 : x3.heap[x2.heap.size]? = some (.cells (tlA tl0) 46 (0, 0)) := by rw [hx3]; exact World.alloc_heap_new _ _
            have hl3 := hS2.size
            refine value_in hK3 (by kernel_rfl) (.pointer (some ⟨x2.heap.size, 0, none⟩)) x3 (by rw [hx3]; exact run_alloc_op 46 rfl (tlA tl0) (zeroTele _)) hS3 ?_
            simp only [Act.put, List.setIfInBounds_toArray, List.set_cons_zero, List.set_cons_succ]
            refine wpAnyH_ready (rs := [6]) (by kernel_rfl) (by simp) (AllReadyH.cons ((nth_eq _ 6).trans rfl) ?_ AllReadyH.nil)
            intro K4 hK4
            obtain ⟨x4, hx4⟩ : ∃ x, x = x3.setCells x2.heap.size 0 (tlL T) := ⟨_, rfl⟩
            have hS4 : Below x0.heap.size x0 x4 := by rw [hx4]; exact Bn.only hS3 (Only.setCells _ _ _ _) hl3
            have hb4 : x4.heap[x2.heap.size]? = some (.cells (tlA T) 46 (0, 0)) := by rw [hx4, ← tl_put]; exact setCells_same _ _ _ (tlL T) 0 _ _ ha3
            refine skip_in hK4 (by kernel_rfl) x4 (by rw [hx4]; exact run_store_mid_op 46 _ _ rfl x2.heap.size 0 (tlA T) rfl rfl (there_of ha3 0 19 (Nat.le_refl _)) infoTele (tlA_one _)) hS4 ?_
            simp only [Act.put, List.setIfInBounds_toArray, List.set_cons_zero, List.set_cons_succ]
            refine done_held (by kernel_rfl) ?_ _
            go_wp2
            go_meet
            exact ⟨_, rfl, hb4, Nat.le_trans HD0.out.size hl3, HD0.out.trans (hS4.mono HD0.out.size)⟩
          · intro K2 hK2
            obtain ⟨x2, hx2⟩ : ∃ x, x = x1.alloc (.cells (tlA tl0) 46) := ⟨_, rfl⟩
            have b2 : Below x1.heap.size x1 x2 := by rw [hx2]; exact (Below.refl _ _).alloc (Nat.le_refl _) _
            have hS2 := hS1.trans (b2.mono hS1.size)
            have ha2 : x2.heap[x1.heap.size]? = some (.cells (tlA tl0) 46 (0, 0)) := by rw [hx2]; exact World.alloc_heap_new _ _
            have hl2 := hS1.size
            have hq2 := hq1.go b2
            refine value_in hK2 (by kernel_rfl) (.pointer (some ⟨x1.heap.size, 0, none⟩)) x2 (by rw [hx2]; exact run_alloc_op 46 rfl (tlA tl0) (zeroTele _)) hS2 ?_
            simp only [Act.put, List.setIfInBounds_toArray, List.set_cons_zero, List.set_cons_succ]
            refine wpAnyH_ready (rs := [4]) (by kernel_rfl) (by simp) (AllReadyH.cons ((nth_eq _ 4).trans rfl) ?_ AllReadyH.nil)
            intro K3 hK3
            refine call_in hK3 (by kernel_rfl) 17 #[.agg #[.int .i64 c.W, .int .i64 c.H, .int .i64 c.height, va, vb, (.slice ar c.robots.length cap3), vd, .int .i64 c.unit, .int .i64 c.accel, .int .i64 c.speed, .int .i64 c.turn, .int .i64 c.hoist, .int .i64 c.queue, .int .i64 c.resend, .int .i64 c.budget, .bool c.back], .pointer (some ⟨q, 0, none⟩), .int .i64 a1, .int .i64 3] (by go_simp) _ (HGO.out x2 q (bcat HB0.out hS2) hq2) ?_
            rintro y3 x3 ⟨rfl, b3⟩
            have hS3 := hS2.trans (b3.mono hS2.size)
            have ha3 := (b3.block _ (Array.getElem?_eq_some_iff.1 ha2).1).trans ha2
            refine ⟨hS3, ?_⟩
            simp only [Act.put, List.setIfInBounds_toArray, List.set_cons_zero, List.set_cons_succ]
            refine wpAnyH_ready (rs := [6]) (by kernel_rfl) (by simp) (AllReadyH.cons ((nth_eq _ 6).trans rfl) ?_ AllReadyH.nil)
            intro K4 hK4
            obtain ⟨x4, hx4⟩ : ∃ x, x = x3.setCells x1.heap.size 0 (tlL T) := ⟨_, rfl⟩
            have hS4 : Below x0.heap.size x0 x4 := by rw [hx4]; exact Bn.only hS3 (Only.setCells _ _ _ _) hl2
            have hb4 : x4.heap[x1.heap.size]? = some (.cells (tlA T) 46 (0, 0)) := by rw [hx4, ← tl_put]; exact setCells_same _ _ _ (tlL T) 0 _ _ ha3
            refine skip_in hK4 (by kernel_rfl) x4 (by rw [hx4]; exact run_store_mid_op 46 _ _ rfl x1.heap.size 0 (tlA T) rfl rfl (there_of ha3 0 19 (Nat.le_refl _)) infoTele (tlA_one _)) hS4 ?_
            simp only [Act.put, List.setIfInBounds_toArray, List.set_cons_zero, List.set_cons_succ]
            refine done_held (by kernel_rfl) ?_ _
            go_wp2
            go_meet
            exact ⟨_, rfl, hb4, Nat.le_trans HD0.out.size hl2, HD0.out.trans (hS4.mono HD0.out.size)⟩
        · intro K1 hK1
          obtain ⟨x1, hx1⟩ : ∃ x, x = x0.alloc (.cells (tlA tl0) 46) := ⟨_, rfl⟩
          have b1 : Below x0.heap.size x0 x1 := by rw [hx1]; exact (Below.refl _ _).alloc (Nat.le_refl _) _
          have hS1 := hS0.trans (b1.mono hS0.size)
          have ha1 : x1.heap[x0.heap.size]? = some (.cells (tlA tl0) 46 (0, 0)) := by rw [hx1]; exact World.alloc_heap_new _ _
          have hl1 := hS0.size
          refine value_in hK1 (by kernel_rfl) (.pointer (some ⟨x0.heap.size, 0, none⟩)) x1 (by rw [hx1]; exact run_alloc_op 46 rfl (tlA tl0) (zeroTele _)) hS1 ?_
          simp only [Act.put, List.setIfInBounds_toArray, List.set_cons_zero, List.set_cons_succ]
          refine wpAnyH_ready (rs := [2]) (by kernel_rfl) (by simp) (AllReadyH.cons ((nth_eq _ 2).trans rfl) ?_ AllReadyH.nil)
          intro K2 hK2
          refine call_in hK2 (by kernel_rfl) 13 #[.agg #[.int .i64 c.W, .int .i64 c.H, .int .i64 c.height, va, vb, (.slice ar c.robots.length cap3), vd, .int .i64 c.unit, .int .i64 c.accel, .int .i64 c.speed, .int .i64 c.turn, .int .i64 c.hoist, .int .i64 c.queue, .int .i64 c.resend, .int .i64 c.budget, .bool c.back], .int .i64 0] (by go_simp) _ (rc_r c va vb _ vd x1 hr0 r HR0.out (Grid.old_go HAH.out (bcat HB0.out hS1)) (fun _ h => h)) ?_
          rintro y2 x2 ⟨q, rfl, hq2, b2⟩
          have hS2 := hS1.trans (b2.mono hS1.size)
          have ha2 := (b2.block _ (Array.getElem?_eq_some_iff.1 ha1).1).trans ha1
          refine ⟨hS2, ?_⟩
          simp only [Act.put, List.setIfInBounds_toArray, List.set_cons_zero, List.set_cons_succ]
          refine wpAnyH_ready (rs := [4]) (by kernel_rfl) (by simp) (AllReadyH.cons ((nth_eq _ 4).trans rfl) ?_ AllReadyH.nil)
          intro K3 hK3
          refine call_in hK3 (by kernel_rfl) 17 #[.agg #[.int .i64 c.W, .int .i64 c.H, .int .i64 c.height, va, vb, (.slice ar c.robots.length cap3), vd, .int .i64 c.unit, .int .i64 c.accel, .int .i64 c.speed, .int .i64 c.turn, .int .i64 c.hoist, .int .i64 c.queue, .int .i64 c.resend, .int .i64 c.budget, .bool c.back], .pointer (some ⟨q, 0, none⟩), .int .i64 a1, .int .i64 3] (by go_simp) _ (HGO.out x2 q (bcat HB0.out hS2) hq2) ?_
          rintro y3 x3 ⟨rfl, b3⟩
          have hS3 := hS2.trans (b3.mono hS2.size)
          have ha3 := (b3.block _ (Array.getElem?_eq_some_iff.1 ha2).1).trans ha2
          refine ⟨hS3, ?_⟩
          simp only [Act.put, List.setIfInBounds_toArray, List.set_cons_zero, List.set_cons_succ]
          refine wpAnyH_ready (rs := [6]) (by kernel_rfl) (by simp) (AllReadyH.cons ((nth_eq _ 6).trans rfl) ?_ AllReadyH.nil)
          intro K4 hK4
          obtain ⟨x4, hx4⟩ : ∃ x, x = x3.setCells x0.heap.size 0 (tlL T) := ⟨_, rfl⟩
          have hS4 : Below x0.heap.size x0 x4 := by rw [hx4]; exact Bn.only hS3 (Only.setCells _ _ _ _) hl1
          have hb4 : x4.heap[x0.heap.size]? = some (.cells (tlA T) 46 (0, 0)) := by rw [hx4, ← tl_put]; exact setCells_same _ _ _ (tlL T) 0 _ _ ha3
          refine skip_in hK4 (by kernel_rfl) x4 (by rw [hx4]; exact run_store_mid_op 46 _ _ rfl x0.heap.size 0 (tlA T) rfl rfl (there_of ha3 0 19 (Nat.le_refl _)) infoTele (tlA_one _)) hS4 ?_
          simp only [Act.put, List.setIfInBounds_toArray, List.set_cons_zero, List.set_cons_succ]
          refine done_held (by kernel_rfl) ?_ _
          go_wp2
          go_meet
          exact ⟨_, rfl, hb4, Nat.le_trans HD0.out.size hl1, HD0.out.trans (hS4.mono HD0.out.size)⟩
      case rest =>
      obtain ⟨g, rfl, hg, hgl, bc⟩ := hcut
      have HG : Hid (wc.heap[g]? = some (.cells (tlA T) 46 (0, 0))) := hg
      have HRc : Hid (RbAt wc R r) := HR5.out.go bc
      have HBc : Hid (Below w.heap.size w wc) := bcat HB5.out bc
      have HBc1 : Hid (Below w1.heap.size w1 wc) := bcat HB15.out bc
      have HGP : Hid (g ≠ R.p ∧ g ≠ R.k) := ⟨Ne.symm (Nat.ne_of_lt (Nat.lt_of_lt_of_le HR5.out.plt hgl)), Ne.symm (Nat.ne_of_lt (Nat.lt_of_lt_of_le HR5.out.klt hgl))⟩
      clear hg hgl bc HGO HR5
      obtain ⟨r1, hr1⟩ : ∃ r1, begun r T = r1 := ⟨_, rfl⟩
      have HR1 : Hid (begun r T = r1) := hr1
      have hq : hearL R r T = none ∧ hearR R r T = r1 ∧ hearH R r T = 1 := by
        have h := led_hear HL.out HF0.out.2.2.2.1
        rw [HT.out, hr1] at h
        exact h
      clear hr1
      have hsd := (Grid.new_some hN).1.1
      have hnm := limited_nums hsd
      have HUN : Hid (1 ≤ c.unit ∧ c.unit ≤ 1000) := ⟨hnm.1, hnm.2.1⟩
      have HWR : Hid (R.W ≤ 6 ∧ R.H ≤ 6) := by
        show R.W ≤ 6 ∧ R.H ≤ 6
        rw [HRW.out.1, HRW.out.2.1]
        exact HSM.out
      have HKo : Hid (Kin.Ok R.ku R.ka R.kv) := HRc.out.ok
      have HBD : Hid (1 ≤ m.me - m.ma ∧ m.me - m.ma ≤ 16000) := by have h1 := HL.out.en; have h2 := HL.out.l1; have h3 := HL.out.l2; exact ⟨by omega, by omega⟩
      obtain ⟨L, hL⟩ : ∃ L, m.me - m.ma = L := ⟨_, rfl⟩
      have hLb : 1 ≤ L ∧ L ≤ 16000 := by rw [← hL]; exact HBD.out
      have hwL : IntKind.i64.wrap (m.me - m.ma) = L := by rw [IntKind.wrap_i64]; omega
      have HLL : Hid (m.me - m.ma = L) := hL
      have HWL : Hid (IntKind.i64.wrap (m.me - m.ma) = L) := hwL
      obtain ⟨nn, hnn⟩ : ∃ nn : Nat, place a2 L = nn := Int.eq_ofNat_of_zero_le (place_bd a2 L (by omega)).1
      have hnb : (nn : Int) < L := by rw [← hnn]; exact (place_bd a2 L (by omega)).2
      have cP1 := fun w => place_any a2 L w (by omega) (by omega)
      rw [hnn] at cP1
      clear hL hsd hnm hnn
      go_upto_region 10 with (first
            | (refine wpList_load_at rfl 46 (.tmp 11) rfl ⟨g, 0, none⟩ rfl (tlA T) (load_tele HG.out) ?_)
            | (go_at_call 22; refine (hear_at HRc.out (n := 0) (by decide) HF0.out.2.2.2.2.1 hq.1 hq.2.1 hq.2.2).mono ?_; rintro e w8 ⟨v, rfl, lv, hR8, T8⟩; have hv : v = .slice none 0 0 := lv; subst hv; have HD8 : Hid (Dl w1 R g T m 0 0 0 (m.me - m.ma) w8 r1) := (by have d := Dl.begun HBc1.out T8 HL.out HF0.out.2.2.2.1 (by decide : (0 : Int) ≤ 0) HF0.out.1 HF0.out.2.2.2.2.1 (by rw [HT.out, HR1.out]; exact hR8) (by rw [HT.out]; exact HG.out) HGP.out.1 HGP.out.2 HPK1.out.1 HPK1.out.2; rw [HT.out, HR1.out, HF0.out.2.1, HF0.out.2.2.1] at d; exact d); have HT8 : Hid (Tn R wc w8) := T8; clear hR8 T8 lv))
      have HTI : Hid (∀ u : World, u.heap[g]? = some (.cells (tlA T) 46 (0, 0)) → u.cell? ⟨g, 14, none⟩ = some (.int .i64 m.me) ∧ u.cell? ⟨g, 13, none⟩ = some (.int .i64 m.ma)) := fun u h => ⟨(tl_me h).trans (by rw [← HT.out]; rfl), (tl_ma h).trans (by rw [← HT.out]; rfl)⟩
      have k14 := (HTI.out w8 HD8.out.tl).1
      have k13 := (HTI.out w8 HD8.out.tl).2
      go_upto_region 12 with (go_at_call 18; refine (cP1 _).mono ?_; rintro e yp ⟨rfl, hyp⟩; rw [hyp]; clear hyp)
      clear k14 k13 hwL cP1
      go_loopw [15] (fun i wr => ∃ (j : Nat) (rr : Rb), i = .int .i64 j ∧ j ≤ nn ∧ Dl w1 R g T m 0 j 0 (L - (j : Int)) wr rr ∧ rr.la = 0 ∧ rr.gn = (j : Int)) (fun i _ => nn - (intOf i).toNat)
      case atStart => exact ⟨0, r1, rfl, by omega, by have h := HD8.out; rw [HLL.out] at h; simpa using h, by rw [← HR1.out]; rfl, by rw [← HR1.out]; rfl⟩
      case round =>
        clear HD8
        obtain ⟨j, rr, rfl, hj, hD, hla, hgn⟩ := hrel
        have HDK : Hid (Dl w1 R g T m 0 j 0 (L - (j : Int)) wr rr ∧ rr.la = 0 ∧ rr.gn = (j : Int)) := ⟨hD, hla, hgn⟩
        by_cases hin : j < nn
        · have g1 : (j : Int) < (nn : Int) := by omega
          have cT := tick_any hD.rb (n := (j : Int)) (by omega) hD.ok
          rw [(hD.how (by omega)).1, (hD.how (by omega)).2] at cT
          clear hD hla hgn
          go_wp2_with (first
            | (go_at_call 19; refine cT.mono ?_; rintro e x6 ⟨rfl, hR6, T6⟩; clear cT; have HX6 : Hid (Dl w1 R g T m 0 ((j : Int) + 1) 0 (L - (j : Int) - 1) x6 (tickR rr) ∧ (tickR rr).la = 0 ∧ (tickR rr).gn = (j : Int) + 1) := (by obtain ⟨_, _, _, _, _, _, _, _, _, _, _, q⟩ := tick_more HDK.out.1.ok HDK.out.1.un (by rw [HDK.out.1.rest_]; omega); have q := q HDK.out.2.1; exact ⟨HDK.out.1.tick (by omega) (by omega) hR6 T6, q.2, by rw [q.1, HDK.out.2.2]⟩); obtain ⟨x7, hx7⟩ : ∃ y, y = x6.alloc (.cells (mvA mv0) 44) := ⟨_, rfl⟩; have d7 : Below x6.heap.size x6 x7 := (by rw [hx7]; exact (Below.refl _ _).alloc (Nat.le_refl _) _); have HM7 : Hid (x7.heap[x6.heap.size]? = some (.cells (mvA mv0) 44 (0, 0))) := (by rw [hx7]; exact World.alloc_heap_new _ _); have HD7 : Hid (Below x6.heap.size x6 x7) := d7; clear d7 hR6 T6)
            | (refine wpList_new rfl rfl 44 16 (.tmp 80) rfl rfl rfl rfl (mvA mv0) (mvA mv0) (zeroMove _) rfl rfl infoMove rfl (mvA_one _) ?_; rw [← hx7]; clear hx7))
          go_roundw
          case rel => exact ⟨j + 1, tickR rr, by go_num, by omega, by have h := HX6.out.1.go HD7.out; rwa [show (j : Int) + 1 = ((j + 1 : Nat) : Int) by omega, show L - (j : Int) - 1 = L - ((j + 1 : Nat) : Int) by omega] at h, HX6.out.2.1, by rw [HX6.out.2.2]; omega⟩
          case measure => simp [intOf]; omega
        · have g1 : ¬ (j : Int) < (nn : Int) := by omega
          obtain rfl : j = nn := by omega
          clear hin hj
          have hlf : rr.lf = L - (j : Int) := by have h := hD.rest_; unfold rest at h; omega
          have hq2 := stop_hear (R := R) (r := rr) (t := tlG 2 9 0) ⟨hD.nb.symm, rfl, by show rr.ep < 9; rw [hD.ep_]; decide⟩ hD.un
          have hcu := stop_cut (R := R) (r := rr) (m := m) (ep := 9) (n := (j : Int)) (by have := HWR.out.1; omega) (by have := HWR.out.2; omega) HKo.out hD.ok hD.un hD.mv hD.st HL.out.legal
          have hst := stop_stay R rr 9
          have hok := hD.ok.stop (R := R) (ep := 9) (by omega) (by rw [hD.ep_]; decide) hD.rb.hT
          rw [show (tlG 2 9 0).ep = 9 from rfl] at hq2
          obtain ⟨s1, hs1⟩ : ∃ s1, stopP R rr 9 = s1 := ⟨_, rfl⟩
          rw [hs1] at hq2 hcu hst hok
          obtain ⟨mc, hmc⟩ : ∃ mc, s1.mv = mc := ⟨_, rfl⟩
          obtain ⟨LF, hLF⟩ : ∃ LF, s1.lf = LF := ⟨_, rfl⟩
          rw [hmc, hLF] at hcu
          obtain ⟨hC, hun, hss, hsl, hf1, hf2⟩ := hcu
          have HC : Hid (Cutted R.W R.H R.us m mc) := hC
          have HSD : Hid (∀ u, RbAt u R s1 → Tn R wr u → Sd w1 R g T mc j LF u s1) := fun u hR T9 =>
            ⟨hR, hok, hun, by unfold rest; rw [hLF, hsl, hla]; omega, hmc, hss, hst.2.2.2.1, hst.1.trans hD.nb, bel_tn hD.bel T9 HPK1.out.1 HPK1.out.2 hD.bel.size, (T9.block _ hD.gl HGP.out.1 HGP.out.2).trans hD.tl, HGP.out.1, HGP.out.2, HPK1.out.1, HPK1.out.2⟩
          have hs0 : s1.la = 0 := hsl.trans hla
          have HLFB : Hid (1 ≤ LF ∧ LF ≤ L + 6 * c.unit) := by
            refine ⟨hf1, ?_⟩
            have hu := HUN.out
            rcases hf2 with h | ⟨hk, h⟩
            · rw [hlf] at h; omega
            · have h6 := run_short HWR.out.1 HWR.out.2 HL.out.legal hk
              have hn0 := legal_n HL.out.legal
              have hmul : m.n * (R.ku : Int) ≤ 6 * (R.ku : Int) := Int.mul_le_mul_of_nonneg_right h6 (by omega)
              rw [HRW.out.2.2.2.1] at hmul h
              omega
          obtain ⟨dd, hdd⟩ : ∃ dd, place a3 30 = dd := ⟨_, rfl⟩
          have hd0 := place_bd a3 30 (by decide)
          have cP2 := fun w => place_any a3 30 w (by decide) (by decide)
          rw [hdd] at cP2 hd0
          clear hC hun hss hsl hf1 hf2 hok hst hs1 hmc hLF hlf hla hgn hdd hD
          obtain ⟨LT, hLT⟩ : ∃ LT, LF + max 0 dd = LT := ⟨_, rfl⟩
          have HLT : Hid (LF + max 0 dd = LT) := hLT
          go_upto_region 22 with (first
            | (refine wpList_buildAs rfl 46 _ rfl (tlA (tlG 2 9 0)) _ (by simp only [List.map_toArray, List.map_cons, List.map_nil]; rfl) (built_stop 9) ?_)
            | (go_at_call 22; refine (hear_at HDK.out.1.rb (n := (j : Int)) (by omega) HDK.out.1.ok hq2.1 hq2.2.1 hq2.2.2).mono ?_; rintro e w9 ⟨v, rfl, lv, hR9, T9⟩; have hv : v = .slice none 0 0 := lv; subst hv; have HS9 : Hid (Sd w1 R g T mc j LF w9 s1) := HSD.out w9 hR9 T9; clear hR9 T9 lv)
            | (go_at_call 18; refine (cP2 _).mono ?_; rintro e yp ⟨rfl, hyp⟩; rw [hyp]; clear hyp)
            | (go_at_call 24; refine (delay_any HS9.out.rb dd HS9.out.ok.la0 HS9.out.ok.la1).mono ?_; rintro e w10 ⟨rfl, hR10, o10⟩; have HS10 : Hid (Sd w1 R g T mc j LT w10 (lateR s1 dd)) := (by rw [← HLT.out]; exact HS9.out.late dd (by omega) (by rw [hs0]; decide) hR10 o10); clear hR10 o10))
          have k14 := (HTI.out w10 HS10.out.tl).1
          have k13 := (HTI.out w10 HS10.out.tl).2
          have k7 : w10.cell? ⟨w.heap.size, 7, none⟩ = some (.int .i64 c.unit) := (cell_of' (HC1.out w10 HS10.out.bel) 7).trans rfl
          have hu := HUN.out
          have hwL := HWL.out
          have ha1 : IntKind.i64.wrap (L + dd) = L + dd := by rw [IntKind.wrap_i64]; omega
          have ha2 : IntKind.i64.wrap (L + dd + 1) = L + dd + 1 := by rw [IntKind.wrap_i64]; omega
          have ha3 : IntKind.i64.wrap (c.unit * 6) = c.unit * 6 := by rw [IntKind.wrap_i64]; omega
          obtain ⟨MM, hMM⟩ : ∃ MM, L + dd + 1 + c.unit * 6 = MM := ⟨_, rfl⟩
          have ha4 : IntKind.i64.wrap (L + dd + 1 + c.unit * 6) = MM := by rw [IntKind.wrap_i64]; omega
          have hLM : 1 ≤ LT ∧ LT ≤ MM ∧ LT ≤ 100000 := by have := HLFB.out; omega
          have HMM : Hid (L + dd + 1 + c.unit * 6 = MM) := hMM
          clear hMM
          go_upto_region 24 with fail
          clear k14 k13 k7 hwL ha1 ha2 ha3 ha4 hu hd0 hs0 cP2 hq2 HSD
          go_loopw [21] (fun i wr => ∃ (k : Nat) (rr : Rb), i = .int .i64 k ∧ (k : Int) < LT ∧ Sd w1 R g T mc ((j : Int) + (k : Int)) (LT - (k : Int)) wr rr) (fun i _ => LT.toNat - (intOf i).toNat)
          case atStart => exact ⟨0, lateR s1 dd, rfl, by omega, by have h := HS10.out; simpa using h⟩
          case round =>
            clear HS10 HS9 HDK
            obtain ⟨k, rr, rfl, hk, hS⟩ := hrel
            have HSK : Hid (Sd w1 R g T mc ((j : Int) + (k : Int)) (LT - (k : Int)) wr rr) := hS
            have g2 : (k : Int) < MM := by omega
            have cT := tick_any hS.rb (n := (j : Int) + (k : Int)) (by omega) hS.ok
            clear hS
            by_cases hl : 1 < LT - (k : Int)
            · rw [(HSK.out.how hl).1, (HSK.out.how hl).2] at cT
              go_wp2_with (first
            | (go_at_call 19; refine cT.mono ?_; rintro e x6 ⟨rfl, hR6, T6⟩; clear cT; have HX6 : Hid (Sd w1 R g T mc ((j : Int) + (k : Int) + 1) (LT - (k : Int) - 1) x6 (tickR rr)) := HSK.out.tick (by omega) (by omega) hR6 T6; obtain ⟨x7, hx7⟩ : ∃ y, y = x6.alloc (.cells (mvA mv0) 44) := ⟨_, rfl⟩; have d7 : Below x6.heap.size x6 x7 := (by rw [hx7]; exact (Below.refl _ _).alloc (Nat.le_refl _) _); have HM7 : Hid (x7.heap[x6.heap.size]? = some (.cells (mvA mv0) 44 (0, 0))) := (by rw [hx7]; exact World.alloc_heap_new _ _); have HD7 : Hid (Below x6.heap.size x6 x7) := d7; clear d7 hR6 T6)
            | (refine wpList_new rfl rfl 44 22 (.tmp 124) rfl rfl rfl rfl (mvA mv0) (mvA mv0) (zeroMove _) rfl rfl infoMove rfl (mvA_one _) ?_; rw [← hx7]; clear hx7))
              go_roundw
              case rel => exact ⟨k + 1, tickR rr, by go_num, by omega, by have h := HX6.out.go HD7.out; rwa [show (j : Int) + (k : Int) + 1 = (j : Int) + ((k + 1 : Nat) : Int) by omega, show LT - (k : Int) - 1 = LT - ((k + 1 : Nat) : Int) by omega] at h⟩
              case measure => simp [intOf]; omega
            · have ql := HSK.out.last (by omega)
              obtain ⟨rE, hrE⟩ : ∃ rE, ended rr = rE := ⟨_, rfl⟩
              rw [hrE] at ql
              rw [ql.1, ql.2.1, ql.2.2.1] at cT
              have HPE : Hid (posR rE = ((mc.tx, mc.ty), mc.td)) := ql.2.2.2.2.2.1
              have HEU : Hid (rE.mv = mv0 ∧ under rE = false) := ⟨ql.2.2.2.2.1, ql.2.2.2.1⟩
              have HTQ : Hid (tellP rE = haltQ rE.px rE.py rE.pd rE.ld) := by
                show tellP rE = haltQ rE.px rE.py rE.pd rE.ld
                rw [ql.2.2.2.2.2.2.1]
                unfold haltP haltQ
                rw [ql.2.2.2.2.2.2.2.1, ql.2.2.2.2.2.2.2.2]
              clear ql hrE hl hk
              go_upto_region 28 with (first
            | (go_at_call 19; refine cT.mono ?_; rintro e z6 ⟨rfl, hR6, T6⟩; clear cT; have HE6 : Hid (RbAt z6 R rE ∧ Below w1.heap.size w1 z6 ∧ z6.heap[g]? = some (.cells (tlA T) 46 (0, 0))) := ⟨hR6, bel_tn HSK.out.bel T6 HPK1.out.1 HPK1.out.2 HSK.out.bel.size, (T6.block _ HSK.out.gl HGP.out.1 HGP.out.2).trans HSK.out.tl⟩; obtain ⟨z7, hz7⟩ : ∃ y, y = z6.alloc (.cells (mvA mc) 44) := ⟨_, rfl⟩; have d7 : Below z6.heap.size z6 z7 := (by rw [hz7]; exact (Below.refl _ _).alloc (Nat.le_refl _) _); have HM7 : Hid (z7.heap[z6.heap.size]? = some (.cells (mvA mc) 44 (0, 0))) := (by rw [hz7]; exact World.alloc_heap_new _ _); have HD7 : Hid (Below z6.heap.size z6 z7) := d7; clear d7 hR6 T6)
            | (refine wpList_new rfl rfl 44 22 (.tmp 124) rfl rfl rfl rfl (mvA mv0) (mvA mc) (zeroMove _) rfl rfl infoMove rfl (mvA_one _) ?_; rw [← hz7]; clear hz7))
              have HZ7 : Hid (RbAt z7 R rE ∧ Below w1.heap.size w1 z7) := ⟨HE6.out.1.go HD7.out, bcat HE6.out.2.1 HD7.out⟩
              have HMB : Hid (∀ u, Below z7.heap.size z7 u → u.heap[z6.heap.size]? = some (.cells (mvA mc) 44 (0, 0))) := fun u b => (b.block _ (Array.getElem?_eq_some_iff.1 HM7.out).1).trans HM7.out
              have HTL : Hid (∀ u, Below z7.heap.size z7 u → u.heap[g]? = some (.cells (tlA (goT r.nb r.ep (r.lt + 1) m)) 46 (0, 0))) := fun u b => by
                have h0 := (HD7.out.block _ (Array.getElem?_eq_some_iff.1 HE6.out.2.2).1).trans HE6.out.2.2
                have e : (goT r.nb r.ep (r.lt + 1) m) = T := HT.out
                rw [e]
                exact (b.block _ (Array.getElem?_eq_some_iff.1 h0).1).trans h0
              clear HTI
              have HTI : Hid (∀ u, Below z7.heap.size z7 u → u.cell? ⟨g, 4, none⟩ = some (.int .i64 m.kd) ∧ u.cell? ⟨g, 6, none⟩ = some (.int .i64 m.n)) := fun u b => ⟨(tl_cell (HTL.out u b) 4).trans rfl, (tl_cell (HTL.out u b) 6).trans rfl⟩
              have HTF : Hid (∀ u, Below z7.heap.size z7 u → (loadVar 42 ⟨g, 7, none⟩).run Tryz.prog u = .ok (.agg (poA m.fx m.fy m.fd)) u) := fun u b => tl_fr7 (HTL.out u b)
              have HTM : Hid (∀ u, Below z7.heap.size z7 u → (loadVar 44 ⟨g, 4, none⟩).run Tryz.prog u = .ok (.agg (mvA m)) u) := fun u b => tl_move (HTL.out u b)
              have HCK : Hid ((mvA mc)[0]? = some (Value.int .i64 m.kd)) := by show (mvA mc)[0]? = _; rw [← HC.out.kd]; rfl
              have HFR : Hid (decide (((mc.fx, mc.fy), mc.fd) = ((m.fx, m.fy), m.fd)) = true) := by
                show decide (((mc.fx, mc.fy), mc.fd) = ((m.fx, m.fy), m.fd)) = true
                rw [HC.out.frm.1, HC.out.frm.2.1, HC.out.frm.2.2]
                simp
              have HC0 : Hid (0 ≤ mc.n) := HC.out.n0
              have q1 : decide (m.n < mc.n) = false := decide_eq_false (by have := HC.out.n1; omega)
              have q2 : decide (mc.n < 0) = false := decide_eq_false (by have := HC.out.n0; omega)
              have HSTY : Hid (mc.kd = 1 → mc.n = 0 → ((mc.tx, mc.ty), mc.td) = ((mc.fx, mc.fy), mc.fd)) := fun h1 h2 => by
                rw [HC.out.frm.1, HC.out.frm.2.1, HC.out.frm.2.2]
                exact HC.out.stay (by rw [← HC.out.kd]; exact h1) h2
              have HSAM : Hid (¬ mc.kd = 1 → mc = m) := fun h => HC.out.same (by rw [← HC.out.kd]; exact h)
              have HLG : Hid (mc.kd = 1 → 0 < mc.n → ∀ u, Below w1.heap.size w1 u → Calls Tryz.prog 25 #[.agg #[.int .i64 c.W, .int .i64 c.H, .int .i64 c.height, va, vb, (.slice ar c.robots.length cap3), vd, .int .i64 c.unit, .int .i64 c.accel, .int .i64 c.speed, .int .i64 c.turn, .int .i64 c.hoist, .int .i64 c.queue, .int .i64 c.resend, .int .i64 c.budget, .bool c.back], .agg (mvA mc)] u fun e w' => ∃ z, e = .returned z ∧ (z = .bool true ∧ Below u.heap.size u w')) := fun h1 h2 u b => by
                have h := Grid.rlegal_any c va vb (.slice ar c.robots.length cap3) vd u (Grid.old_go HAH.out (bcat HB1.out b)) l1 l2 l3 l4 l5 hN (gm mc)
                have hl := HC.out.legal (by rw [← HC.out.kd]; exact h1) h2
                rw [HRW.out.1, HRW.out.2.1, HRW.out.2.2.1] at hl
                rw [hl] at h
                exact h
              refine start_held (S := fun u => Below z7.drew.heap.size z7.drew u) 38 rfl (by kernel_rfl) (Below.refl _ _) ?_
              simp only [Array.replicate_succ, Array.replicate_zero, List.push_toArray, List.nil_append, List.cons_append]
              have hS0 := Below.refl z7.drew.heap.size z7.drew
              have HY0 : Hid (Below z7.heap.size z7 z7.drew) := (Below.refl _ _).drew
              generalize z7.drew = y0 at *
              refine take_held 0 hS0 rfl (by kernel_rfl) (by kernel_rfl) (by kernel_rfl) (fun _ _ _ h => h) (by kernel_rfl) (v := ?v5022) ?y5022 ?r5022
              case y5022 => (intro u hu; go_simp; try rfl)
              simp only [Act.put, List.setIfInBounds_toArray, List.set_cons_zero, List.set_cons_succ]
              refine take_held 1 hS0 rfl (by kernel_rfl) (by kernel_rfl) (by kernel_rfl) (fun _ _ _ h => h) (by kernel_rfl) (v := ?v5023) ?y5023 ?r5023
              case y5023 => (intro u hu; go_simp; try rfl)
              simp only [Act.put, List.setIfInBounds_toArray, List.set_cons_zero, List.set_cons_succ]
              refine take_held 2 hS0 rfl (by kernel_rfl) (by kernel_rfl) (by kernel_rfl) (fun _ _ _ h => h) (by kernel_rfl) (v := ?v5024) ?y5024 ?r5024
              case y5024 => (intro u hu; go_simp; try rfl)
              simp only [Act.put, List.setIfInBounds_toArray, List.set_cons_zero, List.set_cons_succ]
              refine take_held 3 hS0 rfl (by kernel_rfl) (by kernel_rfl) (by kernel_rfl) (fun _ _ _ h => h) (by kernel_rfl) (v := ?v5025) ?y5025 ?r5025
              case y5025 => (intro u hu; go_simp; try rfl)
              simp only [Act.put, List.setIfInBounds_toArray, List.set_cons_zero, List.set_cons_succ]
              refine take_held 4 hS0 rfl (by kernel_rfl) (by kernel_rfl) (by kernel_rfl) (fun _ _ _ h => h) (by kernel_rfl) (v := .agg (poA mc.fx mc.fy mc.fd)) ?y5026 ?r5026
              case y5026 => (intro u hu; exact run_load_at 42 _ rfl ⟨z6.heap.size, 3, none⟩ rfl _ (mv_from (HMB.out _ (bcat HY0.out hu))))
              simp only [Act.put, List.setIfInBounds_toArray, List.set_cons_zero, List.set_cons_succ]
              refine take_held 5 hS0 rfl (by kernel_rfl) (by kernel_rfl) (by kernel_rfl) (fun _ _ _ h => h) (by kernel_rfl) (v := ?v5027) ?y5027 ?r5027
              case y5027 => (intro u hu; go_simp; try rfl)
              simp only [Act.put, List.setIfInBounds_toArray, List.set_cons_zero, List.set_cons_succ]
              refine take_held 6 hS0 rfl (by kernel_rfl) (by kernel_rfl) (by kernel_rfl) (fun _ _ _ h => h) (by kernel_rfl) (v := ?v5028) ?y5028 ?r5028
              case y5028 => (intro u hu; go_simp; try rfl)
              simp only [Act.put, List.setIfInBounds_toArray, List.set_cons_zero, List.set_cons_succ]
              refine take_held 7 hS0 rfl (by kernel_rfl) (by kernel_rfl) (by kernel_rfl) (fun _ _ _ h => h) (by kernel_rfl) (v := .agg (poA m.fx m.fy m.fd)) ?y5029 ?r5029
              case y5029 => (intro u hu; exact run_load_at 42 _ rfl ⟨g, 7, none⟩ rfl _ (HTF.out _ (bcat HY0.out hu)))
              simp only [Act.put, List.setIfInBounds_toArray, List.set_cons_zero, List.set_cons_succ]
              refine take_held 8 hS0 rfl (by kernel_rfl) (by kernel_rfl) (by kernel_rfl) (fun _ _ _ h => h) (by kernel_rfl) (v := .bool (!true)) ?y5030 ?r5030
              case y5030 => (intro u hu; exact run_neq_agg 42 _ _ rfl guardPo (poA mc.fx mc.fy mc.fd) (poA m.fx m.fy m.fd) true rfl rfl (eqPo HFR.out u))
              simp only [Act.put, List.setIfInBounds_toArray, List.set_cons_zero, List.set_cons_succ]
              refine take_held 9 hS0 rfl (by kernel_rfl) (by kernel_rfl) (by kernel_rfl) (fun _ _ _ h => h) (by kernel_rfl) (v := ?v5031) ?y5031 ?r5031
              case y5031 => (intro u hu; go_simp; try rfl)
              simp only [Act.put, List.setIfInBounds_toArray, List.set_cons_zero, List.set_cons_succ]
              refine take_held 10 hS0 rfl (by kernel_rfl) (by kernel_rfl) (by kernel_rfl) (fun _ _ _ h => h) (by kernel_rfl) (v := ?v5032) ?y5032 ?r5032
              case y5032 => (intro u hu; go_simp; try rfl)
              simp only [Act.put, List.setIfInBounds_toArray, List.set_cons_zero, List.set_cons_succ]
              refine take_held 11 hS0 rfl (by kernel_rfl) (by kernel_rfl) (by kernel_rfl) (fun _ _ _ h => h) (by kernel_rfl) (v := ?v5033) ?y5033 ?r5033
              case y5033 => (intro u hu; go_simp; try rfl)
              simp only [Act.put, List.setIfInBounds_toArray, List.set_cons_zero, List.set_cons_succ]
              refine take_held 12 hS0 rfl (by kernel_rfl) (by kernel_rfl) (by kernel_rfl) (fun _ _ _ h => h) (by kernel_rfl) (v := .agg (poA mc.tx mc.ty mc.td)) ?y5034 ?r5034
              case y5034 => (intro u hu; exact run_load_at 42 _ rfl ⟨z6.heap.size, 6, none⟩ rfl _ (mv_to (HMB.out _ (bcat HY0.out hu))))
              simp only [Act.put, List.setIfInBounds_toArray, List.set_cons_zero, List.set_cons_succ]
              refine take_held 13 hS0 rfl (by kernel_rfl) (by kernel_rfl) (by kernel_rfl) (fun _ _ _ h => h) (by kernel_rfl) (v := ?v5035) ?y5035 ?r5035
              case y5035 => (intro u hu; go_simp; try rfl)
              simp only [Act.put, List.setIfInBounds_toArray, List.set_cons_zero, List.set_cons_succ]
              refine wpAnyH_ready (rs := [14]) (by kernel_rfl) (by simp) (AllReadyH.cons ((nth_eq _ 14).trans rfl) ?_ AllReadyH.nil)
              intro K1 hK1
              refine call_in hK1 (by kernel_rfl) 20 #[.pointer (some ⟨R.p, 0, none⟩)] (by go_simp) _ (pose_q (HZ7.out.1.go (bcat2 HY0.out hS0)) HPE.out) ?_
              rintro y1 x1 ⟨rfl, b1⟩
              have hS1 := hS0.trans (b1.mono hS0.size)
              refine ⟨hS1, ?_⟩
              simp only [Act.put, List.setIfInBounds_toArray, List.set_cons_zero, List.set_cons_succ]
              refine take_held 15 hS1 rfl (by kernel_rfl) (by kernel_rfl) (by kernel_rfl) (fun _ _ _ h => h) (by kernel_rfl) (v := .bool (!true)) ?y5036 ?r5036
              case y5036 => (intro u hu; exact run_neq_agg 42 _ _ rfl guardPo (poA mc.tx mc.ty mc.td) (poA mc.tx mc.ty mc.td) true rfl rfl (eqPo (by simp) u))
              simp only [Act.put, List.setIfInBounds_toArray, List.set_cons_zero, List.set_cons_succ]
              refine take_held 16 hS1 rfl (by kernel_rfl) (by kernel_rfl) (by kernel_rfl) (fun _ _ _ h => h) (by kernel_rfl) (v := ?v5037) ?y5037 ?r5037
              case y5037 => (intro u hu; go_simp; try rfl)
              simp only [Act.put, List.setIfInBounds_toArray, List.set_cons_zero, List.set_cons_succ]
              refine take_held 17 hS1 rfl (by kernel_rfl) (by kernel_rfl) (by kernel_rfl) (fun _ _ _ h => h) (by kernel_rfl) (v := ?v5038) ?y5038 ?r5038
              case y5038 => (intro u hu; go_simp; try rfl)
              simp only [Act.put, List.setIfInBounds_toArray, List.set_cons_zero, List.set_cons_succ]
              refine take_held 18 hS1 rfl (by kernel_rfl) (by kernel_rfl) (by kernel_rfl) (fun _ _ _ h => h) (by kernel_rfl) (v := ?v5039) ?y5039 ?r5039
              case y5039 => (intro u hu; go_simp; try rfl)
              simp only [Act.put, List.setIfInBounds_toArray, List.set_cons_zero, List.set_cons_succ]
              refine take_held 19 hS1 rfl (by kernel_rfl) (by kernel_rfl) (by kernel_rfl) (fun _ _ _ h => h) (by kernel_rfl) (v := ?v5040) ?y5040 ?r5040
              case y5040 => (intro u hu; have zz0 := (fun (u : World) (hu : Below y0.heap.size y0 u) => (mv_cell (HMB.out _ (bcat HY0.out hu)) 0).trans (HCK.out : _ = some (Value.int .i64 m.kd))) u hu; go_simp; try rfl)
              simp only [Act.put, List.setIfInBounds_toArray, List.set_cons_zero, List.set_cons_succ]
              refine take_held 20 hS1 rfl (by kernel_rfl) (by kernel_rfl) (by kernel_rfl) (fun _ _ _ h => h) (by kernel_rfl) (v := ?v5041) ?y5041 ?r5041
              case y5041 => (intro u hu; go_simp; try rfl)
              simp only [Act.put, List.setIfInBounds_toArray, List.set_cons_zero, List.set_cons_succ]
              refine take_held 21 hS1 rfl (by kernel_rfl) (by kernel_rfl) (by kernel_rfl) (fun _ _ _ h => h) (by kernel_rfl) (v := ?v5042) ?y5042 ?r5042
              case y5042 => (intro u hu; go_simp; try rfl)
              simp only [Act.put, List.setIfInBounds_toArray, List.set_cons_zero, List.set_cons_succ]
              refine take_held 22 hS1 rfl (by kernel_rfl) (by kernel_rfl) (by kernel_rfl) (fun _ _ _ h => h) (by kernel_rfl) (v := ?v5043) ?y5043 ?r5043
              case y5043 => (intro u hu; have zz0 := (fun (u : World) (hu : Below y0.heap.size y0 u) => (HTI.out _ (bcat HY0.out hu)).1) u hu; go_simp; try rfl)
              simp only [Act.put, List.setIfInBounds_toArray, List.set_cons_zero, List.set_cons_succ]
              refine take_held 23 hS1 rfl (by kernel_rfl) (by kernel_rfl) (by kernel_rfl) (fun _ _ _ h => h) (by kernel_rfl) (v := ?v5044) ?y5044 ?r5044
              case y5044 => (intro u hu; go_simp; try rfl)
              simp only [Act.put, List.setIfInBounds_toArray, List.set_cons_zero, List.set_cons_succ]
              refine take_held 24 hS1 rfl (by kernel_rfl) (by kernel_rfl) (by kernel_rfl) (fun _ _ _ h => h) (by kernel_rfl) (v := ?v5045) ?y5045 ?r5045
              case y5045 => (intro u hu; go_simp; try rfl)
              simp only [Act.put, List.setIfInBounds_toArray, List.set_cons_zero, List.set_cons_succ]
              refine take_held 25 hS1 rfl (by kernel_rfl) (by kernel_rfl) (by kernel_rfl) (fun _ _ _ h => h) (by kernel_rfl) (v := ?v5046) ?y5046 ?r5046
              case y5046 => (intro u hu; go_simp; try rfl)
              simp only [Act.put, List.setIfInBounds_toArray, List.set_cons_zero, List.set_cons_succ]
              refine take_held 26 hS1 rfl (by kernel_rfl) (by kernel_rfl) (by kernel_rfl) (fun _ _ _ h => h) (by kernel_rfl) (v := ?v5047) ?y5047 ?r5047
              case y5047 => (intro u hu; go_simp; try rfl)
              simp only [Act.put, List.setIfInBounds_toArray, List.set_cons_zero, List.set_cons_succ]
              refine take_held 27 hS1 rfl (by kernel_rfl) (by kernel_rfl) (by kernel_rfl) (fun _ _ _ h => h) (by kernel_rfl) (v := ?v5048) ?y5048 ?r5048
              case y5048 => (intro u hu; have zz0 := (fun (u : World) (hu : Below y0.heap.size y0 u) => (mv_cell (HMB.out _ (bcat HY0.out hu)) 2).trans (rfl : _ = some (Value.int .i64 mc.n))) u hu; go_simp; try rfl)
              simp only [Act.put, List.setIfInBounds_toArray, List.set_cons_zero, List.set_cons_succ]
              refine take_held 28 hS1 rfl (by kernel_rfl) (by kernel_rfl) (by kernel_rfl) (fun _ _ _ h => h) (by kernel_rfl) (v := ?v5049) ?y5049 ?r5049
              case y5049 => (intro u hu; go_simp; try rfl)
              simp only [Act.put, List.setIfInBounds_toArray, List.set_cons_zero, List.set_cons_succ]
              refine take_held 29 hS1 rfl (by kernel_rfl) (by kernel_rfl) (by kernel_rfl) (fun _ _ _ h => h) (by kernel_rfl) (v := ?v5050) ?y5050 ?r5050
              case y5050 => (intro u hu; go_simp; try rfl)
              simp only [Act.put, List.setIfInBounds_toArray, List.set_cons_zero, List.set_cons_succ]
              refine take_held 30 hS1 rfl (by kernel_rfl) (by kernel_rfl) (by kernel_rfl) (fun _ _ _ h => h) (by kernel_rfl) (v := ?v5051) ?y5051 ?r5051
              case y5051 => (intro u hu; have zz0 := (fun (u : World) (hu : Below y0.heap.size y0 u) => (HTI.out _ (bcat HY0.out hu)).2) u hu; go_simp; try rfl)
              simp only [Act.put, List.setIfInBounds_toArray, List.set_cons_zero, List.set_cons_succ]
              refine take_held 31 hS1 rfl (by kernel_rfl) (by kernel_rfl) (by kernel_rfl) (fun _ _ _ h => h) (by kernel_rfl) (v := ?v5052) ?y5052 ?r5052
              case y5052 => (intro u hu; go_simp; try rfl)
              simp only [Act.put, List.setIfInBounds_toArray, List.set_cons_zero, List.set_cons_succ]
              refine take_held 32 hS1 rfl (by kernel_rfl) (by kernel_rfl) (by kernel_rfl) (fun _ _ _ h => h) (by kernel_rfl) (v := ?v5053) ?y5053 ?r5053
              case y5053 => (intro u hu; go_simp; try rfl)
              simp only [Act.put, List.setIfInBounds_toArray, List.set_cons_zero, List.set_cons_succ]
              refine take_held 33 hS1 rfl (by kernel_rfl) (by kernel_rfl) (by kernel_rfl) (fun _ _ _ h => h) (by kernel_rfl) (v := ?v5054) ?y5054 ?r5054
              case y5054 => (intro u hu; go_simp; try rfl)
              simp only [Act.put, List.setIfInBounds_toArray, List.set_cons_zero, List.set_cons_succ]
              refine take_held 34 hS1 rfl (by kernel_rfl) (by kernel_rfl) (by kernel_rfl) (fun _ _ _ h => h) (by kernel_rfl) (v := ?v5055) ?y5055 ?r5055
              case y5055 => (intro u hu; go_simp; try rfl)
              simp only [Act.put, List.setIfInBounds_toArray, List.set_cons_zero, List.set_cons_succ]
              refine take_held 35 hS1 rfl (by kernel_rfl) (by kernel_rfl) (by kernel_rfl) (fun _ _ _ h => h) (by kernel_rfl) (v := ?v5056) ?y5056 ?r5056
              case y5056 => (intro u hu; have zz0 := (fun (u : World) (hu : Below y0.heap.size y0 u) => (mv_cell (HMB.out _ (bcat HY0.out hu)) 2).trans (rfl : _ = some (Value.int .i64 mc.n))) u hu; go_simp; try rfl)
              simp only [Act.put, List.setIfInBounds_toArray, List.set_cons_zero, List.set_cons_succ]
              refine take_held 36 hS1 rfl (by kernel_rfl) (by kernel_rfl) (by kernel_rfl) (fun _ _ _ h => h) (by kernel_rfl) (v := ?v5057) ?y5057 ?r5057
              case y5057 => (intro u hu; go_simp; try rfl)
              simp only [Act.put, List.setIfInBounds_toArray, List.set_cons_zero, List.set_cons_succ]
              refine take_held 37 hS1 rfl (by kernel_rfl) (by kernel_rfl) (by kernel_rfl) (fun _ _ _ h => h) (by kernel_rfl) (v := ?v5058) ?y5058 ?r5058
              case y5058 => (intro u hu; go_simp; try rfl)
              simp only [Act.put, List.setIfInBounds_toArray, List.set_cons_zero, List.set_cons_succ]
              refine done_held (by kernel_rfl) ?_ _
              have HV : Hid (Below z7.heap.size z7 x1) := bcat HY0.out hS1
              clear hS0 hS1 q1 q2
              obtain ⟨v0, hv0⟩ : ∃ v0, v0 = x1.alloc (.cells (mvA mc) 44) := ⟨_, rfl⟩
              have HV0 : Hid (Below z7.heap.size z7 v0) := by show Below z7.heap.size z7 v0; rw [hv0]; exact bcat HV.out ((Below.refl _ _).alloc (Nat.le_refl _) _)
              have HX0 : Hid (v0.heap[x1.heap.size]? = some (.cells (mvA mc) 44 (0, 0))) := by show v0.heap[x1.heap.size]? = _; rw [hv0]; exact World.alloc_heap_new _ _
              go_upto_region 31 with (first
                | (refine wpList_load_at rfl 44 (.tmp 22) rfl ⟨z6.heap.size, 0, none⟩ rfl (mvA mc) (mv_all (HMB.out _ HV.out)) ?_)
                | (refine wpList_new rfl rfl 44 24 (.tmp 166) rfl rfl rfl rfl (mvA mv0) (mvA mc) (zeroMove _) rfl rfl infoMove rfl (mvA_one _) ?_; rw [← hv0]; clear hv0))
              have HW1 : Hid (∀ u, Below z7.heap.size z7 u → Below w1.heap.size w1 u) := fun u b => bcat HZ7.out.2 b
              try simp only [Act.put, List.setIfInBounds_toArray, List.set_cons_zero, List.set_cons_succ]
              go_cut [208] from 116 to 236 (fun v wx => v = .bool false ∧ Below v0.heap.size v0 wx)
              case first =>
                have k0 : v0.cell? ⟨z6.heap.size, 0, none⟩ = some (.int .i64 mc.kd) := mv_cell (HMB.out _ HV0.out) 0
                have k2 : v0.cell? ⟨z6.heap.size, 2, none⟩ = some (.int .i64 mc.n) := mv_cell (HMB.out _ HV0.out) 2
                by_cases hk : mc.kd = 1
                · have e1 : (mc.kd == 1) = true := by rw [beq_iff_eq]; exact hk
                  have e2 : (mc.kd != 1) = false := by rw [hk]; rfl
                  by_cases hn : 0 < mc.n
                  · have e3 : decide (0 < mc.n) = true := decide_eq_true hn
                    have e4 : (mc.n == 0) = false := by rw [beq_eq_false_iff_ne]; omega
                    have cLg := HLG.out hk hn v0 (HW1.out _ HV0.out)
                    clear hk hn
                    go_wp2_with (first
                      | (refine wpList_load_w (by kernel_rfl) 26 (.tmp 4) rfl ⟨w.heap.size, 0, none⟩ rfl #[.int .i64 c.W, .int .i64 c.H, .int .i64 c.height, va, vb, (.slice ar c.robots.length cap3), vd, .int .i64 c.unit, .int .i64 c.accel, .int .i64 c.speed, .int .i64 c.turn, .int .i64 c.hoist, .int .i64 c.queue, .int .i64 c.resend, .int .i64 c.budget, .bool c.back] (HLDu.out _ (HW1.out _ HV0.out)) ?_)
                      | (refine wpList_load_w (by kernel_rfl) 44 (.tmp 24) rfl ⟨x1.heap.size, 0, none⟩ rfl (mvA mc) (mv_all HX0.out) ?_)
                      | (go_at_call 25; refine cLg.mono ?_; clear cLg; rintro e v1 ⟨zz, rfl, rfl, b1⟩; have HV1 : Hid (Below v0.heap.size v0 v1) := b1; have k10 : v1.cell? ⟨z6.heap.size, 0, none⟩ = some (.int .i64 mc.kd) := mv_cell (HMB.out _ (bcat HV0.out b1)) 0; have k12 : v1.cell? ⟨z6.heap.size, 2, none⟩ = some (.int .i64 mc.n) := mv_cell (HMB.out _ (bcat HV0.out b1)) 2; clear b1))
                    go_meet
                    exact ⟨rfl, HV1.out⟩
                  · have e3 : decide (0 < mc.n) = false := decide_eq_false hn
                    have e4 : (mc.n == 0) = true := by rw [beq_iff_eq]; have := HC0.out; omega
                    have HST : Hid (decide (((mc.tx, mc.ty), mc.td) = ((mc.fx, mc.fy), mc.fd)) = true) := decide_eq_true (HSTY.out hk (by have := HC0.out; omega))
                    clear hk hn
                    go_wp2_with (first
                      | (refine wpList_load_w (by kernel_rfl) 42 (.tmp 191) rfl ⟨z6.heap.size, 6, none⟩ rfl (poA mc.tx mc.ty mc.td) (mv_to (HMB.out _ HV0.out)) ?_)
                      | (refine wpList_load_w (by kernel_rfl) 42 (.tmp 193) rfl ⟨z6.heap.size, 3, none⟩ rfl (poA mc.fx mc.fy mc.fd) (mv_from (HMB.out _ HV0.out)) ?_)
                      | (refine wpList_neq_agg (by kernel_rfl) 42 (.tmp 192) (.tmp 194) rfl guardPo (poA mc.tx mc.ty mc.td) (poA mc.fx mc.fy mc.fd) true rfl rfl (eqPo HST.out _) ?_))
                    go_meet
                    exact ⟨rfl, Below.refl _ _⟩
                · have e1 : (mc.kd == 1) = false := by rw [beq_eq_false_iff_ne]; exact hk
                  have e2 : (mc.kd != 1) = true := by simp [bne, e1]
                  have HSMC : Hid (mc = m) := HSAM.out hk
                  clear hk
                  go_wp2_with (first
                    | (refine wpList_load_w (by kernel_rfl) 44 (.tmp 22) rfl ⟨z6.heap.size, 0, none⟩ rfl (mvA mc) (mv_all (HMB.out _ HV0.out)) ?_)
                    | (refine wpList_load_w (by kernel_rfl) 44 (.tmp 204) rfl ⟨g, 4, none⟩ rfl (mvA mc) (by rw [HSMC.out]; exact HTM.out _ HV0.out) ?_)
                    | (refine wpList_neq_agg (by kernel_rfl) 44 (.tmp 203) (.tmp 205) rfl gMv (mvA mc) (mvA mc) true rfl rfl (eqMv_self mc _) ?_))
                  go_meet
                  exact ⟨rfl, Below.refl _ _⟩
              case rest =>
              obtain ⟨rfl, hbc⟩ := hcut
              have HZC : Hid (RbAt wc R rE ∧ Below w1.heap.size w1 wc) := ⟨HZ7.out.1.go (bcat2 HV0.out hbc), HW1.out _ (bcat HV0.out hbc)⟩
              have cTl := tell_any HZC.out.1
              rw [HTQ.out] at cTl
              clear hbc
              go_upto_region 35 with (first
                | (go_at_call 26; refine cTl.mono ?_; clear cTl; rintro e t1 ⟨vl, rfl, lvl, bl⟩; have HLV : Hid (LsAt wc.heap.size t1 vl (some (haltQ rE.px rE.py rE.pd rE.ld))) := lvl; have HT1 : Hid (RbAt t1 R rE ∧ Below w1.heap.size w1 t1) := ⟨HZC.out.1.go bl, bcat HZC.out.2 bl⟩; have cNo := now_any HT1.out.1; rw [HEU.out.1, HEU.out.2] at cNo; clear lvl bl)
                | (go_at_call 21; refine cNo.mono ?_; clear cNo; rintro e t2 ⟨rfl, b2⟩; obtain ⟨t3, ht3⟩ : ∃ t3, t3 = t2.alloc (.cells (mvA mv0) 44) := ⟨_, rfl⟩; have HT3 : Hid (Below t1.heap.size t1 t3) := (by show Below t1.heap.size t1 t3; rw [ht3]; exact bcat b2 ((Below.refl _ _).alloc (Nat.le_refl _) _)); clear b2)
                | (refine wpList_new rfl rfl 44 26 (.tmp 214) rfl rfl rfl rfl (mvA mv0) (mvA mv0) (zeroMove _) rfl rfl infoMove rfl (mvA_one _) ?_; rw [← ht3]; clear ht3))
              obtain ⟨gb, rfl, hgb, hgb2⟩ := HLV.out
              have HGB : Hid (∀ u, Below t1.heap.size t1 u → u.heap[gb]? = some (.cells (tlA (haltQ rE.px rE.py rE.pd rE.ld)) 46 (0, 0))) := fun u b => (b.block _ (Array.getElem?_eq_some_iff.1 hgb2).1).trans hgb2
              clear hgb hgb2 HLV
              refine start_held (S := fun u => Below t3.drew.heap.size t3.drew u) 22 rfl (by kernel_rfl) (Below.refl _ _) ?_
              simp only [Array.replicate_succ, Array.replicate_zero, List.push_toArray, List.nil_append, List.cons_append]
              have hS0 := Below.refl t3.drew.heap.size t3.drew
              have HT3D : Hid (Below t1.heap.size t1 t3.drew) := HT3.out.drew
              generalize t3.drew = x0 at *
              refine take_held 0 hS0 rfl (by kernel_rfl) (by kernel_rfl) (by kernel_rfl) (fun _ _ _ h => h) (by kernel_rfl) (v := ?v5003) ?y5003 ?r5003
              case y5003 => (intro u hu; go_simp; try rfl)
              simp only [Act.put, List.setIfInBounds_toArray, List.set_cons_zero, List.set_cons_succ]
              refine take_held 1 hS0 rfl (by kernel_rfl) (by kernel_rfl) (by kernel_rfl) (fun _ _ _ h => h) (by kernel_rfl) (v := ?v5004) ?y5004 ?r5004
              case y5004 => (intro u hu; go_simp; try rfl)
              simp only [Act.put, List.setIfInBounds_toArray, List.set_cons_zero, List.set_cons_succ]
              refine take_held 2 hS0 rfl (by kernel_rfl) (by kernel_rfl) (by kernel_rfl) (fun _ _ _ h => h) (by kernel_rfl) (v := ?v5005) ?y5005 ?r5005
              case y5005 => (intro u hu; go_simp; try rfl)
              simp only [Act.put, List.setIfInBounds_toArray, List.set_cons_zero, List.set_cons_succ]
              refine take_held 3 hS0 rfl (by kernel_rfl) (by kernel_rfl) (by kernel_rfl) (fun _ _ _ h => h) (by kernel_rfl) (v := ?v5006) ?y5006 ?r5006
              case y5006 => (intro u hu; go_simp; try rfl)
              simp only [Act.put, List.setIfInBounds_toArray, List.set_cons_zero, List.set_cons_succ]
              refine take_held 4 hS0 rfl (by kernel_rfl) (by kernel_rfl) (by kernel_rfl) (fun _ _ _ h => h) (by kernel_rfl) (v := ?v5007) ?y5007 ?r5007
              case y5007 => (intro u hu; go_simp; try rfl)
              simp only [Act.put, List.setIfInBounds_toArray, List.set_cons_zero, List.set_cons_succ]
              refine take_held 5 hS0 rfl (by kernel_rfl) (by kernel_rfl) (by kernel_rfl) (fun _ _ _ h => h) (by kernel_rfl) (v := ?v5008) ?y5008 ?r5008
              case y5008 => (intro u hu; go_simp; try rfl)
              simp only [Act.put, List.setIfInBounds_toArray, List.set_cons_zero, List.set_cons_succ]
              refine take_held 6 hS0 rfl (by kernel_rfl) (by kernel_rfl) (by kernel_rfl) (fun _ _ _ h => h) (by kernel_rfl) (v := ?v5009) ?y5009 ?r5009
              case y5009 => (intro u hu; go_simp; try rfl)
              simp only [Act.put, List.setIfInBounds_toArray, List.set_cons_zero, List.set_cons_succ]
              refine take_held 7 hS0 rfl (by kernel_rfl) (by kernel_rfl) (by kernel_rfl) (fun _ _ _ h => h) (by kernel_rfl) (v := ?v5010) ?y5010 ?r5010
              case y5010 => (intro u hu; go_simp; try rfl)
              simp only [Act.put, List.setIfInBounds_toArray, List.set_cons_zero, List.set_cons_succ]
              refine take_held 8 hS0 rfl (by kernel_rfl) (by kernel_rfl) (by kernel_rfl) (fun _ _ _ h => h) (by kernel_rfl) (v := ?v5011) ?y5011 ?r5011
              case y5011 => (intro u hu; go_simp; try rfl)
              simp only [Act.put, List.setIfInBounds_toArray, List.set_cons_zero, List.set_cons_succ]
              refine take_held 9 hS0 rfl (by kernel_rfl) (by kernel_rfl) (by kernel_rfl) (fun _ _ _ h => h) (by kernel_rfl) (v := ?v5012) ?y5012 ?r5012
              case y5012 => (intro u hu; go_simp; try rfl)
              simp only [Act.put, List.setIfInBounds_toArray, List.set_cons_zero, List.set_cons_succ]
              refine take_held 10 hS0 rfl (by kernel_rfl) (by kernel_rfl) (by kernel_rfl) (fun _ _ _ h => h) (by kernel_rfl) (v := .agg (tlA (haltQ rE.px rE.py rE.pd rE.ld))) ?y5013 ?r5013
              case y5013 => (intro u hu; exact run_load_at 46 _ rfl ⟨gb, 0, none⟩ rfl _ (load_tele (HGB.out _ (bcat HT3D.out hu))))
              simp only [Act.put, List.setIfInBounds_toArray, List.set_cons_zero, List.set_cons_succ]
              refine take_held 11 hS0 rfl (by kernel_rfl) (by kernel_rfl) (by kernel_rfl) (fun _ _ _ h => h) (by kernel_rfl) (v := ?v5014) ?y5014 ?r5014
              case y5014 => (intro u hu; go_simp; try rfl)
              simp only [Act.put, List.setIfInBounds_toArray, List.set_cons_zero, List.set_cons_succ]
              refine take_held 13 hS0 rfl (by kernel_rfl) (by kernel_rfl) (by kernel_rfl) (fun _ _ _ h => h) (by kernel_rfl) (v := ?v5015) ?y5015 ?r5015
              case y5015 => (intro u hu; go_simp; try rfl)
              simp only [Act.put, List.setIfInBounds_toArray, List.set_cons_zero, List.set_cons_succ]
              refine wpAnyH_ready (rs := [12]) (by kernel_rfl) (by simp) (AllReadyH.cons ((nth_eq _ 12).trans rfl) ?_ AllReadyH.nil)
              intro K1 hK1
              refine call_in hK1 (by kernel_rfl) 20 #[.pointer (some ⟨R.p, 0, none⟩)] (by go_simp) _ (pose_ret (HT1.out.1.go (bcat2 HT3D.out hS0))) ?_
              rintro y1 x1 ⟨rfl, b1⟩
              have hS1 := hS0.trans (b1.mono hS0.size)
              refine ⟨hS1, ?_⟩
              simp only [Act.put, List.setIfInBounds_toArray, List.set_cons_zero, List.set_cons_succ]
              refine wpAnyH_ready (rs := [14]) (by kernel_rfl) (by simp) (AllReadyH.cons ((nth_eq _ 14).trans rfl) ?_ AllReadyH.nil)
              intro K2 hK2
              refine call_in hK2 (by kernel_rfl) 27 #[.pointer (some ⟨R.p, 0, none⟩)] (by go_simp) _ (load_ret (HT1.out.1.go (bcat2 HT3D.out hS1))) ?_
              rintro v2 y2 ⟨rfl, hy2⟩
              rw [hy2]
              clear hy2 y2
              refine ⟨hS1, ?_⟩
              simp only [Act.put, List.setIfInBounds_toArray, List.set_cons_zero, List.set_cons_succ]
              refine take_held 15 hS1 rfl (by kernel_rfl) (by kernel_rfl) (by kernel_rfl) (fun _ _ _ h => h) (by kernel_rfl) (v := .agg (tlA (haltQ rE.px rE.py rE.pd rE.ld))) ?y5016 ?r5016
              case y5016 => (intro u hu; refine run_build_op _ _ rfl _ _ ?_ (built_haltq rE.px rE.py rE.pd rE.ld); simp only [List.map_toArray, List.map_cons, List.map_nil]; rfl)
              simp only [Act.put, List.setIfInBounds_toArray, List.set_cons_zero, List.set_cons_succ]
              refine take_held 16 hS1 rfl (by kernel_rfl) (by kernel_rfl) (by kernel_rfl) (fun _ _ _ h => h) (by kernel_rfl) (v := .bool true) ?y5017 ?r5017
              case y5017 => (intro u hu; exact run_eql_agg 46 _ _ rfl gTl (tlA (haltQ rE.px rE.py rE.pd rE.ld)) (tlA (haltQ rE.px rE.py rE.pd rE.ld)) true rfl rfl (eqTele_self _ u))
              simp only [Act.put, List.setIfInBounds_toArray, List.set_cons_zero, List.set_cons_succ]
              refine take_held 17 hS1 rfl (by kernel_rfl) (by kernel_rfl) (by kernel_rfl) (fun _ _ _ h => h) (by kernel_rfl) (v := ?v5018) ?y5018 ?r5018
              case y5018 => (intro u hu; go_simp; try rfl)
              simp only [Act.put, List.setIfInBounds_toArray, List.set_cons_zero, List.set_cons_succ]
              refine take_held 18 hS1 rfl (by kernel_rfl) (by kernel_rfl) (by kernel_rfl) (fun _ _ _ h => h) (by kernel_rfl) (v := ?v5019) ?y5019 ?r5019
              case y5019 => (intro u hu; go_simp; try rfl)
              simp only [Act.put, List.setIfInBounds_toArray, List.set_cons_zero, List.set_cons_succ]
              refine wpAnyH_ready (rs := [19]) (by kernel_rfl) (by simp) (AllReadyH.cons ((nth_eq _ 19).trans rfl) ?_ AllReadyH.nil)
              intro K3 hK3
              refine call_in hK3 (by kernel_rfl) 12 #[] (by go_simp) _ (awake_ret x1) ?_
              rintro y3 x3 ⟨rfl, b3⟩
              have hS3 := hS1.trans (b3.mono hS1.size)
              refine ⟨hS3, ?_⟩
              simp only [Act.put, List.setIfInBounds_toArray, List.set_cons_zero, List.set_cons_succ]
              refine take_held 20 hS3 rfl (by kernel_rfl) (by kernel_rfl) (by kernel_rfl) (fun _ _ _ h => h) (by kernel_rfl) (v := ?v5020) ?y5020 ?r5020
              case y5020 => (intro u hu; go_simp; try rfl)
              simp only [Act.put, List.setIfInBounds_toArray, List.set_cons_zero, List.set_cons_succ]
              refine take_held 21 hS3 rfl (by kernel_rfl) (by kernel_rfl) (by kernel_rfl) (fun _ _ _ h => h) (by kernel_rfl) (v := ?v5021) ?y5021 ?r5021
              case y5021 => (intro u hu; go_simp; try rfl)
              simp only [Act.put, List.setIfInBounds_toArray, List.set_cons_zero, List.set_cons_succ]
              refine done_held (by kernel_rfl) ?_ _
              go_wp2
              go_ret
              exact ⟨rfl, bcat HB1.out (bcat HT1.out.2 (bcat2 HT3D.out hS3))⟩
end Go.Proofs.YtedmfhkdaifegaaGreat.Rob
