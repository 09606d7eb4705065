/-
  A move there and the move back bring a robot to where it was: the walk.
-/
import Derived.Test.YtedmfhkdaifegaaGreatRobBackP
namespace Go.Proofs.YtedmfhkdaifegaaGreat.Rob
set_option linter.unusedVariables false
set_option linter.unusedSimpArgs false
open Go Go.RowKit Go.Shelf Go.Proofs Go.Proofs.YtedmfhkdaifegaaGreat.Lk Go.Proofs.YtedmfhkdaifegaaGreat.Plain
attribute [local go_sem] Oper.semAt_some

theorem mv_frm (m : Mv) : setAll (mvA m) 3 (poA m.tx m.ty m.td).toList = mvA { m with fx := m.tx, fy := m.ty, fd := m.td } := by
  simp only [poA, mvA, mvL, setAll, List.setIfInBounds_toArray, List.set_cons_succ, List.set_cons_zero]
theorem mv_to6 (m : Mv) : setAll (mvA { m with fx := m.tx, fy := m.ty, fd := m.td }) 6 (poA m.fx m.fy m.fd).toList = mvA { m with fx := m.tx, fy := m.ty, fd := m.td, tx := m.fx, ty := m.fy, td := m.fd } := by
  simp only [poA, mvA, mvL, setAll, List.setIfInBounds_toArray, List.set_cons_succ, List.set_cons_zero]
theorem mv_dr1 (m : Mv) (d : Int) : setAll (mvA m) 1 [.int .i64 d] = mvA { m with dr := d } := by
  simp only [mvA, mvL, setAll, List.setIfInBounds_toArray, List.set_cons_succ, List.set_cons_zero]
theorem mv_b9 {m md : Mv} (h : { m with fx := m.tx, fy := m.ty, fd := m.td, tx := m.fx, ty := m.fy, td := m.fd, dr := backD m } = md) : setAll (mvA md) 9 [.int .i64 5] = mvA (backB m) := by
  rw [← h]
  simp only [mvA, mvL, backB, setAll, List.setIfInBounds_toArray, List.set_cons_succ, List.set_cons_zero]
theorem mv_b10 {turn hoist : Int} {ku ka kv : Nat} {m : Mv} {e : Int} (h : (backV turn hoist ku ka kv m).me = e) : setAll (mvA (backB m)) 10 [.int .i64 e] = mvA (backV turn hoist ku ka kv m) := by
  rw [← h]
  simp only [mvA, mvL, backV, setAll, List.setIfInBounds_toArray, List.set_cons_succ, List.set_cons_zero]
theorem built_go2 (m : Mv) : Tryz.prog.built 46 [(0, .int .i64 1), (3, .int .i64 2), (4, .agg (mvA m))] = some (tlA (goT 0 0 2 m)) := by cases m; kernel_rfl
section
variable {w : World} {g : Nat} {nb ep nm : Int} {m : Mv} {T : TypeId} {fr : Nat × Nat} (h : w.heap[g]? = some (.cells (tlA (goT nb ep nm m)) T fr))
include h
theorem tl_to10 : (loadVar 42 ⟨g, 10, none⟩).run Tryz.prog w = .ok (.agg (poA m.tx m.ty m.td)) w :=
  run_loadVar_at w _ _ _ (fun j v hv => by
    rw [Addr.add_mid, tl_cell h]
    match j with
    | 0 => exact hv
    | 1 => exact hv
    | 2 => exact hv
    | j + 3 => simp [poA] at hv) (aggPose _) infoPose
theorem tl_fr7 : (loadVar 42 ⟨g, 7, none⟩).run Tryz.prog w = .ok (.agg (poA m.fx m.fy m.fd)) w :=
  run_loadVar_at w _ _ _ (fun j v hv => by
    rw [Addr.add_mid, tl_cell h]
    match j with
    | 0 => exact hv
    | 1 => exact hv
    | 2 => exact hv
    | j + 3 => simp [poA] at hv) (aggPose _) infoPose
end
theorem bcat2 {w w1 w2 : World} (h : Below w.heap.size w w1) (h1 : Below w1.heap.size w1 w2) : Below w.heap.size w w2 := bcat h h1
theorem pose_ret {w : World} {R : Wh} {r : Rb} (h : RbAt w R r) : Calls Tryz.prog 20 #[.pointer (some ⟨R.p, 0, none⟩)] w fun e w' => ∃ v, e = .returned v ∧ (v = .agg (poA r.px r.py r.pd) ∧ Below w.heap.size w w') := (pose_any h).mono fun e w' ⟨a, b⟩ => ⟨_, a, rfl, b⟩
theorem awake_ret (w : World) : Calls Tryz.prog 12 #[] w fun e w' => ∃ v, e = .returned v ∧ (v = .bool true ∧ Below w.heap.size w w') := (awake18_any w).mono fun e w' ⟨a, b⟩ => ⟨_, a, rfl, b⟩
set_option maxRecDepth 100000 in
set_option maxHeartbeats 40000000 in
theorem there_all (c : Grid.Conf) (va vb vc vd : Value) (w : World) (hA : Grid.ConfAt (Grid.Old w) c va vb vc vd w) (l1 : c.blocked.length ≤ 8796093022208) (l2 : c.ports.length ≤ 8796093022208) (l3 : c.robots.length ≤ 5864062014805) (l4 : c.stacks.length ≤ 3518437208880) (l5 : ∀ s ∈ c.stacks, s.2.length ≤ 17592186044416) (a1 : Int) :
    Calls Tryz.prog 8 #[.agg #[.int .i64 c.W, .int .i64 c.H, .int .i64 c.height, va, vb, vc, vd, .int .i64 c.unit, .int .i64 c.accel, .int .i64 c.speed, .int .i64 c.turn, .int .i64 c.hoist, .int .i64 c.queue, .int .i64 c.resend, .int .i64 c.budget, .bool c.back], .int .i64 a1] w fun e w' => e = .returned (.bool true) ∧ Below w.heap.size w w' := by
  have hO : ∀ b, Grid.Old w b → b < w.heap.size := fun b h => h
  obtain ⟨a3, cap3, hv3, _⟩ := hA.r.form
  subst hv3
  have HAH : Hid (Grid.ConfAt (Grid.Old w) c va vb (.slice a3 c.robots.length cap3) vd w) := hA
  obtain ⟨w1, hw1⟩ : ∃ w1, w1 = w.alloc (.cells #[.int .i64 c.W, .int .i64 c.H, .int .i64 c.height, va, vb, (.slice a3 c.robots.length cap3), vd, .int .i64 c.unit, .int .i64 c.accel, .int .i64 c.speed, .int .i64 c.turn, .int .i64 c.hoist, .int .i64 c.queue, .int .i64 c.resend, .int .i64 c.budget, .bool c.back] 26) := ⟨_, rfl⟩
  have b1 : Below w.heap.size w w1 := by rw [hw1]; exact (Below.refl _ _).alloc (Nat.le_refl _) _
  have hc1 : w1.heap[w.heap.size]? = some (.cells #[.int .i64 c.W, .int .i64 c.H, .int .i64 c.height, va, vb, (.slice a3 c.robots.length cap3), vd, .int .i64 c.unit, .int .i64 c.accel, .int .i64 c.speed, .int .i64 c.turn, .int .i64 c.hoist, .int .i64 c.queue, .int .i64 c.resend, .int .i64 c.budget, .bool c.back] 26 (0, 0)) := by rw [hw1]; exact World.alloc_heap_new _ _
  have HB1 : Hid (Below w.heap.size w w1) := b1
  have HC1 : Hid (∀ u, Below w1.heap.size w1 u → u.heap[w.heap.size]? = some (.cells #[.int .i64 c.W, .int .i64 c.H, .int .i64 c.height, va, vb, (.slice a3 c.robots.length cap3), vd, .int .i64 c.unit, .int .i64 c.accel, .int .i64 c.speed, .int .i64 c.turn, .int .i64 c.hoist, .int .i64 c.queue, .int .i64 c.resend, .int .i64 c.budget, .bool c.back] 26 (0, 0))) := fun u b => (b.block _ (Array.getElem?_eq_some_iff.1 hc1).1).trans hc1
  have HC5 : Hid (∀ u, Below w1.heap.size w1 u → u.cell? ⟨w.heap.size, 5, none⟩ = some (.slice a3 c.robots.length cap3)) := fun u b => (cell_of' (HC1.out u b) 5).trans rfl
  have HLDu : Hid (∀ u, Below w1.heap.size w1 u → (loadVar 26 ⟨w.heap.size, 0, none⟩).run Tryz.prog u = .ok (.agg #[.int .i64 c.W, .int .i64 c.H, .int .i64 c.height, va, vb, (.slice a3 c.robots.length cap3), vd, .int .i64 c.unit, .int .i64 c.accel, .int .i64 c.speed, .int .i64 c.turn, .int .i64 c.hoist, .int .i64 c.queue, .int .i64 c.resend, .int .i64 c.budget, .bool c.back]) u) := fun u b => load_row_of (HC1.out u b) (Grid.aggConf _) Grid.info_conf
  have cS := Dig.small_any (Grid.Old w) c va vb _ vd w1 (hA.go hO b1) (fun b hb => Nat.lt_of_lt_of_le (hO b hb) b1.size) l1 l2 l3 l4 l5
  have cC := fun u (b : Below w.heap.size w u) => Grid.copyConf_any (Grid.Old w) c va vb _ vd u (hA.go hO b) (fun q hq => Nat.lt_of_lt_of_le (hO q hq) b.size) l1 l2 l3 l4 l5
  clear hA b1 hc1
  cases hsm : (Dig.smallN c && (Grid.newP c).isSome) with
  | false =>
    rw [hsm] at cS
    go_enter Tryz.func8, Tryz.ntmps8
    go_wp2_with (first | (refine wpList_boxAt rfl 26 (.tmp 0) rfl #[.int .i64 c.W, .int .i64 c.H, .int .i64 c.height, va, vb, (.slice a3 c.robots.length cap3), vd, .int .i64 c.unit, .int .i64 c.accel, .int .i64 c.speed, .int .i64 c.turn, .int .i64 c.hoist, .int .i64 c.queue, .int .i64 c.resend, .int .i64 c.budget, .bool c.back] rfl ?_; rw [← hw1]; clear hw1) | (refine wpList_load_at rfl 26 (.tmp 2) rfl ⟨w.heap.size, 0, none⟩ rfl #[.int .i64 c.W, .int .i64 c.H, .int .i64 c.height, va, vb, (.slice a3 c.robots.length cap3), vd, .int .i64 c.unit, .int .i64 c.accel, .int .i64 c.speed, .int .i64 c.turn, .int .i64 c.hoist, .int .i64 c.queue, .int .i64 c.resend, .int .i64 c.budget, .bool c.back] (HLDu.out _ (Below.refl _ _)) ?_) | (go_at_call 16; refine cS.mono ?_; rintro e w3 ⟨rs, rfl, rfl, b3⟩; have HB3 : Hid (Below w1.heap.size w1 w3) := b3; have k5 := HC5.out _ b3) | (go_at_call 12; refine (awake18_any _).mono ?_; rintro e w9 ⟨rfl, b9⟩))
    go_ret
    exact ⟨rfl, bcat (bcat HB1.out HB3.out) b9⟩
  | true =>
    rw [hsm] at cS
    obtain ⟨G, hN⟩ : ∃ G, Grid.newP c = some G := by
      cases h : Grid.newP c with
      | none => rw [h] at hsm; simp at hsm
      | some G => exact ⟨G, rfl⟩
    clear hsm
    by_cases h0 : c.robots.length = 0
    · have q0 : ((c.robots.length : Int) == 0) = true := by rw [beq_iff_eq]; omega
      clear h0
      go_enter Tryz.func8, Tryz.ntmps8
      go_wp2_with (first | (refine wpList_boxAt rfl 26 (.tmp 0) rfl #[.int .i64 c.W, .int .i64 c.H, .int .i64 c.height, va, vb, (.slice a3 c.robots.length cap3), vd, .int .i64 c.unit, .int .i64 c.accel, .int .i64 c.speed, .int .i64 c.turn, .int .i64 c.hoist, .int .i64 c.queue, .int .i64 c.resend, .int .i64 c.budget, .bool c.back] rfl ?_; rw [← hw1]; clear hw1) | (refine wpList_load_at rfl 26 (.tmp 2) rfl ⟨w.heap.size, 0, none⟩ rfl #[.int .i64 c.W, .int .i64 c.H, .int .i64 c.height, va, vb, (.slice a3 c.robots.length cap3), vd, .int .i64 c.unit, .int .i64 c.accel, .int .i64 c.speed, .int .i64 c.turn, .int .i64 c.hoist, .int .i64 c.queue, .int .i64 c.resend, .int .i64 c.budget, .bool c.back] (HLDu.out _ (Below.refl _ _)) ?_) | (go_at_call 16; refine cS.mono ?_; rintro e w3 ⟨rs, rfl, rfl, b3⟩; have HB3 : Hid (Below w1.heap.size w1 w3) := b3; have k5 := HC5.out _ b3) | (go_at_call 12; refine (awake18_any _).mono ?_; rintro e w9 ⟨rfl, b9⟩))
      go_ret
      exact ⟨rfl, bcat (bcat HB1.out HB3.out) b9⟩
    · have q0 : ((c.robots.length : Int) == 0) = false := by rw [beq_eq_false_iff_ne]; omega
      have hr0 : 0 < c.robots.length := by omega
      clear h0
      obtain ⟨r, hr⟩ : ∃ r, firstR 0 (c.robots[0]'hr0).1.1 (c.robots[0]'hr0).1.2 (c.robots[0]'hr0).2 = r := ⟨_, rfl⟩
      have HR0 : Hid (firstR 0 (c.robots[0]'hr0).1.1 (c.robots[0]'hr0).1.2 (c.robots[0]'hr0).2 = r) := hr
      clear hr
      have HF0 : Hid (r.nb = 0 ∧ r.lt = 0 ∧ r.ep = 0 ∧ under r = false ∧ OkR 0 r ∧ posR r ∈ c.robots ∧ posR r = c.robots[0]'hr0) := first_facts c hr0 r HR0.out
      go_enter Tryz.func8, Tryz.ntmps8
      go_upto_region 6 with (first
      | (refine wpList_boxAt rfl 26 (.tmp 0) rfl #[.int .i64 c.W, .int .i64 c.H, .int .i64 c.height, va, vb, (.slice a3 c.robots.length cap3), vd, .int .i64 c.unit, .int .i64 c.accel, .int .i64 c.speed, .int .i64 c.turn, .int .i64 c.hoist, .int .i64 c.queue, .int .i64 c.resend, .int .i64 c.budget, .bool c.back] rfl ?_; rw [← hw1]; clear hw1)
      | (have X3 := HB3; refine wpList_load_at rfl 26 (.tmp 2) rfl ⟨w.heap.size, 0, none⟩ rfl #[.int .i64 c.W, .int .i64 c.H, .int .i64 c.height, va, vb, (.slice a3 c.robots.length cap3), vd, .int .i64 c.unit, .int .i64 c.accel, .int .i64 c.speed, .int .i64 c.turn, .int .i64 c.hoist, .int .i64 c.queue, .int .i64 c.resend, .int .i64 c.budget, .bool c.back] (HLDu.out _ HB3.out) ?_)
      | (refine wpList_load_at rfl 26 (.tmp 2) rfl ⟨w.heap.size, 0, none⟩ rfl #[.int .i64 c.W, .int .i64 c.H, .int .i64 c.height, va, vb, (.slice a3 c.robots.length cap3), vd, .int .i64 c.unit, .int .i64 c.accel, .int .i64 c.speed, .int .i64 c.turn, .int .i64 c.hoist, .int .i64 c.queue, .int .i64 c.resend, .int .i64 c.budget, .bool c.back] (HLDu.out _ (Below.refl _ _)) ?_)
      | (go_at_call 16; refine cS.mono ?_; rintro e w3 ⟨rs, rfl, rfl, b3⟩; have HB3 : Hid (Below w1.heap.size w1 w3) := b3; have k5 := HC5.out _ b3)
      | (go_at_call 10; refine (cC _ (bcat HB1.out HB3.out)).mono ?_; rintro e w4 ⟨rc, rfl, ⟨k1, k2, k3, k4, rfl, hC4⟩, b4⟩; have HB4 : Hid (Below w.heap.size w w4) := bcat (bcat HB1.out HB3.out) b4; have HB14 : Hid (Below w1.heap.size w1 w4) := bcat HB3.out b4; have HC4 : Hid (Grid.ConfAt (Grid.Since w3.heap.size w4) c k1 k2 k3 k4 w4) := hC4; clear hC4 b4)
      | (go_at_call 9; refine (new_r c _ _ _ _ _ hN hr0 r HR0.out HC4.out Grid.since_lt l1 l2 l3 l4).mono ?_; rintro e w5 ⟨R, rfl, hR, hp, hk, hRW, b5⟩; have HPK : Hid (w.heap.size ≤ R.p ∧ w.heap.size ≤ R.k) := ⟨Nat.le_trans HB4.out.size hp, Nat.le_trans HB4.out.size hk⟩; have HR5 : Hid (RbAt w5 R r) := hR; have HRW : Hid (R.W = c.W ∧ R.H = c.H ∧ R.us = G.uses ∧ (R.ku : Int) = c.unit ∧ (R.ka : Int) = c.accel ∧ (R.kv : Int) = c.speed) := hRW; have HB5 : Hid (Below w.heap.size w w5) := bcat HB4.out b5; have HB15 : Hid (Below w1.heap.size w1 w5) := bcat HB14.out b5; have HPK1 : Hid (w1.heap.size ≤ R.p ∧ w1.heap.size ≤ R.k) := ⟨Nat.le_trans HB14.out.size hp, Nat.le_trans HB14.out.size hk⟩; clear b5 hp hk HC4 hR hRW))
      clear cS cC
      have hKo := HR5.out.ok
      have hsd := (Grid.new_some hN).1.1
      have hnm := limited_nums hsd
      obtain ⟨m, hm⟩ : ∃ m, gosM c.turn c.hoist R.ku R.ka R.kv (Grid.movesP c.W c.H G.uses (posR r)) (posR r) a1 0 = m := ⟨_, rfl⟩
      have HL : Hid (Led R.W R.H R.us c.turn c.hoist R.ku R.ka R.kv (posR r) m) := by
        show Led R.W R.H R.us c.turn c.hoist R.ku R.ka R.kv (posR r) m
        rw [← hm, HRW.out.1, HRW.out.2.1, HRW.out.2.2.1]
        exact gos_led (Grid.limited_sides hsd).2.1 (Grid.limited_sides hsd).2.2.2.1 hKo hnm.2.2.2.2.2.2.1 hnm.2.2.2.2.2.2.2.1 hnm.2.2.2.2.2.2.2.2.1 hnm.2.2.2.2.2.2.2.2.2 (home_fits hN HF0.out.2.2.2.2.2.1) a1 0
      obtain ⟨T, hT⟩ : ∃ T, (goT r.nb r.ep (r.lt + 1) m) = T := ⟨_, rfl⟩
      have HT : Hid ((goT r.nb r.ep (r.lt + 1) m) = T) := hT
      have HGO : Hid (∀ u q, Below w.heap.size w u → RcAt u q #[.int .i64 c.W, .int .i64 c.H, .int .i64 c.height, va, vb, (.slice a3 c.robots.length cap3), vd, .int .i64 c.unit, .int .i64 c.accel, .int .i64 c.speed, .int .i64 c.turn, .int .i64 c.hoist, .int .i64 c.queue, .int .i64 c.resend, .int .i64 c.budget, .bool c.back] r 0 false → Calls Tryz.prog 17 #[.agg #[.int .i64 c.W, .int .i64 c.H, .int .i64 c.height, va, vb, (.slice a3 c.robots.length cap3), vd, .int .i64 c.unit, .int .i64 c.accel, .int .i64 c.speed, .int .i64 c.turn, .int .i64 c.hoist, .int .i64 c.queue, .int .i64 c.resend, .int .i64 c.budget, .bool c.back], .pointer (some ⟨q, 0, none⟩), .int .i64 a1, .int .i64 0] u fun e w' => ∃ z, e = .returned z ∧ (z = .agg (tlA T) ∧ Below u.heap.size u w')) := fun u q b hq => by
        have h := gos_any c va vb _ vd u (Grid.old_go HAH.out b) l1 l2 l3 l4 l5 hN R.ku R.ka R.kv hKo HRW.out.2.2.2.1 HRW.out.2.2.2.2.1 HRW.out.2.2.2.2.2 q r 0 false hq (by rw [HF0.out.2.1]; decide) (by rw [HF0.out.2.1]; decide) a1 0
        rw [hm, hT] at h
        exact h
      clear hm hT hsd hnm hKo
      try simp only [Act.put, List.setIfInBounds_toArray, List.set_cons_zero, List.set_cons_succ]
      go_cut [7] from 39 to 43 (fun v wx => ∃ g, v = .pointer (some ⟨g, 0, none⟩) ∧ wx.heap[g]? = some (.cells (tlA T) 46 (0, 0)) ∧ w5.heap.size ≤ g ∧ Below w5.heap.size w5 wx)
      case first =>
        refine start_held (S := fun u => Below w5.drew.heap.size w5.drew u) 7 rfl (by kernel_rfl) (Below.refl _ _) ?_
        simp only [Array.replicate_succ, Array.replicate_zero, List.push_toArray, List.nil_append, List.cons_append]
        have hS0 := Below.refl w5.drew.heap.size w5.drew
        have HB0 : Hid (Below w.heap.size w w5.drew) := HB5.out.drew
        have HBX0 : Hid (Below w1.heap.size w1 w5.drew) := HB15.out.drew
        have HD0 : Hid (Below w5.heap.size w5 w5.drew) := (Below.refl _ _).drew
        generalize w5.drew = x0 at *
        refine take_held 0 hS0 rfl (by kernel_rfl) (by kernel_rfl) (by kernel_rfl) (fun _ _ _ h => h) (by kernel_rfl) (v := .agg #[.int .i64 c.W, .int .i64 c.H, .int .i64 c.height, va, vb, (.slice a3 c.robots.length cap3), vd, .int .i64 c.unit, .int .i64 c.accel, .int .i64 c.speed, .int .i64 c.turn, .int .i64 c.hoist, .int .i64 c.queue, .int .i64 c.resend, .int .i64 c.budget, .bool c.back]) ?y5009 ?r5009
        case y5009 => (intro u hu; exact run_load_at 26 _ rfl ⟨w.heap.size, 0, none⟩ rfl _ (HLDu.out _ (bcat HBX0.out hu)))
        simp only [Act.put, List.setIfInBounds_toArray, List.set_cons_zero, List.set_cons_succ]
        refine take_held 1 hS0 rfl (by kernel_rfl) (by kernel_rfl) (by kernel_rfl) (fun _ _ _ h => h) (by kernel_rfl) (v := .agg #[.int .i64 c.W, .int .i64 c.H, .int .i64 c.height, va, vb, (.slice a3 c.robots.length cap3), vd, .int .i64 c.unit, .int .i64 c.accel, .int .i64 c.speed, .int .i64 c.turn, .int .i64 c.hoist, .int .i64 c.queue, .int .i64 c.resend, .int .i64 c.budget, .bool c.back]) ?y5010 ?r5010
        case y5010 => (intro u hu; exact run_load_at 26 _ rfl ⟨w.heap.size, 0, none⟩ rfl _ (HLDu.out _ (bcat HBX0.out hu)))
        simp only [Act.put, List.setIfInBounds_toArray, List.set_cons_zero, List.set_cons_succ]
        refine take_held 3 hS0 rfl (by kernel_rfl) (by kernel_rfl) (by kernel_rfl) (fun _ _ _ h => h) (by kernel_rfl) (v := ?v5011) ?y5011 ?r5011
        case y5011 => (intro u hu; go_simp; try rfl)
        simp only [Act.put, List.setIfInBounds_toArray, List.set_cons_zero, List.set_cons_succ]
        refine wpAnyH_ready (rs := [2, 5]) (by kernel_rfl) (by simp) (AllReadyH.cons ((nth_eq _ 2).trans rfl) ?_ (AllReadyH.cons ((nth_eq _ 5).trans rfl) ?_ AllReadyH.nil))
        · intro K1 hK1
          refine call_in hK1 (by kernel_rfl) 13 #[.agg #[.int .i64 c.W, .int .i64 c.H, .int .i64 c.height, va, vb, (.slice a3 c.robots.length cap3), vd, .int .i64 c.unit, .int .i64 c.accel, .int .i64 c.speed, .int .i64 c.turn, .int .i64 c.hoist, .int .i64 c.queue, .int .i64 c.resend, .int .i64 c.budget, .bool c.back], .int .i64 0] (by go_simp) _ (rc_r c va vb _ vd x0 hr0 r HR0.out (Grid.old_go HAH.out (bcat HB0.out hS0)) (fun _ h => h)) ?_
          rintro y1 x1 ⟨q, rfl, hq1, b1⟩
          have hS1 := hS0.trans (b1.mono hS0.size)
          refine ⟨hS1, ?_⟩
          simp only [Act.put, List.setIfInBounds_toArray, List.set_cons_zero, List.set_cons_succ]
          refine wpAnyH_ready (rs := [4, 5]) (by kernel_rfl) (by simp) (AllReadyH.cons ((nth_eq _ 4).trans rfl) ?_ (AllReadyH.cons ((nth_eq _ 5).trans rfl) ?_ AllReadyH.nil))
          · intro K2 hK2
            refine call_in hK2 (by kernel_rfl) 17 #[.agg #[.int .i64 c.W, .int .i64 c.H, .int .i64 c.height, va, vb, (.slice a3 c.robots.length cap3), vd, .int .i64 c.unit, .int .i64 c.accel, .int .i64 c.speed, .int .i64 c.turn, .int .i64 c.hoist, .int .i64 c.queue, .int .i64 c.resend, .int .i64 c.budget, .bool c.back], .pointer (some ⟨q, 0, none⟩), .int .i64 a1, .int .i64 0] (by go_simp) _ (HGO.out x1 q (bcat HB0.out hS1) hq1) ?_
            rintro y2 x2 ⟨rfl, b2⟩
            have hS2 := hS1.trans (b2.mono hS1.size)
            refine ⟨hS2, ?_⟩
            simp only [Act.put, List.setIfInBounds_toArray, List.set_cons_zero, List.set_cons_succ]
            refine wpAnyH_ready (rs := [5]) (by kernel_rfl) (by simp) (AllReadyH.cons ((nth_eq _ 5).trans rfl) ?_ AllReadyH.nil)
            intro K3 hK3
            obtain ⟨x3, hx3⟩ : ∃ x, x = x2.alloc (.cells (tlA tl0) 46) := ⟨_, rfl⟩
            have b3 : Below x2.heap.size x2 x3 := by rw [hx3]; exact (Below.refl _ _).alloc (Nat.le_refl _) _
            have hS3 := hS2.trans (b3.mono hS2.size)
            have ha3 : x3.heap[x2.heap.size]? = some (.cells (tlA tl0) 46 (0, 0)) := by rw [hx3]; exact World.alloc_heap_new _ _
            have hl3 := hS2.size
            refine value_in hK3 (by kernel_rfl) (.pointer (some ⟨x2.heap.size, 0, none⟩)) x3 (by rw [hx3]; exact run_alloc_op 46 rfl (tlA tl0) (zeroTele _)) hS3 ?_
            simp only [Act.put, List.setIfInBounds_toArray, List.set_cons_zero, List.set_cons_succ]
            refine wpAnyH_ready (rs := [6]) (by kernel_rfl) (by simp) (AllReadyH.cons ((nth_eq _ 6).trans rfl) ?_ AllReadyH.nil)
            intro K4 hK4
            obtain ⟨x4, hx4⟩ : ∃ x, x = x3.setCells x2.heap.size 0 (tlL T) := ⟨_, rfl⟩
            have hS4 : Below x0.heap.size x0 x4 := by rw [hx4]; exact Bn.only hS3 (Only.setCells _ _ _ _) hl3
            have hb4 : x4.heap[x2.heap.size]? = some (.cells (tlA T) 46 (0, 0)) := by rw [hx4, ← tl_put]; exact setCells_same _ _ _ (tlL T) 0 _ _ ha3
            refine skip_in hK4 (by kernel_rfl) x4 (by rw [hx4]; exact run_store_mid_op 46 _ _ rfl x2.heap.size 0 (tlA T) rfl rfl (there_of ha3 0 19 (Nat.le_refl _)) infoTele (tlA_one _)) hS4 ?_
            simp only [Act.put, List.setIfInBounds_toArray, List.set_cons_zero, List.set_cons_succ]
            refine done_held (by kernel_rfl) ?_ _
            go_wp2
            go_meet
            exact ⟨_, rfl, hb4, Nat.le_trans HD0.out.size hl3, HD0.out.trans (hS4.mono HD0.out.size)⟩
          · intro K2 hK2
            obtain ⟨x2, hx2⟩ : ∃ x, x = x1.alloc (.cells (tlA tl0) 46) := ⟨_, rfl⟩
            have b2 : Below x1.heap.size x1 x2 := by rw [hx2]; exact (Below.refl _ _).alloc (Nat.le_refl _) _
            have hS2 := hS1.trans (b2.mono hS1.size)
            have ha2 : x2.heap[x1.heap.size]? = some (.cells (tlA tl0) 46 (0, 0)) := by rw [hx2]; exact World.alloc_heap_new _ _
            have hl2 := hS1.size
            have hq2 := hq1.go b2
            refine value_in hK2 (by kernel_rfl) (.pointer (some ⟨x1.heap.size, 0, none⟩)) x2 (by rw [hx2]; exact run_alloc_op 46 rfl (tlA tl0) (zeroTele _)) hS2 ?_
            simp only [Act.put, List.setIfInBounds_toArray, List.set_cons_zero, List.set_cons_succ]
            refine wpAnyH_ready (rs := [4]) (by kernel_rfl) (by simp) (AllReadyH.cons ((nth_eq _ 4).trans rfl) ?_ AllReadyH.nil)
            intro K3 hK3
            refine call_in hK3 (by kernel_rfl) 17 #[.agg #[.int .i64 c.W, .int .i64 c.H, .int .i64 c.height, va, vb, (.slice a3 c.robots.length cap3), vd, .int .i64 c.unit, .int .i64 c.accel, .int .i64 c.speed, .int .i64 c.turn, .int .i64 c.hoist, .int .i64 c.queue, .int .i64 c.resend, .int .i64 c.budget, .bool c.back], .pointer (some ⟨q, 0, none⟩), .int .i64 a1, .int .i64 0] (by go_simp) _ (HGO.out x2 q (bcat HB0.out hS2) hq2) ?_
            rintro y3 x3 ⟨rfl, b3⟩
            have hS3 := hS2.trans (b3.mono hS2.size)
            have ha3 := (b3.block _ (Array.getElem?_eq_some_iff.1 ha2).1).trans ha2
            refine ⟨hS3, ?_⟩
            simp only [Act.put, List.setIfInBounds_toArray, List.set_cons_zero, List.set_cons_succ]
            refine wpAnyH_ready (rs := [6]) (by kernel_rfl) (by simp) (AllReadyH.cons ((nth_eq _ 6).trans rfl) ?_ AllReadyH.nil)
            intro K4 hK4
            obtain ⟨x4, hx4⟩ : ∃ x, x = x3.setCells x1.heap.size 0 (tlL T) := ⟨_, rfl⟩
            have hS4 : Below x0.heap.size x0 x4 := by rw [hx4]; exact Bn.only hS3 (Only.setCells _ _ _ _) hl2
            have hb4 : x4.heap[x1.heap.size]? = some (.cells (tlA T) 46 (0, 0)) := by rw [hx4, ← tl_put]; exact setCells_same _ _ _ (tlL T) 0 _ _ ha3
            refine skip_in hK4 (by kernel_rfl) x4 (by rw [hx4]; exact run_store_mid_op 46 _ _ rfl x1.heap.size 0 (tlA T) rfl rfl (there_of ha3 0 19 (Nat.le_refl _)) infoTele (tlA_one _)) hS4 ?_
            simp only [Act.put, List.setIfInBounds_toArray, List.set_cons_zero, List.set_cons_succ]
            refine done_held (by kernel_rfl) ?_ _
            go_wp2
            go_meet
            exact ⟨_, rfl, hb4, Nat.le_trans HD0.out.size hl2, HD0.out.trans (hS4.mono HD0.out.size)⟩
        · intro K1 hK1
          obtain ⟨x1, hx1⟩ : ∃ x, x = x0.alloc (.cells (tlA tl0) 46) := ⟨_, rfl⟩
          have b1 : Below x0.heap.size x0 x1 := by rw [hx1]; exact (Below.refl _ _).alloc (Nat.le_refl _) _
          have hS1 := hS0.trans (b1.mono hS0.size)
          have ha1 : x1.heap[x0.heap.size]? = some (.cells (tlA tl0) 46 (0, 0)) := by rw [hx1]; exact World.alloc_heap_new _ _
          have hl1 := hS0.size
          refine value_in hK1 (by kernel_rfl) (.pointer (some ⟨x0.heap.size, 0, none⟩)) x1 (by rw [hx1]; exact run_alloc_op 46 rfl (tlA tl0) (zeroTele _)) hS1 ?_
          simp only [Act.put, List.setIfInBounds_toArray, List.set_cons_zero, List.set_cons_succ]
          refine wpAnyH_ready (rs := [2]) (by kernel_rfl) (by simp) (AllReadyH.cons ((nth_eq _ 2).trans rfl) ?_ AllReadyH.nil)
          intro K2 hK2
          refine call_in hK2 (by kernel_rfl) 13 #[.agg #[.int .i64 c.W, .int .i64 c.H, .int .i64 c.height, va, vb, (.slice a3 c.robots.length cap3), vd, .int .i64 c.unit, .int .i64 c.accel, .int .i64 c.speed, .int .i64 c.turn, .int .i64 c.hoist, .int .i64 c.queue, .int .i64 c.resend, .int .i64 c.budget, .bool c.back], .int .i64 0] (by go_simp) _ (rc_r c va vb _ vd x1 hr0 r HR0.out (Grid.old_go HAH.out (bcat HB0.out hS1)) (fun _ h => h)) ?_
          rintro y2 x2 ⟨q, rfl, hq2, b2⟩
          have hS2 := hS1.trans (b2.mono hS1.size)
          have ha2 := (b2.block _ (Array.getElem?_eq_some_iff.1 ha1).1).trans ha1
          refine ⟨hS2, ?_⟩
          simp only [Act.put, List.setIfInBounds_toArray, List.set_cons_zero, List.set_cons_succ]
          refine wpAnyH_ready (rs := [4]) (by kernel_rfl) (by simp) (AllReadyH.cons ((nth_eq _ 4).trans rfl) ?_ AllReadyH.nil)
          intro K3 hK3
          refine call_in hK3 (by kernel_rfl) 17 #[.agg #[.int .i64 c.W, .int .i64 c.H, .int .i64 c.height, va, vb, (.slice a3 c.robots.length cap3), vd, .int .i64 c.unit, .int .i64 c.accel, .int .i64 c.speed, .int .i64 c.turn, .int .i64 c.hoist, .int .i64 c.queue, .int .i64 c.resend, .int .i64 c.budget, .bool c.back], .pointer (some ⟨q, 0, none⟩), .int .i64 a1, .int .i64 0] (by go_simp) _ (HGO.out x2 q (bcat HB0.out hS2) hq2) ?_
          rintro y3 x3 ⟨rfl, b3⟩
          have hS3 := hS2.trans (b3.mono hS2.size)
          have ha3 := (b3.block _ (Array.getElem?_eq_some_iff.1 ha2).1).trans ha2
          refine ⟨hS3, ?_⟩
          simp only [Act.put, List.setIfInBounds_toArray, List.set_cons_zero, List.set_cons_succ]
          refine wpAnyH_ready (rs := [6]) (by kernel_rfl) (by simp) (AllReadyH.cons ((nth_eq _ 6).trans rfl) ?_ AllReadyH.nil)
          intro K4 hK4
          obtain ⟨x4, hx4⟩ : ∃ x, x = x3.setCells x0.heap.size 0 (tlL T) := ⟨_, rfl⟩
          have hS4 : Below x0.heap.size x0 x4 := by rw [hx4]; exact Bn.only hS3 (Only.setCells _ _ _ _) hl1
          have hb4 : x4.heap[x0.heap.size]? = some (.cells (tlA T) 46 (0, 0)) := by rw [hx4, ← tl_put]; exact setCells_same _ _ _ (tlL T) 0 _ _ ha3
          refine skip_in hK4 (by kernel_rfl) x4 (by rw [hx4]; exact run_store_mid_op 46 _ _ rfl x0.heap.size 0 (tlA T) rfl rfl (there_of ha3 0 19 (Nat.le_refl _)) infoTele (tlA_one _)) hS4 ?_
          simp only [Act.put, List.setIfInBounds_toArray, List.set_cons_zero, List.set_cons_succ]
          refine done_held (by kernel_rfl) ?_ _
          go_wp2
          go_meet
          exact ⟨_, rfl, hb4, Nat.le_trans HD0.out.size hl1, HD0.out.trans (hS4.mono HD0.out.size)⟩
      case rest =>
      obtain ⟨g, rfl, hg, hgl, bc⟩ := hcut
      have HG : Hid (wc.heap[g]? = some (.cells (tlA T) 46 (0, 0))) := hg
      have HRc : Hid (RbAt wc R r) := HR5.out.go bc
      have HBc : Hid (Below w.heap.size w wc) := bcat HB5.out bc
      have HBc1 : Hid (Below w1.heap.size w1 wc) := bcat HB15.out bc
      have HGP : Hid (g ≠ R.p ∧ g ≠ R.k) := ⟨Ne.symm (Nat.ne_of_lt (Nat.lt_of_lt_of_le HR5.out.plt hgl)), Ne.symm (Nat.ne_of_lt (Nat.lt_of_lt_of_le HR5.out.klt hgl))⟩
      have HOF : Hid (Off R g) := HR5.out.off hgl
      have HGL : Hid (w5.heap.size ≤ g) := hgl
      clear hg hgl bc HGO HR5
      have hsd := (Grid.new_some hN).1.1
      have hnm := limited_nums hsd
      have HNM : Hid (1 ≤ c.turn ∧ c.turn ≤ 1000 ∧ 1 ≤ c.hoist ∧ c.hoist ≤ 1000) := hnm.2.2.2.2.2.2
      have HWR : Hid (R.W ≤ 16 ∧ R.H ≤ 16) := by
        show R.W ≤ 16 ∧ R.H ≤ 16
        rw [HRW.out.1, HRW.out.2.1]
        exact ⟨(Grid.limited_sides hsd).2.1, (Grid.limited_sides hsd).2.2.2.1⟩
      have HKo : Hid (Kin.Ok R.ku R.ka R.kv) := HRc.out.ok
      have HGW : Hid (w1.heap.size ≤ g) := Nat.le_trans HB15.out.size HGL.out
      have hT0 : Th w1 R g c.turn c.hoist (c.robots[0]'hr0) 0 r m 1 wc := by
        have e : (goT r.nb r.ep (r.lt + 1) m) = T := HT.out
        refine ⟨HRc.out, by simpa using HF0.out.2.2.2.2.1, HF0.out.2.2.2.1, by rw [HF0.out.2.1]; rfl, HF0.out.2.2.1, HF0.out.1, HL.out, by omega, fun _ => rfl, fun _ => HF0.out.2.2.2.2.2.2, fun h => by omega, HBc1.out, ?_⟩
        have h := HG.out
        rw [← e, HF0.out.1, HF0.out.2.2.1, HF0.out.2.1] at h
        exact h
      clear hsd hnm HT HG HRc HL T
      go_wp2_with fail
      go_loopw [8] (fun i wr => ∃ (k : Nat) (rr : Rb) (mm : Mv) (nm : Int), i = .int .i64 k ∧ Th w1 R g c.turn c.hoist (c.robots[0]'hr0) k rr mm nm wr) (fun i _ => 2 - (intOf i).toNat)
      case atStart => exact ⟨0, r, m, 1, rfl, hT0⟩
      case round =>
        clear hT0 HBc HBc1
        obtain ⟨k, rr, mm, nm, rfl, hTh⟩ := hrel
        have HTh : Hid (Th w1 R g c.turn c.hoist (c.robots[0]'hr0) k rr mm nm wr) := hTh
        have hk2 := hTh.k2
        clear hTh
        by_cases hk : k < 2
        · have g1 : (k : Int) < 2 := by omega
          obtain ⟨T, hT⟩ : ∃ T, goT rr.nb rr.ep (rr.lt + 1) mm = T := ⟨_, rfl⟩
          have HT : Hid (goT rr.nb rr.ep (rr.lt + 1) mm = T) := hT
          have HG : Hid (wr.heap[g]? = some (.cells (tlA T) 46 (0, 0))) := by
            show wr.heap[g]? = some (.cells (tlA T) 46 (0, 0))
            rw [← hT, HTh.out.nb, HTh.out.ep_, HTh.out.lt_, ← HTh.out.nm_ hk]
            exact HTh.out.tl
          obtain ⟨r1, hr1⟩ : ∃ r1, begun rr T = r1 := ⟨_, rfl⟩
          have HR1 : Hid (begun rr T = r1) := hr1
          have hq : hearL R rr T = none ∧ hearR R rr T = r1 ∧ hearH R rr T = 1 := by
            have h := led_hear HTh.out.led HTh.out.un
            rw [hT, hr1] at h
            exact h
          obtain ⟨L, hL⟩ : ∃ L, mm.me - mm.ma = L := ⟨_, rfl⟩
          have hLb : 1 ≤ L ∧ L ≤ 16000 := by have h1 := HTh.out.led.en; have h2 := HTh.out.led.l1; have h3 := HTh.out.led.l2; omega
          have hwL : IntKind.i64.wrap (mm.me - mm.ma) = L := by rw [IntKind.wrap_i64]; omega
          have HLL : Hid (mm.me - mm.ma = L) := hL
          clear hL hT hr1
          go_upto_region 13 with (first
            | (refine wpList_load_at rfl 46 (.tmp 7) rfl ⟨g, 0, none⟩ rfl (tlA T) (load_tele HG.out) ?_)
            | (go_at_call 22; refine (hear_at HTh.out.rb (n := 20000 * (k : Int)) (by omega) HTh.out.ok hq.1 hq.2.1 hq.2.2).mono ?_; rintro e w8 ⟨v, rfl, lv, hR8, T8⟩; have hv : v = .slice none 0 0 := lv; subst hv; have HD8 : Hid (Dl w1 R g T mm 0 (20000 * (k : Int)) k L w8 r1) := (by have d := Dl.begun HTh.out.bel T8 HTh.out.led HTh.out.un (by omega : (0 : Int) ≤ 20000 * (k : Int)) HTh.out.nb HTh.out.ok (by rw [HT.out, HR1.out]; exact hR8) (by rw [HT.out]; exact HG.out) HGP.out.1 HGP.out.2 HPK1.out.1 HPK1.out.2; rw [HT.out, HR1.out, HTh.out.lt_, HTh.out.ep_, HLL.out] at d; exact d); clear hR8 T8 lv))
          have k14 : w8.cell? ⟨g, 14, none⟩ = some (.int .i64 mm.me) := (tl_me HD8.out.tl).trans (by rw [← HT.out]; rfl)
          have k13 : w8.cell? ⟨g, 13, none⟩ = some (.int .i64 mm.ma) := (tl_ma HD8.out.tl).trans (by rw [← HT.out]; rfl)
          go_wp2_with fail
          clear k14 k13 hwL hq
          go_loopw [12] (fun jv wr => ∃ (j : Nat) (rx : Rb), jv = .int .i64 j ∧ 1 ≤ j ∧ (j : Int) ≤ L + 1 ∧ ((j : Int) ≤ L → Dl w1 R g T mm 0 (20000 * (k : Int) + ((j : Int) - 1)) k (L - ((j : Int) - 1)) wr rx) ∧ ((j : Int) = L + 1 → Fi w1 R g T mm (20000 * (k : Int) + L) ((k : Int) + 1) wr rx)) (fun jv _ => (L + 1).toNat - (intOf jv).toNat)
          case atStart => exact ⟨1, r1, rfl, by omega, by omega, fun _ => by have := HD8.out; simpa using this, fun h => by omega⟩
          case round =>
            clear HD8 HG HLL
            obtain ⟨j, rx, rfl, hj1, hjL, h1, h2⟩ := hrel
            by_cases hin : (j : Int) ≤ L
            · have hD := h1 hin
              have HDK : Hid (Dl w1 R g T mm 0 (20000 * (k : Int) + ((j : Int) - 1)) k (L - ((j : Int) - 1)) wr rx) := hD
              have cT := tick_any hD.rb (n := 20000 * (k : Int) + ((j : Int) - 1)) (by omega) hD.ok
              clear hD h1 h2
              by_cases hl : (j : Int) = L
              · have qj : ((j : Int) == L) = true := by rw [beq_iff_eq]; exact hl
                have ql := HDK.out.last (by omega)
                rw [ql.1, ql.2.1, ql.2.2.1] at cT
                clear ql
                go_wp2_with (first
            | (go_at_call 19; refine cT.mono ?_; rintro e x6 ⟨rfl, hR6, T6⟩; clear cT; have HX6 : Hid (Fi w1 R g T mm (20000 * (k : Int) + ((j : Int) - 1) + 1) ((k : Int) + 1) x6 (ended rx)) := HDK.out.fin (by omega) (by omega) hR6 T6; obtain ⟨x7, hx7⟩ : ∃ y, y = x6.alloc (.cells (mvA mm) 44) := ⟨_, rfl⟩; have d7 : Below x6.heap.size x6 x7 := (by rw [hx7]; exact (Below.refl _ _).alloc (Nat.le_refl _) _); have HM7 : Hid (x7.heap[x6.heap.size]? = some (.cells (mvA mm) 44 (0, 0))) := (by rw [hx7]; exact World.alloc_heap_new _ _); have HD7 : Hid (Below x6.heap.size x6 x7) := d7; clear d7 hR6 T6)
            | (refine wpList_new rfl rfl 44 13 (.tmp 71) rfl rfl rfl rfl (mvA mv0) (mvA mm) (zeroMove _) rfl rfl infoMove rfl (mvA_one _) ?_; rw [← hx7]; clear hx7)
            | (refine wpList_load_w (by kernel_rfl) 44 (.tmp 13) rfl ⟨x6.heap.size, 0, none⟩ rfl (mvA mm) (mv_all HM7.out) ?_)
            | (refine wpList_load_w (by kernel_rfl) 44 (.tmp 85) rfl ⟨g, 4, none⟩ rfl (mvA mm) (by have h := tl_move (t := T) (HX6.out.go HD7.out).tl; rw [show tmv T = mm by rw [← HT.out]; rfl] at h; exact h) ?_)
            | (refine wpList_neq_agg (by kernel_rfl) 44 (.tmp 84) (.tmp 86) rfl gMv (mvA mm) (mvA mm) true rfl rfl (eqMv_self mm _) ?_))
                go_roundw
                case rel => exact ⟨j + 1, ended rx, by go_num, by omega, by omega, fun h => by omega, fun _ => by have := HX6.out.go HD7.out; rwa [show 20000 * (k : Int) + ((j : Int) - 1) + 1 = 20000 * (k : Int) + L by omega] at this⟩
                case measure => simp [intOf]; omega
              · have qj : ((j : Int) == L) = false := by rw [beq_eq_false_iff_ne]; exact hl
                rw [(HDK.out.how (by omega)).1, (HDK.out.how (by omega)).2] at cT
                go_wp2_with (first
            | (go_at_call 19; refine cT.mono ?_; rintro e x6 ⟨rfl, hR6, T6⟩; clear cT; have HX6 : Hid (Dl w1 R g T mm 0 (20000 * (k : Int) + ((j : Int) - 1) + 1) k (L - ((j : Int) - 1) - 1) x6 (tickR rx)) := HDK.out.tick (by omega) (by omega) hR6 T6; obtain ⟨x7, hx7⟩ : ∃ y, y = x6.alloc (.cells (mvA mv0) 44) := ⟨_, rfl⟩; have d7 : Below x6.heap.size x6 x7 := (by rw [hx7]; exact (Below.refl _ _).alloc (Nat.le_refl _) _); have HM7 : Hid (x7.heap[x6.heap.size]? = some (.cells (mvA mv0) 44 (0, 0))) := (by rw [hx7]; exact World.alloc_heap_new _ _); have HD7 : Hid (Below x6.heap.size x6 x7) := d7; clear d7 hR6 T6)
            | (refine wpList_new rfl rfl 44 13 (.tmp 71) rfl rfl rfl rfl (mvA mv0) (mvA mv0) (zeroMove _) rfl rfl infoMove rfl (mvA_one _) ?_; rw [← hx7]; clear hx7))
                go_roundw
                case rel => exact ⟨j + 1, tickR rx, by go_num, by omega, by omega, fun _ => by have := HX6.out.go HD7.out; rwa [show 20000 * (k : Int) + ((j : Int) - 1) + 1 = 20000 * (k : Int) + (((j + 1 : Nat) : Int) - 1) by omega, show L - ((j : Int) - 1) - 1 = L - (((j + 1 : Nat) : Int) - 1) by omega] at this, fun h => by omega⟩
                case measure => simp [intOf]; omega
            · obtain ⟨rE, hF⟩ : ∃ rE, Fi w1 R g T mm (20000 * (k : Int) + L) ((k : Int) + 1) wr rE := ⟨rx, h2 (by omega)⟩
              have HFi : Hid (Fi w1 R g T mm (20000 * (k : Int) + L) ((k : Int) + 1) wr rE) := hF
              have cTl := tell_any hF.rb
              obtain ⟨kk, hkk⟩ : ∃ kk, (k : Int) + 1 = kk := ⟨_, rfl⟩
              have hwk : IntKind.i64.wrap ((k : Int) + 1) = kk := by rw [IntKind.wrap_i64]; omega
              have hAK : (tellP rE).kd = 3 ∧ (tellP rE).nm = kk := by
                rw [tell_ack (by rw [hF.lt_]; omega)]
                exact ⟨rfl, by show rE.lt = kk; rw [hF.lt_]; exact hkk⟩
              clear hF h1 h2 hj1 hjL
              go_upto_region 21 with (go_at_call 26; refine cTl.mono ?_; rintro e z8 ⟨v8, rfl, lv8, b8⟩; have HLV : Hid (LsAt wr.heap.size z8 v8 (some (tellP rE))) := lv8; have HF8 : Hid (Fi w1 R g T mm (20000 * (k : Int) + L) ((k : Int) + 1) z8 rE) := HFi.out.go b8; clear lv8 b8)
              obtain ⟨gb, rfl, hgb, hgb2⟩ := HLV.out
              have q0 : z8.cell? ⟨gb, 0, none⟩ = some (.int .i64 3) := (tl_kd hgb2).trans (by rw [hAK.1])
              have q3 : z8.cell? ⟨gb, 3, none⟩ = some (.int .i64 kk) := (tl_nm hgb2).trans (by rw [hAK.2])
              clear hgb hgb2 HLV hAK HFi
              obtain ⟨y0, hy0⟩ : ∃ y0, y0 = z8.alloc (.cells (mvA mm) 44) := ⟨_, rfl⟩
              obtain ⟨B, hB⟩ : ∃ B, z8.heap.size = B := ⟨_, rfl⟩
              have HBZ : Hid (z8.heap.size ≤ B) := Nat.le_of_eq hB
              have HY0 : Hid (Below z8.heap.size z8 y0 ∧ y0.heap[B]? = some (.cells (mvA mm) 44 (0, 0))) := by
                show Below z8.heap.size z8 y0 ∧ y0.heap[B]? = some (.cells (mvA mm) 44 (0, 0))
                rw [hy0, ← hB]
                exact ⟨(Below.refl _ _).alloc (Nat.le_refl _) _, World.alloc_heap_new _ _⟩
              obtain ⟨y1, hy1⟩ : ∃ y1, y0.setCells B 3 (poA mm.tx mm.ty mm.td).toList = y1 := ⟨_, rfl⟩
              have HY1 : Hid (Below z8.heap.size z8 y1 ∧ y1.heap[B]? = some (.cells (mvA { mm with fx := mm.tx, fy := mm.ty, fd := mm.td }) 44 (0, 0))) := by
                show Below z8.heap.size z8 y1 ∧ y1.heap[B]? = some (.cells (mvA { mm with fx := mm.tx, fy := mm.ty, fd := mm.td }) 44 (0, 0))
                have e : y0.setCells B 3 (poA mm.tx mm.ty mm.td).toList = y1 := hy1
                rw [← e]
                refine ⟨Bn.only HY0.out.1 (Only.setCells _ _ _ _) HBZ.out, ?_⟩
                have q := setCells_same B _ _ (poA mm.tx mm.ty mm.td).toList 3 _ _ HY0.out.2
                rw [mv_frm] at q
                exact q
              obtain ⟨y2, hy2⟩ : ∃ y2, y1.setCells B 6 (poA mm.fx mm.fy mm.fd).toList = y2 := ⟨_, rfl⟩
              have HY2 : Hid (Below z8.heap.size z8 y2 ∧ y2.heap[B]? = some (.cells (mvA { mm with fx := mm.tx, fy := mm.ty, fd := mm.td, tx := mm.fx, ty := mm.fy, td := mm.fd }) 44 (0, 0))) := by
                show Below z8.heap.size z8 y2 ∧ y2.heap[B]? = some (.cells (mvA { mm with fx := mm.tx, fy := mm.ty, fd := mm.td, tx := mm.fx, ty := mm.fy, td := mm.fd }) 44 (0, 0))
                have e : y1.setCells B 6 (poA mm.fx mm.fy mm.fd).toList = y2 := hy2
                rw [← e]
                refine ⟨Bn.only HY1.out.1 (Only.setCells _ _ _ _) HBZ.out, ?_⟩
                have q := setCells_same B _ _ (poA mm.fx mm.fy mm.fd).toList 6 _ _ HY1.out.2
                rw [mv_to6] at q
                exact q
              have HKD : Hid (y2.cell? ⟨B, 0, none⟩ = some (.int .i64 mm.kd)) := mv_cell HY2.out.2 0
              have k0 := HKD.out
              have HT7 : Hid (∀ u, Below z8.heap.size z8 u → (loadVar 42 ⟨g, 10, none⟩).run Tryz.prog u = .ok (.agg (poA mm.tx mm.ty mm.td)) u ∧ (loadVar 42 ⟨g, 7, none⟩).run Tryz.prog u = .ok (.agg (poA mm.fx mm.fy mm.fd)) u ∧ (loadVar 44 ⟨g, 4, none⟩).run Tryz.prog u = .ok (.agg (mvA mm)) u) := fun u b => by
                have h := (HF8.out.go b).tl
                have e : T = goT rr.nb rr.ep (rr.lt + 1) mm := HT.out.symm
                rw [e] at h
                exact ⟨tl_to10 h, tl_fr7 h, tl_move h⟩
              obtain ⟨md, hmd⟩ : ∃ md, { mm with fx := mm.tx, fy := mm.ty, fd := mm.td, tx := mm.fx, ty := mm.fy, td := mm.fd, dr := backD mm } = md := ⟨_, rfl⟩
              have hbd : IntKind.i64.wrap (5 + lastsP c.turn c.hoist R.ku R.ka R.kv (backB mm)) = (backV c.turn c.hoist R.ku R.ka R.kv mm).me := by
                have h := lasts_bd HKo.out HNM.out.1 HNM.out.2.1 HNM.out.2.2.1 HNM.out.2.2.2 (back_legal HWR.out.1 HWR.out.2 HTh.out.led.legal c.turn c.hoist R.ku R.ka R.kv)
                show _ = 5 + lastsP c.turn c.hoist R.ku R.ka R.kv (backB mm)
                have e : lastsP c.turn c.hoist R.ku R.ka R.kv (backV c.turn c.hoist R.ku R.ka R.kv mm) = lastsP c.turn c.hoist R.ku R.ka R.kv (backB mm) := rfl
                rw [e] at h
                rw [IntKind.wrap_i64]
                omega
              obtain ⟨ls, hls⟩ : ∃ ls, lastsP c.turn c.hoist R.ku R.ka R.kv (backB mm) = ls := ⟨_, rfl⟩
              rw [hls] at hbd
              obtain ⟨ee, hee⟩ : ∃ ee, (backV c.turn c.hoist R.ku R.ka R.kv mm).me = ee := ⟨_, rfl⟩
              rw [hee] at hbd
              have cLa := fun u => lasts_conf c va vb (.slice a3 c.robots.length cap3) vd R.ku R.ka R.kv HKo.out HRW.out.2.2.2.1 HRW.out.2.2.2.2.1 HRW.out.2.2.2.2.2 (backB mm) u
              rw [hls] at cLa
              have cLg := fun u (b : Below w1.heap.size w1 u) => Grid.rlegal_any c va vb (.slice a3 c.robots.length cap3) vd u (Grid.old_go HAH.out (bcat HB1.out b)) l1 l2 l3 l4 l5 hN (gm (backV c.turn c.hoist R.ku R.ka R.kv mm))
              have hlg : Grid.legalU c.W c.H G.uses (gm (backV c.turn c.hoist R.ku R.ka R.kv mm)) = true := by
                rw [← HRW.out.1, ← HRW.out.2.1, ← HRW.out.2.2.1]
                exact back_legal HWR.out.1 HWR.out.2 HTh.out.led.legal c.turn c.hoist R.ku R.ka R.kv
              rw [hlg] at cLg
              have HLA : Hid (∀ u, Calls Tryz.prog 28 #[.agg #[.int .i64 c.W, .int .i64 c.H, .int .i64 c.height, va, vb, (.slice a3 c.robots.length cap3), vd, .int .i64 c.unit, .int .i64 c.accel, .int .i64 c.speed, .int .i64 c.turn, .int .i64 c.hoist, .int .i64 c.queue, .int .i64 c.resend, .int .i64 c.budget, .bool c.back], .agg (mvA (backB mm))] u fun e w' => ∃ z, e = .returned z ∧ (z = .int .i64 ls ∧ Below u.heap.size u w')) := cLa
              have HLG : Hid (∀ u, Below w1.heap.size w1 u → Calls Tryz.prog 25 #[.agg #[.int .i64 c.W, .int .i64 c.H, .int .i64 c.height, va, vb, (.slice a3 c.robots.length cap3), vd, .int .i64 c.unit, .int .i64 c.accel, .int .i64 c.speed, .int .i64 c.turn, .int .i64 c.hoist, .int .i64 c.queue, .int .i64 c.resend, .int .i64 c.budget, .bool c.back], .agg (mvA (backV c.turn c.hoist R.ku R.ka R.kv mm))] u fun e w' => ∃ z, e = .returned z ∧ (z = .bool true ∧ Below u.heap.size u w')) := cLg
              have HMD : Hid ({ mm with fx := mm.tx, fy := mm.ty, fd := mm.td, tx := mm.fx, ty := mm.fy, td := mm.fd, dr := backD mm } = md) := hmd
              have HEE : Hid ((backV c.turn c.hoist R.ku R.ka R.kv mm).me = ee) := hee
              have HBD : Hid (IntKind.i64.wrap (5 + ls) = ee) := hbd
              clear hlg hls cLa cLg hmd hee hbd
              go_upto_region 24 with (first
            | (refine wpList_load_at rfl 44 (.tmp 111) rfl ⟨g, 4, none⟩ rfl (mvA mm) (HT7.out _ (Below.refl _ _)).2.2 ?_)
            | (refine wpList_new rfl rfl 44 16 (.tmp 112) rfl rfl rfl rfl (mvA mv0) (mvA mm) (zeroMove _) rfl rfl infoMove rfl (mvA_one _) ?_; rw [hB, ← hy0]; clear hy0))
              go_upto_region 25 with (first
            | (refine wpList_load_at rfl 42 (.tmp 114) rfl ⟨g, 10, none⟩ rfl (poA mm.tx mm.ty mm.td) (HT7.out _ HY0.out.1).1 ?_)
            | (refine wpList_store_mid rfl 42 (.tmp 116) _ rfl B 3 (poA mm.tx mm.ty mm.td) rfl rfl (there_of HY0.out.2 3 3 (by show 3 + 3 ≤ 11; omega)) infoPose (poA_one _ _ _) ?_; rw [hy1]; clear hy1))
              go_upto_region 26 with (first
            | (refine wpList_load_at rfl 42 (.tmp 118) rfl ⟨g, 7, none⟩ rfl (poA mm.fx mm.fy mm.fd) (HT7.out _ HY1.out.1).2.1 ?_)
            | (refine wpList_store_mid rfl 42 (.tmp 120) _ rfl B 6 (poA mm.fx mm.fy mm.fd) rfl rfl (there_of HY1.out.2 6 3 (by show 6 + 3 ≤ 11; omega)) infoPose (poA_one _ _ _) ?_; rw [hy2]; clear hy2))
              have HCF : Hid (∀ u, Below z8.heap.size z8 u → (loadVar 26 ⟨w.heap.size, 0, none⟩).run Tryz.prog u = .ok (.agg #[.int .i64 c.W, .int .i64 c.H, .int .i64 c.height, va, vb, (.slice a3 c.robots.length cap3), vd, .int .i64 c.unit, .int .i64 c.accel, .int .i64 c.speed, .int .i64 c.turn, .int .i64 c.hoist, .int .i64 c.queue, .int .i64 c.resend, .int .i64 c.budget, .bool c.back]) u) := fun u b => HLDu.out _ (bcat HF8.out.bel b)
              by_cases hkd : mm.kd = 1
              · have qk : (mm.kd == 1) = true := by rw [beq_iff_eq]; exact hkd
                have hdr := legal_dir HTh.out.led.legal hkd
                have hwd : IntKind.i64.wrap (mm.dr + 2) = mm.dr + 2 := by rw [IntKind.wrap_i64]; omega
                obtain ⟨dd, hdd⟩ : ∃ dd, (mm.dr + 2).tmod 4 = dd := ⟨_, rfl⟩
                have hbD : backD mm = dd := by unfold backD; rw [if_pos hkd, hdd]
                have k1 : y2.cell? ⟨B, 1, none⟩ = some (.int .i64 mm.dr) := mv_cell HY2.out.2 1
                have f1 : y2.frozen? ⟨B, 1, none⟩ = false := by simp [World.frozen?, HY2.out.2]
                obtain ⟨y3, hy3⟩ : ∃ y3, y2.setCell ⟨B, 1, none⟩ (.int .i64 dd) = y3 := ⟨_, rfl⟩
                have HY3 : Hid (Below z8.heap.size z8 y3 ∧ y3.heap[B]? = some (.cells (mvA md) 44 (0, 0))) := by
                  show Below z8.heap.size z8 y3 ∧ y3.heap[B]? = some (.cells (mvA md) 44 (0, 0))
                  have e : y2.setCells B 1 [.int .i64 dd] = y3 := hy3
                  rw [← e, ← HMD.out]
                  refine ⟨Bn.only HY2.out.1 (Only.setCells _ _ _ _) HBZ.out, ?_⟩
                  rw [hbD]
                  have q := setCells_same B _ _ [.int .i64 dd] 1 _ _ HY2.out.2
                  rw [mv_dr1] at q
                  exact q
                clear hkd hdr hbD
                go_upto_region 28 with fail
                clear k1 f1 k0 qk hwd
                obtain ⟨y4, hy4⟩ : ∃ y4, y3.setCell ⟨B, 9, none⟩ (.int .i64 5) = y4 := ⟨_, rfl⟩
                have HY4 : Hid (Below z8.heap.size z8 y4 ∧ y4.heap[B]? = some (.cells (mvA (backB mm)) 44 (0, 0))) := by
                  show Below z8.heap.size z8 y4 ∧ y4.heap[B]? = some (.cells (mvA (backB mm)) 44 (0, 0))
                  have e : y3.setCells B 9 [.int .i64 5] = y4 := hy4
                  rw [← e]
                  refine ⟨Bn.only HY3.out.1 (Only.setCells _ _ _ _) HBZ.out, ?_⟩
                  have q := setCells_same B _ _ [.int .i64 5] 9 _ _ HY3.out.2
                  rw [mv_b9 HMD.out] at q
                  exact q
                have k9 : y3.cell? ⟨B, 9, none⟩ = some (.int .i64 md.ma) := mv_cell HY3.out.2 9
                have hbd := HBD.out
                have f9 : y3.frozen? ⟨B, 9, none⟩ = false := by simp [World.frozen?, HY3.out.2]
                go_wp2_with (first
                  | (refine wpList_load_at rfl 26 (.tmp 2) rfl ⟨w.heap.size, 0, none⟩ rfl #[.int .i64 c.W, .int .i64 c.H, .int .i64 c.height, va, vb, (.slice a3 c.robots.length cap3), vd, .int .i64 c.unit, .int .i64 c.accel, .int .i64 c.speed, .int .i64 c.turn, .int .i64 c.hoist, .int .i64 c.queue, .int .i64 c.resend, .int .i64 c.budget, .bool c.back] (HCF.out _ HY4.out.1) ?_)
                  | (refine wpList_load_at rfl 44 (.tmp 16) rfl ⟨B, 0, none⟩ rfl (mvA (backB mm)) (mv_all HY4.out.2) ?_)
                  | (go_at_call 28; refine (HLA.out _).mono ?_; rintro e y5 ⟨z5, rfl, rfl, b5⟩; have HY5 : Hid (Below z8.heap.size z8 y5 ∧ y5.heap[B]? = some (.cells (mvA (backB mm)) 44 (0, 0))) := ⟨HY4.out.1.trans (b5.mono HY4.out.1.size), (b5.block _ (Array.getElem?_eq_some_iff.1 HY4.out.2).1).trans HY4.out.2⟩; clear b5; obtain ⟨y6, hy6⟩ : ∃ y6, y5.setCell ⟨B, 10, none⟩ (.int .i64 ee) = y6 := ⟨_, rfl⟩; have HY6 : Hid (Below z8.heap.size z8 y6 ∧ y6.heap[B]? = some (.cells (mvA (backV c.turn c.hoist R.ku R.ka R.kv mm)) 44 (0, 0))) := (by show Below z8.heap.size z8 y6 ∧ y6.heap[B]? = some (.cells (mvA (backV c.turn c.hoist R.ku R.ka R.kv mm)) 44 (0, 0)); have e : y5.setCells B 10 [.int .i64 ee] = y6 := hy6; rw [← e]; refine ⟨Bn.only HY5.out.1 (Only.setCells _ _ _ _) HBZ.out, ?_⟩; have q := setCells_same B _ _ [.int .i64 ee] 10 _ _ HY5.out.2; rw [mv_b10 HEE.out] at q; exact q); have k10 : y5.cell? ⟨B, 10, none⟩ = some (.int .i64 (backB mm).me) := mv_cell HY5.out.2 10; have f10 : y5.frozen? ⟨B, 10, none⟩ = false := (by simp [World.frozen?, HY5.out.2]); have cL6 := HLG.out y6 (bcat HF8.out.bel HY6.out.1))
                  | (refine wpList_load_at rfl 26 (.tmp 2) rfl ⟨w.heap.size, 0, none⟩ rfl #[.int .i64 c.W, .int .i64 c.H, .int .i64 c.height, va, vb, (.slice a3 c.robots.length cap3), vd, .int .i64 c.unit, .int .i64 c.accel, .int .i64 c.speed, .int .i64 c.turn, .int .i64 c.hoist, .int .i64 c.queue, .int .i64 c.resend, .int .i64 c.budget, .bool c.back] (HCF.out _ HY6.out.1) ?_)
                  | (refine wpList_load_at rfl 44 (.tmp 16) rfl ⟨B, 0, none⟩ rfl (mvA (backV c.turn c.hoist R.ku R.ka R.kv mm)) (mv_all HY6.out.2) ?_)
                  | (go_at_call 25; refine cL6.mono ?_; clear cL6; rintro e y7 ⟨z7, rfl, rfl, b7⟩; have HY7 : Hid (Below z8.heap.size z8 y7 ∧ y7.heap[B]? = some (.cells (mvA (backV c.turn c.hoist R.ku R.ka R.kv mm)) 44 (0, 0))) := ⟨HY6.out.1.trans (b7.mono HY6.out.1.size), (b7.block _ (Array.getElem?_eq_some_iff.1 HY6.out.2).1).trans HY6.out.2⟩; clear b7; have HF7 : Hid (Fi w1 R g T mm (20000 * (k : Int) + L) ((k : Int) + 1) y7 rE) := HF8.out.go HY7.out.1)
                  | (refine wpList_load_at rfl 44 (.tmp 16) rfl ⟨B, 0, none⟩ rfl (mvA (backV c.turn c.hoist R.ku R.ka R.kv mm)) (mv_all HY7.out.2) ?_)
                  | (refine wpList_buildAs rfl 46 _ rfl (tlA (goT 0 0 2 (backV c.turn c.hoist R.ku R.ka R.kv mm))) _ (by simp only [List.map_toArray, List.map_cons, List.map_nil]; rfl) (built_go2 (backV c.turn c.hoist R.ku R.ka R.kv mm)) ?_)
                  | (refine wpList_store_row rfl 46 (.tmp 7) (.tmp 140) rfl g (tlA (goT 0 0 2 (backV c.turn c.hoist R.ku R.ka R.kv mm))) rfl rfl 46 (tlA T) HF7.out.tl infoTele rfl (tlA_one _) ?_))
                go_roundw
                case rel => exact ⟨k + 1, rE, (backV c.turn c.hoist R.ku R.ka R.kv mm), 2, by go_num, HTh.out.next hk HWR.out.1 HWR.out.2 HKo.out HNM.out.1 HNM.out.2.1 HNM.out.2.2.1 HNM.out.2.2.2 HF7.out (show 20000 * (k : Int) + L ≤ 20000 * ((k : Int) + 1) by omega) (HF7.out.rb.row HOF.out HF7.out.tl (by decide) _) (Below.only HF7.out.bel (Only.setRow _ _ _) HGW.out) (setRow_heap _ _ _ _ _ _ HF7.out.tl)⟩
                case measure => simp [intOf]; omega
              · have qk : (mm.kd == 1) = false := by rw [beq_eq_false_iff_ne]; exact hkd
                have HY3 : Hid (Below z8.heap.size z8 y2 ∧ y2.heap[B]? = some (.cells (mvA md) 44 (0, 0))) := by
                  show Below z8.heap.size z8 y2 ∧ y2.heap[B]? = some (.cells (mvA md) 44 (0, 0))
                  refine ⟨HY2.out.1, ?_⟩
                  rw [← HMD.out, show backD mm = mm.dr by unfold backD; rw [if_neg hkd]]
                  exact HY2.out.2
                clear hkd HY2
                have HY2 := HY3
                go_upto_region 28 with fail
                clear k0 qk
                obtain ⟨y4, hy4⟩ : ∃ y4, y2.setCell ⟨B, 9, none⟩ (.int .i64 5) = y4 := ⟨_, rfl⟩
                have HY4 : Hid (Below z8.heap.size z8 y4 ∧ y4.heap[B]? = some (.cells (mvA (backB mm)) 44 (0, 0))) := by
                  show Below z8.heap.size z8 y4 ∧ y4.heap[B]? = some (.cells (mvA (backB mm)) 44 (0, 0))
                  have e : y2.setCells B 9 [.int .i64 5] = y4 := hy4
                  rw [← e]
                  refine ⟨Bn.only HY2.out.1 (Only.setCells _ _ _ _) HBZ.out, ?_⟩
                  have q := setCells_same B _ _ [.int .i64 5] 9 _ _ HY2.out.2
                  rw [mv_b9 HMD.out] at q
                  exact q
                have k9 : y2.cell? ⟨B, 9, none⟩ = some (.int .i64 md.ma) := mv_cell HY2.out.2 9
                have hbd := HBD.out
                have f9 : y2.frozen? ⟨B, 9, none⟩ = false := by simp [World.frozen?, HY2.out.2]
                go_wp2_with (first
                  | (refine wpList_load_at rfl 26 (.tmp 2) rfl ⟨w.heap.size, 0, none⟩ rfl #[.int .i64 c.W, .int .i64 c.H, .int .i64 c.height, va, vb, (.slice a3 c.robots.length cap3), vd, .int .i64 c.unit, .int .i64 c.accel, .int .i64 c.speed, .int .i64 c.turn, .int .i64 c.hoist, .int .i64 c.queue, .int .i64 c.resend, .int .i64 c.budget, .bool c.back] (HCF.out _ HY4.out.1) ?_)
                  | (refine wpList_load_at rfl 44 (.tmp 16) rfl ⟨B, 0, none⟩ rfl (mvA (backB mm)) (mv_all HY4.out.2) ?_)
                  | (go_at_call 28; refine (HLA.out _).mono ?_; rintro e y5 ⟨z5, rfl, rfl, b5⟩; have HY5 : Hid (Below z8.heap.size z8 y5 ∧ y5.heap[B]? = some (.cells (mvA (backB mm)) 44 (0, 0))) := ⟨HY4.out.1.trans (b5.mono HY4.out.1.size), (b5.block _ (Array.getElem?_eq_some_iff.1 HY4.out.2).1).trans HY4.out.2⟩; clear b5; obtain ⟨y6, hy6⟩ : ∃ y6, y5.setCell ⟨B, 10, none⟩ (.int .i64 ee) = y6 := ⟨_, rfl⟩; have HY6 : Hid (Below z8.heap.size z8 y6 ∧ y6.heap[B]? = some (.cells (mvA (backV c.turn c.hoist R.ku R.ka R.kv mm)) 44 (0, 0))) := (by show Below z8.heap.size z8 y6 ∧ y6.heap[B]? = some (.cells (mvA (backV c.turn c.hoist R.ku R.ka R.kv mm)) 44 (0, 0)); have e : y5.setCells B 10 [.int .i64 ee] = y6 := hy6; rw [← e]; refine ⟨Bn.only HY5.out.1 (Only.setCells _ _ _ _) HBZ.out, ?_⟩; have q := setCells_same B _ _ [.int .i64 ee] 10 _ _ HY5.out.2; rw [mv_b10 HEE.out] at q; exact q); have k10 : y5.cell? ⟨B, 10, none⟩ = some (.int .i64 (backB mm).me) := mv_cell HY5.out.2 10; have f10 : y5.frozen? ⟨B, 10, none⟩ = false := (by simp [World.frozen?, HY5.out.2]); have cL6 := HLG.out y6 (bcat HF8.out.bel HY6.out.1))
                  | (refine wpList_load_at rfl 26 (.tmp 2) rfl ⟨w.heap.size, 0, none⟩ rfl #[.int .i64 c.W, .int .i64 c.H, .int .i64 c.height, va, vb, (.slice a3 c.robots.length cap3), vd, .int .i64 c.unit, .int .i64 c.accel, .int .i64 c.speed, .int .i64 c.turn, .int .i64 c.hoist, .int .i64 c.queue, .int .i64 c.resend, .int .i64 c.budget, .bool c.back] (HCF.out _ HY6.out.1) ?_)
                  | (refine wpList_load_at rfl 44 (.tmp 16) rfl ⟨B, 0, none⟩ rfl (mvA (backV c.turn c.hoist R.ku R.ka R.kv mm)) (mv_all HY6.out.2) ?_)
                  | (go_at_call 25; refine cL6.mono ?_; clear cL6; rintro e y7 ⟨z7, rfl, rfl, b7⟩; have HY7 : Hid (Below z8.heap.size z8 y7 ∧ y7.heap[B]? = some (.cells (mvA (backV c.turn c.hoist R.ku R.ka R.kv mm)) 44 (0, 0))) := ⟨HY6.out.1.trans (b7.mono HY6.out.1.size), (b7.block _ (Array.getElem?_eq_some_iff.1 HY6.out.2).1).trans HY6.out.2⟩; clear b7; have HF7 : Hid (Fi w1 R g T mm (20000 * (k : Int) + L) ((k : Int) + 1) y7 rE) := HF8.out.go HY7.out.1)
                  | (refine wpList_load_at rfl 44 (.tmp 16) rfl ⟨B, 0, none⟩ rfl (mvA (backV c.turn c.hoist R.ku R.ka R.kv mm)) (mv_all HY7.out.2) ?_)
                  | (refine wpList_buildAs rfl 46 _ rfl (tlA (goT 0 0 2 (backV c.turn c.hoist R.ku R.ka R.kv mm))) _ (by simp only [List.map_toArray, List.map_cons, List.map_nil]; rfl) (built_go2 (backV c.turn c.hoist R.ku R.ka R.kv mm)) ?_)
                  | (refine wpList_store_row rfl 46 (.tmp 7) (.tmp 140) rfl g (tlA (goT 0 0 2 (backV c.turn c.hoist R.ku R.ka R.kv mm))) rfl rfl 46 (tlA T) HF7.out.tl infoTele rfl (tlA_one _) ?_))
                go_roundw
                case rel => exact ⟨k + 1, rE, (backV c.turn c.hoist R.ku R.ka R.kv mm), 2, by go_num, HTh.out.next hk HWR.out.1 HWR.out.2 HKo.out HNM.out.1 HNM.out.2.1 HNM.out.2.2.1 HNM.out.2.2.2 HF7.out (show 20000 * (k : Int) + L ≤ 20000 * ((k : Int) + 1) by omega) (HF7.out.rb.row HOF.out HF7.out.tl (by decide) _) (Below.only HF7.out.bel (Only.setRow _ _ _) HGW.out) (setRow_heap _ _ _ _ _ _ HF7.out.tl)⟩
                case measure => simp [intOf]; omega
        · have g1 : ¬ (k : Int) < 2 := by omega
          have hp0 : posR rr = c.robots[0]'hr0 := HTh.out.zero (by omega)
          obtain ⟨p0, cs0, cap0, hv0, hp0F, hcs0, hrd0⟩ := HAH.out.r.item hr0
          simp only [Value.slice.injEq, true_and] at hv0
          obtain ⟨rfl, rfl⟩ := hv0
          rw [← hp0] at hcs0
          have hcs0 : cs0 = poA rr.px rr.py rr.pd := hcs0
          subst hcs0
          have HPO : Hid (∀ u, Below w.heap.size w u → (loadVar 42 (p0.add (0 * 3))).run Tryz.prog u = .ok (.agg (poA rr.px rr.py rr.pd)) u) := fun u b =>
            run_loadVar_at u _ _ _ (fun j v hj => (cell_block (by rw [Grid.block_add, Grid.block_add]; exact b.block _ hp0F)).trans (hrd0 j v hj)) (aggPose _) infoPose
          clear hp0 hrd0 hp0F
          go_upto_region 33 with fail
          refine start_held (S := fun u => Below wr.drew.heap.size wr.drew u) 11 rfl (by kernel_rfl) (Below.refl _ _) ?_
          simp only [Array.replicate_succ, Array.replicate_zero, List.push_toArray, List.nil_append, List.cons_append]
          have hS0 := Below.refl wr.drew.heap.size wr.drew
          have HWX : Hid (Below w1.heap.size w1 wr.drew) := HTh.out.bel.drew
          have HWD : Hid (Below wr.heap.size wr wr.drew) := (Below.refl _ _).drew
          generalize wr.drew = x0 at *
          refine take_held 0 hS0 rfl (by kernel_rfl) (by kernel_rfl) (by kernel_rfl) (fun _ _ _ h => h) (by kernel_rfl) (v := ?v5000) ?y5000 ?r5000
          case y5000 => (intro u hu; go_simp; try rfl)
          simp only [Act.put, List.setIfInBounds_toArray, List.set_cons_zero, List.set_cons_succ]
          refine take_held 2 hS0 rfl (by kernel_rfl) (by kernel_rfl) (by kernel_rfl) (fun _ _ _ h => h) (by kernel_rfl) (v := ?v5001) ?y5001 ?r5001
          case y5001 => (intro u hu; go_simp; try rfl)
          simp only [Act.put, List.setIfInBounds_toArray, List.set_cons_zero, List.set_cons_succ]
          refine take_held 3 hS0 rfl (by kernel_rfl) (by kernel_rfl) (by kernel_rfl) (fun _ _ _ h => h) (by kernel_rfl) (v := ?v5002) ?y5002 ?r5002
          case y5002 => (intro u hu; have zz0 := (fun (u : World) (hu : Below x0.heap.size x0 u) => HC5.out u (bcat HWX.out hu)) u hu; go_simp; try rfl)
          simp only [Act.put, List.setIfInBounds_toArray, List.set_cons_zero, List.set_cons_succ]
          refine take_held 4 hS0 rfl (by kernel_rfl) (by kernel_rfl) (by kernel_rfl) (fun _ _ _ h => h) (by kernel_rfl) (v := ?v5003) ?y5003 ?r5003
          case y5003 => (intro u hu; go_simp; try rfl)
          simp only [Act.put, List.setIfInBounds_toArray, List.set_cons_zero, List.set_cons_succ]
          refine take_held 5 hS0 rfl (by kernel_rfl) (by kernel_rfl) (by kernel_rfl) (fun _ _ _ h => h) (by kernel_rfl) (v := .agg (poA rr.px rr.py rr.pd)) ?y5004 ?r5004
          case y5004 => (intro u hu; exact run_load_at 42 _ rfl (p0.add (0 * 3)) rfl _ (HPO.out _ (bcat HB1.out (bcat HWX.out hu))))
          simp only [Act.put, List.setIfInBounds_toArray, List.set_cons_zero, List.set_cons_succ]
          refine wpAnyH_ready (rs := [1]) (by kernel_rfl) (by simp) (AllReadyH.cons ((nth_eq _ 1).trans rfl) ?_ AllReadyH.nil)
          intro K1 hK1
          refine call_in hK1 (by kernel_rfl) 20 #[.pointer (some ⟨R.p, 0, none⟩)] (by go_simp) _ (pose_ret (HTh.out.rb.go (bcat2 HWD.out hS0))) ?_
          rintro y1 x1 ⟨rfl, b1⟩
          have hS1 := hS0.trans (b1.mono hS0.size)
          refine ⟨hS1, ?_⟩
          simp only [Act.put, List.setIfInBounds_toArray, List.set_cons_zero, List.set_cons_succ]
          refine take_held 6 hS1 rfl (by kernel_rfl) (by kernel_rfl) (by kernel_rfl) (fun _ _ _ h => h) (by kernel_rfl) (v := .bool true) ?y5005 ?r5005
          case y5005 => (intro u hu; exact run_eql_agg 42 _ _ rfl guardPo (poA rr.px rr.py rr.pd) (poA rr.px rr.py rr.pd) true rfl rfl (eqPo (by simp) u))
          simp only [Act.put, List.setIfInBounds_toArray, List.set_cons_zero, List.set_cons_succ]
          refine take_held 7 hS1 rfl (by kernel_rfl) (by kernel_rfl) (by kernel_rfl) (fun _ _ _ h => h) (by kernel_rfl) (v := ?v5006) ?y5006 ?r5006
          case y5006 => (intro u hu; go_simp; try rfl)
          simp only [Act.put, List.setIfInBounds_toArray, List.set_cons_zero, List.set_cons_succ]
          refine wpAnyH_ready (rs := [8]) (by kernel_rfl) (by simp) (AllReadyH.cons ((nth_eq _ 8).trans rfl) ?_ AllReadyH.nil)
          intro K2 hK2
          refine call_in hK2 (by kernel_rfl) 12 #[] (by go_simp) _ (awake_ret x1) ?_
          rintro y2 x2 ⟨rfl, b2⟩
          have hS2 := hS1.trans (b2.mono hS1.size)
          refine ⟨hS2, ?_⟩
          simp only [Act.put, List.setIfInBounds_toArray, List.set_cons_zero, List.set_cons_succ]
          refine take_held 9 hS2 rfl (by kernel_rfl) (by kernel_rfl) (by kernel_rfl) (fun _ _ _ h => h) (by kernel_rfl) (v := ?v5007) ?y5007 ?r5007
          case y5007 => (intro u hu; go_simp; try rfl)
          simp only [Act.put, List.setIfInBounds_toArray, List.set_cons_zero, List.set_cons_succ]
          refine take_held 10 hS2 rfl (by kernel_rfl) (by kernel_rfl) (by kernel_rfl) (fun _ _ _ h => h) (by kernel_rfl) (v := ?v5008) ?y5008 ?r5008
          case y5008 => (intro u hu; go_simp; try rfl)
          simp only [Act.put, List.setIfInBounds_toArray, List.set_cons_zero, List.set_cons_succ]
          refine done_held (by kernel_rfl) ?_ _
          go_wp2
          go_ret
          exact ⟨rfl, bcat HB1.out (bcat HWX.out hS2)⟩
end Go.Proofs.YtedmfhkdaifegaaGreat.Rob
