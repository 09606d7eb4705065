/-
  A robot begins a move only by the next go-ahead of its epoch: the walk.
-/
import Derived.Test.YtedmfhkdaifegaaGreatRobOnceBase
namespace Go.Proofs.YtedmfhkdaifegaaGreat.Rob
set_option linter.unusedVariables false
set_option linter.unusedSimpArgs false
open Go Go.RowKit Go.Shelf Go.Proofs Go.Proofs.YtedmfhkdaifegaaGreat.Lk Go.Proofs.YtedmfhkdaifegaaGreat.Plain
attribute [local go_sem] Oper.semAt_some

theorem epoch_ret {w : World} {R : Wh} {r : Rb} (h : RbAt w R r) {E : Int} (e : r.ep = E) : Calls Tryz.prog 23 #[.pointer (some ⟨R.p, 0, none⟩)] w fun e w' => ∃ v, e = .returned v ∧ (v = .int .i64 E ∧ w' = w) := by
  rw [← e]
  exact (epoch_any h).mono fun e w' ⟨a, b⟩ => ⟨_, a, rfl, b⟩
theorem pose_p {w : World} {R : Wh} {r : Rb} (h : RbAt w R r) {x y : Int} {d : Bool} (e : posR r = ((x, y), d)) : Calls Tryz.prog 20 #[.pointer (some ⟨R.p, 0, none⟩)] w fun e w' => ∃ v, e = .returned v ∧ (v = .agg (poA x y d) ∧ Below w.heap.size w w') := by
  unfold posR at e
  simp only [Prod.mk.injEq] at e
  obtain ⟨⟨rfl, rfl⟩, rfl⟩ := e
  exact (pose_any h).mono fun e w' ⟨a, b⟩ => ⟨_, a, rfl, b⟩
set_option maxRecDepth 100000 in
set_option maxHeartbeats 40000000 in
theorem once_all (c : Grid.Conf) (v1 v2 v3 v4 : Value) (w : World) (hA : Grid.ConfAt (Grid.Old w) c v1 v2 v3 v4 w) (l1 : c.blocked.length ≤ 8796093022208) (l2 : c.ports.length ≤ 8796093022208) (l3 : c.robots.length ≤ 5864062014805) (l4 : c.stacks.length ≤ 3518437208880) (l5 : ∀ s ∈ c.stacks, s.2.length ≤ 17592186044416) (a : Option Addr) (n cap : Nat) (ts : Nat → Cl) (hT : InS w a n ts) :
    Calls Tryz.prog 5 #[.agg #[.int .i64 c.W, .int .i64 c.H, .int .i64 c.height, v1, v2, v3, v4, .int .i64 c.unit, .int .i64 c.accel, .int .i64 c.speed, .int .i64 c.turn, .int .i64 c.hoist, .int .i64 c.queue, .int .i64 c.resend, .int .i64 c.budget, .bool c.back], .slice a n cap] w fun e w' => e = .returned (.bool true) ∧ Below w.heap.size w w' := by
  have hO : ∀ b, Grid.Old w b → b < w.heap.size := fun b h => h
  obtain ⟨a3, cap3, hv3, _⟩ := hA.r.form
  subst hv3
  have HIn : Hid (∀ u, Below w.heap.size w u → InS u a n ts) := fun u hu => hT.go hu
  obtain ⟨w1, hw1⟩ : ∃ w1, w1 = w.alloc (.cells #[.int .i64 c.W, .int .i64 c.H, .int .i64 c.height, v1, v2, (.slice a3 c.robots.length cap3), v4, .int .i64 c.unit, .int .i64 c.accel, .int .i64 c.speed, .int .i64 c.turn, .int .i64 c.hoist, .int .i64 c.queue, .int .i64 c.resend, .int .i64 c.budget, .bool c.back] 26) := ⟨_, rfl⟩
  have b1 : Below w.heap.size w w1 := by rw [hw1]; exact (Below.refl _ _).alloc (Nat.le_refl _) _
  have hc1 : w1.heap[w.heap.size]? = some (.cells #[.int .i64 c.W, .int .i64 c.H, .int .i64 c.height, v1, v2, (.slice a3 c.robots.length cap3), v4, .int .i64 c.unit, .int .i64 c.accel, .int .i64 c.speed, .int .i64 c.turn, .int .i64 c.hoist, .int .i64 c.queue, .int .i64 c.resend, .int .i64 c.budget, .bool c.back] 26 (0, 0)) := by rw [hw1]; exact World.alloc_heap_new _ _
  have HB1 : Hid (Below w.heap.size w w1) := b1
  have HC1 : Hid (∀ u, Below w1.heap.size w1 u → u.heap[w.heap.size]? = some (.cells #[.int .i64 c.W, .int .i64 c.H, .int .i64 c.height, v1, v2, (.slice a3 c.robots.length cap3), v4, .int .i64 c.unit, .int .i64 c.accel, .int .i64 c.speed, .int .i64 c.turn, .int .i64 c.hoist, .int .i64 c.queue, .int .i64 c.resend, .int .i64 c.budget, .bool c.back] 26 (0, 0))) := fun u b => (b.block _ (Array.getElem?_eq_some_iff.1 hc1).1).trans hc1
  have HC5 : Hid (∀ u, Below w1.heap.size w1 u → u.cell? ⟨w.heap.size, 5, none⟩ = some (.slice a3 c.robots.length cap3)) := fun u b => (cell_of' (HC1.out u b) 5).trans rfl
  have HLDu : Hid (∀ u, Below w1.heap.size w1 u → (loadVar 26 ⟨w.heap.size, 0, none⟩).run Tryz.prog u = .ok (.agg #[.int .i64 c.W, .int .i64 c.H, .int .i64 c.height, v1, v2, (.slice a3 c.robots.length cap3), v4, .int .i64 c.unit, .int .i64 c.accel, .int .i64 c.speed, .int .i64 c.turn, .int .i64 c.hoist, .int .i64 c.queue, .int .i64 c.resend, .int .i64 c.budget, .bool c.back]) u) := fun u b => load_row_of (HC1.out u b) (Grid.aggConf _) Grid.info_conf
  have cS := Dig.small_any (Grid.Old w) c v1 v2 _ v4 w1 (hA.go hO b1) (fun b hb => Nat.lt_of_lt_of_le (hO b hb) b1.size) l1 l2 l3 l4 l5
  have cC := fun u (b : Below w.heap.size w u) => Grid.copyConf_any (Grid.Old w) c v1 v2 _ v4 u (hA.go hO b) (fun q hq => Nat.lt_of_lt_of_le (hO q hq) b.size) l1 l2 l3 l4 l5
  clear hA hT b1 hc1
  cases hsm : (Dig.smallN c && (Grid.newP c).isSome) with
  | false =>
    rw [hsm] at cS
    go_enter Tryz.func5, Tryz.ntmps5
    go_wp2_with (first | (refine wpList_boxAt rfl 26 (.tmp 0) rfl #[.int .i64 c.W, .int .i64 c.H, .int .i64 c.height, v1, v2, (.slice a3 c.robots.length cap3), v4, .int .i64 c.unit, .int .i64 c.accel, .int .i64 c.speed, .int .i64 c.turn, .int .i64 c.hoist, .int .i64 c.queue, .int .i64 c.resend, .int .i64 c.budget, .bool c.back] rfl ?_; rw [← hw1]; clear hw1) | (refine wpList_load_at rfl 26 (.tmp 2) rfl ⟨w.heap.size, 0, none⟩ rfl #[.int .i64 c.W, .int .i64 c.H, .int .i64 c.height, v1, v2, (.slice a3 c.robots.length cap3), v4, .int .i64 c.unit, .int .i64 c.accel, .int .i64 c.speed, .int .i64 c.turn, .int .i64 c.hoist, .int .i64 c.queue, .int .i64 c.resend, .int .i64 c.budget, .bool c.back] (HLDu.out _ (Below.refl _ _)) ?_) | (go_at_call 16; refine cS.mono ?_; rintro e w3 ⟨rs, rfl, rfl, b3⟩; have HB3 : Hid (Below w1.heap.size w1 w3) := b3; have k5 := HC5.out _ b3) | (go_at_call 12; refine (awake18_any _).mono ?_; rintro e w9 ⟨rfl, b9⟩))
    go_ret
    exact ⟨rfl, bcat (bcat HB1.out HB3.out) b9⟩
  | true =>
    rw [hsm] at cS
    obtain ⟨G, hN⟩ : ∃ G, Grid.newP c = some G := by
      cases h : Grid.newP c with
      | none => rw [h] at hsm; simp at hsm
      | some G => exact ⟨G, rfl⟩
    clear hsm
    by_cases h0 : c.robots.length = 0
    · have q0 : ((c.robots.length : Int) == 0) = true := by rw [beq_iff_eq]; omega
      clear h0
      go_enter Tryz.func5, Tryz.ntmps5
      go_wp2_with (first | (refine wpList_boxAt rfl 26 (.tmp 0) rfl #[.int .i64 c.W, .int .i64 c.H, .int .i64 c.height, v1, v2, (.slice a3 c.robots.length cap3), v4, .int .i64 c.unit, .int .i64 c.accel, .int .i64 c.speed, .int .i64 c.turn, .int .i64 c.hoist, .int .i64 c.queue, .int .i64 c.resend, .int .i64 c.budget, .bool c.back] rfl ?_; rw [← hw1]; clear hw1) | (refine wpList_load_at rfl 26 (.tmp 2) rfl ⟨w.heap.size, 0, none⟩ rfl #[.int .i64 c.W, .int .i64 c.H, .int .i64 c.height, v1, v2, (.slice a3 c.robots.length cap3), v4, .int .i64 c.unit, .int .i64 c.accel, .int .i64 c.speed, .int .i64 c.turn, .int .i64 c.hoist, .int .i64 c.queue, .int .i64 c.resend, .int .i64 c.budget, .bool c.back] (HLDu.out _ (Below.refl _ _)) ?_) | (go_at_call 16; refine cS.mono ?_; rintro e w3 ⟨rs, rfl, rfl, b3⟩; have HB3 : Hid (Below w1.heap.size w1 w3) := b3; have k5 := HC5.out _ b3) | (go_at_call 12; refine (awake18_any _).mono ?_; rintro e w9 ⟨rfl, b9⟩))
      go_ret
      exact ⟨rfl, bcat (bcat HB1.out HB3.out) b9⟩
    · have q0 : ((c.robots.length : Int) == 0) = false := by rw [beq_eq_false_iff_ne]; omega
      have hr0 : 0 < c.robots.length := by omega
      clear h0
      go_enter Tryz.func5, Tryz.ntmps5
      go_wp2_with (first
      | (refine wpList_boxAt rfl 26 (.tmp 0) rfl #[.int .i64 c.W, .int .i64 c.H, .int .i64 c.height, v1, v2, (.slice a3 c.robots.length cap3), v4, .int .i64 c.unit, .int .i64 c.accel, .int .i64 c.speed, .int .i64 c.turn, .int .i64 c.hoist, .int .i64 c.queue, .int .i64 c.resend, .int .i64 c.budget, .bool c.back] rfl ?_; rw [← hw1]; clear hw1)
      | (have X3 := HB3; refine wpList_load_at rfl 26 (.tmp 2) rfl ⟨w.heap.size, 0, none⟩ rfl #[.int .i64 c.W, .int .i64 c.H, .int .i64 c.height, v1, v2, (.slice a3 c.robots.length cap3), v4, .int .i64 c.unit, .int .i64 c.accel, .int .i64 c.speed, .int .i64 c.turn, .int .i64 c.hoist, .int .i64 c.queue, .int .i64 c.resend, .int .i64 c.budget, .bool c.back] (HLDu.out _ HB3.out) ?_)
      | (refine wpList_load_at rfl 26 (.tmp 2) rfl ⟨w.heap.size, 0, none⟩ rfl #[.int .i64 c.W, .int .i64 c.H, .int .i64 c.height, v1, v2, (.slice a3 c.robots.length cap3), v4, .int .i64 c.unit, .int .i64 c.accel, .int .i64 c.speed, .int .i64 c.turn, .int .i64 c.hoist, .int .i64 c.queue, .int .i64 c.resend, .int .i64 c.budget, .bool c.back] (HLDu.out _ (Below.refl _ _)) ?_)
      | (go_at_call 16; refine cS.mono ?_; rintro e w3 ⟨rs, rfl, rfl, b3⟩; have HB3 : Hid (Below w1.heap.size w1 w3) := b3; have k5 := HC5.out _ b3)
      | (go_at_call 10; refine (cC _ (bcat HB1.out HB3.out)).mono ?_; rintro e w4 ⟨rc, rfl, ⟨k1, k2, k3, k4, rfl, hC4⟩, b4⟩; have HB4 : Hid (Below w.heap.size w w4) := bcat (bcat HB1.out HB3.out) b4; have HC4 : Hid (Grid.ConfAt (Grid.Since w3.heap.size w4) c k1 k2 k3 k4 w4) := hC4; clear hC4 b4)
      | (go_at_call 9; refine (new_ok0 HC4.out Grid.since_lt l1 l2 l3 l4 hN hr0).mono ?_; rintro e w5 ⟨R, r, rfl, hR, hnb, hlt, hep, hok, hp, hk, b5⟩; have HPK : Hid (w.heap.size ≤ R.p ∧ w.heap.size ≤ R.k) := ⟨Nat.le_trans HB4.out.size hp, Nat.le_trans HB4.out.size hk⟩; have bw5 : Below w.heap.size w w5 := bcat HB4.out b5; clear b5 hp hk HC4))
      clear cS cC HLDu HC1 HC5
      go_loopw [7, 8, 9] (fun d ee k wr => ∃ (i : Nat) (r : Rb), d = .int .i64 r.lt ∧ ee = .int .i64 r.ep ∧ k = .int .i64 i ∧ i ≤ 80 ∧ RbAt wr R r ∧ OkR i r ∧ r.nb = 0 ∧ Below w.heap.size w wr) (fun _ _ k _ => 80 - (intOf k).toNat)
      case atStart => exact ⟨0, r, by rw [hlt], by rw [hep], rfl, by omega, hR, hok, hnb, bw5⟩
      case round =>
        clear hR bw5 hlt hep hok hnb
        obtain ⟨i, r, rfl, rfl, rfl, hi, hR, ok, hnb, bw⟩ := hrel
        by_cases hin : i < n
        · have g1 : (i : Int) < (n : Int) := by omega
          by_cases hi80 : i < 80
          · have g2 : (i : Int) < 80 := by omega
            obtain ⟨p, rfl, hld⟩ := (HIn.out wr bw).load hin
            obtain ⟨x, hx⟩ : ∃ x, ts i = x := ⟨_, rfl⟩
            rw [hx] at hld
            obtain ⟨pk, hpk⟩ : ∃ pk, place x.kd 8 = pk := ⟨_, rfl⟩
            have cP := fun w => place_any x.kd 8 w (by decide) (by decide)
            rw [hpk] at cP
            obtain ⟨x1, hx1⟩ : ∃ x1, x1 = wr.alloc (.cells (clA x) 48) := ⟨_, rfl⟩
            have b1 : Below wr.heap.size wr x1 := by rw [hx1]; exact (Below.refl _ _).alloc (Nat.le_refl _) _
            have h1 : x1.heap[wr.heap.size]? = some (.cells (clA x) 48 (0, 0)) := by rw [hx1]; exact World.alloc_heap_new _ _
            have k0 : x1.cell? ⟨wr.heap.size, 0, none⟩ = some (.int .i64 x.kd) := cl_cell h1 0
            have HX1 : Hid (x1.heap[wr.heap.size]? = some (.cells (clA x) 48 (0, 0)) ∧ Below wr.heap.size wr x1) := ⟨h1, b1⟩
            have HR : Hid (RbAt wr R r) := hR
            have HBW : Hid (Below w.heap.size w wr) := bw
            clear b1 h1 hR bw hx hpk
            by_cases hq : 3 ≤ pk
            · have q3 : decide (3 ≤ pk) = true := decide_eq_true hq
              have cT0 := tick_any (HX1.out.2 |> HR.out.go) (n := i) (by omega) ok
              have D := tick_done ok
              have hw1 : IntKind.i64.wrap (r.lt + 1) = r.lt + 1 := by have := ok.lt0; have := ok.ltn; rw [IntKind.wrap_i64]; omega
              go_upto_region 12 with (first | (refine wpList_load_at rfl 48 (.tmp 52) rfl (p.add (i * 21)) rfl (clA x) hld ?_) | (refine wpList_new rfl rfl 48 10 (.tmp 53) rfl rfl rfl rfl (clA ⟨0, 0, tl0⟩) (clA x) (zeroCl _) rfl rfl infoCl rfl (clA_one _) ?_; rw [← hx1]; clear hx1) | (go_at_call 18; refine (cP _).mono ?_; rintro e yp ⟨rfl, hyp⟩; rw [hyp]; clear hyp))
              rcases tick_how r with h | h | h
              · have cT := cT0
                rw [h, (tick_zero h).2.2.2.2] at cT
                clear cT0
                go_wp2_with (first
                      | (go_at_call 19; refine cT.mono ?_; rintro e x6 ⟨rfl, hR6, T6⟩; clear cT; have HB6 : Hid (Below w.heap.size w x6) := bel_tn (HBW.out.trans (HX1.out.2.mono HBW.out.size)) T6 HPK.out.1 HPK.out.2 (by have := HBW.out.size; have := HX1.out.2.size; omega); obtain ⟨x7, hx7⟩ : ∃ x7, x7 = x6.alloc (.cells (mvA mv0) 44) := ⟨_, rfl⟩; have d7 : Below x6.heap.size x6 x7 := (by rw [hx7]; exact (Below.refl _ _).alloc (Nat.le_refl _) _); have HM7 : Hid (x7.heap[x6.heap.size]? = some (.cells (mvA mv0) 44 (0, 0))) := (by rw [hx7]; exact World.alloc_heap_new _ _); have HR7 : Hid (RbAt x7 R (tickR r)) := hR6.go d7; have HB7 : Hid (Below w.heap.size w x7) := HB6.out.trans (d7.mono HB6.out.size); clear d7 hR6 T6)
                      | (refine wpList_new rfl rfl 44 11 (.tmp 61) rfl rfl rfl rfl (mvA mv0) (mvA mv0) (zeroMove _) rfl rfl infoMove rfl (mvA_one _) ?_; rw [← hx7]; clear hx7))
                go_roundw
                case rel => exact ⟨i + 1, tickR r, by rw [D.2.2, h]; rfl, by rw [D.2.1], by go_num, by omega, HR7.out, by have := ok.tick (by omega); rwa [show ((i + 1 : Nat) : Int) = (i : Int) + 1 by omega], D.1.trans hnb, HB7.out⟩
                case measure => simp [intOf]; omega
              · have cT := cT0
                have q := tick_one h
                have hpo : posR (tickR r) = ((r.mv.tx, r.mv.ty), r.mv.td) := q.2.2.2.2.2
                rw [h, q.2.1] at cT
                clear cT0
                go_upto_region 15 with (first
                      | (go_at_call 19; refine cT.mono ?_; rintro e x6 ⟨rfl, hR6, T6⟩; clear cT; have HB6 : Hid (Below w.heap.size w x6) := bel_tn (HBW.out.trans (HX1.out.2.mono HBW.out.size)) T6 HPK.out.1 HPK.out.2 (by have := HBW.out.size; have := HX1.out.2.size; omega); obtain ⟨x7, hx7⟩ : ∃ x7, x7 = x6.alloc (.cells (mvA r.mv) 44) := ⟨_, rfl⟩; have d7 : Below x6.heap.size x6 x7 := (by rw [hx7]; exact (Below.refl _ _).alloc (Nat.le_refl _) _); have HM7 : Hid (x7.heap[x6.heap.size]? = some (.cells (mvA r.mv) 44 (0, 0))) := (by rw [hx7]; exact World.alloc_heap_new _ _); have HR7 : Hid (RbAt x7 R (tickR r)) := hR6.go d7; have HB7 : Hid (Below w.heap.size w x7) := HB6.out.trans (d7.mono HB6.out.size); clear d7 hR6 T6)
                      | (refine wpList_new rfl rfl 44 11 (.tmp 61) rfl rfl rfl rfl (mvA mv0) (mvA r.mv) (zeroMove _) rfl rfl infoMove rfl (mvA_one _) ?_; rw [← hx7]; clear hx7))
                refine start_held (S := fun u => RbAt u R (tickR r) ∧ u.heap[x6.heap.size]? = some (.cells (mvA r.mv) 44 (0, 0))) 5 rfl (by kernel_rfl) (⟨HR7.out.go (Below.refl _ _).drew, HM7.out⟩) ?_
                simp only [Array.replicate_succ, Array.replicate_zero, List.push_toArray, List.nil_append, List.cons_append]
                have hS0 : RbAt x7.drew R (tickR r) ∧ x7.drew.heap[x6.heap.size]? = some (.cells (mvA r.mv) 44 (0, 0)) := ⟨HR7.out.go (Below.refl _ _).drew, HM7.out⟩
                have HB0 : Hid (Below w.heap.size w x7.drew) := HB7.out.drew
                generalize x7.drew = x0 at *
                refine take_held 0 hS0 rfl (by kernel_rfl) (by kernel_rfl) (by kernel_rfl) (fun _ _ _ h => h) (by kernel_rfl) (v := ?v5000) ?y5000 ?r5000
                case y5000 => (intro u hu; go_simp; try rfl)
                simp only [Act.put, List.setIfInBounds_toArray, List.set_cons_zero, List.set_cons_succ]
                refine take_held 2 hS0 rfl (by kernel_rfl) (by kernel_rfl) (by kernel_rfl) (fun _ _ _ h => h) (by kernel_rfl) (v := ?v5001) ?y5001 ?r5001
                case y5001 => (intro u hu; go_simp; try rfl)
                simp only [Act.put, List.setIfInBounds_toArray, List.set_cons_zero, List.set_cons_succ]
                refine take_held 3 hS0 rfl (by kernel_rfl) (by kernel_rfl) (by kernel_rfl) (fun _ _ _ h => h) (by kernel_rfl) (v := .agg (poA r.mv.tx r.mv.ty r.mv.td)) ?y5002 ?r5002
                case y5002 => (intro u hu; exact run_load_at 42 _ rfl ⟨x6.heap.size, 6, none⟩ rfl _ (mv_to hu.2))
                simp only [Act.put, List.setIfInBounds_toArray, List.set_cons_zero, List.set_cons_succ]
                refine wpAnyH_ready (rs := [1]) (by kernel_rfl) (by simp) (AllReadyH.cons ((nth_eq _ 1).trans rfl) ?_ AllReadyH.nil)
                intro K1 hK1
                refine call_in hK1 (by kernel_rfl) 20 #[.pointer (some ⟨R.p, 0, none⟩)] (by go_simp) _ (pose_p hS0.1 hpo) ?_
                rintro v1 y1 ⟨rfl, d1⟩
                have hS1 : RbAt y1 R (tickR r) ∧ y1.heap[x6.heap.size]? = some (.cells (mvA r.mv) 44 (0, 0)) := ⟨hS0.1.go d1, (d1.block _ (Array.getElem?_eq_some_iff.1 hS0.2).1).trans hS0.2⟩
                refine ⟨hS1, ?_⟩
                simp only [Act.put, List.setIfInBounds_toArray, List.set_cons_zero, List.set_cons_succ]
                refine take_held 4 hS1 rfl (by kernel_rfl) (by kernel_rfl) (by kernel_rfl) (fun _ _ _ h => h) (by kernel_rfl) (v := .bool (!true)) ?y5003 ?r5003
                case y5003 => (intro u hu; exact run_neq_agg 42 _ _ rfl guardPo (poA r.mv.tx r.mv.ty r.mv.td) (poA r.mv.tx r.mv.ty r.mv.td) true rfl rfl (eqPo (by simp) u))
                simp only [Act.put, List.setIfInBounds_toArray, List.set_cons_zero, List.set_cons_succ]
                refine done_held (by kernel_rfl) ?_ _
                go_wp2
                go_roundw
                case rel => exact ⟨i + 1, tickR r, by rw [D.2.2, h]; exact congrArg (Value.int IntKind.i64) (by first | rfl | exact hw1), by rw [D.2.1], by go_num, by omega, hS1.1, by have := ok.tick (by omega); rwa [show ((i + 1 : Nat) : Int) = (i : Int) + 1 by omega], D.1.trans hnb, HB0.out.trans (d1.mono HB0.out.size)⟩
                case measure => simp [intOf]; omega
              · have cT := cT0
                rw [h, (tick_two ok h).2.1] at cT
                clear cT0
                go_wp2_with (first
                      | (go_at_call 19; refine cT.mono ?_; rintro e x6 ⟨rfl, hR6, T6⟩; clear cT; have HB6 : Hid (Below w.heap.size w x6) := bel_tn (HBW.out.trans (HX1.out.2.mono HBW.out.size)) T6 HPK.out.1 HPK.out.2 (by have := HBW.out.size; have := HX1.out.2.size; omega); obtain ⟨x7, hx7⟩ : ∃ x7, x7 = x6.alloc (.cells (mvA r.mv) 44) := ⟨_, rfl⟩; have d7 : Below x6.heap.size x6 x7 := (by rw [hx7]; exact (Below.refl _ _).alloc (Nat.le_refl _) _); have HM7 : Hid (x7.heap[x6.heap.size]? = some (.cells (mvA r.mv) 44 (0, 0))) := (by rw [hx7]; exact World.alloc_heap_new _ _); have HR7 : Hid (RbAt x7 R (tickR r)) := hR6.go d7; have HB7 : Hid (Below w.heap.size w x7) := HB6.out.trans (d7.mono HB6.out.size); clear d7 hR6 T6)
                      | (refine wpList_new rfl rfl 44 11 (.tmp 61) rfl rfl rfl rfl (mvA mv0) (mvA r.mv) (zeroMove _) rfl rfl infoMove rfl (mvA_one _) ?_; rw [← hx7]; clear hx7))
                go_roundw
                case rel => exact ⟨i + 1, tickR r, by rw [D.2.2, h]; rfl, by rw [D.2.1], by go_num, by omega, HR7.out, by have := ok.tick (by omega); rwa [show ((i + 1 : Nat) : Int) = (i : Int) + 1 by omega], D.1.trans hnb, HB7.out⟩
                case measure => simp [intOf]; omega
            · have q3 : decide (3 ≤ pk) = false := decide_eq_false hq
              have hR1 : RbAt x1 R r := HR.out.go HX1.out.2
              have cO := pose_any hR1
              clear hR1
              obtain ⟨hh, hhh⟩ : ∃ hh, hearH R r x.te = hh := ⟨_, rfl⟩
              obtain ⟨ur, hur⟩ : ∃ ur, under r = ur := ⟨_, rfl⟩
              have HU : Hid (under r = ur) := hur
              clear hur
              have HH : Hid (hearH R r x.te = hh) := hhh
              clear hhh
              go_upto_region 22 with (first
                | (refine wpList_load_at rfl 48 (.tmp 52) rfl (p.add (i * 21)) rfl (clA x) hld ?_) | (refine wpList_new rfl rfl 48 10 (.tmp 53) rfl rfl rfl rfl (clA ⟨0, 0, tl0⟩) (clA x) (zeroCl _) rfl rfl infoCl rfl (clA_one _) ?_; rw [← hx1]; clear hx1) | (go_at_call 18; refine (cP _).mono ?_; rintro e yp ⟨rfl, hyp⟩; rw [hyp]; clear hyp)
                | (go_at_call 20; refine cO.mono ?_; rintro e x2 ⟨rfl, d2⟩; clear cO; obtain ⟨x3, hx3⟩ : ∃ x3, x3 = x2.alloc (.cells (poA r.px r.py r.pd) 42) := ⟨_, rfl⟩; have d3 : Below x2.heap.size x2 x3 := (by rw [hx3]; exact (Below.refl _ _).alloc (Nat.le_refl _) _); have HP3 : Hid (x3.heap[x2.heap.size]? = some (.cells (poA r.px r.py r.pd) 42 (0, 0))) := (by rw [hx3]; exact World.alloc_heap_new _ _); have HB3 : Hid (Below wr.heap.size wr x3) := (HX1.out.2.trans (d2.mono HX1.out.2.size)).trans (d3.mono ((HX1.out.2.trans (d2.mono HX1.out.2.size)).size)); have HX3 : Hid (x3.heap[wr.heap.size]? = some (.cells (clA x) 48 (0, 0))) := (d3.block _ (Nat.lt_of_lt_of_le (Array.getElem?_eq_some_iff.1 HX1.out.1).1 d2.size)).trans ((d2.block _ (Array.getElem?_eq_some_iff.1 HX1.out.1).1).trans HX1.out.1); have HL2 : Hid (wr.heap.size ≤ x2.heap.size) := Nat.le_trans HX1.out.2.size d2.size; have cN := now_any (HR.out.go HB3.out); rw [HU.out] at cN; clear d2 d3)
                | (refine wpList_new rfl rfl 42 13 (.tmp 75) rfl rfl rfl rfl (poA 0 0 false) (poA r.px r.py r.pd) (zeroPose _) rfl rfl infoPose rfl (poA_one _ _ _) ?_; rw [← hx3]; clear hx3)
                | (go_at_call 21; refine cN.mono ?_; rintro e x4 ⟨rfl, d4⟩; clear cN; obtain ⟨x5, hx5⟩ : ∃ x5, x5 = x4.alloc (.cells (mvA r.mv) 44) := ⟨_, rfl⟩; have d5 : Below x3.heap.size x3 x5 := (by rw [hx5]; exact d4.alloc d4.size _); have HP5 : Hid (x5.heap[x2.heap.size]? = some (.cells (poA r.px r.py r.pd) 42 (0, 0))) := (d5.block _ (Array.getElem?_eq_some_iff.1 HP3.out).1).trans HP3.out; have HX5 : Hid (x5.heap[wr.heap.size]? = some (.cells (clA x) 48 (0, 0))) := (d5.block _ (Array.getElem?_eq_some_iff.1 HX3.out).1).trans HX3.out; have HB5 : Hid (Below wr.heap.size wr x5) := HB3.out.trans (d5.mono HB3.out.size); clear d4 d5)
                | (refine wpList_new rfl rfl 44 14 (.tmp 79) rfl rfl rfl rfl (mvA mv0) (mvA r.mv) (zeroMove _) rfl rfl infoMove rfl (mvA_one _) ?_; rw [← hx5]; clear hx5)
                | (refine wpList_load_at rfl 46 (.tmp 83) rfl ⟨wr.heap.size, 2, none⟩ rfl (tlA x.te) (cl_tele HX5.out) ?_)
                | (go_at_call 22; refine (hear_any (HR.out.go HB5.out) x.te (n := i) (by omega) ok).mono ?_; rintro e x6 ⟨v, he6, lv, hR6, T6⟩; rw [HH.out] at he6; subst he6; have HX6 : Hid (x6.heap[wr.heap.size]? = some (.cells (clA x) 48 (0, 0))) := (T6.block _ (Array.getElem?_eq_some_iff.1 HX5.out).1 (Ne.symm (Nat.ne_of_lt HR.out.plt)) (Ne.symm (Nat.ne_of_lt HR.out.klt))).trans HX5.out; have HP6 : Hid (x6.heap[x2.heap.size]? = some (.cells (poA r.px r.py r.pd) 42 (0, 0))) := (T6.block _ (Array.getElem?_eq_some_iff.1 HP5.out).1 (by have := HR.out.plt; have := HL2.out; omega) (by have := HR.out.klt; have := HL2.out; omega)).trans HP5.out; have HB6 : Hid (Below w.heap.size w x6) := bel_tn (HBW.out.trans (HB5.out.mono HBW.out.size)) T6 HPK.out.1 HPK.out.2 (by have := HBW.out.size; have := HB5.out.size; omega); have HR6 : Hid (RbAt x6 R (hearR R r x.te)) := hR6; clear hR6 T6 lv))

              obtain ⟨r6, hr6⟩ : ∃ r6, hearR R r x.te = r6 := ⟨_, rfl⟩
              have HR7 : Hid (RbAt x6 R r6) := by show RbAt x6 R r6; rw [← hr6]; exact HR6.out
              have HQ6 : Hid (hearR R r x.te = r6) := hr6
              have ok6 : OkR i r6 := by rw [← hr6]; exact ok.hear (by omega) HR.out.hT
              have hs6 : r6.nb = r.nb ∧ posR r6 = posR r := by rw [← hr6]; have h := hear_stay R r x.te; exact ⟨h.1, h.2.1⟩
              clear hr6 HR6
              have HSX : Hid (x.te.rb = 0 ∨ x.te.rb ≠ 0) := Decidable.em _
              try simp only [Act.put, List.setIfInBounds_toArray, List.set_cons_zero, List.set_cons_succ]
              go_cut [127] from 40 to 166 (fun v wx => v = .bool false ∧ wx = x6)
              case first =>
                by_cases h1 : hh = 1
                · have q1 : (hh == 1) = true := by rw [beq_iff_eq]; exact h1
                  obtain ⟨f1, f2, f3, f4, f5, f6⟩ := hear_one (HH.out.trans h1)
                  obtain rfl : ur = false := HU.out.symm.trans f4
                  have qk : (x.te.kd != 1) = false := by rw [f2]; rfl
                  have qe : (x.te.ep != r.ep) = false := by rw [f3]; simp
                  have hw1 : IntKind.i64.wrap (r.lt + 1) = r.lt + 1 := by have := ok.lt0; have := ok.ltn; rw [IntKind.wrap_i64]; omega
                  have qn : (x.te.nm != r.lt + 1) = false := by rw [f5]; simp
                  have qb : (x.te.rb != 0) = false := by rw [f1, hnb]; rfl
                  have k2 : x6.cell? ⟨wr.heap.size, 2, none⟩ = some (.int .i64 x.te.kd) := cl_cell HX6.out 2
                  have k3 : x6.cell? ⟨wr.heap.size, 3, none⟩ = some (.int .i64 x.te.rb) := cl_cell HX6.out 3
                  have k4 : x6.cell? ⟨wr.heap.size, 4, none⟩ = some (.int .i64 x.te.ep) := cl_cell HX6.out 4
                  have k5 : x6.cell? ⟨wr.heap.size, 5, none⟩ = some (.int .i64 x.te.nm) := cl_cell HX6.out 5
                  have HFR : Hid (decide (((x.te.fx, x.te.fy), x.te.fd) = ((r.px, r.py), r.pd)) = true) := decide_eq_true f6
                  clear h1 f1 f2 f3 f4 f5 f6 hnb
                  go_wp2_with (first
                    | (refine wpList_load_w (by kernel_rfl) 42 (.tmp 116) rfl ⟨wr.heap.size, 9, none⟩ rfl (poA x.te.fx x.te.fy x.te.fd) (cl_from HX6.out) ?_)
                    | (refine wpList_load_w (by kernel_rfl) 42 (.tmp 13) rfl ⟨x2.heap.size, 0, none⟩ rfl (poA r.px r.py r.pd) (load_row_of HP6.out (aggPose _) infoPose) ?_)
                    | (refine wpList_neq_agg (by kernel_rfl) 42 (.tmp 117) (.tmp 118) rfl guardPo (poA x.te.fx x.te.fy x.te.fd) (poA r.px r.py r.pd) true rfl rfl (eqPo HFR.out _) ?_))
                  go_meet
                  exact ⟨rfl, rfl⟩
                · have q1 : (hh == 1) = false := by rw [beq_eq_false_iff_ne]; exact h1
                  clear h1
                  go_wp2_with fail
                  go_meet
                  exact ⟨rfl, rfl⟩
              case rest =>
              obtain ⟨rfl, hwc⟩ := hcut
              rw [hwc]
              clear hwc wc
              go_upto_region 24 with fail
              go_cut [136] from 40 to 166 (fun v wx => v = .bool false ∧ wx = x6)
              case first =>
                by_cases h1 : hh = 2
                · have q1 : (hh == 2) = true := by rw [beq_iff_eq]; exact h1
                  obtain ⟨f1, f2, f3⟩ := hear_two (HH.out.trans h1)
                  have qe : decide (r.ep ≤ x.te.ep) = false := decide_eq_false (by omega)
                  have k4 : x6.cell? ⟨wr.heap.size, 4, none⟩ = some (.int .i64 x.te.ep) := cl_cell HX6.out 4
                  clear h1 f1 f2 f3
                  go_wp2_with fail
                  go_meet
                  exact ⟨rfl, rfl⟩
                · have q1 : (hh == 2) = false := by rw [beq_eq_false_iff_ne]; exact h1
                  clear h1
                  go_wp2_with fail
                  go_meet
                  exact ⟨rfl, rfl⟩
              case rest =>
              obtain ⟨rfl, hwc⟩ := hcut
              rw [hwc]
              clear hwc wc
              go_upto_region 26 with fail
              obtain ⟨nb, hnw⟩ : ∃ nb, (decide (x.te.kd = 2) && (decide (x.te.rb = 0) && decide (r.ep < x.te.ep))) = nb := ⟨_, rfl⟩
              have HNW : Hid ((decide (x.te.kd = 2) && (decide (x.te.rb = 0) && decide (r.ep < x.te.ep))) = nb) := hnw
              clear hnw
              go_cut [153] from 40 to 166 (fun v wx => v = .bool nb ∧ wx = x6)
              case first =>
                have k2 : x6.cell? ⟨wr.heap.size, 2, none⟩ = some (.int .i64 x.te.kd) := cl_cell HX6.out 2
                have k3 : x6.cell? ⟨wr.heap.size, 3, none⟩ = some (.int .i64 x.te.rb) := cl_cell HX6.out 3
                have k4 : x6.cell? ⟨wr.heap.size, 4, none⟩ = some (.int .i64 x.te.ep) := cl_cell HX6.out 4
                by_cases h1 : x.te.kd = 2
                · have q1 : (x.te.kd == 2) = true := by rw [beq_iff_eq]; exact h1
                  by_cases h2 : x.te.rb = 0
                  · have q2 : (x.te.rb == 0) = true := by rw [beq_iff_eq]; exact h2
                    have e : decide (r.ep < x.te.ep) = nb := by rw [← HNW.out]; simp [h1, h2]
                    clear h1 h2
                    go_wp2_with fail
                    all_goals (go_meet; exact ⟨by first | rfl | (rw [e]) | (rw [← e]; simp_all), rfl⟩)
                  · have q2 : (x.te.rb == 0) = false := by rw [beq_eq_false_iff_ne]; exact h2
                    have e : nb = false := by rw [← HNW.out]; simp [h2]
                    clear h1 h2
                    subst e
                    go_wp2_with fail
                    go_meet
                    exact ⟨rfl, rfl⟩
                · have q1 : (x.te.kd == 2) = false := by rw [beq_eq_false_iff_ne]; exact h1
                  have e : nb = false := by rw [← HNW.out]; simp [h1]
                  clear h1
                  subst e
                  go_wp2_with fail
                  go_meet
                  exact ⟨rfl, rfl⟩
              case rest =>
              obtain ⟨rfl, hwc⟩ := hcut
              rw [hwc]
              clear hwc wc
              cases hnb2 : nb with
              | true =>
                have hn : newStop r x.te := by
                  have h := HNW.out
                  rw [hnb2] at h
                  simp only [Bool.and_eq_true, decide_eq_true_eq] at h
                  exact ⟨by rw [hnb]; exact h.2.1, h.1, h.2.2⟩
                have hst : r6.ep = x.te.ep ∧ r6.lt = 0 := by
                  rw [← HQ6.out, (hear_new hn).1]
                  have h := stop_stay R r x.te.ep
                  exact ⟨h.2.2.2.1, h.2.2.2.2⟩
                have k4 : x6.cell? ⟨wr.heap.size, 4, none⟩ = some (.int .i64 x.te.ep) := cl_cell HX6.out 4
                clear hnb2 hn
                go_upto_region 29 with fail
                clear k4
                refine start_held (S := fun u => RbAt u R r6 ∧ u.heap[x2.heap.size]? = some (.cells (poA r.px r.py r.pd) 42 (0, 0)) ∧ Below w.heap.size w u) 10 rfl (by kernel_rfl) (⟨HR7.out.go (Below.refl _ _).drew, HP6.out, HB6.out.drew⟩) ?_
                simp only [Array.replicate_succ, Array.replicate_zero, List.push_toArray, List.nil_append, List.cons_append]
                have hS0 : RbAt x6.drew R r6 ∧ x6.drew.heap[x2.heap.size]? = some (.cells (poA r.px r.py r.pd) 42 (0, 0)) ∧ Below w.heap.size w x6.drew := ⟨HR7.out.go (Below.refl _ _).drew, HP6.out, HB6.out.drew⟩
                generalize x6.drew = x0 at *
                refine take_held 0 hS0 rfl (by kernel_rfl) (by kernel_rfl) (by kernel_rfl) (fun _ _ _ h => h) (by kernel_rfl) (v := ?v5004) ?y5004 ?r5004
                case y5004 => (intro u hu; go_simp; try rfl)
                simp only [Act.put, List.setIfInBounds_toArray, List.set_cons_zero, List.set_cons_succ]
                refine take_held 2 hS0 rfl (by kernel_rfl) (by kernel_rfl) (by kernel_rfl) (fun _ _ _ h => h) (by kernel_rfl) (v := ?v5005) ?y5005 ?r5005
                case y5005 => (intro u hu; go_simp; try rfl)
                simp only [Act.put, List.setIfInBounds_toArray, List.set_cons_zero, List.set_cons_succ]
                refine wpAnyH_ready (rs := [1]) (by kernel_rfl) (by simp) (AllReadyH.cons ((nth_eq _ 1).trans rfl) ?_ AllReadyH.nil)
                intro K1 hK1
                refine call_in hK1 (by kernel_rfl) 23 #[.pointer (some ⟨R.p, 0, none⟩)] (by go_simp) _ (epoch_ret hS0.1 hst.1) ?_
                rintro v1 y1 ⟨rfl, hy1⟩
                rw [hy1]
                clear hy1 y1
                refine ⟨hS0, ?_⟩
                simp only [Act.put, List.setIfInBounds_toArray, List.set_cons_zero, List.set_cons_succ]
                refine take_held 3 hS0 rfl (by kernel_rfl) (by kernel_rfl) (by kernel_rfl) (fun _ _ _ h => h) (by kernel_rfl) (v := ?v5006) ?y5006 ?r5006
                case y5006 => (intro u hu; go_simp; try rfl)
                simp only [Act.put, List.setIfInBounds_toArray, List.set_cons_zero, List.set_cons_succ]
                refine take_held 4 hS0 rfl (by kernel_rfl) (by kernel_rfl) (by kernel_rfl) (fun _ _ _ h => h) (by kernel_rfl) (v := ?v5007) ?y5007 ?r5007
                case y5007 => (intro u hu; go_simp; try rfl)
                simp only [Act.put, List.setIfInBounds_toArray, List.set_cons_zero, List.set_cons_succ]
                refine take_held 5 hS0 rfl (by kernel_rfl) (by kernel_rfl) (by kernel_rfl) (fun _ _ _ h => h) (by kernel_rfl) (v := ?v5008) ?y5008 ?r5008
                case y5008 => (intro u hu; go_simp; try rfl)
                simp only [Act.put, List.setIfInBounds_toArray, List.set_cons_zero, List.set_cons_succ]
                refine take_held 7 hS0 rfl (by kernel_rfl) (by kernel_rfl) (by kernel_rfl) (fun _ _ _ h => h) (by kernel_rfl) (v := .agg (poA r.px r.py r.pd)) ?y5009 ?r5009
                case y5009 => (intro u hu; exact run_load_at 42 _ rfl ⟨x2.heap.size, 0, none⟩ rfl _ (load_row_of hu.2.1 (aggPose _) infoPose))
                simp only [Act.put, List.setIfInBounds_toArray, List.set_cons_zero, List.set_cons_succ]
                refine wpAnyH_ready (rs := [6]) (by kernel_rfl) (by simp) (AllReadyH.cons ((nth_eq _ 6).trans rfl) ?_ AllReadyH.nil)
                intro K2 hK2
                refine call_in hK2 (by kernel_rfl) 20 #[.pointer (some ⟨R.p, 0, none⟩)] (by go_simp) _ (pose_p hS0.1 (hs6.2.trans (rfl : posR r = ((r.px, r.py), r.pd)))) ?_
                rintro v2 y2 ⟨rfl, d2⟩
                have hS2 : RbAt y2 R r6 ∧ y2.heap[x2.heap.size]? = some (.cells (poA r.px r.py r.pd) 42 (0, 0)) ∧ Below w.heap.size w y2 := ⟨hS0.1.go d2, (d2.block _ (Array.getElem?_eq_some_iff.1 hS0.2.1).1).trans hS0.2.1, bcat hS0.2.2 d2⟩
                refine ⟨hS2, ?_⟩
                simp only [Act.put, List.setIfInBounds_toArray, List.set_cons_zero, List.set_cons_succ]
                refine take_held 8 hS2 rfl (by kernel_rfl) (by kernel_rfl) (by kernel_rfl) (fun _ _ _ h => h) (by kernel_rfl) (v := .bool (!true)) ?y5010 ?r5010
                case y5010 => (intro u hu; exact run_neq_agg 42 _ _ rfl guardPo (poA r.px r.py r.pd) (poA r.px r.py r.pd) true rfl rfl (eqPo (by simp) u))
                simp only [Act.put, List.setIfInBounds_toArray, List.set_cons_zero, List.set_cons_succ]
                refine take_held 9 hS2 rfl (by kernel_rfl) (by kernel_rfl) (by kernel_rfl) (fun _ _ _ h => h) (by kernel_rfl) (v := ?v5011) ?y5011 ?r5011
                case y5011 => (intro u hu; go_simp; try rfl)
                simp only [Act.put, List.setIfInBounds_toArray, List.set_cons_zero, List.set_cons_succ]
                refine done_held (by kernel_rfl) ?_ _
                go_wp2
                go_roundw
                case rel => exact ⟨i + 1, r6, by rw [hst.2], by rw [hst.1], by go_num, by omega, hS2.1, ok6.more (by omega), by rw [hs6.1]; exact hnb, hS2.2.2⟩
                case measure => simp [intOf]; omega
              | false =>
                have hn : ¬ newStop r x.te := fun hh2 => by
                  have h := HNW.out
                  rw [hnb2] at h
                  obtain ⟨a1, a2, a3⟩ := hh2
                  rw [hnb] at a1
                  simp [a1, a2, a3] at h
                have hst : r6.ep = r.ep ∧ r6.lt = r.lt := by
                  rw [← HQ6.out]
                  exact hear_same hn
                clear hnb2 hn
                go_upto_region 29 with fail
                refine start_held (S := fun u => RbAt u R r6 ∧ u.heap[x2.heap.size]? = some (.cells (poA r.px r.py r.pd) 42 (0, 0)) ∧ Below w.heap.size w u) 10 rfl (by kernel_rfl) (⟨HR7.out.go (Below.refl _ _).drew, HP6.out, HB6.out.drew⟩) ?_
                simp only [Array.replicate_succ, Array.replicate_zero, List.push_toArray, List.nil_append, List.cons_append]
                have hS0 : RbAt x6.drew R r6 ∧ x6.drew.heap[x2.heap.size]? = some (.cells (poA r.px r.py r.pd) 42 (0, 0)) ∧ Below w.heap.size w x6.drew := ⟨HR7.out.go (Below.refl _ _).drew, HP6.out, HB6.out.drew⟩
                generalize x6.drew = x0 at *
                refine take_held 0 hS0 rfl (by kernel_rfl) (by kernel_rfl) (by kernel_rfl) (fun _ _ _ h => h) (by kernel_rfl) (v := ?v5012) ?y5012 ?r5012
                case y5012 => (intro u hu; go_simp; try rfl)
                simp only [Act.put, List.setIfInBounds_toArray, List.set_cons_zero, List.set_cons_succ]
                refine take_held 2 hS0 rfl (by kernel_rfl) (by kernel_rfl) (by kernel_rfl) (fun _ _ _ h => h) (by kernel_rfl) (v := ?v5013) ?y5013 ?r5013
                case y5013 => (intro u hu; go_simp; try rfl)
                simp only [Act.put, List.setIfInBounds_toArray, List.set_cons_zero, List.set_cons_succ]
                refine wpAnyH_ready (rs := [1]) (by kernel_rfl) (by simp) (AllReadyH.cons ((nth_eq _ 1).trans rfl) ?_ AllReadyH.nil)
                intro K1 hK1
                refine call_in hK1 (by kernel_rfl) 23 #[.pointer (some ⟨R.p, 0, none⟩)] (by go_simp) _ (epoch_ret hS0.1 hst.1) ?_
                rintro v1 y1 ⟨rfl, hy1⟩
                rw [hy1]
                clear hy1 y1
                refine ⟨hS0, ?_⟩
                simp only [Act.put, List.setIfInBounds_toArray, List.set_cons_zero, List.set_cons_succ]
                refine take_held 3 hS0 rfl (by kernel_rfl) (by kernel_rfl) (by kernel_rfl) (fun _ _ _ h => h) (by kernel_rfl) (v := ?v5014) ?y5014 ?r5014
                case y5014 => (intro u hu; go_simp; try rfl)
                simp only [Act.put, List.setIfInBounds_toArray, List.set_cons_zero, List.set_cons_succ]
                refine take_held 4 hS0 rfl (by kernel_rfl) (by kernel_rfl) (by kernel_rfl) (fun _ _ _ h => h) (by kernel_rfl) (v := ?v5015) ?y5015 ?r5015
                case y5015 => (intro u hu; go_simp; try rfl)
                simp only [Act.put, List.setIfInBounds_toArray, List.set_cons_zero, List.set_cons_succ]
                refine take_held 5 hS0 rfl (by kernel_rfl) (by kernel_rfl) (by kernel_rfl) (fun _ _ _ h => h) (by kernel_rfl) (v := ?v5016) ?y5016 ?r5016
                case y5016 => (intro u hu; go_simp; try rfl)
                simp only [Act.put, List.setIfInBounds_toArray, List.set_cons_zero, List.set_cons_succ]
                refine take_held 7 hS0 rfl (by kernel_rfl) (by kernel_rfl) (by kernel_rfl) (fun _ _ _ h => h) (by kernel_rfl) (v := .agg (poA r.px r.py r.pd)) ?y5017 ?r5017
                case y5017 => (intro u hu; exact run_load_at 42 _ rfl ⟨x2.heap.size, 0, none⟩ rfl _ (load_row_of hu.2.1 (aggPose _) infoPose))
                simp only [Act.put, List.setIfInBounds_toArray, List.set_cons_zero, List.set_cons_succ]
                refine wpAnyH_ready (rs := [6]) (by kernel_rfl) (by simp) (AllReadyH.cons ((nth_eq _ 6).trans rfl) ?_ AllReadyH.nil)
                intro K2 hK2
                refine call_in hK2 (by kernel_rfl) 20 #[.pointer (some ⟨R.p, 0, none⟩)] (by go_simp) _ (pose_p hS0.1 (hs6.2.trans (rfl : posR r = ((r.px, r.py), r.pd)))) ?_
                rintro v2 y2 ⟨rfl, d2⟩
                have hS2 : RbAt y2 R r6 ∧ y2.heap[x2.heap.size]? = some (.cells (poA r.px r.py r.pd) 42 (0, 0)) ∧ Below w.heap.size w y2 := ⟨hS0.1.go d2, (d2.block _ (Array.getElem?_eq_some_iff.1 hS0.2.1).1).trans hS0.2.1, bcat hS0.2.2 d2⟩
                refine ⟨hS2, ?_⟩
                simp only [Act.put, List.setIfInBounds_toArray, List.set_cons_zero, List.set_cons_succ]
                refine take_held 8 hS2 rfl (by kernel_rfl) (by kernel_rfl) (by kernel_rfl) (fun _ _ _ h => h) (by kernel_rfl) (v := .bool (!true)) ?y5018 ?r5018
                case y5018 => (intro u hu; exact run_neq_agg 42 _ _ rfl guardPo (poA r.px r.py r.pd) (poA r.px r.py r.pd) true rfl rfl (eqPo (by simp) u))
                simp only [Act.put, List.setIfInBounds_toArray, List.set_cons_zero, List.set_cons_succ]
                refine take_held 9 hS2 rfl (by kernel_rfl) (by kernel_rfl) (by kernel_rfl) (fun _ _ _ h => h) (by kernel_rfl) (v := ?v5019) ?y5019 ?r5019
                case y5019 => (intro u hu; go_simp; try rfl)
                simp only [Act.put, List.setIfInBounds_toArray, List.set_cons_zero, List.set_cons_succ]
                refine done_held (by kernel_rfl) ?_ _
                go_wp2
                go_roundw
                case rel => exact ⟨i + 1, r6, by rw [hst.2], by rw [hst.1], by go_num, by omega, hS2.1, ok6.more (by omega), by rw [hs6.1]; exact hnb, hS2.2.2⟩
                case measure => simp [intOf]; omega
          · have g2 : ¬ (i : Int) < 80 := by omega
            go_wp2_with (first | (go_at_call 12; refine (awake18_any _).mono ?_; rintro e w9 ⟨rfl, b9⟩))
            go_ret
            exact ⟨rfl, bw.trans (b9.mono bw.size)⟩
        · have g1 : ¬ (i : Int) < (n : Int) := by omega
          go_wp2_with (first | (go_at_call 12; refine (awake18_any _).mono ?_; rintro e w9 ⟨rfl, b9⟩))
          go_ret
          exact ⟨rfl, bw.trans (b9.mono bw.size)⟩
end Go.Proofs.YtedmfhkdaifegaaGreat.Rob
