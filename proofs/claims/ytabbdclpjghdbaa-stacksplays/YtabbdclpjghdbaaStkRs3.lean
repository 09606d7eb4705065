/-
  How much room the chapter's own stacks see at a cell.
-/
import Derived.Test.YtabbdclpjghdbaaStkRs2
namespace Go.Proofs.Ytabbdclpjghdbaa.Stk
set_option linter.unusedVariables false
set_option linter.unusedSimpArgs false
open Go Go.RowKit Go.Shelf Go.Proofs Go.Proofs.Ytabbdclpjghdbaa.Grid
attribute [local go_sem] Oper.semAt_some

/- A config's cells, as they lie in memory. -/
def cfA (c : Conf) (vb vp vr vs : Value) : Array Value := #[.int .i64 c.W, .int .i64 c.H, .int .i64 c.height, vb, vp, vr, vs, .int .i64 c.unit, .int .i64 c.accel, .int .i64 c.speed, .int .i64 c.turn, .int .i64 c.hoist, .int .i64 c.queue, .int .i64 c.resend, .int .i64 c.budget, .bool c.back]
def roomR (c : Conf) (x : Cell) : Int := if portP c.ports x 0 < 0 then (if stackedR c x then c.height else 0) else 1
theorem RsAt.conf {K : Rk} {c : Conf} {vb vp vr vs vc : Value} {qs : List Pile} {ls : List Int} {w : World} (h : RsAt w K (cfA c vb vp vr vs) vc qs ls) : (loadVar 26 ⟨K.s, 0, none⟩).run Try.prog w = .ok (.agg #[.int .i64 c.W, .int .i64 c.H, .int .i64 c.height, vb, vp, vr, vs, .int .i64 c.unit, .int .i64 c.accel, .int .i64 c.speed, .int .i64 c.turn, .int .i64 c.hoist, .int .i64 c.queue, .int .i64 c.resend, .int .i64 c.budget, .bool c.back]) w :=
  run_loadVar_at w _ _ _ (fun j v hv => by
    have hj : j < 16 := (Array.getElem?_eq_some_iff.1 hv).1
    have e : (⟨K.s, 0, none⟩ : Addr).add j = ⟨K.s, j, none⟩ := by unfold Addr.add; split <;> simp_all
    rw [e, cell_of h.hd, List.getElem?_toArray, List.getElem?_append_left (by rw [Array.length_toList]; exact hj), ← hv]
    exact Array.getElem?_toList) (aggConf _) info_conf
theorem RsAt.c2 {K : Rk} {c : Conf} {vb vp vr vs vc : Value} {qs : List Pile} {ls : List Int} {w : World} (h : RsAt w K (cfA c vb vp vr vs) vc qs ls) : w.cell? ⟨K.s, 2, none⟩ = some (.int .i64 c.height) := by
  rw [cell_of h.hd]; rfl
set_option maxRecDepth 100000 in
set_option maxHeartbeats 2000000 in
theorem rroom_any {F : Nat → Prop} {K : Rk} {c : Conf} {vb vp vr vs vc : Value} {qs : List Pile} {ls : List Int} {w : World} (h : RsAt w K (cfA c vb vp vr vs) vc qs ls) (hA : ConfAt F c vb vp vr vs w) (hF : ∀ b, F b → b < w.heap.size) (l1 : c.blocked.length ≤ 9223372036854775807) (l2 : c.ports.length ≤ 9223372036854775807) (l3 : c.robots.length ≤ 9223372036854775807) (x y : Int) : Calls Try.prog 46 #[.pointer (some ⟨K.s, 0, none⟩), .agg #[.int .i64 x, .int .i64 y]] w fun e w' => ∃ v, e = .returned v ∧ v = .int .i64 (roomR c (x, y)) ∧ Below w.heap.size w w' := by
  obtain ⟨w1, hw1⟩ : ∃ z, w.alloc (.cells #[.int .i64 x, .int .i64 y] 39) = z := ⟨_, rfl⟩
  have b1 : Below w.heap.size w w1 := by rw [← hw1]; exact (Below.refl _ _).alloc (Nat.le_refl _) _
  have z1 : w1.heap[w.heap.size]? = some (.cells #[.int .i64 x, .int .i64 y] 39 (0, 0)) := by rw [← hw1]; exact World.alloc_heap_new _ _
  obtain ⟨bc, hbc⟩ : ∃ bc, w.heap.size = bc := ⟨_, rfl⟩
  have HW1 : Hid (w.alloc (.cells #[.int .i64 x, .int .i64 y] 39) = w1 ∧ w.heap.size = bc) := ⟨hw1, hbc⟩
  have HZ1 : Hid (w1.heap[bc]? = some (.cells #[.int .i64 x, .int .i64 y] 39 (0, 0))) := hbc ▸ z1
  have HB1 : Hid (Below w.heap.size w w1) := b1
  have HR1 : Hid (RsAt w1 K (cfA c vb vp vr vs) vc qs ls) := h.go b1
  have HA1 : Hid (ConfAt F c vb vp vr vs w1) := hA.go hF b1
  have HFF : Hid (∀ b, F b → b < w1.heap.size) := fun b hb => Nat.lt_of_lt_of_le (hF b hb) b1.size
  have HL1 : Hid (c.blocked.length ≤ 9223372036854775807) := l1
  have HL2 : Hid (c.ports.length ≤ 9223372036854775807) := l2
  have HL3 : Hid (c.robots.length ≤ 9223372036854775807) := l3
  clear h b1 z1 hw1 hbc hA hF l1 l2 l3
  by_cases hp : portP c.ports (x, y) 0 < 0
  · by_cases hq : stackedR c (x, y)
    · have HRV : Hid (roomR c (x, y) = c.height) := by show roomR c (x, y) = c.height; unfold roomR; rw [if_pos hp, if_pos hq]
      rw [HRV.out]
      have hp2 : ¬ (0 ≤ portP c.ports (x, y) 0) := by omega
      clear HRV
      have HRB : Hid (∀ u, Below w1.heap.size w1 u → RsAt u K (cfA c vb vp vr vs) vc qs ls) := fun u hu => HR1.out.go (hu)
      have HZB : Hid (∀ u, Below w1.heap.size w1 u → u.heap[bc]? = some (.cells #[.int .i64 x, .int .i64 y] 39 (0, 0))) := fun u hu => ((hu).block _ (Array.getElem?_eq_some_iff.1 HZ1.out).1).trans HZ1.out
      have HAC : Hid (∀ u, Below w1.heap.size w1 u → ConfAt F c vb vp vr vs u) := fun u hu => HA1.out.go HFF.out (hu)
      have HFB : Hid (∀ u, Below w1.heap.size w1 u → ∀ b, F b → b < u.heap.size) := fun u hu b hb => Nat.lt_of_lt_of_le (HFF.out b hb) (hu).size
      go_enter Try.func46, Try.ntmps46
      go_upto_region 1 with (have X' := HW1; refine boxAt rfl 39 (.tmp 1) rfl #[.int .i64 x, .int .i64 y] rfl ?_; rw [HW1.out.1, HW1.out.2]; clear HW1)
      refine start_held (S := fun u => Below w1.heap.size w1 u) 7 rfl (by kernel_rfl) ((Below.refl _ _).drew) ?_
      simp only [Array.replicate_succ, Array.replicate_zero, List.push_toArray, List.nil_append, List.cons_append]
      have hS0 : Below w1.heap.size w1 w1.drew := (Below.refl _ _).drew
      generalize w1.drew = x0 at *
      refine take_held 0 hS0 rfl (by kernel_rfl) (by kernel_rfl) (by kernel_rfl) (fun _ _ _ h => h) (by kernel_rfl) (v := ?v5012) ?y5012 ?r5012
      case y5012 => (intro u hu; go_simp; try rfl)
      simp only [Act.put, List.setIfInBounds_toArray, List.set_cons_zero, List.set_cons_succ]
      refine take_held 1 hS0 rfl (by kernel_rfl) (by kernel_rfl) (by kernel_rfl) (fun _ _ _ h => h) (by kernel_rfl) (v := ?v5013) ?y5013 ?r5013
      case y5013 => (intro u hu; go_simp; try rfl)
      simp only [Act.put, List.setIfInBounds_toArray, List.set_cons_zero, List.set_cons_succ]
      refine take_held 2 hS0 rfl (by kernel_rfl) (by kernel_rfl) (by kernel_rfl) (fun _ _ _ h => h) (by kernel_rfl) (v := ?v5014) ?y5014 ?r5014
      case y5014 => (intro u hu; go_simp; try rfl)
      simp only [Act.put, List.setIfInBounds_toArray, List.set_cons_zero, List.set_cons_succ]
      refine take_held 3 hS0 rfl (by kernel_rfl) (by kernel_rfl) (by kernel_rfl) (fun _ _ _ h => h) (by kernel_rfl) (v := .agg #[.int .i64 c.W, .int .i64 c.H, .int .i64 c.height, vb, vp, vr, vs, .int .i64 c.unit, .int .i64 c.accel, .int .i64 c.speed, .int .i64 c.turn, .int .i64 c.hoist, .int .i64 c.queue, .int .i64 c.resend, .int .i64 c.budget, .bool c.back]) ?y5015 ?r5015
      case y5015 => (intro u hu; exact run_load_at 26 _ rfl ⟨K.s, 0, none⟩ rfl _ ((HRB.out u hu).conf))
      simp only [Act.put, List.setIfInBounds_toArray, List.set_cons_zero, List.set_cons_succ]
      refine take_held 4 hS0 rfl (by kernel_rfl) (by kernel_rfl) (by kernel_rfl) (fun _ _ _ h => h) (by kernel_rfl) (v := .agg #[.int .i64 x, .int .i64 y]) ?y5016 ?r5016
      case y5016 => (intro u hu; exact run_load_at 39 _ rfl ⟨bc, 0, none⟩ rfl _ (load_box (HZB.out u hu)))
      simp only [Act.put, List.setIfInBounds_toArray, List.set_cons_zero, List.set_cons_succ]
      refine wpAnyH_ready (rs := [5]) (by kernel_rfl) (by simp) (AllReadyH.cons ((nth_eq _ 5).trans rfl) ?_ AllReadyH.nil)
      intro K1 hK1
      refine call_in hK1 (by kernel_rfl) 65 #[.agg #[.int .i64 c.W, .int .i64 c.H, .int .i64 c.height, vb, vp, vr, vs, .int .i64 c.unit, .int .i64 c.accel, .int .i64 c.speed, .int .i64 c.turn, .int .i64 c.hoist, .int .i64 c.queue, .int .i64 c.resend, .int .i64 c.budget, .bool c.back], .agg #[.int .i64 x, .int .i64 y]] (by go_simp) _ (portR_any F c vb vp vr vs x y x0 (HAC.out x0 hS0) (HFB.out x0 hS0) HL2.out) ?_
      rintro v1 x1 ⟨rfl, b1⟩
      have hS1 := bcat hS0 b1 (Nat.le_refl _)
      refine ⟨hS1, ?_⟩
      simp only [Act.put, List.setIfInBounds_toArray, List.set_cons_zero, List.set_cons_succ]
      refine take_held 6 hS1 rfl (by kernel_rfl) (by kernel_rfl) (by kernel_rfl) (fun _ _ _ h => h) (by kernel_rfl) (v := ?v5017) ?y5017 ?r5017
      case y5017 => (intro u hu; go_simp; try rfl)
      simp only [Act.put, List.setIfInBounds_toArray, List.set_cons_zero, List.set_cons_succ]
      refine done_held (by kernel_rfl) ?_ _
      have HBX : Hid (Below w1.heap.size w1 x1) := hS1
      have k2 := (HRB.out _ hS1).c2
      clear hS1 HRB HZB HAC HFB
      generalize x1 = wq at *
      go_upto_region 3 with fail
      have HRB : Hid (∀ u, Below wq.heap.size wq u → RsAt u K (cfA c vb vp vr vs) vc qs ls) := fun u hu => HR1.out.go (HBX.out.trans (hu.mono HBX.out.size))
      have HZB : Hid (∀ u, Below wq.heap.size wq u → u.heap[bc]? = some (.cells #[.int .i64 x, .int .i64 y] 39 (0, 0))) := fun u hu => ((HBX.out.trans (hu.mono HBX.out.size)).block _ (Array.getElem?_eq_some_iff.1 HZ1.out).1).trans HZ1.out
      have HAC : Hid (∀ u, Below wq.heap.size wq u → ConfAt F c vb vp vr vs u) := fun u hu => HA1.out.go HFF.out (HBX.out.trans (hu.mono HBX.out.size))
      have HFB : Hid (∀ u, Below wq.heap.size wq u → ∀ b, F b → b < u.heap.size) := fun u hu b hb => Nat.lt_of_lt_of_le (HFF.out b hb) (HBX.out.trans (hu.mono HBX.out.size)).size
      refine start_held (S := fun u => Below wq.heap.size wq u) 7 rfl (by kernel_rfl) ((Below.refl _ _).drew) ?_
      simp only [Array.replicate_succ, Array.replicate_zero, List.push_toArray, List.nil_append, List.cons_append]
      have hS0 : Below wq.heap.size wq wq.drew := (Below.refl _ _).drew
      generalize wq.drew = x0 at *
      refine take_held 0 hS0 rfl (by kernel_rfl) (by kernel_rfl) (by kernel_rfl) (fun _ _ _ h => h) (by kernel_rfl) (v := ?v5006) ?y5006 ?r5006
      case y5006 => (intro u hu; go_simp; try rfl)
      simp only [Act.put, List.setIfInBounds_toArray, List.set_cons_zero, List.set_cons_succ]
      refine take_held 1 hS0 rfl (by kernel_rfl) (by kernel_rfl) (by kernel_rfl) (fun _ _ _ h => h) (by kernel_rfl) (v := ?v5007) ?y5007 ?r5007
      case y5007 => (intro u hu; go_simp; try rfl)
      simp only [Act.put, List.setIfInBounds_toArray, List.set_cons_zero, List.set_cons_succ]
      refine take_held 2 hS0 rfl (by kernel_rfl) (by kernel_rfl) (by kernel_rfl) (fun _ _ _ h => h) (by kernel_rfl) (v := ?v5008) ?y5008 ?r5008
      case y5008 => (intro u hu; go_simp; try rfl)
      simp only [Act.put, List.setIfInBounds_toArray, List.set_cons_zero, List.set_cons_succ]
      refine take_held 3 hS0 rfl (by kernel_rfl) (by kernel_rfl) (by kernel_rfl) (fun _ _ _ h => h) (by kernel_rfl) (v := .agg #[.int .i64 c.W, .int .i64 c.H, .int .i64 c.height, vb, vp, vr, vs, .int .i64 c.unit, .int .i64 c.accel, .int .i64 c.speed, .int .i64 c.turn, .int .i64 c.hoist, .int .i64 c.queue, .int .i64 c.resend, .int .i64 c.budget, .bool c.back]) ?y5009 ?r5009
      case y5009 => (intro u hu; exact run_load_at 26 _ rfl ⟨K.s, 0, none⟩ rfl _ ((HRB.out u hu).conf))
      simp only [Act.put, List.setIfInBounds_toArray, List.set_cons_zero, List.set_cons_succ]
      refine take_held 4 hS0 rfl (by kernel_rfl) (by kernel_rfl) (by kernel_rfl) (fun _ _ _ h => h) (by kernel_rfl) (v := .agg #[.int .i64 x, .int .i64 y]) ?y5010 ?r5010
      case y5010 => (intro u hu; exact run_load_at 39 _ rfl ⟨bc, 0, none⟩ rfl _ (load_box (HZB.out u hu)))
      simp only [Act.put, List.setIfInBounds_toArray, List.set_cons_zero, List.set_cons_succ]
      refine wpAnyH_ready (rs := [5]) (by kernel_rfl) (by simp) (AllReadyH.cons ((nth_eq _ 5).trans rfl) ?_ AllReadyH.nil)
      intro K1 hK1
      refine call_in hK1 (by kernel_rfl) 62 #[.agg #[.int .i64 c.W, .int .i64 c.H, .int .i64 c.height, vb, vp, vr, vs, .int .i64 c.unit, .int .i64 c.accel, .int .i64 c.speed, .int .i64 c.turn, .int .i64 c.hoist, .int .i64 c.queue, .int .i64 c.resend, .int .i64 c.budget, .bool c.back], .agg #[.int .i64 x, .int .i64 y]] (by go_simp) _ (stackedR_any F c vb vp vr vs x y x0 (HAC.out x0 hS0) (HFB.out x0 hS0) HL1.out HL2.out HL3.out) ?_
      rintro v1 x1 ⟨rfl, b1⟩
      have hS1 := bcat hS0 b1 (Nat.le_refl _)
      refine ⟨hS1, ?_⟩
      simp only [Act.put, List.setIfInBounds_toArray, List.set_cons_zero, List.set_cons_succ]
      refine take_held 6 hS1 rfl (by kernel_rfl) (by kernel_rfl) (by kernel_rfl) (fun _ _ _ h => h) (by kernel_rfl) (v := ?v5011) ?y5011 ?r5011
      case y5011 => (intro u hu; go_simp; try rfl)
      simp only [Act.put, List.setIfInBounds_toArray, List.set_cons_zero, List.set_cons_succ]
      refine done_held (by kernel_rfl) ?_ _
      have HX1 : Hid (Below w.heap.size w x1) := (HB1.out.trans (HBX.out.mono HB1.out.size)).trans (hS1.mono (HB1.out.trans (HBX.out.mono HB1.out.size)).size)
      have k2 := (HRB.out _ hS1).c2
      clear hS1
      go_wp2_with fail
      go_ret
      exact ⟨_, rfl, rfl, HX1.out⟩
    · have HRV : Hid (roomR c (x, y) = 0) := by show roomR c (x, y) = 0; unfold roomR; rw [if_pos hp, if_neg hq]
      rw [HRV.out]
      have hp2 : ¬ (0 ≤ portP c.ports (x, y) 0) := by omega
      clear HRV
      have HRB : Hid (∀ u, Below w1.heap.size w1 u → RsAt u K (cfA c vb vp vr vs) vc qs ls) := fun u hu => HR1.out.go (hu)
      have HZB : Hid (∀ u, Below w1.heap.size w1 u → u.heap[bc]? = some (.cells #[.int .i64 x, .int .i64 y] 39 (0, 0))) := fun u hu => ((hu).block _ (Array.getElem?_eq_some_iff.1 HZ1.out).1).trans HZ1.out
      have HAC : Hid (∀ u, Below w1.heap.size w1 u → ConfAt F c vb vp vr vs u) := fun u hu => HA1.out.go HFF.out (hu)
      have HFB : Hid (∀ u, Below w1.heap.size w1 u → ∀ b, F b → b < u.heap.size) := fun u hu b hb => Nat.lt_of_lt_of_le (HFF.out b hb) (hu).size
      go_enter Try.func46, Try.ntmps46
      go_upto_region 1 with (have X' := HW1; refine boxAt rfl 39 (.tmp 1) rfl #[.int .i64 x, .int .i64 y] rfl ?_; rw [HW1.out.1, HW1.out.2]; clear HW1)
      refine start_held (S := fun u => Below w1.heap.size w1 u) 7 rfl (by kernel_rfl) ((Below.refl _ _).drew) ?_
      simp only [Array.replicate_succ, Array.replicate_zero, List.push_toArray, List.nil_append, List.cons_append]
      have hS0 : Below w1.heap.size w1 w1.drew := (Below.refl _ _).drew
      generalize w1.drew = x0 at *
      refine take_held 0 hS0 rfl (by kernel_rfl) (by kernel_rfl) (by kernel_rfl) (fun _ _ _ h => h) (by kernel_rfl) (v := ?v5024) ?y5024 ?r5024
      case y5024 => (intro u hu; go_simp; try rfl)
      simp only [Act.put, List.setIfInBounds_toArray, List.set_cons_zero, List.set_cons_succ]
      refine take_held 1 hS0 rfl (by kernel_rfl) (by kernel_rfl) (by kernel_rfl) (fun _ _ _ h => h) (by kernel_rfl) (v := ?v5025) ?y5025 ?r5025
      case y5025 => (intro u hu; go_simp; try rfl)
      simp only [Act.put, List.setIfInBounds_toArray, List.set_cons_zero, List.set_cons_succ]
      refine take_held 2 hS0 rfl (by kernel_rfl) (by kernel_rfl) (by kernel_rfl) (fun _ _ _ h => h) (by kernel_rfl) (v := ?v5026) ?y5026 ?r5026
      case y5026 => (intro u hu; go_simp; try rfl)
      simp only [Act.put, List.setIfInBounds_toArray, List.set_cons_zero, List.set_cons_succ]
      refine take_held 3 hS0 rfl (by kernel_rfl) (by kernel_rfl) (by kernel_rfl) (fun _ _ _ h => h) (by kernel_rfl) (v := .agg #[.int .i64 c.W, .int .i64 c.H, .int .i64 c.height, vb, vp, vr, vs, .int .i64 c.unit, .int .i64 c.accel, .int .i64 c.speed, .int .i64 c.turn, .int .i64 c.hoist, .int .i64 c.queue, .int .i64 c.resend, .int .i64 c.budget, .bool c.back]) ?y5027 ?r5027
      case y5027 => (intro u hu; exact run_load_at 26 _ rfl ⟨K.s, 0, none⟩ rfl _ ((HRB.out u hu).conf))
      simp only [Act.put, List.setIfInBounds_toArray, List.set_cons_zero, List.set_cons_succ]
      refine take_held 4 hS0 rfl (by kernel_rfl) (by kernel_rfl) (by kernel_rfl) (fun _ _ _ h => h) (by kernel_rfl) (v := .agg #[.int .i64 x, .int .i64 y]) ?y5028 ?r5028
      case y5028 => (intro u hu; exact run_load_at 39 _ rfl ⟨bc, 0, none⟩ rfl _ (load_box (HZB.out u hu)))
      simp only [Act.put, List.setIfInBounds_toArray, List.set_cons_zero, List.set_cons_succ]
      refine wpAnyH_ready (rs := [5]) (by kernel_rfl) (by simp) (AllReadyH.cons ((nth_eq _ 5).trans rfl) ?_ AllReadyH.nil)
      intro K1 hK1
      refine call_in hK1 (by kernel_rfl) 65 #[.agg #[.int .i64 c.W, .int .i64 c.H, .int .i64 c.height, vb, vp, vr, vs, .int .i64 c.unit, .int .i64 c.accel, .int .i64 c.speed, .int .i64 c.turn, .int .i64 c.hoist, .int .i64 c.queue, .int .i64 c.resend, .int .i64 c.budget, .bool c.back], .agg #[.int .i64 x, .int .i64 y]] (by go_simp) _ (portR_any F c vb vp vr vs x y x0 (HAC.out x0 hS0) (HFB.out x0 hS0) HL2.out) ?_
      rintro v1 x1 ⟨rfl, b1⟩
      have hS1 := bcat hS0 b1 (Nat.le_refl _)
      refine ⟨hS1, ?_⟩
      simp only [Act.put, List.setIfInBounds_toArray, List.set_cons_zero, List.set_cons_succ]
      refine take_held 6 hS1 rfl (by kernel_rfl) (by kernel_rfl) (by kernel_rfl) (fun _ _ _ h => h) (by kernel_rfl) (v := ?v5029) ?y5029 ?r5029
      case y5029 => (intro u hu; go_simp; try rfl)
      simp only [Act.put, List.setIfInBounds_toArray, List.set_cons_zero, List.set_cons_succ]
      refine done_held (by kernel_rfl) ?_ _
      have HBX : Hid (Below w1.heap.size w1 x1) := hS1
      have k2 := (HRB.out _ hS1).c2
      clear hS1 HRB HZB HAC HFB
      generalize x1 = wq at *
      go_upto_region 3 with fail
      have HRB : Hid (∀ u, Below wq.heap.size wq u → RsAt u K (cfA c vb vp vr vs) vc qs ls) := fun u hu => HR1.out.go (HBX.out.trans (hu.mono HBX.out.size))
      have HZB : Hid (∀ u, Below wq.heap.size wq u → u.heap[bc]? = some (.cells #[.int .i64 x, .int .i64 y] 39 (0, 0))) := fun u hu => ((HBX.out.trans (hu.mono HBX.out.size)).block _ (Array.getElem?_eq_some_iff.1 HZ1.out).1).trans HZ1.out
      have HAC : Hid (∀ u, Below wq.heap.size wq u → ConfAt F c vb vp vr vs u) := fun u hu => HA1.out.go HFF.out (HBX.out.trans (hu.mono HBX.out.size))
      have HFB : Hid (∀ u, Below wq.heap.size wq u → ∀ b, F b → b < u.heap.size) := fun u hu b hb => Nat.lt_of_lt_of_le (HFF.out b hb) (HBX.out.trans (hu.mono HBX.out.size)).size
      refine start_held (S := fun u => Below wq.heap.size wq u) 7 rfl (by kernel_rfl) ((Below.refl _ _).drew) ?_
      simp only [Array.replicate_succ, Array.replicate_zero, List.push_toArray, List.nil_append, List.cons_append]
      have hS0 : Below wq.heap.size wq wq.drew := (Below.refl _ _).drew
      generalize wq.drew = x0 at *
      refine take_held 0 hS0 rfl (by kernel_rfl) (by kernel_rfl) (by kernel_rfl) (fun _ _ _ h => h) (by kernel_rfl) (v := ?v5018) ?y5018 ?r5018
      case y5018 => (intro u hu; go_simp; try rfl)
      simp only [Act.put, List.setIfInBounds_toArray, List.set_cons_zero, List.set_cons_succ]
      refine take_held 1 hS0 rfl (by kernel_rfl) (by kernel_rfl) (by kernel_rfl) (fun _ _ _ h => h) (by kernel_rfl) (v := ?v5019) ?y5019 ?r5019
      case y5019 => (intro u hu; go_simp; try rfl)
      simp only [Act.put, List.setIfInBounds_toArray, List.set_cons_zero, List.set_cons_succ]
      refine take_held 2 hS0 rfl (by kernel_rfl) (by kernel_rfl) (by kernel_rfl) (fun _ _ _ h => h) (by kernel_rfl) (v := ?v5020) ?y5020 ?r5020
      case y5020 => (intro u hu; go_simp; try rfl)
      simp only [Act.put, List.setIfInBounds_toArray, List.set_cons_zero, List.set_cons_succ]
      refine take_held 3 hS0 rfl (by kernel_rfl) (by kernel_rfl) (by kernel_rfl) (fun _ _ _ h => h) (by kernel_rfl) (v := .agg #[.int .i64 c.W, .int .i64 c.H, .int .i64 c.height, vb, vp, vr, vs, .int .i64 c.unit, .int .i64 c.accel, .int .i64 c.speed, .int .i64 c.turn, .int .i64 c.hoist, .int .i64 c.queue, .int .i64 c.resend, .int .i64 c.budget, .bool c.back]) ?y5021 ?r5021
      case y5021 => (intro u hu; exact run_load_at 26 _ rfl ⟨K.s, 0, none⟩ rfl _ ((HRB.out u hu).conf))
      simp only [Act.put, List.setIfInBounds_toArray, List.set_cons_zero, List.set_cons_succ]
      refine take_held 4 hS0 rfl (by kernel_rfl) (by kernel_rfl) (by kernel_rfl) (fun _ _ _ h => h) (by kernel_rfl) (v := .agg #[.int .i64 x, .int .i64 y]) ?y5022 ?r5022
      case y5022 => (intro u hu; exact run_load_at 39 _ rfl ⟨bc, 0, none⟩ rfl _ (load_box (HZB.out u hu)))
      simp only [Act.put, List.setIfInBounds_toArray, List.set_cons_zero, List.set_cons_succ]
      refine wpAnyH_ready (rs := [5]) (by kernel_rfl) (by simp) (AllReadyH.cons ((nth_eq _ 5).trans rfl) ?_ AllReadyH.nil)
      intro K1 hK1
      refine call_in hK1 (by kernel_rfl) 62 #[.agg #[.int .i64 c.W, .int .i64 c.H, .int .i64 c.height, vb, vp, vr, vs, .int .i64 c.unit, .int .i64 c.accel, .int .i64 c.speed, .int .i64 c.turn, .int .i64 c.hoist, .int .i64 c.queue, .int .i64 c.resend, .int .i64 c.budget, .bool c.back], .agg #[.int .i64 x, .int .i64 y]] (by go_simp) _ (stackedR_any F c vb vp vr vs x y x0 (HAC.out x0 hS0) (HFB.out x0 hS0) HL1.out HL2.out HL3.out) ?_
      rintro v1 x1 ⟨rfl, b1⟩
      have hS1 := bcat hS0 b1 (Nat.le_refl _)
      refine ⟨hS1, ?_⟩
      simp only [Act.put, List.setIfInBounds_toArray, List.set_cons_zero, List.set_cons_succ]
      refine take_held 6 hS1 rfl (by kernel_rfl) (by kernel_rfl) (by kernel_rfl) (fun _ _ _ h => h) (by kernel_rfl) (v := ?v5023) ?y5023 ?r5023
      case y5023 => (intro u hu; go_simp; try rfl)
      simp only [Act.put, List.setIfInBounds_toArray, List.set_cons_zero, List.set_cons_succ]
      refine done_held (by kernel_rfl) ?_ _
      have HX1 : Hid (Below w.heap.size w x1) := (HB1.out.trans (HBX.out.mono HB1.out.size)).trans (hS1.mono (HB1.out.trans (HBX.out.mono HB1.out.size)).size)
      clear hS1
      go_wp2_with fail
      go_ret
      exact ⟨_, rfl, rfl, HX1.out⟩
  · have HRV : Hid (roomR c (x, y) = 1) := by show roomR c (x, y) = 1; unfold roomR; rw [if_neg hp]
    rw [HRV.out]
    have hp2 : 0 ≤ portP c.ports (x, y) 0 := by omega
    clear hp HRV
    have HRB : Hid (∀ u, Below w1.heap.size w1 u → RsAt u K (cfA c vb vp vr vs) vc qs ls) := fun u hu => HR1.out.go (hu)
    have HZB : Hid (∀ u, Below w1.heap.size w1 u → u.heap[bc]? = some (.cells #[.int .i64 x, .int .i64 y] 39 (0, 0))) := fun u hu => ((hu).block _ (Array.getElem?_eq_some_iff.1 HZ1.out).1).trans HZ1.out
    have HAC : Hid (∀ u, Below w1.heap.size w1 u → ConfAt F c vb vp vr vs u) := fun u hu => HA1.out.go HFF.out (hu)
    have HFB : Hid (∀ u, Below w1.heap.size w1 u → ∀ b, F b → b < u.heap.size) := fun u hu b hb => Nat.lt_of_lt_of_le (HFF.out b hb) (hu).size
    go_enter Try.func46, Try.ntmps46
    go_upto_region 1 with (have X' := HW1; refine boxAt rfl 39 (.tmp 1) rfl #[.int .i64 x, .int .i64 y] rfl ?_; rw [HW1.out.1, HW1.out.2]; clear HW1)
    refine start_held (S := fun u => Below w1.heap.size w1 u) 7 rfl (by kernel_rfl) ((Below.refl _ _).drew) ?_
    simp only [Array.replicate_succ, Array.replicate_zero, List.push_toArray, List.nil_append, List.cons_append]
    have hS0 : Below w1.heap.size w1 w1.drew := (Below.refl _ _).drew
    generalize w1.drew = x0 at *
    refine take_held 0 hS0 rfl (by kernel_rfl) (by kernel_rfl) (by kernel_rfl) (fun _ _ _ h => h) (by kernel_rfl) (v := ?v5000) ?y5000 ?r5000
    case y5000 => (intro u hu; go_simp; try rfl)
    simp only [Act.put, List.setIfInBounds_toArray, List.set_cons_zero, List.set_cons_succ]
    refine take_held 1 hS0 rfl (by kernel_rfl) (by kernel_rfl) (by kernel_rfl) (fun _ _ _ h => h) (by kernel_rfl) (v := ?v5001) ?y5001 ?r5001
    case y5001 => (intro u hu; go_simp; try rfl)
    simp only [Act.put, List.setIfInBounds_toArray, List.set_cons_zero, List.set_cons_succ]
    refine take_held 2 hS0 rfl (by kernel_rfl) (by kernel_rfl) (by kernel_rfl) (fun _ _ _ h => h) (by kernel_rfl) (v := ?v5002) ?y5002 ?r5002
    case y5002 => (intro u hu; go_simp; try rfl)
    simp only [Act.put, List.setIfInBounds_toArray, List.set_cons_zero, List.set_cons_succ]
    refine take_held 3 hS0 rfl (by kernel_rfl) (by kernel_rfl) (by kernel_rfl) (fun _ _ _ h => h) (by kernel_rfl) (v := .agg #[.int .i64 c.W, .int .i64 c.H, .int .i64 c.height, vb, vp, vr, vs, .int .i64 c.unit, .int .i64 c.accel, .int .i64 c.speed, .int .i64 c.turn, .int .i64 c.hoist, .int .i64 c.queue, .int .i64 c.resend, .int .i64 c.budget, .bool c.back]) ?y5003 ?r5003
    case y5003 => (intro u hu; exact run_load_at 26 _ rfl ⟨K.s, 0, none⟩ rfl _ ((HRB.out u hu).conf))
    simp only [Act.put, List.setIfInBounds_toArray, List.set_cons_zero, List.set_cons_succ]
    refine take_held 4 hS0 rfl (by kernel_rfl) (by kernel_rfl) (by kernel_rfl) (fun _ _ _ h => h) (by kernel_rfl) (v := .agg #[.int .i64 x, .int .i64 y]) ?y5004 ?r5004
    case y5004 => (intro u hu; exact run_load_at 39 _ rfl ⟨bc, 0, none⟩ rfl _ (load_box (HZB.out u hu)))
    simp only [Act.put, List.setIfInBounds_toArray, List.set_cons_zero, List.set_cons_succ]
    refine wpAnyH_ready (rs := [5]) (by kernel_rfl) (by simp) (AllReadyH.cons ((nth_eq _ 5).trans rfl) ?_ AllReadyH.nil)
    intro K1 hK1
    refine call_in hK1 (by kernel_rfl) 65 #[.agg #[.int .i64 c.W, .int .i64 c.H, .int .i64 c.height, vb, vp, vr, vs, .int .i64 c.unit, .int .i64 c.accel, .int .i64 c.speed, .int .i64 c.turn, .int .i64 c.hoist, .int .i64 c.queue, .int .i64 c.resend, .int .i64 c.budget, .bool c.back], .agg #[.int .i64 x, .int .i64 y]] (by go_simp) _ (portR_any F c vb vp vr vs x y x0 (HAC.out x0 hS0) (HFB.out x0 hS0) HL2.out) ?_
    rintro v1 x1 ⟨rfl, b1⟩
    have hS1 := bcat hS0 b1 (Nat.le_refl _)
    refine ⟨hS1, ?_⟩
    simp only [Act.put, List.setIfInBounds_toArray, List.set_cons_zero, List.set_cons_succ]
    refine take_held 6 hS1 rfl (by kernel_rfl) (by kernel_rfl) (by kernel_rfl) (fun _ _ _ h => h) (by kernel_rfl) (v := ?v5005) ?y5005 ?r5005
    case y5005 => (intro u hu; go_simp; try rfl)
    simp only [Act.put, List.setIfInBounds_toArray, List.set_cons_zero, List.set_cons_succ]
    refine done_held (by kernel_rfl) ?_ _
    have HX1 : Hid (Below w.heap.size w x1) := HB1.out.trans (hS1.mono HB1.out.size)
    clear hS1
    go_wp2_with fail
    go_ret
    exact ⟨_, rfl, rfl, HX1.out⟩
end Go.Proofs.Ytabbdclpjghdbaa.Stk
