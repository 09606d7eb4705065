/-
  The chapter's own stacks: New, walked.
-/
import Derived.Test.YtabbdclpjghdbaaStkRs8
namespace Go.Proofs.Ytabbdclpjghdbaa.Stk
set_option linter.unusedVariables false
set_option linter.unusedSimpArgs false
open Go Go.RowKit Go.Shelf Go.Proofs Go.Proofs.Ytabbdclpjghdbaa.Grid
attribute [local go_sem] Oper.semAt_some

theorem pilesR_no {c : Conf} {k : Nat} (h : ¬ openR c (cellAt c.W k)) : pilesR c (k + 1) = pilesR c k := by unfold pilesR; rw [opens_succ, if_neg h, List.append_nil]
theorem pilesR_yes {c : Conf} {k : Nat} (h : openR c (cellAt c.W k)) : pilesR c (k + 1) = pilesR c k ++ [(cellAt c.W k, placed c.stacks (cellAt c.W k))] := by unfold pilesR; rw [opens_succ, if_pos h, List.map_append]; rfl
theorem loadStk {k8 : Nat} {p q : Int} {v : Value} {w : World} (h : w.heap[k8]? = some (.cells #[.int .i64 p, .int .i64 q, v] 59 (0, 0))) : (loadVar 59 ⟨k8, 0, none⟩).run Try.prog w = .ok (.agg #[.int .i64 p, .int .i64 q, v]) w :=
  run_loadVar_at w _ _ _ (fun j u hv => by
    have e : (⟨k8, 0, none⟩ : Addr).add j = ⟨k8, j, none⟩ := by unfold Addr.add; split <;> simp_all
    rw [e, cell_of h]
    exact hv) (aggStack _) info_stack
theorem placed_take (l : List Stk) (k : Nat) (x : Cell) : (placed (l.take k) x).length ≤ (placed l x).length := by
  have e : placed l x = placed (l.take k) x ++ placed (l.drop k) x := by
    unfold placed
    rw [← List.flatMap_append, ← List.filter_append, List.take_append_drop]
  rw [e, List.length_append]
  omega
theorem cell_add2 (u : World) (q : Addr) : u.cell? (q.add 2) = u.cell? ⟨q.block, q.off + 2, none⟩ := by unfold World.cell? Addr.add; split <;> simp_all
theorem loadConf {c : Conf} {vb vp vr vs : Value} {cb : Nat} {w : World} (h : w.heap[cb]? = some (.cells #[.int .i64 c.W, .int .i64 c.H, .int .i64 c.height, vb, vp, vr, vs, .int .i64 c.unit, .int .i64 c.accel, .int .i64 c.speed, .int .i64 c.turn, .int .i64 c.hoist, .int .i64 c.queue, .int .i64 c.resend, .int .i64 c.budget, .bool c.back] 26 (0, 0))) : (loadVar 26 ⟨cb, 0, none⟩).run Try.prog w = .ok (.agg #[.int .i64 c.W, .int .i64 c.H, .int .i64 c.height, vb, vp, vr, vs, .int .i64 c.unit, .int .i64 c.accel, .int .i64 c.speed, .int .i64 c.turn, .int .i64 c.hoist, .int .i64 c.queue, .int .i64 c.resend, .int .i64 c.budget, .bool c.back]) w :=
  run_loadVar_at w _ _ _ (fun j v hv => by
    have e : (⟨cb, 0, none⟩ : Addr).add j = ⟨cb, j, none⟩ := by unfold Addr.add; split <;> simp_all
    rw [e, cell_of h]
    exact hv) (aggConf _) info_conf
set_option maxRecDepth 100000 in
set_option maxHeartbeats 8000000 in
theorem rnew_any {F : Nat → Prop} {c : Conf} {vb vp vr vs : Value} {w : World} (hA : ConfAt F c vb vp vr vs w) (hF : ∀ b, F b → b < w.heap.size) (l1 : c.blocked.length ≤ 9223372036854775807) (l2 : c.ports.length ≤ 9223372036854775807) (l4 : c.stacks.length ≤ 3518437208880) (l5 : ∀ s ∈ c.stacks, s.2.length ≤ 17592186044416) (hM : (newP c).isSome = true) {WN HN : Nat} (hW : c.W = WN) (hH : c.H = HN) (hW1 : WN ≤ 16) (hH1 : HN ≤ 16) (hr8 : c.robots.length ≤ 8) (h8 : ∀ x, (placed c.stacks x).length ≤ 8) : Calls Try.prog 11 #[.agg #[.int .i64 c.W, .int .i64 c.H, .int .i64 c.height, vb, vp, vr, vs, .int .i64 c.unit, .int .i64 c.accel, .int .i64 c.speed, .int .i64 c.turn, .int .i64 c.hoist, .int .i64 c.queue, .int .i64 c.resend, .int .i64 c.budget, .bool c.back]] w fun e w' => ∃ K vc qs, e = .returned (.tuple #[.pointer (some ⟨Rk.s K, 0, none⟩), .bool true]) ∧ RsAt w' K #[.int .i64 c.W, .int .i64 c.H, .int .i64 c.height, vb, vp, vr, vs, .int .i64 c.unit, .int .i64 c.accel, .int .i64 c.speed, .int .i64 c.turn, .int .i64 c.hoist, .int .i64 c.queue, .int .i64 c.resend, .int .i64 c.budget, .bool c.back] vc qs (List.replicate c.robots.length 0) ∧ K.B = w.heap.size ∧ (∀ b, RB K qs b → w.heap.size ≤ b) ∧ qs.map (fun q => (q.1, q.2.2)) = pilesR c (WN * HN) ∧ Below w.heap.size w w' := by
  obtain ⟨ra, rc, hvr, _⟩ := hA.r.form
  obtain ⟨sa, sc, hvs, _⟩ := hA.s.form
  subst hvr hvs
  have HF : Hid (∀ b, F b → b < w.heap.size) := hF
  obtain ⟨cb, hcb⟩ : ∃ cb, w.heap.size = cb := ⟨_, rfl⟩
  have HCB : Hid (w.heap.size = cb) := hcb
  obtain ⟨nR, hnR⟩ : ∃ n, c.robots.length = n := ⟨_, rfl⟩
  obtain ⟨nS, hnS⟩ : ∃ n, c.stacks.length = n := ⟨_, rfl⟩
  have HNS : Hid (c.stacks.length = nS) := hnS
  obtain ⟨w1, hw1⟩ : ∃ z, w.alloc (.cells #[.int .i64 c.W, .int .i64 c.H, .int .i64 c.height, vb, vp, (.slice ra c.robots.length rc), (.slice sa c.stacks.length sc), .int .i64 c.unit, .int .i64 c.accel, .int .i64 c.speed, .int .i64 c.turn, .int .i64 c.hoist, .int .i64 c.queue, .int .i64 c.resend, .int .i64 c.budget, .bool c.back] 26) = z := ⟨_, rfl⟩
  have HA : Hid (ConfAt F c vb vp (.slice ra c.robots.length rc) (.slice sa c.stacks.length sc) w) := hA
  have b1 : Below w.heap.size w w1 := by rw [← hw1]; exact (Below.refl _ _).alloc (Nat.le_refl _) _
  have z1 : w1.heap[w.heap.size]? = some (.cells #[.int .i64 c.W, .int .i64 c.H, .int .i64 c.height, vb, vp, (.slice ra c.robots.length rc), (.slice sa c.stacks.length sc), .int .i64 c.unit, .int .i64 c.accel, .int .i64 c.speed, .int .i64 c.turn, .int .i64 c.hoist, .int .i64 c.queue, .int .i64 c.resend, .int .i64 c.budget, .bool c.back] 26 (0, 0)) := by rw [← hw1]; exact World.alloc_heap_new _ _
  have cM := mayR_any F c vb vp (.slice ra c.robots.length rc) (.slice sa c.stacks.length sc) w1 (hA.go hF b1) (fun b hb => Nat.lt_of_lt_of_le (hF b hb) b1.size) l1 l2 (by omega) l4 l5
  rw [hM] at cM
  rw [hnR] at hw1 z1 hr8
  rw [hnS] at hw1 z1
  rw [hnR, hnS] at cM HA
  rw [hnR, hnS]
  rw [hcb] at z1
  have HW1 : Hid (w.alloc (.cells #[.int .i64 c.W, .int .i64 c.H, .int .i64 c.height, vb, vp, (.slice ra nR rc), (.slice sa nS sc), .int .i64 c.unit, .int .i64 c.accel, .int .i64 c.speed, .int .i64 c.turn, .int .i64 c.hoist, .int .i64 c.queue, .int .i64 c.resend, .int .i64 c.budget, .bool c.back] 26) = w1) := hw1
  have HZ1 : Hid (w1.heap[cb]? = some (.cells #[.int .i64 c.W, .int .i64 c.H, .int .i64 c.height, vb, vp, (.slice ra nR rc), (.slice sa nS sc), .int .i64 c.unit, .int .i64 c.accel, .int .i64 c.speed, .int .i64 c.turn, .int .i64 c.hoist, .int .i64 c.queue, .int .i64 c.resend, .int .i64 c.budget, .bool c.back] 26 (0, 0))) := z1
  have HB1 : Hid (Below w.heap.size w w1) := b1
  have HL1 : Hid (c.blocked.length ≤ 9223372036854775807) := l1
  have H8 : Hid (∀ x, (placed c.stacks x).length ≤ 8) := h8
  have HWH : Hid (c.W = WN ∧ c.H = HN) := ⟨hW, hH⟩
  have HNR : Hid (nR ≤ 8) := hr8
  have hS4 : nS ≤ 3518437208880 := hnS ▸ l4
  clear hA hF l1 l2 l4 l5 hM hW hH h8 hcb hnS hnR hw1 b1 z1
  go_enter Try.func11, Try.ntmps11
  go_upto_region 3 with (first
    | (have X' := HW1; refine boxAt rfl 26 (.tmp 0) rfl #[.int .i64 c.W, .int .i64 c.H, .int .i64 c.height, vb, vp, (.slice ra nR rc), (.slice sa nS sc), .int .i64 c.unit, .int .i64 c.accel, .int .i64 c.speed, .int .i64 c.turn, .int .i64 c.hoist, .int .i64 c.queue, .int .i64 c.resend, .int .i64 c.budget, .bool c.back] rfl ?_; rw [HW1.out, HCB.out]; clear HW1)
    | (have X2 := HZ1; refine wpList_load_row rfl 26 (.tmp 1) rfl cb rfl 26 #[.int .i64 c.W, .int .i64 c.H, .int .i64 c.height, vb, vp, (.slice ra nR rc), (.slice sa nS sc), .int .i64 c.unit, .int .i64 c.accel, .int .i64 c.speed, .int .i64 c.turn, .int .i64 c.hoist, .int .i64 c.queue, .int .i64 c.resend, .int .i64 c.budget, .bool c.back] (0, 0) _ HZ1.out Try.underlying26 rfl info_conf ?_)
    | (go_at_call 9; refine cM.mono ?_; rintro e w2 ⟨r2, rfl, rfl, b2⟩))
  have HB2 : Hid (Below w.heap.size w w2) := HB1.out.trans (b2.mono HB1.out.size)
  have HZ2 : Hid (w2.heap[cb]? = some (.cells #[.int .i64 c.W, .int .i64 c.H, .int .i64 c.height, vb, vp, (.slice ra nR rc), (.slice sa nS sc), .int .i64 c.unit, .int .i64 c.accel, .int .i64 c.speed, .int .i64 c.turn, .int .i64 c.hoist, .int .i64 c.queue, .int .i64 c.resend, .int .i64 c.budget, .bool c.back] 26 (0, 0))) := (b2.block _ (lt_of_heap HZ1.out)).trans HZ1.out
  clear cM b2 HB1 HZ1
  refine start_held (S := fun u => u.heap[cb]? = some (.cells #[.int .i64 c.W, .int .i64 c.H, .int .i64 c.height, vb, vp, (.slice ra nR rc), (.slice sa nS sc), .int .i64 c.unit, .int .i64 c.accel, .int .i64 c.speed, .int .i64 c.turn, .int .i64 c.hoist, .int .i64 c.queue, .int .i64 c.resend, .int .i64 c.budget, .bool c.back] 26 (0, 0))) 8 rfl (by kernel_rfl) (HZ2.out) ?_
  simp only [Array.replicate_succ, Array.replicate_zero, List.push_toArray, List.nil_append, List.cons_append]
  have hS0 : w2.drew.heap[cb]? = some (.cells #[.int .i64 c.W, .int .i64 c.H, .int .i64 c.height, vb, vp, (.slice ra nR rc), (.slice sa nS sc), .int .i64 c.unit, .int .i64 c.accel, .int .i64 c.speed, .int .i64 c.turn, .int .i64 c.hoist, .int .i64 c.queue, .int .i64 c.resend, .int .i64 c.budget, .bool c.back] 26 (0, 0)) := HZ2.out
  have HX0 : Hid (Below w.heap.size w w2.drew ∧ w2.drew.heap[cb]? = some (.cells #[.int .i64 c.W, .int .i64 c.H, .int .i64 c.height, vb, vp, (.slice ra nR rc), (.slice sa nS sc), .int .i64 c.unit, .int .i64 c.accel, .int .i64 c.speed, .int .i64 c.turn, .int .i64 c.hoist, .int .i64 c.queue, .int .i64 c.resend, .int .i64 c.budget, .bool c.back] 26 (0, 0))) := ⟨HB2.out.trans ((Below.refl _ _).drew.mono HB2.out.size), HZ2.out⟩
  clear HB2 HZ2
  generalize w2.drew = x0 at *
  refine take_held 0 hS0 rfl (by kernel_rfl) (by kernel_rfl) (by kernel_rfl) (fun _ _ _ h => h) (by kernel_rfl) (v := .agg #[.int .i64 c.W, .int .i64 c.H, .int .i64 c.height, vb, vp, (.slice ra nR rc), (.slice sa nS sc), .int .i64 c.unit, .int .i64 c.accel, .int .i64 c.speed, .int .i64 c.turn, .int .i64 c.hoist, .int .i64 c.queue, .int .i64 c.resend, .int .i64 c.budget, .bool c.back]) ?y5033 ?r5033
  case y5033 => (intro u hu; exact run_load_at 26 _ rfl ⟨cb, 0, none⟩ rfl _ (loadConf hu))
  simp only [Act.put, List.setIfInBounds_toArray, List.set_cons_zero, List.set_cons_succ]
  refine take_held 1 hS0 rfl (by kernel_rfl) (by kernel_rfl) (by kernel_rfl) (fun _ _ _ h => h) (by kernel_rfl) (v := ?v5034) ?y5034 ?r5034
  case y5034 => (intro u hu; go_simp; try rfl)
  simp only [Act.put, List.setIfInBounds_toArray, List.set_cons_zero, List.set_cons_succ]
  refine take_held 2 hS0 rfl (by kernel_rfl) (by kernel_rfl) (by kernel_rfl) (fun _ _ _ h => h) (by kernel_rfl) (v := ?v5035) ?y5035 ?r5035
  case y5035 => (intro u hu; have zz0 := (fun (u : World) (hu : u.heap[cb]? = some (.cells #[.int .i64 c.W, .int .i64 c.H, .int .i64 c.height, vb, vp, (.slice ra nR rc), (.slice sa nS sc), .int .i64 c.unit, .int .i64 c.accel, .int .i64 c.speed, .int .i64 c.turn, .int .i64 c.hoist, .int .i64 c.queue, .int .i64 c.resend, .int .i64 c.budget, .bool c.back] 26 (0, 0))) => (cell_of hu 5).trans (rfl : _ = some (Value.slice ra nR rc))) u hu; go_simp; try rfl)
  simp only [Act.put, List.setIfInBounds_toArray, List.set_cons_zero, List.set_cons_succ]
  refine take_held 3 hS0 rfl (by kernel_rfl) (by kernel_rfl) (by kernel_rfl) (fun _ _ _ h => h) (by kernel_rfl) (v := ?v5036) ?y5036 ?r5036
  case y5036 => (intro u hu; go_simp; try rfl)
  simp only [Act.put, List.setIfInBounds_toArray, List.set_cons_zero, List.set_cons_succ]
  refine wpAnyH_ready (rs := [4]) (by kernel_rfl) (by simp) (AllReadyH.cons ((nth_eq _ 4).trans rfl) ?_ AllReadyH.nil)
  intro K1 hK1
  obtain ⟨x1, hx1⟩ : ∃ zw, zw = x0.alloc (.cells ((List.replicate nR (0 : Int)).map (Value.int .i64)).toArray 3) := ⟨_, rfl⟩
  have hS1 := (show x1.heap[cb]? = some (.cells #[.int .i64 c.W, .int .i64 c.H, .int .i64 c.height, vb, vp, (.slice ra nR rc), (.slice sa nS sc), .int .i64 c.unit, .int .i64 c.accel, .int .i64 c.speed, .int .i64 c.turn, .int .i64 c.hoist, .int .i64 c.queue, .int .i64 c.resend, .int .i64 c.budget, .bool c.back] 26 (0, 0)) by rw [hx1]; exact (((Below.refl _ _).alloc (Nat.le_refl _) _ : Below x0.heap.size x0 _).block _ (lt_of_heap hS0)).trans hS0)
  have bx1 : Below x0.heap.size x0 x1 := by rw [hx1]; exact (Below.refl _ _).alloc (Nat.le_refl _) _
  have hl1 : x1.heap[x0.heap.size]? = some (.cells ((List.replicate nR (0 : Int)).map (Value.int .i64)).toArray 3 (0, 0)) := by rw [hx1]; exact World.alloc_heap_new _ _
  refine value_in hK1 (by kernel_rfl) (.slice (some ⟨x0.heap.size, 0, none⟩) nR nR) x1 (by rw [hx1]; exact run_made_op 48 (.tmp 16) (.tmp 16) rfl _ rfl rfl (run_loads nR (by omega) x0)) hS1 ?_
  simp only [Act.put, List.setIfInBounds_toArray, List.set_cons_zero, List.set_cons_succ]
  refine take_held 5 hS1 rfl (by kernel_rfl) (by kernel_rfl) (by kernel_rfl) (fun _ _ _ h => h) (by kernel_rfl) (v := .agg #[.int .i64 c.W, .int .i64 c.H, .int .i64 c.height, vb, vp, (.slice ra nR rc), (.slice sa nS sc), .int .i64 c.unit, .int .i64 c.accel, .int .i64 c.speed, .int .i64 c.turn, .int .i64 c.hoist, .int .i64 c.queue, .int .i64 c.resend, .int .i64 c.budget, .bool c.back, .slice none 0 0, .slice (some ⟨x0.heap.size, 0, none⟩) nR nR]) ?y5037 ?r5037
  case y5037 => (intro u hu; refine run_build_op _ _ rfl _ _ ?_ (built_rs c vb vp (.slice ra nR rc) (.slice sa nS sc) x0.heap.size nR); simp only [List.map_toArray, List.map_cons, List.map_nil]; rfl)
  simp only [Act.put, List.setIfInBounds_toArray, List.set_cons_zero, List.set_cons_succ]
  refine wpAnyH_ready (rs := [6]) (by kernel_rfl) (by simp) (AllReadyH.cons ((nth_eq _ 6).trans rfl) ?_ AllReadyH.nil)
  intro K2 hK2
  obtain ⟨x2, hx2⟩ : ∃ zw, zw = x1.alloc (.cells #[.int .i64 c.W, .int .i64 c.H, .int .i64 c.height, vb, vp, (.slice ra nR rc), (.slice sa nS sc), .int .i64 c.unit, .int .i64 c.accel, .int .i64 c.speed, .int .i64 c.turn, .int .i64 c.hoist, .int .i64 c.queue, .int .i64 c.resend, .int .i64 c.budget, .bool c.back, .slice none 0 0, .slice (some ⟨x0.heap.size, 0, none⟩) nR nR] 76) := ⟨_, rfl⟩
  have hS2 := (show x2.heap[cb]? = some (.cells #[.int .i64 c.W, .int .i64 c.H, .int .i64 c.height, vb, vp, (.slice ra nR rc), (.slice sa nS sc), .int .i64 c.unit, .int .i64 c.accel, .int .i64 c.speed, .int .i64 c.turn, .int .i64 c.hoist, .int .i64 c.queue, .int .i64 c.resend, .int .i64 c.budget, .bool c.back] 26 (0, 0)) by rw [hx2]; exact (((Below.refl _ _).alloc (Nat.le_refl _) _ : Below x1.heap.size x1 _).block _ (lt_of_heap hS1)).trans hS1)
  have bx2 : Below x1.heap.size x1 x2 := by rw [hx2]; exact (Below.refl _ _).alloc (Nat.le_refl _) _
  have hl2 : x2.heap[x1.heap.size]? = some (.cells #[.int .i64 c.W, .int .i64 c.H, .int .i64 c.height, vb, vp, (.slice ra nR rc), (.slice sa nS sc), .int .i64 c.unit, .int .i64 c.accel, .int .i64 c.speed, .int .i64 c.turn, .int .i64 c.hoist, .int .i64 c.queue, .int .i64 c.resend, .int .i64 c.budget, .bool c.back, .slice none 0 0, .slice (some ⟨x0.heap.size, 0, none⟩) nR nR] 76 (0, 0)) := by rw [hx2]; exact World.alloc_heap_new _ _
  have SX : Hid (x1.heap.size = x0.heap.size + 1 ∧ x2.heap.size = x1.heap.size + 1) := ⟨by rw [hx1]; simp, by rw [hx2]; simp⟩
  clear hx1
  refine value_in hK2 (by kernel_rfl) (.pointer (some ⟨x1.heap.size, 0, none⟩)) x2 (by rw [hx2]; go_simp; try rfl) hS2 ?_
  simp only [Act.put, List.setIfInBounds_toArray, List.set_cons_zero, List.set_cons_succ]
  refine take_held 7 hS2 rfl (by kernel_rfl) (by kernel_rfl) (by kernel_rfl) (fun _ _ _ h => h) (by kernel_rfl) (v := ?v5038) ?y5038 ?r5038
  case y5038 => (intro u hu; go_simp; try rfl)
  simp only [Act.put, List.setIfInBounds_toArray, List.set_cons_zero, List.set_cons_succ]
  refine done_held (by kernel_rfl) ?_ _
  obtain ⟨lb, hlb⟩ : ∃ lb, x0.heap.size = lb := ⟨_, rfl⟩
  obtain ⟨s, hs⟩ : ∃ s, x1.heap.size = s := ⟨_, rfl⟩
  obtain ⟨B, hB⟩ : ∃ B, x2.heap.size = B := ⟨_, rfl⟩
  obtain ⟨sx1, sx2⟩ := SX.out
  clear SX
  have hl1' := (bx2.block _ (lt_of_heap hl1)).trans hl1
  have hcbl := lt_of_heap HX0.out.2
  have HNW0 : Hid (Nw w.heap.size B cb s lb nR w #[.int .i64 c.W, .int .i64 c.H, .int .i64 c.height, vb, vp, (.slice ra nR rc), (.slice sa nS sc), .int .i64 c.unit, .int .i64 c.accel, .int .i64 c.speed, .int .i64 c.turn, .int .i64 c.hoist, .int .i64 c.queue, .int .i64 c.resend, .int .i64 c.budget, .bool c.back] (.slice none 0 0) [] x2) := by
    rw [hlb] at hl1' hl2 hcbl sx1
    rw [hs] at hl2 sx1 sx2
    rw [hB] at sx2
    have hcb := HCB.out
    exact { bel := (HX0.out.1.trans (bx1.mono HX0.out.1.size)).trans (bx2.mono (Nat.le_trans HX0.out.1.size bx1.size)), bx := hS2, hd := hl2, lds := hl1', row := World.ownsRow_nil _ _ _ _, own := fun i z hz => by simp at hz, sep := fun i z hz => by simp at hz, len := rfl, nN := rfl, cN := by omega, sN := by omega, lN := by omega, cB := by omega, sB := by omega, lB := by omega, sc := by omega, slb := by omega, clb := by omega, big := by omega }
  rw [hs]
  clear hl1' hcbl hl1 hl2 bx1 bx2 sx1 sx2 hlb hs hB hS0 hS1 hS2 hx2 HX0
  go_wp2_with fail
  go_loopw [5] (fun cy wq => ∃ (y : Nat) (va : Option Addr) (vl vq : Nat) (zs : List (SV × List Int)), cy = .int .i64 y ∧ y ≤ HN ∧ Hid (Nw w.heap.size B cb s lb nR w #[.int .i64 c.W, .int .i64 c.H, .int .i64 c.height, vb, vp, (.slice ra nR rc), (.slice sa nS sc), .int .i64 c.unit, .int .i64 c.accel, .int .i64 c.speed, .int .i64 c.turn, .int .i64 c.hoist, .int .i64 c.queue, .int .i64 c.resend, .int .i64 c.budget, .bool c.back] (.slice va vl vq) zs wq) ∧ Hid (zs.map (fun z => (z.1.1, z.2)) = pilesR c (y * WN))) (fun cy _ => HN - (intOf cy).toNat)
  case atStart => exact ⟨0, none, 0, 0, [], rfl, Nat.zero_le _, HNW0, (by show ([] : List (SV × List Int)).map (fun z => (z.1.1, z.2)) = pilesR c (0 * WN); rw [Nat.zero_mul]; rfl)⟩
  case round =>
    obtain ⟨y, va, vl, vq, zs, rfl, hy, HNy, HZS⟩ := hrel
    clear HNW0
    have kH : wr.cell? ⟨cb, 1, none⟩ = some (.int .i64 (HN : Int)) := by rw [cell_of HNy.out.bx, ← HWH.out.2]; rfl
    by_cases hlt : y < HN
    · have h3 : (y : Int) < (HN : Int) := by omega
      go_wp2_with fail
      clear kH h3
      go_loopw [6] (fun cx wq => ∃ (x : Nat) (va : Option Addr) (vl vq : Nat) (zs : List (SV × List Int)), cx = .int .i64 x ∧ x ≤ WN ∧ Hid (Nw w.heap.size B cb s lb nR w #[.int .i64 c.W, .int .i64 c.H, .int .i64 c.height, vb, vp, (.slice ra nR rc), (.slice sa nS sc), .int .i64 c.unit, .int .i64 c.accel, .int .i64 c.speed, .int .i64 c.turn, .int .i64 c.hoist, .int .i64 c.queue, .int .i64 c.resend, .int .i64 c.budget, .bool c.back] (.slice va vl vq) zs wq) ∧ Hid (zs.map (fun z => (z.1.1, z.2)) = pilesR c (y * WN + x))) (fun cx _ => WN - (intOf cx).toNat)
      case atStart => exact ⟨0, va, vl, vq, zs, rfl, Nat.zero_le _, HNy, HZS⟩
      case round =>
        clear HNy HZS va vl vq zs
        generalize wr = wx at *
        obtain ⟨x, va, vl, vq, zs, rfl, hx, HNx, HZS⟩ := hrel
        have kW : wx.cell? ⟨cb, 0, none⟩ = some (.int .i64 (WN : Int)) := by rw [cell_of HNx.out.bx, ← HWH.out.1]; rfl
        by_cases hxl : x < WN
        · have h4 : (x : Int) < (WN : Int) := by omega
          obtain ⟨p7, hp7⟩ : ∃ p7, wx.heap.size = p7 := ⟨_, rfl⟩
          obtain ⟨w4, hw4⟩ : ∃ z, (wx.alloc (.cells #[.int .i64 0, .int .i64 0] 39)).setRow wx.heap.size #[.int .i64 (x : Int), .int .i64 (y : Int)] = z := ⟨_, rfl⟩
          have HW4 : Hid ((wx.alloc (.cells #[.int .i64 0, .int .i64 0] 39)).setRow wx.heap.size #[.int .i64 (x : Int), .int .i64 (y : Int)] = w4 ∧ wx.heap.size = p7) := ⟨hw4, hp7⟩
          have HZA : Hid ((wx.alloc (.cells #[.int .i64 0, .int .i64 0] 39)).heap[wx.heap.size]? = some (.cells #[.int .i64 0, .int .i64 0] 39 (0, 0))) := heap_alloc_new wx _
          have b4 : Below wx.heap.size wx w4 := by rw [← hw4]; exact below_row (below_new (Below.refl _ _) _) (Nat.le_refl _) _
          have HP4 : Hid (w4.heap[p7]? = some (.cells #[.int .i64 (x : Int), .int .i64 (y : Int)] 39 (0, 0))) := by show w4.heap[p7]? = _; rw [← hw4, ← hp7]; exact setRow_heap _ _ _ _ _ _ HZA.out
          have HB4 : Hid (Below wx.heap.size wx w4) := b4
          have HPQ : Hid (wx.heap.size = p7) := hp7
          have HN4 : Hid (Nw w.heap.size B cb s lb nR w #[.int .i64 c.W, .int .i64 c.H, .int .i64 c.height, vb, vp, (.slice ra nR rc), (.slice sa nS sc), .int .i64 c.unit, .int .i64 c.accel, .int .i64 c.speed, .int .i64 c.turn, .int .i64 c.hoist, .int .i64 c.queue, .int .i64 c.resend, .int .i64 c.budget, .bool c.back] (.slice va vl vq) zs w4) := HNx.out.go b4
          have cO := openR_any F c vb vp (.slice ra nR rc) (.slice sa nS sc) (x : Int) (y : Int) w4 (HA.out.go HF.out HN4.out.bel) (fun b hb => Nat.lt_of_lt_of_le (HF.out b hb) HN4.out.bel.size) HL1.out
          clear hp7 hw4 b4
          go_upto_region 11 with (have X2 := HZA; refine wpList_store_row rfl 39 (.tmp 7) (.tmp 34) rfl wx.heap.size #[.int .i64 (x : Int), .int .i64 (y : Int)] rfl rfl 39 #[.int .i64 0, .int .i64 0] HZA.out infoCell2 rfl (by simp [Value.oneCell']) ?_)
          rw [HW4.out.1, HW4.out.2]
          clear HW4 kW h4
          by_cases ho : openR c ((x : Int), (y : Int))
          · rw [decide_eq_true ho] at cO
            have HOP : Hid (openR c ((x : Int), (y : Int))) := ho
            have HXL : Hid (x < WN) := hxl
            go_upto_region 12 with (first
              | (have X2 := HN4; refine wpList_load_row rfl 26 (.tmp 1) rfl cb rfl 26 #[.int .i64 c.W, .int .i64 c.H, .int .i64 c.height, vb, vp, (.slice ra nR rc), (.slice sa nS sc), .int .i64 c.unit, .int .i64 c.accel, .int .i64 c.speed, .int .i64 c.turn, .int .i64 c.hoist, .int .i64 c.queue, .int .i64 c.resend, .int .i64 c.budget, .bool c.back] (0, 0) _ HN4.out.bx Try.underlying26 rfl info_conf ?_)
              | (have X2 := HP4; refine wpList_load_row rfl 39 (.tmp 7) rfl p7 rfl 39 #[.int .i64 (x : Int), .int .i64 (y : Int)] (0, 0) _ HP4.out Try.underlying39 rfl infoCell2 ?_)
              | (go_at_call 41; refine cO.mono ?_; rintro e w5 ⟨r5, rfl, rfl, b5⟩; have HP5 : Hid (w5.heap[p7]? = some (.cells #[.int .i64 (x : Int), .int .i64 (y : Int)] 39 (0, 0))) := (b5.block _ (lt_of_heap HP4.out)).trans HP4.out))
            have HN5 : Hid (Nw w.heap.size B cb s lb nR w #[.int .i64 c.W, .int .i64 c.H, .int .i64 c.height, vb, vp, (.slice ra nR rc), (.slice sa nS sc), .int .i64 c.unit, .int .i64 c.accel, .int .i64 c.speed, .int .i64 c.turn, .int .i64 c.hoist, .int .i64 c.queue, .int .i64 c.resend, .int .i64 c.budget, .bool c.back] (.slice va vl vq) zs w5) := HN4.out.go b5
            obtain ⟨k8, hk8⟩ : ∃ k8, w5.heap.size = k8 := ⟨_, rfl⟩
            have HB5 : Hid (Below wx.heap.size wx w5) := HB4.out.trans (b5.mono HB4.out.size)
            obtain ⟨w6, hw6⟩ : ∃ z, (w5.alloc (.cells #[.int .i64 0, .int .i64 0, .slice none 0 0] 59)).setRow w5.heap.size #[.int .i64 (x : Int), .int .i64 (y : Int), .slice none 0 0] = z := ⟨_, rfl⟩
            have HW6 : Hid ((w5.alloc (.cells #[.int .i64 0, .int .i64 0, .slice none 0 0] 59)).setRow w5.heap.size #[.int .i64 (x : Int), .int .i64 (y : Int), .slice none 0 0] = w6 ∧ w5.heap.size = k8) := ⟨hw6, hk8⟩
            have HZK : Hid ((w5.alloc (.cells #[.int .i64 0, .int .i64 0, .slice none 0 0] 59)).heap[w5.heap.size]? = some (.cells #[.int .i64 0, .int .i64 0, .slice none 0 0] 59 (0, 0))) := heap_alloc_new w5 _
            have b6 : Below w5.heap.size w5 w6 := by rw [← hw6]; exact below_row (below_new (Below.refl _ _) _) (Nat.le_refl _) _
            have HK6 : Hid (Ki wx p7 k8 x y (.slice none 0 0) (placed (c.stacks.take 0) ((x : Int), (y : Int))) w6) := ⟨HB5.out.trans (b6.mono HB5.out.size), (b6.block _ (lt_of_heap HP5.out)).trans HP5.out, by rw [← hw6, ← hk8]; exact setRow_heap _ _ _ _ _ _ HZK.out, World.ownsRow_nil _ _ _ _, by rw [← HPQ.out]; exact Nat.le_refl _, by rw [← hk8]; exact lt_of_heap HP5.out⟩
            clear cO b5 b6 hw6 hk8 HN4 HP4 HB4 HZA HN5 HB5
            go_wp2_with (first
              | (have X2 := HP5; refine wpList_load_row rfl 39 (.tmp 7) rfl p7 rfl 39 #[.int .i64 (x : Int), .int .i64 (y : Int)] (0, 0) _ HP5.out Try.underlying39 rfl infoCell2 ?_)
              | (have X2 := HZK; refine wpList_store_row rfl 59 (.tmp 8) (.tmp 40) rfl w5.heap.size #[.int .i64 (x : Int), .int .i64 (y : Int), .slice none 0 0] rfl rfl 59 #[.int .i64 0, .int .i64 0, .slice none 0 0] HZK.out info_stack rfl (by simp [Value.oneCell']) ?_))
            rw [HW6.out.1, HW6.out.2]
            clear HW6 HZK HP5
            go_loopw [9] (fun ci wq => ∃ (i : Nat) (a : Option Addr) (n cap : Nat), ci = .int .i64 i ∧ i ≤ nS ∧ Hid (Ki wx p7 k8 x y (.slice a n cap) (placed (c.stacks.take i) ((x : Int), (y : Int))) wq)) (fun ci _ => nS - (intOf ci).toNat)
            case atStart => exact ⟨0, none, 0, 0, rfl, Nat.zero_le _, HK6⟩
            case round =>
              clear HK6
              obtain ⟨i, a, n, cap, rfl, hi, HKi⟩ := hrel
              have HNi : Hid (Nw w.heap.size B cb s lb nR w #[.int .i64 c.W, .int .i64 c.H, .int .i64 c.height, vb, vp, (.slice ra nR rc), (.slice sa nS sc), .int .i64 c.unit, .int .i64 c.accel, .int .i64 c.speed, .int .i64 c.turn, .int .i64 c.hoist, .int .i64 c.queue, .int .i64 c.resend, .int .i64 c.budget, .bool c.back] (.slice va vl vq) zs wr) := HNx.out.go HKi.out.bel
              have kS : wr.cell? ⟨cb, 6, none⟩ = some (.slice sa nS sc) := by rw [cell_of HNi.out.bx]; rfl
              by_cases hin : i < nS
              · have h5 : (i : Int) < (nS : Int) := by omega
                obtain ⟨p, cs, cap4, hv, hpF, hcs, hrd⟩ := (HA.out.go HF.out HNx.out.bel).s.item (k := i) (by rw [HNS.out]; exact hin)
                obtain ⟨v2, rfl, hl2⟩ := hcs
                obtain ⟨a2, c2, hv2, _⟩ := hl2.form
                subst hv2
                injection hv with q1 q2 q3
                subst q1
                have hpn := placed_next c.stacks i (by rw [HNS.out]; exact hin) ((x : Int), (y : Int))
                obtain ⟨⟨⟨qx, qy⟩, l2⟩, hq⟩ : ∃ z, c.stacks[i]'(by rw [HNS.out]; exact hin) = z := ⟨_, rfl⟩
                rw [hq] at hl2 hrd hpn
                obtain ⟨n2, hn2⟩ : ∃ n2, l2.length = n2 := ⟨_, rfl⟩
                rw [show (((qx, qy), l2) : Stk).2.length = n2 from hn2] at hl2 hrd
                have HGX : Hid ((∀ u, Below wx.heap.size wx u → u.cell? ⟨cb, 6, none⟩ = some (.slice (some p) nS sc)) ∧ (∀ u, Below wx.heap.size wx u → (loadVar 39 (p.add (i * 3))).run Try.prog u = .ok (.agg #[.int .i64 qx, .int .i64 qy]) u) ∧ (∀ u, Below wx.heap.size wx u → u.cell? ⟨(p.add (i * 3)).block, (p.add (i * 3)).off + 2, none⟩ = some (.slice a2 n2 c2))) :=
                  ⟨fun u b => by rw [cell_of (HNx.out.go b).bx]; rfl, fun u b => run_loadVar_at u _ _ _ (fun j v hj => by
                    match j with
                    | 0 => exact cell_below (hrd 0 v hj) b
                    | 1 => exact cell_below (hrd 1 v hj) b
                    | j + 2 => simp at hj) (aggCell _) infoCell2, fun u b => (cell_add2 u _).symm.trans (cell_below (hrd 2 _ rfl) b)⟩
                have HG16 : Hid ((∀ u, Below wr.heap.size wr u → u.cell? ⟨cb, 6, none⟩ = some (.slice (some p) nS sc)) ∧ (∀ u, Below wr.heap.size wr u → (loadVar 39 ⟨p7, 0, none⟩).run Try.prog u = .ok (.agg #[.int .i64 (x : Int), .int .i64 (y : Int)]) u) ∧ (∀ u, Below wr.heap.size wr u → (loadVar 39 (p.add (i * 3))).run Try.prog u = .ok (.agg #[.int .i64 qx, .int .i64 qy]) u)) :=
                  ⟨fun u b => HGX.out.1 u (HKi.out.bel.trans (b.mono HKi.out.bel.size)), fun u b => load_box (HKi.out.go b).p, fun u b => HGX.out.2.1 u (HKi.out.bel.trans (b.mono HKi.out.bel.size))⟩
                have HL17 : Hid (∀ u, Below wx.heap.size wx u → ListAt 1 intEl F l2 (.slice a2 n2 c2) u) := fun u b => hl2.go heldInt (fun b hb => Nat.lt_of_lt_of_le (HF.out b hb) HNx.out.bel.size) b
                clear hpF hrd hl2 q2 q3 kS
                have kS : wr.cell? ⟨cb, 6, none⟩ = some (.slice (some p) nS sc) := HG16.out.1 wr (Below.refl _ _)
                by_cases heq : ((qx, qy) : Cell) = ((x : Int), (y : Int))
                · have HEQ : Hid (decide (((qx, qy) : Cell) = ((x : Int), (y : Int))) = true) := decide_eq_true heq
                  rw [if_pos heq] at hpn
                  have HPN : Hid (placed (c.stacks.take (i + 1)) ((x : Int), (y : Int)) = placed (c.stacks.take i) ((x : Int), (y : Int)) ++ l2) := hpn
                  have HM17 : Hid ((placed (c.stacks.take i) ((x : Int), (y : Int))).length + l2.length ≤ 1000) := by
                    show (placed (c.stacks.take i) ((x : Int), (y : Int))).length + l2.length ≤ 1000
                    rw [← List.length_append, ← hpn]
                    have := placed_take c.stacks (i + 1) ((x : Int), (y : Int))
                    have := H8.out ((x : Int), (y : Int))
                    omega
                  clear hpn heq hq
                  go_upto_region 16 with fail
                  clear kS
                  refine start_held (S := fun u => Below wr.heap.size wr u) 8 rfl (by kernel_rfl) ((Below.refl _ _).drew) ?_
                  simp only [Array.replicate_succ, Array.replicate_zero, List.push_toArray, List.nil_append, List.cons_append]
                  have hS0 : Below wr.heap.size wr wr.drew := (Below.refl _ _).drew
                  generalize wr.drew = x0 at *
                  refine take_held 0 hS0 rfl (by kernel_rfl) (by kernel_rfl) (by kernel_rfl) (fun _ _ _ h => h) (by kernel_rfl) (v := ?v5009) ?y5009 ?r5009
                  case y5009 => (intro u hu; go_simp; try rfl)
                  simp only [Act.put, List.setIfInBounds_toArray, List.set_cons_zero, List.set_cons_succ]
                  refine take_held 1 hS0 rfl (by kernel_rfl) (by kernel_rfl) (by kernel_rfl) (fun _ _ _ h => h) (by kernel_rfl) (v := ?v5010) ?y5010 ?r5010
                  case y5010 => (intro u hu; have zz0 := (fun (u : World) (hu : Below wr.heap.size wr u) => HG16.out.1 u hu) u hu; go_simp; try rfl)
                  simp only [Act.put, List.setIfInBounds_toArray, List.set_cons_zero, List.set_cons_succ]
                  refine take_held 2 hS0 rfl (by kernel_rfl) (by kernel_rfl) (by kernel_rfl) (fun _ _ _ h => h) (by kernel_rfl) (v := ?v5011) ?y5011 ?r5011
                  case y5011 => (intro u hu; go_simp; try rfl)
                  simp only [Act.put, List.setIfInBounds_toArray, List.set_cons_zero, List.set_cons_succ]
                  refine take_held 3 hS0 rfl (by kernel_rfl) (by kernel_rfl) (by kernel_rfl) (fun _ _ _ h => h) (by kernel_rfl) (v := ?v5012) ?y5012 ?r5012
                  case y5012 => (intro u hu; go_simp; try rfl)
                  simp only [Act.put, List.setIfInBounds_toArray, List.set_cons_zero, List.set_cons_succ]
                  refine take_held 4 hS0 rfl (by kernel_rfl) (by kernel_rfl) (by kernel_rfl) (fun _ _ _ h => h) (by kernel_rfl) (v := ?v5013) ?y5013 ?r5013
                  case y5013 => (intro u hu; go_simp; try rfl)
                  simp only [Act.put, List.setIfInBounds_toArray, List.set_cons_zero, List.set_cons_succ]
                  refine take_held 5 hS0 rfl (by kernel_rfl) (by kernel_rfl) (by kernel_rfl) (fun _ _ _ h => h) (by kernel_rfl) (v := .agg #[.int .i64 qx, .int .i64 qy]) ?y5014 ?r5014
                  case y5014 => (intro u hu; exact run_load_at 39 _ rfl (p.add (i * 3)) rfl _ (HG16.out.2.2 u hu))
                  simp only [Act.put, List.setIfInBounds_toArray, List.set_cons_zero, List.set_cons_succ]
                  refine take_held 6 hS0 rfl (by kernel_rfl) (by kernel_rfl) (by kernel_rfl) (fun _ _ _ h => h) (by kernel_rfl) (v := .agg #[.int .i64 (x : Int), .int .i64 (y : Int)]) ?y5015 ?r5015
                  case y5015 => (intro u hu; exact run_load_at 39 _ rfl ⟨p7, 0, none⟩ rfl _ (HG16.out.2.1 u hu))
                  simp only [Act.put, List.setIfInBounds_toArray, List.set_cons_zero, List.set_cons_succ]
                  refine take_held 7 hS0 rfl (by kernel_rfl) (by kernel_rfl) (by kernel_rfl) (fun _ _ _ h => h) (by kernel_rfl) (v := .bool true) ?y5016 ?r5016
                  case y5016 => (intro u hu; exact (run_eql_cell _ _ rfl qx qy (x : Int) (y : Int) rfl rfl).trans (by rw [HEQ.out]))
                  simp only [Act.put, List.setIfInBounds_toArray, List.set_cons_zero, List.set_cons_succ]
                  refine done_held (by kernel_rfl) ?_ _
                  have HKa : Hid (Ki wx p7 k8 x y (.slice a n cap) (placed (c.stacks.take i) ((x : Int), (y : Int))) x0) := HKi.out.go hS0
                  have HK17 : Hid (Ki wx p7 k8 x y (.slice a n cap) (placed (c.stacks.take i) ((x : Int), (y : Int))) x0.drew) := HKa.out.go (Below.refl _ _).drew
                  clear hS0 HKa HKi HNi HG16
                  go_upto_region 17 with fail
                  clear h5
                  refine start_held (S := fun u => Below wx.heap.size wx u) 11 rfl (by kernel_rfl) (HK17.out.bel) ?_
                  simp only [Array.replicate_succ, Array.replicate_zero, List.push_toArray, List.nil_append, List.cons_append]
                  have hS0 : Below wx.heap.size wx x0.drew := HK17.out.bel
                  generalize x0.drew = z0 at *
                  refine take_held 0 hS0 rfl (by kernel_rfl) (by kernel_rfl) (by kernel_rfl) (fun _ _ _ h => h) (by kernel_rfl) (v := ?v5017) ?y5017 ?r5017
                  case y5017 => (intro u hu; go_simp; try rfl)
                  simp only [Act.put, List.setIfInBounds_toArray, List.set_cons_zero, List.set_cons_succ]
                  refine take_held 2 hS0 rfl (by kernel_rfl) (by kernel_rfl) (by kernel_rfl) (fun _ _ _ h => h) (by kernel_rfl) (v := ?v5018) ?y5018 ?r5018
                  case y5018 => (intro u hu; go_simp; try rfl)
                  simp only [Act.put, List.setIfInBounds_toArray, List.set_cons_zero, List.set_cons_succ]
                  refine take_held 3 hS0 rfl (by kernel_rfl) (by kernel_rfl) (by kernel_rfl) (fun _ _ _ h => h) (by kernel_rfl) (v := ?v5019) ?y5019 ?r5019
                  case y5019 => (intro u hu; have zz0 := (fun (u : World) (hu : Below wx.heap.size wx u) => HGX.out.1 u hu) u hu; go_simp; try rfl)
                  simp only [Act.put, List.setIfInBounds_toArray, List.set_cons_zero, List.set_cons_succ]
                  refine take_held 4 hS0 rfl (by kernel_rfl) (by kernel_rfl) (by kernel_rfl) (fun _ _ _ h => h) (by kernel_rfl) (v := ?v5020) ?y5020 ?r5020
                  case y5020 => (intro u hu; go_simp; try rfl)
                  simp only [Act.put, List.setIfInBounds_toArray, List.set_cons_zero, List.set_cons_succ]
                  refine take_held 5 hS0 rfl (by kernel_rfl) (by kernel_rfl) (by kernel_rfl) (fun _ _ _ h => h) (by kernel_rfl) (v := ?v5021) ?y5021 ?r5021
                  case y5021 => (intro u hu; go_simp; try rfl)
                  simp only [Act.put, List.setIfInBounds_toArray, List.set_cons_zero, List.set_cons_succ]
                  refine take_held 6 hS0 rfl (by kernel_rfl) (by kernel_rfl) (by kernel_rfl) (fun _ _ _ h => h) (by kernel_rfl) (v := ?v5022) ?y5022 ?r5022
                  case y5022 => (intro u hu; go_simp; try rfl)
                  simp only [Act.put, List.setIfInBounds_toArray, List.set_cons_zero, List.set_cons_succ]
                  refine take_held 7 hS0 rfl (by kernel_rfl) (by kernel_rfl) (by kernel_rfl) (fun _ _ _ h => h) (by kernel_rfl) (v := ?v5023) ?y5023 ?r5023
                  case y5023 => (intro u hu; have zz0 := (fun (u : World) (hu : Below wx.heap.size wx u) => HGX.out.2.2 u hu) u hu; go_simp; try rfl)
                  simp only [Act.put, List.setIfInBounds_toArray, List.set_cons_zero, List.set_cons_succ]
                  refine wpAnyH_ready (rs := [1]) (by kernel_rfl) (by simp) (AllReadyH.cons ((nth_eq _ 1).trans rfl) ?_ AllReadyH.nil)
                  intro K40 hK40
                  refine value_in hK40 (by kernel_rfl) (.slice a n cap) z0 (by have zz : z0.cell? ⟨k8, 2, none⟩ = some (.slice a n cap) := ((cell_of HK17.out.k 2).trans rfl); go_simp; try rfl) hS0 ?_
                  simp only [Act.put, List.setIfInBounds_toArray, List.set_cons_zero, List.set_cons_succ]
                  refine wpAnyH_ready (rs := [8]) (by kernel_rfl) (by simp) (AllReadyH.cons ((nth_eq _ 8).trans rfl) ?_ AllReadyH.nil)
                  intro K41 hK41
                  obtain ⟨a9, n9, c9, z41, hrun9, zk9, zf9, bel9, K9⟩ := HK17.out.app (HL17.out z0 hS0) HM17.out 48
                  have hS41 : Below wx.heap.size wx z41 := bel9
                  have HK9 : Hid (Ki wx p7 k8 x y (.slice a9 n9 c9) (placed (c.stacks.take i) ((x : Int), (y : Int)) ++ l2) (z41.setCell ⟨k8, 2, none⟩ (.slice a9 n9 c9))) := K9
                  refine value_in hK41 (by kernel_rfl) (.slice a9 n9 c9) z41 (run_append_op _ _ rfl _ _ _ rfl rfl hrun9) hS41 ?_
                  clear K9 hrun9 bel9
                  simp only [Act.put, List.setIfInBounds_toArray, List.set_cons_zero, List.set_cons_succ]
                  refine take_held 9 hS41 rfl (by kernel_rfl) (by kernel_rfl) (by kernel_rfl) (fun _ _ _ h => h) (by kernel_rfl) (v := ?v5024) ?y5024 ?r5024
                  case y5024 => (intro u hu; go_simp; try rfl)
                  simp only [Act.put, List.setIfInBounds_toArray, List.set_cons_zero, List.set_cons_succ]
                  refine wpAnyH_ready (rs := [10]) (by kernel_rfl) (by simp) (AllReadyH.cons ((nth_eq _ 10).trans rfl) ?_ AllReadyH.nil)
                  intro K42 hK42
                  obtain ⟨x42, hx42⟩ : ∃ zw, zw = z41.setCell ⟨k8, 2, none⟩ (.slice a9 n9 c9) := ⟨_, rfl⟩
                  have hS42 := (show Below wx.heap.size wx x42 by rw [hx42]; exact HK9.out.bel)
                  refine skip_in hK42 (by kernel_rfl) x42 (by rw [hx42]; have zc := zk9; have zf := zf9; go_simp; try rfl) hS42 ?_
                  simp only [Act.put, List.setIfInBounds_toArray, List.set_cons_zero, List.set_cons_succ]
                  refine done_held (by kernel_rfl) ?_ _
                  have HKn : Hid (Ki wx p7 k8 x y (.slice a9 n9 c9) (placed (c.stacks.take (i + 1)) ((x : Int), (y : Int))) x42) := by
                    have q := HK9.out
                    rw [← hx42] at q
                    show Ki wx p7 k8 x y (.slice a9 n9 c9) (placed (c.stacks.take (i + 1)) ((x : Int), (y : Int))) x42
                    rw [HPN.out]
                    exact q
                  clear hS42 hx42 HK9
                  go_wp2_with fail
                  go_roundw
                  case rel => exact ⟨i + 1, a9, n9, c9, by go_num, by omega, HKn⟩
                  case measure => simp [intOf]; omega
                · have HEQ : Hid (decide (((qx, qy) : Cell) = ((x : Int), (y : Int))) = false) := decide_eq_false heq
                  rw [if_neg heq, List.append_nil] at hpn
                  have HPN : Hid (placed (c.stacks.take (i + 1)) ((x : Int), (y : Int)) = placed (c.stacks.take i) ((x : Int), (y : Int))) := hpn
                  clear hpn heq hq
                  go_upto_region 16 with fail
                  clear kS
                  refine start_held (S := fun u => Below wr.heap.size wr u) 8 rfl (by kernel_rfl) ((Below.refl _ _).drew) ?_
                  simp only [Array.replicate_succ, Array.replicate_zero, List.push_toArray, List.nil_append, List.cons_append]
                  have hS0 : Below wr.heap.size wr wr.drew := (Below.refl _ _).drew
                  generalize wr.drew = x0 at *
                  refine take_held 0 hS0 rfl (by kernel_rfl) (by kernel_rfl) (by kernel_rfl) (fun _ _ _ h => h) (by kernel_rfl) (v := ?v5025) ?y5025 ?r5025
                  case y5025 => (intro u hu; go_simp; try rfl)
                  simp only [Act.put, List.setIfInBounds_toArray, List.set_cons_zero, List.set_cons_succ]
                  refine take_held 1 hS0 rfl (by kernel_rfl) (by kernel_rfl) (by kernel_rfl) (fun _ _ _ h => h) (by kernel_rfl) (v := ?v5026) ?y5026 ?r5026
                  case y5026 => (intro u hu; have zz0 := (fun (u : World) (hu : Below wr.heap.size wr u) => HG16.out.1 u hu) u hu; go_simp; try rfl)
                  simp only [Act.put, List.setIfInBounds_toArray, List.set_cons_zero, List.set_cons_succ]
                  refine take_held 2 hS0 rfl (by kernel_rfl) (by kernel_rfl) (by kernel_rfl) (fun _ _ _ h => h) (by kernel_rfl) (v := ?v5027) ?y5027 ?r5027
                  case y5027 => (intro u hu; go_simp; try rfl)
                  simp only [Act.put, List.setIfInBounds_toArray, List.set_cons_zero, List.set_cons_succ]
                  refine take_held 3 hS0 rfl (by kernel_rfl) (by kernel_rfl) (by kernel_rfl) (fun _ _ _ h => h) (by kernel_rfl) (v := ?v5028) ?y5028 ?r5028
                  case y5028 => (intro u hu; go_simp; try rfl)
                  simp only [Act.put, List.setIfInBounds_toArray, List.set_cons_zero, List.set_cons_succ]
                  refine take_held 4 hS0 rfl (by kernel_rfl) (by kernel_rfl) (by kernel_rfl) (fun _ _ _ h => h) (by kernel_rfl) (v := ?v5029) ?y5029 ?r5029
                  case y5029 => (intro u hu; go_simp; try rfl)
                  simp only [Act.put, List.setIfInBounds_toArray, List.set_cons_zero, List.set_cons_succ]
                  refine take_held 5 hS0 rfl (by kernel_rfl) (by kernel_rfl) (by kernel_rfl) (fun _ _ _ h => h) (by kernel_rfl) (v := .agg #[.int .i64 qx, .int .i64 qy]) ?y5030 ?r5030
                  case y5030 => (intro u hu; exact run_load_at 39 _ rfl (p.add (i * 3)) rfl _ (HG16.out.2.2 u hu))
                  simp only [Act.put, List.setIfInBounds_toArray, List.set_cons_zero, List.set_cons_succ]
                  refine take_held 6 hS0 rfl (by kernel_rfl) (by kernel_rfl) (by kernel_rfl) (fun _ _ _ h => h) (by kernel_rfl) (v := .agg #[.int .i64 (x : Int), .int .i64 (y : Int)]) ?y5031 ?r5031
                  case y5031 => (intro u hu; exact run_load_at 39 _ rfl ⟨p7, 0, none⟩ rfl _ (HG16.out.2.1 u hu))
                  simp only [Act.put, List.setIfInBounds_toArray, List.set_cons_zero, List.set_cons_succ]
                  refine take_held 7 hS0 rfl (by kernel_rfl) (by kernel_rfl) (by kernel_rfl) (fun _ _ _ h => h) (by kernel_rfl) (v := .bool false) ?y5032 ?r5032
                  case y5032 => (intro u hu; exact (run_eql_cell _ _ rfl qx qy (x : Int) (y : Int) rfl rfl).trans (by rw [HEQ.out]))
                  simp only [Act.put, List.setIfInBounds_toArray, List.set_cons_zero, List.set_cons_succ]
                  refine done_held (by kernel_rfl) ?_ _
                  have HKn : Hid (Ki wx p7 k8 x y (.slice a n cap) (placed (c.stacks.take (i + 1)) ((x : Int), (y : Int))) x0) := by
                    show Ki wx p7 k8 x y (.slice a n cap) (placed (c.stacks.take (i + 1)) ((x : Int), (y : Int))) x0
                    rw [HPN.out]
                    exact HKi.out.go hS0
                  clear hS0 HKi HNi HG16
                  go_wp2_with fail
                  go_roundw
                  case rel => exact ⟨i + 1, a, n, cap, by go_num, by omega, HKn⟩
                  case measure => simp [intOf]; omega
              · obtain rfl : nS = i := by omega
                have h5 : ¬ ((nS : Int) < (nS : Int)) := by omega
                have HKe : Hid (Ki wx p7 k8 x y (.slice a n cap) (placed c.stacks ((x : Int), (y : Int))) wr) := by
                  have q := HKi.out
                  rw [List.take_of_length_le (by rw [HNS.out]; exact Nat.le_refl _)] at q
                  exact q
                have HBk : Hid (B ≤ k8 ∧ wx.heap.size ≤ k8) := ⟨by have := HNx.out.big; have := HKe.out.pq; have := HKe.out.pk; omega, by have := HKe.out.pq; have := HKe.out.pk; omega⟩
                have HKS : Hid (k8 ≠ s) := by show k8 ≠ s; have := HBk.out.1; have := HNx.out.sB; omega
                have HVK : Hid (((.slice va vl vq) : Value).ownBlock ≠ some k8) := fun e => by have := (HNx.out.row.lt k8 e).2; have := HBk.out.2; omega
                have HS18 : Hid (∀ b, ((.slice a n cap) : Value).ownBlock = some b → ((.slice va vl vq) : Value).ownBlock ≠ some b) := fun b hb e => by have := (HNx.out.row.lt b e).2; have := (HKe.out.own.lt b hb).1; have := HBk.out.2; omega
                have HM18 : Hid (zs.length < 1000) := by
                  show zs.length < 1000
                  have e := congrArg List.length HZS.out
                  rw [List.length_map] at e
                  have := pilesR_len c (y * WN + x)
                  have : y * WN ≤ 16 * 16 := Nat.mul_le_mul (by omega) (by omega)
                  omega
                have HO18 : Hid (wr.drew.ownsRow B 3 1 (.slice a n cap) (placed c.stacks ((x : Int), (y : Int))).length (rowL intL (placed c.stacks ((x : Int), (y : Int))))) := own_lower' (owns_go HKe.out.own (Below.refl _ _).drew) (by have := HBk.out.1; omega)
                have HSY : Hid (wr.drew.heap[k8]? = some (.cells #[.int .i64 (x : Int), .int .i64 (y : Int), (.slice a n cap)] 59 (0, 0))) := HKe.out.k
                have HN18 : Hid (Nw w.heap.size B cb s lb nR w #[.int .i64 c.W, .int .i64 c.H, .int .i64 c.height, vb, vp, (.slice ra nR rc), (.slice sa nS sc), .int .i64 c.unit, .int .i64 c.accel, .int .i64 c.speed, .int .i64 c.turn, .int .i64 c.hoist, .int .i64 c.queue, .int .i64 c.resend, .int .i64 c.budget, .bool c.back] (.slice va vl vq) zs wr.drew) := HNi.out.go (Below.refl _ _).drew
                go_upto_region 18 with fail
                clear HKe HKi HNi h5 kS
                refine start_held (S := fun u => u.heap[k8]? = some (.cells #[.int .i64 (x : Int), .int .i64 (y : Int), (.slice a n cap)] 59 (0, 0))) 11 rfl (by kernel_rfl) (HSY.out) ?_
                simp only [Array.replicate_succ, Array.replicate_zero, List.push_toArray, List.nil_append, List.cons_append]
                have hS0 : wr.drew.heap[k8]? = some (.cells #[.int .i64 (x : Int), .int .i64 (y : Int), (.slice a n cap)] 59 (0, 0)) := HSY.out
                generalize wr.drew = y0 at *
                refine take_held 0 hS0 rfl (by kernel_rfl) (by kernel_rfl) (by kernel_rfl) (fun _ _ _ h => h) (by kernel_rfl) (v := ?v5000) ?y5000 ?r5000
                case y5000 => (intro u hu; go_simp; try rfl)
                simp only [Act.put, List.setIfInBounds_toArray, List.set_cons_zero, List.set_cons_succ]
                refine take_held 1 hS0 rfl (by kernel_rfl) (by kernel_rfl) (by kernel_rfl) (fun _ _ _ h => h) (by kernel_rfl) (v := ?v5001) ?y5001 ?r5001
                case y5001 => (intro u hu; go_simp; try rfl)
                simp only [Act.put, List.setIfInBounds_toArray, List.set_cons_zero, List.set_cons_succ]
                refine take_held 2 hS0 rfl (by kernel_rfl) (by kernel_rfl) (by kernel_rfl) (fun _ _ _ h => h) (by kernel_rfl) (v := ?v5002) ?y5002 ?r5002
                case y5002 => (intro u hu; go_simp; try rfl)
                simp only [Act.put, List.setIfInBounds_toArray, List.set_cons_zero, List.set_cons_succ]
                refine take_held 3 hS0 rfl (by kernel_rfl) (by kernel_rfl) (by kernel_rfl) (fun _ _ _ h => h) (by kernel_rfl) (v := ?v5003) ?y5003 ?r5003
                case y5003 => (intro u hu; go_simp; try rfl)
                simp only [Act.put, List.setIfInBounds_toArray, List.set_cons_zero, List.set_cons_succ]
                refine take_held 5 hS0 rfl (by kernel_rfl) (by kernel_rfl) (by kernel_rfl) (fun _ _ _ h => h) (by kernel_rfl) (v := .agg #[.int .i64 (x : Int), .int .i64 (y : Int), (.slice a n cap)]) ?y5004 ?r5004
                case y5004 => (intro u hu; exact run_load_at 59 _ rfl ⟨k8, 0, none⟩ rfl _ (loadStk hu))
                simp only [Act.put, List.setIfInBounds_toArray, List.set_cons_zero, List.set_cons_succ]
                refine wpAnyH_ready (rs := [4, 6]) (by kernel_rfl) (by simp) (AllReadyH.cons ((nth_eq _ 4).trans rfl) ?_ (AllReadyH.cons ((nth_eq _ 6).trans rfl) ?_ AllReadyH.nil))
                · intro K60 hK60
                  refine value_in hK60 (by kernel_rfl) (.slice va vl vq) y0 (by have zz : y0.cell? ⟨s, 16, none⟩ = some (.slice va vl vq) := (by first | exact HNa.out.c16 | exact HN18.out.c16); go_simp; try rfl) hS0 ?_
                  simp only [Act.put, List.setIfInBounds_toArray, List.set_cons_zero, List.set_cons_succ]
                  refine wpAnyH_ready (rs := [6]) (by kernel_rfl) (by simp) (AllReadyH.cons ((nth_eq _ 6).trans rfl) ?_ AllReadyH.nil)
                  intro K61 hK61
                  obtain ⟨x61, hx61⟩ : ∃ zw, zw = y0.alloc (.cells #[.int .i64 (x : Int), .int .i64 (y : Int), (.slice a n cap)] 59) := ⟨_, rfl⟩
                  have hS61 := (show x61.heap[k8]? = some (.cells #[.int .i64 (x : Int), .int .i64 (y : Int), (.slice a n cap)] 59 (0, 0)) by rw [hx61]; exact (((Below.refl _ _).alloc (Nat.le_refl _) _ : Below y0.heap.size y0 _).block _ (lt_of_heap hS0)).trans hS0)
                  have HNa : Hid (Nw w.heap.size B cb s lb nR w #[.int .i64 c.W, .int .i64 c.H, .int .i64 c.height, vb, vp, (.slice ra nR rc), (.slice sa nS sc), .int .i64 c.unit, .int .i64 c.accel, .int .i64 c.speed, .int .i64 c.turn, .int .i64 c.hoist, .int .i64 c.queue, .int .i64 c.resend, .int .i64 c.budget, .bool c.back] (.slice va vl vq) zs x61) := HN18.out.go (by rw [hx61]; exact (Below.refl _ _).alloc (Nat.le_refl _) _)
                  have HXA : Hid (x61 = y0.alloc (.cells #[.int .i64 (x : Int), .int .i64 (y : Int), (.slice a n cap)] 59)) := hx61
                  refine value_in hK61 (by kernel_rfl) (.slice (some ⟨y0.heap.size, 0, none⟩) 1 1) x61 (by rw [hx61]; go_simp; try rfl) hS61 ?_
                  simp only [Act.put, List.setIfInBounds_toArray, List.set_cons_zero, List.set_cons_succ]
                  refine wpAnyH_ready (rs := [7]) (by kernel_rfl) (by simp) (AllReadyH.cons ((nth_eq _ 7).trans rfl) ?_ AllReadyH.nil)
                  intro K62 hK62
                  obtain ⟨v9, z62, hrun9, c9, f9, kp9, ⟨ta, tn, tc, rfl⟩, N9⟩ := HN18.out.push ((x : Int), (y : Int)) a n cap _ HO18.out HS18.out HM18.out 24
                  have hrun9 : (Builtin.append_ #[24, 24] 24 #[(.slice va vl vq), .slice (some ⟨y0.heap.size, 0, none⟩) 1 1]).run Try.prog x61 = .ok (.slice ta tn tc) z62 := by rw [HXA.out]; exact hrun9
                  have HN9 : Hid (Nw w.heap.size B cb s lb nR w #[.int .i64 c.W, .int .i64 c.H, .int .i64 c.height, vb, vp, (.slice ra nR rc), (.slice sa nS sc), .int .i64 c.unit, .int .i64 c.accel, .int .i64 c.speed, .int .i64 c.turn, .int .i64 c.hoist, .int .i64 c.queue, .int .i64 c.resend, .int .i64 c.budget, .bool c.back] (.slice ta tn tc) (zs ++ [((((x : Int), (y : Int)), a, n, cap), placed c.stacks ((x : Int), (y : Int)))]) (z62.setCell ⟨s, 16, none⟩ (.slice ta tn tc))) := N9
                  have hS62 : z62.heap[k8]? = some (.cells #[.int .i64 (x : Int), .int .i64 (y : Int), (.slice a n cap)] 59 (0, 0)) := (kp9 k8 (lt_of_heap HSY.out) HVK.out).trans HSY.out
                  refine value_in hK62 (by kernel_rfl) (.slice ta tn tc) z62 (run_append_op _ _ rfl _ _ _ rfl rfl hrun9) hS62 ?_
                  clear N9 hrun9
                  simp only [Act.put, List.setIfInBounds_toArray, List.set_cons_zero, List.set_cons_succ]
                  refine take_held 8 hS62 rfl (by kernel_rfl) (by kernel_rfl) (by kernel_rfl) (fun _ _ _ h => h) (by kernel_rfl) (v := ?v5005) ?y5005 ?r5005
                  case y5005 => (intro u hu; go_simp; try rfl)
                  simp only [Act.put, List.setIfInBounds_toArray, List.set_cons_zero, List.set_cons_succ]
                  refine take_held 9 hS62 rfl (by kernel_rfl) (by kernel_rfl) (by kernel_rfl) (fun _ _ _ h => h) (by kernel_rfl) (v := ?v5006) ?y5006 ?r5006
                  case y5006 => (intro u hu; go_simp; try rfl)
                  simp only [Act.put, List.setIfInBounds_toArray, List.set_cons_zero, List.set_cons_succ]
                  refine wpAnyH_ready (rs := [10]) (by kernel_rfl) (by simp) (AllReadyH.cons ((nth_eq _ 10).trans rfl) ?_ AllReadyH.nil)
                  intro K63 hK63
                  obtain ⟨x63, hx63⟩ : ∃ zw, zw = z62.setCell ⟨s, 16, none⟩ (.slice ta tn tc) := ⟨_, rfl⟩
                  have hS63 := (show x63.heap[k8]? = some (.cells #[.int .i64 (x : Int), .int .i64 (y : Int), (.slice a n cap)] 59 (0, 0)) by rw [hx63, heap_setCell_other _ _ _ _ HKS.out]; exact hS62)
                  refine skip_in hK63 (by kernel_rfl) x63 (by rw [hx63]; have zc := c9; have zf := f9; go_simp; try rfl) hS63 ?_
                  simp only [Act.put, List.setIfInBounds_toArray, List.set_cons_zero, List.set_cons_succ]
                  refine done_held (by kernel_rfl) ?_ _
                  have HNn : Hid (Nw w.heap.size B cb s lb nR w #[.int .i64 c.W, .int .i64 c.H, .int .i64 c.height, vb, vp, (.slice ra nR rc), (.slice sa nS sc), .int .i64 c.unit, .int .i64 c.accel, .int .i64 c.speed, .int .i64 c.turn, .int .i64 c.hoist, .int .i64 c.queue, .int .i64 c.resend, .int .i64 c.budget, .bool c.back] (.slice ta tn tc) (zs ++ [((((x : Int), (y : Int)), a, n, cap), placed c.stacks ((x : Int), (y : Int)))]) x63) := by rw [hx63]; exact HN9.out
                  have HZ9 : Hid ((zs ++ [((((x : Int), (y : Int)), a, n, cap), placed c.stacks ((x : Int), (y : Int)))]).map (fun z => (z.1.1, z.2)) = pilesR c (y * WN + (x + 1))) := by
                    show (zs ++ [((((x : Int), (y : Int)), a, n, cap), placed c.stacks ((x : Int), (y : Int)))]).map (fun z => (z.1.1, z.2)) = pilesR c ((y * WN + x) + 1)
                    have e : cellAt c.W (y * WN + x) = ((x : Int), (y : Int)) := by rw [HWH.out.1, cellAt_row HXL.out]
                    rw [pilesR_yes (by rw [e]; exact HOP.out), e, List.map_append, HZS.out]
                    rfl
                  clear hS63 hx63 HN9
                  go_wp2_with fail
                  go_roundw
                  case rel => exact ⟨x + 1, ta, tn, tc, _, by go_num, by omega, HNn, HZ9⟩
                  case measure => simp [intOf]; omega
                · intro K60 hK60
                  obtain ⟨x60, hx60⟩ : ∃ zw, zw = y0.alloc (.cells #[.int .i64 (x : Int), .int .i64 (y : Int), (.slice a n cap)] 59) := ⟨_, rfl⟩
                  have hS60 := (show x60.heap[k8]? = some (.cells #[.int .i64 (x : Int), .int .i64 (y : Int), (.slice a n cap)] 59 (0, 0)) by rw [hx60]; exact (((Below.refl _ _).alloc (Nat.le_refl _) _ : Below y0.heap.size y0 _).block _ (lt_of_heap hS0)).trans hS0)
                  have HNa : Hid (Nw w.heap.size B cb s lb nR w #[.int .i64 c.W, .int .i64 c.H, .int .i64 c.height, vb, vp, (.slice ra nR rc), (.slice sa nS sc), .int .i64 c.unit, .int .i64 c.accel, .int .i64 c.speed, .int .i64 c.turn, .int .i64 c.hoist, .int .i64 c.queue, .int .i64 c.resend, .int .i64 c.budget, .bool c.back] (.slice va vl vq) zs x60) := HN18.out.go (by rw [hx60]; exact (Below.refl _ _).alloc (Nat.le_refl _) _)
                  have HXA : Hid (x60 = y0.alloc (.cells #[.int .i64 (x : Int), .int .i64 (y : Int), (.slice a n cap)] 59)) := hx60
                  refine value_in hK60 (by kernel_rfl) (.slice (some ⟨y0.heap.size, 0, none⟩) 1 1) x60 (by rw [hx60]; go_simp; try rfl) hS60 ?_
                  simp only [Act.put, List.setIfInBounds_toArray, List.set_cons_zero, List.set_cons_succ]
                  refine wpAnyH_ready (rs := [4]) (by kernel_rfl) (by simp) (AllReadyH.cons ((nth_eq _ 4).trans rfl) ?_ AllReadyH.nil)
                  intro K61 hK61
                  refine value_in hK61 (by kernel_rfl) (.slice va vl vq) x60 (by clear hx60; have zz : x60.cell? ⟨s, 16, none⟩ = some (.slice va vl vq) := (by first | exact HNa.out.c16 | exact HN18.out.c16); go_simp; try rfl) hS60 ?_
                  simp only [Act.put, List.setIfInBounds_toArray, List.set_cons_zero, List.set_cons_succ]
                  refine wpAnyH_ready (rs := [7]) (by kernel_rfl) (by simp) (AllReadyH.cons ((nth_eq _ 7).trans rfl) ?_ AllReadyH.nil)
                  intro K62 hK62
                  obtain ⟨v9, z62, hrun9, c9, f9, kp9, ⟨ta, tn, tc, rfl⟩, N9⟩ := HN18.out.push ((x : Int), (y : Int)) a n cap _ HO18.out HS18.out HM18.out 24
                  have hrun9 : (Builtin.append_ #[24, 24] 24 #[(.slice va vl vq), .slice (some ⟨y0.heap.size, 0, none⟩) 1 1]).run Try.prog x60 = .ok (.slice ta tn tc) z62 := by rw [HXA.out]; exact hrun9
                  have HN9 : Hid (Nw w.heap.size B cb s lb nR w #[.int .i64 c.W, .int .i64 c.H, .int .i64 c.height, vb, vp, (.slice ra nR rc), (.slice sa nS sc), .int .i64 c.unit, .int .i64 c.accel, .int .i64 c.speed, .int .i64 c.turn, .int .i64 c.hoist, .int .i64 c.queue, .int .i64 c.resend, .int .i64 c.budget, .bool c.back] (.slice ta tn tc) (zs ++ [((((x : Int), (y : Int)), a, n, cap), placed c.stacks ((x : Int), (y : Int)))]) (z62.setCell ⟨s, 16, none⟩ (.slice ta tn tc))) := N9
                  have hS62 : z62.heap[k8]? = some (.cells #[.int .i64 (x : Int), .int .i64 (y : Int), (.slice a n cap)] 59 (0, 0)) := (kp9 k8 (lt_of_heap HSY.out) HVK.out).trans HSY.out
                  refine value_in hK62 (by kernel_rfl) (.slice ta tn tc) z62 (run_append_op _ _ rfl _ _ _ rfl rfl hrun9) hS62 ?_
                  clear N9 hrun9
                  simp only [Act.put, List.setIfInBounds_toArray, List.set_cons_zero, List.set_cons_succ]
                  refine take_held 8 hS62 rfl (by kernel_rfl) (by kernel_rfl) (by kernel_rfl) (fun _ _ _ h => h) (by kernel_rfl) (v := ?v5007) ?y5007 ?r5007
                  case y5007 => (intro u hu; go_simp; try rfl)
                  simp only [Act.put, List.setIfInBounds_toArray, List.set_cons_zero, List.set_cons_succ]
                  refine take_held 9 hS62 rfl (by kernel_rfl) (by kernel_rfl) (by kernel_rfl) (fun _ _ _ h => h) (by kernel_rfl) (v := ?v5008) ?y5008 ?r5008
                  case y5008 => (intro u hu; go_simp; try rfl)
                  simp only [Act.put, List.setIfInBounds_toArray, List.set_cons_zero, List.set_cons_succ]
                  refine wpAnyH_ready (rs := [10]) (by kernel_rfl) (by simp) (AllReadyH.cons ((nth_eq _ 10).trans rfl) ?_ AllReadyH.nil)
                  intro K63 hK63
                  obtain ⟨x63, hx63⟩ : ∃ zw, zw = z62.setCell ⟨s, 16, none⟩ (.slice ta tn tc) := ⟨_, rfl⟩
                  have hS63 := (show x63.heap[k8]? = some (.cells #[.int .i64 (x : Int), .int .i64 (y : Int), (.slice a n cap)] 59 (0, 0)) by rw [hx63, heap_setCell_other _ _ _ _ HKS.out]; exact hS62)
                  refine skip_in hK63 (by kernel_rfl) x63 (by rw [hx63]; have zc := c9; have zf := f9; go_simp; try rfl) hS63 ?_
                  simp only [Act.put, List.setIfInBounds_toArray, List.set_cons_zero, List.set_cons_succ]
                  refine done_held (by kernel_rfl) ?_ _
                  have HNn : Hid (Nw w.heap.size B cb s lb nR w #[.int .i64 c.W, .int .i64 c.H, .int .i64 c.height, vb, vp, (.slice ra nR rc), (.slice sa nS sc), .int .i64 c.unit, .int .i64 c.accel, .int .i64 c.speed, .int .i64 c.turn, .int .i64 c.hoist, .int .i64 c.queue, .int .i64 c.resend, .int .i64 c.budget, .bool c.back] (.slice ta tn tc) (zs ++ [((((x : Int), (y : Int)), a, n, cap), placed c.stacks ((x : Int), (y : Int)))]) x63) := by rw [hx63]; exact HN9.out
                  have HZ9 : Hid ((zs ++ [((((x : Int), (y : Int)), a, n, cap), placed c.stacks ((x : Int), (y : Int)))]).map (fun z => (z.1.1, z.2)) = pilesR c (y * WN + (x + 1))) := by
                    show (zs ++ [((((x : Int), (y : Int)), a, n, cap), placed c.stacks ((x : Int), (y : Int)))]).map (fun z => (z.1.1, z.2)) = pilesR c ((y * WN + x) + 1)
                    have e : cellAt c.W (y * WN + x) = ((x : Int), (y : Int)) := by rw [HWH.out.1, cellAt_row HXL.out]
                    rw [pilesR_yes (by rw [e]; exact HOP.out), e, List.map_append, HZS.out]
                    rfl
                  clear hS63 hx63 HN9
                  go_wp2_with fail
                  go_roundw
                  case rel => exact ⟨x + 1, ta, tn, tc, _, by go_num, by omega, HNn, HZ9⟩
                  case measure => simp [intOf]; omega
          · rw [decide_eq_false ho] at cO
            go_wp2_with (first
              | (have X2 := HN4; refine wpList_load_row rfl 26 (.tmp 1) rfl cb rfl 26 #[.int .i64 c.W, .int .i64 c.H, .int .i64 c.height, vb, vp, (.slice ra nR rc), (.slice sa nS sc), .int .i64 c.unit, .int .i64 c.accel, .int .i64 c.speed, .int .i64 c.turn, .int .i64 c.hoist, .int .i64 c.queue, .int .i64 c.resend, .int .i64 c.budget, .bool c.back] (0, 0) _ HN4.out.bx Try.underlying26 rfl info_conf ?_)
              | (have X2 := HP4; refine wpList_load_row rfl 39 (.tmp 7) rfl p7 rfl 39 #[.int .i64 (x : Int), .int .i64 (y : Int)] (0, 0) _ HP4.out Try.underlying39 rfl infoCell2 ?_)
              | (go_at_call 41; refine cO.mono ?_; rintro e w5 ⟨r5, rfl, rfl, b5⟩; have HP5 : Hid (w5.heap[p7]? = some (.cells #[.int .i64 (x : Int), .int .i64 (y : Int)] 39 (0, 0))) := (b5.block _ (lt_of_heap HP4.out)).trans HP4.out))
            have HN5 : Hid (Nw w.heap.size B cb s lb nR w #[.int .i64 c.W, .int .i64 c.H, .int .i64 c.height, vb, vp, (.slice ra nR rc), (.slice sa nS sc), .int .i64 c.unit, .int .i64 c.accel, .int .i64 c.speed, .int .i64 c.turn, .int .i64 c.hoist, .int .i64 c.queue, .int .i64 c.resend, .int .i64 c.budget, .bool c.back] (.slice va vl vq) zs w5) := HN4.out.go b5
            have HZ9 : Hid (zs.map (fun z => (z.1.1, z.2)) = pilesR c (y * WN + (x + 1))) := by
              show zs.map (fun z => (z.1.1, z.2)) = pilesR c ((y * WN + x) + 1)
              rw [pilesR_no (by rw [HWH.out.1, cellAt_row hxl]; exact ho)]
              exact HZS.out
            go_roundw
            case rel => exact ⟨x + 1, va, vl, vq, zs, by go_num, by omega, HN5, HZ9⟩
            case measure => simp [intOf]; omega
        · obtain rfl : WN = x := by omega
          have h4 : ¬ ((WN : Int) < (WN : Int)) := by omega
          have HZ9 : Hid (zs.map (fun z => (z.1.1, z.2)) = pilesR c ((y + 1) * WN)) := by
            show zs.map (fun z => (z.1.1, z.2)) = pilesR c ((y + 1) * WN)
            rw [Nat.succ_mul]
            exact HZS.out
          go_wp2_with fail
          go_roundw
          case rel => exact ⟨y + 1, va, vl, vq, zs, by go_num, by omega, HNx, HZ9⟩
          case measure => simp [intOf]; omega
    · obtain rfl : HN = y := by omega
      have h3 : ¬ ((HN : Int) < (HN : Int)) := by omega
      go_wp2_with fail
      have hlen : zs.length ≤ 256 := by
        have e := congrArg List.length HZS.out
        rw [List.length_map] at e
        have := pilesR_len c (HN * WN)
        have : HN * WN ≤ 16 * 16 := Nat.mul_le_mul (by omega) (by omega)
        omega
      obtain ⟨K, e1, e2, e3, hR, hb⟩ := HNy.out.done HNR.out hlen (fun z hz => by
        have hm : (z.1.1, z.2) ∈ zs.map (fun z => (z.1.1, z.2)) := List.mem_map.2 ⟨z, hz, rfl⟩
        rw [HZS.out] at hm
        rw [show z.2 = placed c.stacks z.1.1 from pilesR_in hm]
        exact H8.out _)
      refine bodyPost_ret (v := .tuple #[.pointer (some ⟨s, 0, none⟩), .bool true]) (by simp [results, Try.results11, go_sem]) rfl ⟨K, by rw [e1], (.slice va vl vq), zs.map pz, hR, e3, hb, ?_, HNy.out.bel⟩
      rw [List.map_map, Nat.mul_comm]
      exact HZS.out
end Go.Proofs.Ytabbdclpjghdbaa.Stk
