/-
  New: where all lies.
-/
import Derived.Test.YtabbdclpjghdbaaStkOCopy
namespace Go.Proofs.Ytabbdclpjghdbaa.Stk
set_option linter.unusedVariables false
set_option linter.unusedSimpArgs false
open Go Go.RowKit Go.Shelf Go.Proofs Go.Proofs.Ytabbdclpjghdbaa.Grid
attribute [local go_sem] Oper.semAt_some

set_option maxRecDepth 100000 in
set_option maxHeartbeats 4000000 in
theorem new_own_any {F : Nat → Prop} {c : Conf} {v1 v2 v3 v4 : Value} {w : World} (hA : ConfAt F c v1 v2 v3 v4 w) (hF : ∀ b, F b → b < w.heap.size) (l1 : c.blocked.length ≤ 8796093022208) (l2 : c.ports.length ≤ 8796093022208) (l3 : c.robots.length ≤ 5864062014805) (l4 : c.stacks.length ≤ 3518437208880) (l5 : ∀ s ∈ c.stacks, s.2.length ≤ 17592186044416) {G : GS} (hN : newP c = some G) : Calls Try.prog 7 #[.agg #[.int .i64 c.W, .int .i64 c.H, .int .i64 c.height, v1, v2, v3, v4, .int .i64 c.unit, .int .i64 c.accel, .int .i64 c.speed, .int .i64 c.turn, .int .i64 c.hoist, .int .i64 c.queue, .int .i64 c.resend, .int .i64 c.budget, .bool c.back]] w fun e w' => ∃ K ps, e = .returned (.tuple #[.pointer (some ⟨Sk.s K, 0, none⟩), .int .i64 0]) ∧ StAt K c G.uses ps (List.replicate c.robots.length 0) w' ∧ w.heap.size ≤ K.b0 ∧ (w.heap.size ≤ K.g ∧ w.heap.size ≤ K.u ∧ ∀ k, K.vp.ownBlock = some k → w.heap.size ≤ k) ∧
    (∀ (i : Nat) (p : Pile), ps[i]? = some p → p.2.2 = placed c.stacks p.1) ∧ (ps.flatMap (·.2.2)).Perm (c.stacks.flatMap (·.2)) ∧ Below w.heap.size w w' := by
  obtain ⟨a3, cap3, hv3, _⟩ := hA.r.form
  obtain ⟨a4, cap4, hv4, _⟩ := hA.s.form
  subst hv3 hv4
  obtain ⟨hmay, _, _, _, _⟩ := new_some hN
  have hsd := limited_sides hmay.1
  have hr8 : c.robots.length ≤ 8 := hmay.2.2.1
  have hp8 : c.ports.length ≤ 8 := hmay.2.1
  have HST : Hid (∀ s ∈ c.stacks, stackedR c s.1 ∧ (s.2.length : Int) ≤ c.height) := hmay.2.2.2.2.2.2.2.2.2.1
  have HND : Hid ((c.stacks.map Prod.fst).Nodup) := hmay.2.2.2.2.2.2.2.2.2.2.1
  clear hmay
  have hSu := fun u (b : Below w.heap.size w u) => hA.s.go heldStack hF b
  have Q0 : One w #[.int .i64 c.W, .int .i64 c.H, .int .i64 c.height, v1, v2, .slice a3 c.robots.length cap3, .slice a4 c.stacks.length cap4, .int .i64 c.unit, .int .i64 c.accel, .int .i64 c.speed, .int .i64 c.turn, .int .i64 c.hoist, .int .i64 c.queue, .int .i64 c.resend, .int .i64 c.budget, .bool c.back] (w.alloc (.cells #[.int .i64 c.W, .int .i64 c.H, .int .i64 c.height, v1, v2, .slice a3 c.robots.length cap3, .slice a4 c.stacks.length cap4, .int .i64 c.unit, .int .i64 c.accel, .int .i64 c.speed, .int .i64 c.turn, .int .i64 c.hoist, .int .i64 c.queue, .int .i64 c.resend, .int .i64 c.budget, .bool c.back] 26)) := ⟨below_new (Below.refl _ _) _, heap_alloc_new w _⟩
  have cG := new_yes (hA.go hF Q0.below) (fun b hb => Nat.lt_of_lt_of_le (hF b hb) Q0.below.size) l1 l2 l3 l4 hN
  clear hA
  obtain ⟨N, hNN⟩ : ∃ N : Nat, c.W * c.H = (N : Int) := ⟨(c.W * c.H).toNat, by have := Int.mul_nonneg (show 0 ≤ c.W by omega) (show 0 ≤ c.H by omega); omega⟩
  have hN256 : N ≤ 256 := by
    have : c.W * c.H ≤ 16 * c.H := Int.mul_le_mul_of_nonneg_right (by omega) (by omega)
    omega
  have HNN : Hid (c.W * c.H = (N : Int)) := hNN
  have HWR : Hid (IntKind.i64.wrap (c.W * c.H) = (N : Int)) := by show IntKind.i64.wrap (c.W * c.H) = (N : Int); rw [hNN, IntKind.wrap_i64]; omega
  obtain ⟨nR, hnR⟩ : ∃ n, c.robots.length = n := ⟨_, rfl⟩
  obtain ⟨nS, hnS⟩ : ∃ n, c.stacks.length = n := ⟨_, rfl⟩
  have HnR : Hid (c.robots.length = nR) := hnR
  have HnS : Hid (c.stacks.length = nS) := hnS
  rw [hnR] at hr8 Q0 cG l3
  rw [hnS] at Q0 cG l4 hSu
  rw [hnR, hnS]
  clear hnR hnS hNN
  go_enter Try.func7, Try.ntmps7
  go_wp2_with (first
    | (refine wpList_load_row rfl 26 (.tmp 1) rfl w.heap.size rfl 26 #[.int .i64 c.W, .int .i64 c.H, .int .i64 c.height, v1, v2, .slice a3 nR cap3, .slice a4 nS cap4, .int .i64 c.unit, .int .i64 c.accel, .int .i64 c.speed, .int .i64 c.turn, .int .i64 c.hoist, .int .i64 c.queue, .int .i64 c.resend, .int .i64 c.budget, .bool c.back] (0, 0) _ Q0.a Try.underlying26 rfl info_conf ?_)
    | (go_at_call 30; refine cG.mono ?_; rintro e w2 ⟨g, u0, v', rfl, G2, hg1, hg2, own2, b2⟩; have Q2 := Q0.go b2))
  have P2 : ListAt 2 cellEl (fun b => b < w2.heap.size) c.ports v' w2 := (list_of_own kindCell.len own2).mono heldCell fun b hb => hb.2
  have b3 : Below w2.heap.size w2 w2.drew := (Below.refl _ _).drew
  have HGV : Hid (w.heap.size ≤ g ∧ w.heap.size ≤ u0 ∧ ∀ k, v'.ownBlock = some k → w.heap.size ≤ k) := by have hz := Q0.below.size; exact ⟨by omega, by omega, fun k hk => by have := (own2.lt k hk).1; omega⟩
  have Q3 := Q2.go b3
  have G3 := G2.go b3
  have P3 : ListAt 2 cellEl (fun b => b < w2.drew.heap.size) c.ports v' w2.drew := P2.go heldCell (fun b hb => hb) b3
  have hgl := G3.ltg
  have hul := G3.ltu
  have hbx : w.heap.size < w2.drew.heap.size := lt_of_heap Q3.a
  clear Q2 G2 P2 own2 b2 b3 hg1 hg2 cG Q0
  obtain ⟨wd, hwd⟩ : ∃ wd, wd = w2.drew := ⟨_, rfl⟩
  rw [← hwd] at Q3 G3 P3 hgl hul hbx
  obtain ⟨IH, hIH⟩ : ∃ I : World → Prop, I = Below wd.heap.size wd := ⟨_, rfl⟩
  have kI : ∀ u, IH u → Below wd.heap.size wd u := fun u hu => by rw [hIH] at hu; exact hu
  have hS : IH w2.drew := by rw [hIH, ← hwd]; exact Below.refl _ _
  have eA := Q3.a
  have z0 : ∀ u, IH u → u.cell? ⟨w.heap.size, 0, none⟩ = some (.int .i64 c.W) := fun u hu => cell_below (cell_of eA 0) (kI u hu)
  have z1 : ∀ u, IH u → u.cell? ⟨w.heap.size, 1, none⟩ = some (.int .i64 c.H) := fun u hu => cell_below (cell_of eA 1) (kI u hu)
  have z2 : ∀ u, IH u → u.cell? ⟨w.heap.size, 2, none⟩ = some (.int .i64 c.height) := fun u hu => cell_below (cell_of eA 2) (kI u hu)
  have z5 : ∀ u, IH u → u.cell? ⟨w.heap.size, 5, none⟩ = some (.slice a3 nR cap3) := fun u hu => cell_below (cell_of eA 5) (kI u hu)
  obtain ⟨n0, hn0⟩ : ∃ n, wd.heap.size = n := ⟨_, rfl⟩
  refine start_held (S := IH) 16 rfl (by kernel_rfl) (hS) ?_
  simp only [Array.replicate_succ, Array.replicate_zero, List.push_toArray, List.nil_append, List.cons_append]
  rw [← hwd] at hS ⊢
  clear hwd
  refine take_held 0 (by assumption) rfl (by kernel_rfl) (by kernel_rfl) (by kernel_rfl) (fun _ _ _ h => h) (by kernel_rfl) (v := ?v0) ?y0 ?r0
  case y0 => (intro u hu; go_simp; try rfl)
  simp only [Act.put, List.setIfInBounds_toArray, List.set_cons_zero, List.set_cons_succ]
  refine take_held 1 (by assumption) rfl (by kernel_rfl) (by kernel_rfl) (by kernel_rfl) (fun _ _ _ h => h) (by kernel_rfl) (v := ?v1) ?y1 ?r1
  case y1 => (intro u hu; go_simp; try rfl)
  simp only [Act.put, List.setIfInBounds_toArray, List.set_cons_zero, List.set_cons_succ]
  refine take_held 2 (by assumption) rfl (by kernel_rfl) (by kernel_rfl) (by kernel_rfl) (fun _ _ _ h => h) (by kernel_rfl) (v := ?v2) ?y2 ?r2
  case y2 => (intro u hu; have zz0 := z2 u hu; go_simp; try rfl)
  simp only [Act.put, List.setIfInBounds_toArray, List.set_cons_zero, List.set_cons_succ]
  refine take_held 3 (by assumption) rfl (by kernel_rfl) (by kernel_rfl) (by kernel_rfl) (fun _ _ _ h => h) (by kernel_rfl) (v := ?v3) ?y3 ?r3
  case y3 => (intro u hu; go_simp; try rfl)
  simp only [Act.put, List.setIfInBounds_toArray, List.set_cons_zero, List.set_cons_succ]
  refine take_held 4 (by assumption) rfl (by kernel_rfl) (by kernel_rfl) (by kernel_rfl) (fun _ _ _ h => h) (by kernel_rfl) (v := ?v4) ?y4 ?r4
  case y4 => (intro u hu; have zz0 := z0 u hu; go_simp; try rfl)
  simp only [Act.put, List.setIfInBounds_toArray, List.set_cons_zero, List.set_cons_succ]
  refine take_held 5 (by assumption) rfl (by kernel_rfl) (by kernel_rfl) (by kernel_rfl) (fun _ _ _ h => h) (by kernel_rfl) (v := ?v5) ?y5 ?r5
  case y5 => (intro u hu; go_simp; try rfl)
  simp only [Act.put, List.setIfInBounds_toArray, List.set_cons_zero, List.set_cons_succ]
  refine take_held 6 (by assumption) rfl (by kernel_rfl) (by kernel_rfl) (by kernel_rfl) (fun _ _ _ h => h) (by kernel_rfl) (v := ?v6) ?y6 ?r6
  case y6 => (intro u hu; have zz0 := z1 u hu; go_simp; try rfl)
  simp only [Act.put, List.setIfInBounds_toArray, List.set_cons_zero, List.set_cons_succ]
  refine take_held 7 (by assumption) rfl (by kernel_rfl) (by kernel_rfl) (by kernel_rfl) (fun _ _ _ h => h) (by kernel_rfl) (v := .int .i64 (N : Int)) ?y7 ?r7
  case y7 => (intro u hu; have zz0 := z0 u hu; have zz1 := z1 u hu; go_simp; rw [HWR.out])
  simp only [Act.put, List.setIfInBounds_toArray, List.set_cons_zero, List.set_cons_succ]
  refine take_held 9 (by assumption) rfl (by kernel_rfl) (by kernel_rfl) (by kernel_rfl) (fun _ _ _ h => h) (by kernel_rfl) (v := ?v8) ?y8 ?r8
  case y8 => (intro u hu; go_simp; try rfl)
  simp only [Act.put, List.setIfInBounds_toArray, List.set_cons_zero, List.set_cons_succ]
  refine take_held 10 (by assumption) rfl (by kernel_rfl) (by kernel_rfl) (by kernel_rfl) (fun _ _ _ h => h) (by kernel_rfl) (v := ?v9) ?y9 ?r9
  case y9 => (intro u hu; have zz0 := z5 u hu; go_simp; try rfl)
  simp only [Act.put, List.setIfInBounds_toArray, List.set_cons_zero, List.set_cons_succ]
  refine take_held 11 (by assumption) rfl (by kernel_rfl) (by kernel_rfl) (by kernel_rfl) (fun _ _ _ h => h) (by kernel_rfl) (v := ?v10) ?y10 ?r10
  case y10 => (intro u hu; go_simp; try rfl)
  simp only [Act.put, List.setIfInBounds_toArray, List.set_cons_zero, List.set_cons_succ]
  refine wpAnyH_ready (rs := [8, 12]) (by kernel_rfl) (by simp) (AllReadyH.cons ((nth_eq _ 8).trans rfl) ?_ (AllReadyH.cons ((nth_eq _ 12).trans rfl) ?_ AllReadyH.nil))
  · intro K' hK
    have hmk8 := run_piles N (by omega) wd
    rw [show wd.heap.size = n0 by simp [hn0]] at hmk8
    have hB8 : IH (wd.alloc (.cells (rowL pileL (List.replicate N (bare (0, 0)))).toArray 59)) := by rw [hIH]; exact below_new (kI _ (by assumption)) _
    refine value_in hK (by kernel_rfl) (.slice (some ⟨n0, 0, none⟩) N N) (wd.alloc (.cells (rowL pileL (List.replicate N (bare (0, 0)))).toArray 59)) (run_made_op 24 (.tmp 26) (.tmp 26) rfl _ rfl rfl hmk8) (by assumption) ?_
    simp only [Act.put, List.setIfInBounds_toArray, List.set_cons_zero, List.set_cons_succ]
    refine wpAnyH_ready (rs := [12]) (by kernel_rfl) (by simp) (AllReadyH.cons ((nth_eq _ 12).trans rfl) ?_ AllReadyH.nil)
    intro K' hK
    have hmk12 := run_loads nR (by omega) (wd.alloc (.cells (rowL pileL (List.replicate N (bare (0, 0)))).toArray 59))
    rw [show (wd.alloc (.cells (rowL pileL (List.replicate N (bare (0, 0)))).toArray 59)).heap.size = n0 + 1 by simp [hn0]] at hmk12
    have hB12 : IH ((wd.alloc (.cells (rowL pileL (List.replicate N (bare (0, 0)))).toArray 59)).alloc (.cells ((List.replicate nR (0 : Int)).map (Value.int .i64)).toArray 3)) := by rw [hIH]; exact below_new (kI _ (by assumption)) _
    refine value_in hK (by kernel_rfl) (.slice (some ⟨n0 + 1, 0, none⟩) nR nR) ((wd.alloc (.cells (rowL pileL (List.replicate N (bare (0, 0)))).toArray 59)).alloc (.cells ((List.replicate nR (0 : Int)).map (Value.int .i64)).toArray 3)) (run_made_op 48 (.tmp 30) (.tmp 30) rfl _ rfl rfl hmk12) (by assumption) ?_
    simp only [Act.put, List.setIfInBounds_toArray, List.set_cons_zero, List.set_cons_succ]
    refine take_held 13 (by assumption) rfl (by kernel_rfl) (by kernel_rfl) (by kernel_rfl) (fun _ _ _ h => h) (by kernel_rfl) (v := ?v11) ?y11 ?r11
    case y11 => (intro u hu; go_simp; try rfl)
    simp only [Act.put, List.setIfInBounds_toArray, List.set_cons_zero, List.set_cons_succ]
    refine wpAnyH_ready (rs := [14]) (by kernel_rfl) (by simp) (AllReadyH.cons ((nth_eq _ 14).trans rfl) ?_ AllReadyH.nil)
    intro K' hK
    have hB14 : IH (((wd.alloc (.cells (rowL pileL (List.replicate N (bare (0, 0)))).toArray 59)).alloc (.cells ((List.replicate nR (0 : Int)).map (Value.int .i64)).toArray 3)).alloc (.cells #[.pointer (some ⟨g, 0, none⟩), .int .i64 c.height, .slice (some ⟨n0, 0, none⟩) N N, .slice (some ⟨n0 + 1, 0, none⟩) nR nR] 65)) := by rw [hIH]; exact below_new (kI _ (by assumption)) _
    refine value_in hK (by kernel_rfl) (.pointer (some ⟨n0 + 2, 0, none⟩)) (((wd.alloc (.cells (rowL pileL (List.replicate N (bare (0, 0)))).toArray 59)).alloc (.cells ((List.replicate nR (0 : Int)).map (Value.int .i64)).toArray 3)).alloc (.cells #[.pointer (some ⟨g, 0, none⟩), .int .i64 c.height, .slice (some ⟨n0, 0, none⟩) N N, .slice (some ⟨n0 + 1, 0, none⟩) nR nR] 65)) (by go_simp; try simp [hn0]) (by assumption) ?_
    simp only [Act.put, List.setIfInBounds_toArray, List.set_cons_zero, List.set_cons_succ]
    refine take_held 15 (by assumption) rfl (by kernel_rfl) (by kernel_rfl) (by kernel_rfl) (fun _ _ _ h => h) (by kernel_rfl) (v := ?v12) ?y12 ?r12
    case y12 => (intro u hu; go_simp; try rfl)
    simp only [Act.put, List.setIfInBounds_toArray, List.set_cons_zero, List.set_cons_succ]
    refine done_held (by kernel_rfl) ?_ _
    have b5 : Below wd.heap.size wd (((wd.alloc (.cells (rowL pileL (List.replicate N (bare (0, 0)))).toArray 59)).alloc (.cells ((List.replicate nR (0 : Int)).map (Value.int .i64)).toArray 3)).alloc (.cells #[.pointer (some ⟨g, 0, none⟩), .int .i64 c.height, .slice (some ⟨n0, 0, none⟩) N N, .slice (some ⟨n0 + 1, 0, none⟩) nR nR] 65)) := kI _ hB14
    have Q5 := Q3.go b5
    have hep : (((wd.alloc (.cells (rowL pileL (List.replicate N (bare (0, 0)))).toArray 59)).alloc (.cells ((List.replicate nR (0 : Int)).map (Value.int .i64)).toArray 3)).alloc (.cells #[.pointer (some ⟨g, 0, none⟩), .int .i64 c.height, .slice (some ⟨n0, 0, none⟩) N N, .slice (some ⟨n0 + 1, 0, none⟩) nR nR] 65)).heap[n0]? = some (.cells (rowL pileL (List.replicate N (bare (0, 0)))).toArray 59 (0, 0)) := (alloc_old _ _ _ (by simp; omega)).trans ((alloc_old _ _ _ (by simp; omega)).trans (by have := heap_alloc_new wd (.cells (rowL pileL (List.replicate N (bare (0, 0)))).toArray 59); rw [hn0] at this; exact this))
    have hel : (((wd.alloc (.cells (rowL pileL (List.replicate N (bare (0, 0)))).toArray 59)).alloc (.cells ((List.replicate nR (0 : Int)).map (Value.int .i64)).toArray 3)).alloc (.cells #[.pointer (some ⟨g, 0, none⟩), .int .i64 c.height, .slice (some ⟨n0, 0, none⟩) N N, .slice (some ⟨n0 + 1, 0, none⟩) nR nR] 65)).heap[n0 + 1]? = some (.cells ((List.replicate nR (0 : Int)).map (Value.int .i64)).toArray 3 (0, 0)) := (alloc_old _ _ _ (by simp; omega)).trans (by have := heap_alloc_new (wd.alloc (.cells (rowL pileL (List.replicate N (bare (0, 0)))).toArray 59)) (.cells ((List.replicate nR (0 : Int)).map (Value.int .i64)).toArray 3); rw [show (wd.alloc (.cells (rowL pileL (List.replicate N (bare (0, 0)))).toArray 59)).heap.size = n0 + 1 by simp [hn0]] at this; exact this)
    have R5 : Pr (⟨n0 + 2, g, u0, n0, n0 + 1, n0, n0 + 3, v'⟩ : Sk) c G.uses (xsK c.W N 0) (List.replicate nR 0) (((wd.alloc (.cells (rowL pileL (List.replicate N (bare (0, 0)))).toArray 59)).alloc (.cells ((List.replicate nR (0 : Int)).map (Value.int .i64)).toArray 3)).alloc (.cells #[.pointer (some ⟨g, 0, none⟩), .int .i64 c.height, .slice (some ⟨n0, 0, none⟩) N N, .slice (some ⟨n0 + 1, 0, none⟩) nR nR] 65)) := by
      rw [xsK_zero]
      refine ⟨?_, G3.go b5, (P3.go heldCell (fun b hb => hb) b5).mono heldCell (fun b hb => by simp only; omega), ?_, ?_, by rw [List.length_replicate, HNN.out], by rw [List.length_replicate]; exact hr8, hp8, by simp only; omega, by simp only; omega, by simp only; omega, by simp only; omega, by simp only; omega, by simp only; omega, by simp only; omega, by simp only; omega, by simp only; omega, by simp only; omega, by simp only; omega, by omega, by simp [hn0]⟩
      · rw [List.length_replicate, List.length_replicate]
        have := heap_alloc_new (((wd.alloc (.cells (rowL pileL (List.replicate N (bare (0, 0)))).toArray 59)).alloc (.cells ((List.replicate nR (0 : Int)).map (Value.int .i64)).toArray 3))) (.cells #[.pointer (some ⟨g, 0, none⟩), .int .i64 c.height, .slice (some ⟨n0, 0, none⟩) N N, .slice (some ⟨n0 + 1, 0, none⟩) nR nR] 65)
        rw [show (((wd.alloc (.cells (rowL pileL (List.replicate N (bare (0, 0)))).toArray 59)).alloc (.cells ((List.replicate nR (0 : Int)).map (Value.int .i64)).toArray 3))).heap.size = n0 + 2 by simp [hn0]] at this
        exact this
      · rw [show (List.replicate N ((0 : Int), (0 : Int))).map bare = List.replicate N (bare (0, 0)) from List.map_replicate]
        exact hep
      · exact hel
    clear hep hel
    generalize ((wd.alloc (.cells (rowL pileL (List.replicate N (bare (0, 0)))).toArray 59)).alloc (.cells ((List.replicate nR (0 : Int)).map (Value.int .i64)).toArray 3)).alloc (.cells #[.pointer (some ⟨g, 0, none⟩), .int .i64 c.height, .slice (some ⟨n0, 0, none⟩) N N, .slice (some ⟨n0 + 1, 0, none⟩) nR nR] 65) = w5 at *
    clear hB8 hB12 hB14 hmk8 hmk12 b5 Q3 G3 P3 eA z0 z1 z2 z5 hgl hul hS
    have HQ5 : Hid (One w #[.int .i64 c.W, .int .i64 c.H, .int .i64 c.height, v1, v2, .slice a3 nR cap3, .slice a4 nS cap4, .int .i64 c.unit, .int .i64 c.accel, .int .i64 c.speed, .int .i64 c.turn, .int .i64 c.hoist, .int .i64 c.queue, .int .i64 c.resend, .int .i64 c.budget, .bool c.back] w5) := Q5
    have HR5 : Hid (Pr (⟨n0 + 2, g, u0, n0, n0 + 1, n0, n0 + 3, v'⟩ : Sk) c G.uses (xsK c.W N 0) (List.replicate nR 0) w5) := R5
    have y2 : w5.cell? ⟨n0 + 2, 2, none⟩ = some (.slice (some ⟨n0, 0, none⟩) N N) := by have := R5.c2; rw [xsK_len] at this; exact this
    clear Q5 R5
    go_wp2
    clear y2
    go_loopw [39] (fun i wq => ∃ k : Nat, k ≤ N ∧ i = .int .i64 k ∧ Hid (One w #[.int .i64 c.W, .int .i64 c.H, .int .i64 c.height, v1, v2, .slice a3 nR cap3, .slice a4 nS cap4, .int .i64 c.unit, .int .i64 c.accel, .int .i64 c.speed, .int .i64 c.turn, .int .i64 c.hoist, .int .i64 c.queue, .int .i64 c.resend, .int .i64 c.budget, .bool c.back] wq) ∧ Hid (Pr (⟨n0 + 2, g, u0, n0, n0 + 1, n0, n0 + 3, v'⟩ : Sk) c G.uses (xsK c.W N k) (List.replicate nR 0) wq)) (fun i _ => N - (intOf i).toNat)
    case atStart => exact ⟨0, Nat.zero_le _, rfl, HQ5, HR5⟩
    case round =>
      clear HQ5 HR5
      obtain ⟨k, hk, rfl, HQ, HR⟩ := hrel
      by_cases hlt : k < N
      · have hw0 : (c.W == 0) = false := by rw [beq_eq_false_iff_ne]; omega
        have hw1 : ¬ c.W = 0 := by omega
        have e1 : (k : Int).tmod c.W = (cellAt c.W k).1 := by unfold cellAt; rw [Int.tmod_eq_emod_of_nonneg (by omega)]
        have hdv : 0 ≤ (k : Int) / c.W ∧ (k : Int) / c.W ≤ k := ⟨Int.ediv_nonneg (by omega) (by omega), Int.ediv_le_self _ (by omega)⟩
        have e2 : IntKind.i64.wrap ((k : Int) / c.W) = (cellAt c.W k).2 := by unfold cellAt; rw [IntKind.wrap_i64]; simp only; omega
        have e3 : (k : Int).tdiv c.W = (k : Int) / c.W := Int.tdiv_eq_ediv_of_nonneg (by omega)
        have hbd := hdv
        go_wp2
        obtain ⟨IV, hIV⟩ : ∃ I : World → Prop, I = fun u => u.cell? ⟨n0 + 2, 2, none⟩ = some (.slice (some ⟨n0, 0, none⟩) N N) ∧ u.cell? ⟨w.heap.size, 0, none⟩ = some (.int .i64 c.W) := ⟨_, rfl⟩
        have q2 : ∀ u, IV u → u.cell? ⟨n0 + 2, 2, none⟩ = some (.slice (some ⟨n0, 0, none⟩) N N) := fun u hu => by rw [hIV] at hu; exact hu.1
        have q0 : ∀ u, IV u → u.cell? ⟨w.heap.size, 0, none⟩ = some (.int .i64 c.W) := fun u hu => by rw [hIV] at hu; exact hu.2
        have bd : Below wr.heap.size wr wr.drew := (Below.refl _ _).drew
        have RD := HR.out.go bd
        have QD := HQ.out.go bd
        have mkIV : ∀ (u : World) (j : Nat), Pr (⟨n0 + 2, g, u0, n0, n0 + 1, n0, n0 + 3, v'⟩ : Sk) c G.uses (xsK c.W N j) (List.replicate nR 0) u → One w #[.int .i64 c.W, .int .i64 c.H, .int .i64 c.height, v1, v2, .slice a3 nR cap3, .slice a4 nS cap4, .int .i64 c.unit, .int .i64 c.accel, .int .i64 c.speed, .int .i64 c.turn, .int .i64 c.hoist, .int .i64 c.queue, .int .i64 c.resend, .int .i64 c.budget, .bool c.back] u → IV u := fun u j r q => by
          rw [hIV]
          have r2 := r.c2
          rw [xsK_len] at r2
          exact ⟨r2, cell_of q.a 0⟩
        have hV : IV wr.drew := mkIV _ _ RD QD
        have kx : k < (xsK c.W N k).length := by rw [xsK_len]; exact hlt
        have R9 := RD.set kx (cellAt c.W k)
        rw [xsK_next c.W N k hlt] at R9
        have pil9 := RD.pil
        have Q9 : One w #[.int .i64 c.W, .int .i64 c.H, .int .i64 c.height, v1, v2, .slice a3 nR cap3, .slice a4 nS cap4, .int .i64 c.unit, .int .i64 c.accel, .int .i64 c.speed, .int .i64 c.turn, .int .i64 c.hoist, .int .i64 c.queue, .int .i64 c.resend, .int .i64 c.budget, .bool c.back] ((wr.drew.setCell ⟨n0, k * 3, none⟩ (.int .i64 (cellAt c.W k).1)).setCell ⟨n0, k * 3 + 1, none⟩ (.int .i64 (cellAt c.W k).2)) := ⟨below_set (below_set QD.below (by omega) _ _) (by omega) _ _, (heap_setCell_other _ _ _ _ (by simp; omega)).trans ((heap_setCell_other _ _ _ _ (by simp; omega)).trans QD.a)⟩
        have hV9 : IV ((wr.drew.setCell ⟨n0, k * 3, none⟩ (.int .i64 (cellAt c.W k).1)).setCell ⟨n0, k * 3 + 1, none⟩ (.int .i64 (cellAt c.W k).2)) := mkIV _ _ R9 Q9
        have HR9 : Hid (Pr (⟨n0 + 2, g, u0, n0, n0 + 1, n0, n0 + 3, v'⟩ : Sk) c G.uses (xsK c.W N (k + 1)) (List.replicate nR 0) ((wr.drew.setCell ⟨n0, k * 3, none⟩ (.int .i64 (cellAt c.W k).1)).setCell ⟨n0, k * 3 + 1, none⟩ (.int .i64 (cellAt c.W k).2))) := R9
        have HQ9 : Hid (One w #[.int .i64 c.W, .int .i64 c.H, .int .i64 c.height, v1, v2, .slice a3 nR cap3, .slice a4 nS cap4, .int .i64 c.unit, .int .i64 c.accel, .int .i64 c.speed, .int .i64 c.turn, .int .i64 c.hoist, .int .i64 c.queue, .int .i64 c.resend, .int .i64 c.budget, .bool c.back] ((wr.drew.setCell ⟨n0, k * 3, none⟩ (.int .i64 (cellAt c.W k).1)).setCell ⟨n0, k * 3 + 1, none⟩ (.int .i64 (cellAt c.W k).2))) := Q9
        have psz : k * 3 + 1 < (rowL pileL ((xsK c.W N k).map bare)).toArray.size := by rw [List.size_toArray, rowL_len pileL_len, List.length_map, xsK_len]; omega
        clear R9 Q9 RD QD bd
        generalize (cellAt c.W k).1 = cx at *
        generalize (cellAt c.W k).2 = cy at *
        refine start_held (S := IV) 17 rfl (by kernel_rfl) (hV) ?_
        simp only [Array.replicate_succ, Array.replicate_zero, List.push_toArray, List.nil_append, List.cons_append]
        refine take_held 0 (by assumption) rfl (by kernel_rfl) (by kernel_rfl) (by kernel_rfl) (fun _ _ _ h => h) (by kernel_rfl) (v := ?v13) ?y13 ?r13
        case y13 => (intro u hu; go_simp; try rfl)
        simp only [Act.put, List.setIfInBounds_toArray, List.set_cons_zero, List.set_cons_succ]
        refine take_held 1 (by assumption) rfl (by kernel_rfl) (by kernel_rfl) (by kernel_rfl) (fun _ _ _ h => h) (by kernel_rfl) (v := ?v14) ?y14 ?r14
        case y14 => (intro u hu; go_simp; try rfl)
        simp only [Act.put, List.setIfInBounds_toArray, List.set_cons_zero, List.set_cons_succ]
        refine take_held 2 (by assumption) rfl (by kernel_rfl) (by kernel_rfl) (by kernel_rfl) (fun _ _ _ h => h) (by kernel_rfl) (v := ?v15) ?y15 ?r15
        case y15 => (intro u hu; go_simp; try rfl)
        simp only [Act.put, List.setIfInBounds_toArray, List.set_cons_zero, List.set_cons_succ]
        refine take_held 3 (by assumption) rfl (by kernel_rfl) (by kernel_rfl) (by kernel_rfl) (fun _ _ _ h => h) (by kernel_rfl) (v := ?v16) ?y16 ?r16
        case y16 => (intro u hu; have zz0 := q2 u hu; go_simp; try rfl)
        simp only [Act.put, List.setIfInBounds_toArray, List.set_cons_zero, List.set_cons_succ]
        refine take_held 4 (by assumption) rfl (by kernel_rfl) (by kernel_rfl) (by kernel_rfl) (fun _ _ _ h => h) (by kernel_rfl) (v := ?v17) ?y17 ?r17
        case y17 => (intro u hu; go_simp; try rfl)
        simp only [Act.put, List.setIfInBounds_toArray, List.set_cons_zero, List.set_cons_succ]
        refine take_held 5 (by assumption) rfl (by kernel_rfl) (by kernel_rfl) (by kernel_rfl) (fun _ _ _ h => h) (by kernel_rfl) (v := ?v18) ?y18 ?r18
        case y18 => (intro u hu; go_simp; try rfl)
        simp only [Act.put, List.setIfInBounds_toArray, List.set_cons_zero, List.set_cons_succ]
        refine take_held 6 (by assumption) rfl (by kernel_rfl) (by kernel_rfl) (by kernel_rfl) (fun _ _ _ h => h) (by kernel_rfl) (v := ?v19) ?y19 ?r19
        case y19 => (intro u hu; go_simp; try rfl)
        simp only [Act.put, List.setIfInBounds_toArray, List.set_cons_zero, List.set_cons_succ]
        refine take_held 7 (by assumption) rfl (by kernel_rfl) (by kernel_rfl) (by kernel_rfl) (fun _ _ _ h => h) (by kernel_rfl) (v := ?v20) ?y20 ?r20
        case y20 => (intro u hu; have zz0 := q0 u hu; go_simp; try rfl)
        simp only [Act.put, List.setIfInBounds_toArray, List.set_cons_zero, List.set_cons_succ]
        refine take_held 8 (by assumption) rfl (by kernel_rfl) (by kernel_rfl) (by kernel_rfl) (fun _ _ _ h => h) (by kernel_rfl) (v := .int .i64 cx) ?y21 ?r21
        case y21 => (intro u hu; go_simp; try rw [if_neg hw1])
        simp only [Act.put, List.setIfInBounds_toArray, List.set_cons_zero, List.set_cons_succ]
        refine take_held 9 (by assumption) rfl (by kernel_rfl) (by kernel_rfl) (by kernel_rfl) (fun _ _ _ h => h) (by kernel_rfl) (v := ?v22) ?y22 ?r22
        case y22 => (intro u hu; go_simp; try rfl)
        simp only [Act.put, List.setIfInBounds_toArray, List.set_cons_zero, List.set_cons_succ]
        refine take_held 10 (by assumption) rfl (by kernel_rfl) (by kernel_rfl) (by kernel_rfl) (fun _ _ _ h => h) (by kernel_rfl) (v := ?v23) ?y23 ?r23
        case y23 => (intro u hu; go_simp; try rfl)
        simp only [Act.put, List.setIfInBounds_toArray, List.set_cons_zero, List.set_cons_succ]
        refine take_held 11 (by assumption) rfl (by kernel_rfl) (by kernel_rfl) (by kernel_rfl) (fun _ _ _ h => h) (by kernel_rfl) (v := ?v24) ?y24 ?r24
        case y24 => (intro u hu; have zz0 := q0 u hu; go_simp; try rfl)
        simp only [Act.put, List.setIfInBounds_toArray, List.set_cons_zero, List.set_cons_succ]
        refine take_held 12 (by assumption) rfl (by kernel_rfl) (by kernel_rfl) (by kernel_rfl) (fun _ _ _ h => h) (by kernel_rfl) (v := .int .i64 cy) ?y25 ?r25
        case y25 => (intro u hu; go_simp; try rw [if_neg hw1])
        simp only [Act.put, List.setIfInBounds_toArray, List.set_cons_zero, List.set_cons_succ]
        refine take_held 13 (by assumption) rfl (by kernel_rfl) (by kernel_rfl) (by kernel_rfl) (fun _ _ _ h => h) (by kernel_rfl) (v := ?v26) ?y26 ?r26
        case y26 => (intro u hu; go_simp; try rfl)
        simp only [Act.put, List.setIfInBounds_toArray, List.set_cons_zero, List.set_cons_succ]
        refine take_held 14 (by assumption) rfl (by kernel_rfl) (by kernel_rfl) (by kernel_rfl) (fun _ _ _ h => h) (by kernel_rfl) (v := ?v27) ?y27 ?r27
        case y27 => (intro u hu; go_simp; try rfl)
        simp only [Act.put, List.setIfInBounds_toArray, List.set_cons_zero, List.set_cons_succ]
        refine take_held 15 (by assumption) rfl (by kernel_rfl) (by kernel_rfl) (by kernel_rfl) (fun _ _ _ h => h) (by kernel_rfl) (v := ?v28) ?y28 ?r28
        case y28 => (intro u hu; go_simp; try rfl)
        simp only [Act.put, List.setIfInBounds_toArray, List.set_cons_zero, List.set_cons_succ]
        refine wpAnyH_ready (rs := [16]) (by kernel_rfl) (by simp) (AllReadyH.cons ((nth_eq _ 16).trans rfl) ?_ AllReadyH.nil)
        intro K' hK
        refine skip_in hK (by kernel_rfl) ((wr.drew.setCell ⟨n0, k * 3, none⟩ (.int .i64 cx)).setCell ⟨n0, k * 3 + 1, none⟩ (.int .i64 cy)) (run_store_cell _ _ rfl (n0) (k * 3) cx cy _ _ (by simp [Act.eval, Addr.add_lit]) rfl pil9 psz) (hV9) ?_
        simp only [Act.put, List.setIfInBounds_toArray, List.set_cons_zero, List.set_cons_succ]
        refine done_held (by kernel_rfl) ?_ _
        go_wp2
        go_roundw
        case rel => exact ⟨k + 1, by omega, by go_num, HQ9, HR9⟩
        case measure => simp [intOf]; omega
      · obtain rfl : N = k := by omega
        have S0 : StAt (⟨n0 + 2, g, u0, n0, n0 + 1, n0, n0 + 3, v'⟩ : Sk) c G.uses ((xsK c.W N N).map bare) (List.replicate nR 0) wr := HR.out.done (xsK_all c.W N)
        have HS0 : Hid (Mid w (⟨n0 + 2, g, u0, n0, n0 + 1, n0, n0 + 3, v'⟩ : Sk) c G.uses nR 0 ((xsK c.W N N).map bare) wr) := ⟨S0, fun i p hp => by
          rw [List.getElem?_map] at hp
          cases e : (xsK c.W N N)[i]? with
          | none => rw [e] at hp; cases hp
          | some x => rw [e] at hp; cases hp; rfl, by rw [bare_flat]; exact List.Perm.refl _⟩
        have y6 := cell_of HQ.out.a 6
        go_wp2
        clear y6 S0
        go_loopw [62] (fun i wq => ∃ (k : Nat) (ps : List Pile), k ≤ nS ∧ i = .int .i64 k ∧ Hid (One w #[.int .i64 c.W, .int .i64 c.H, .int .i64 c.height, v1, v2, .slice a3 nR cap3, .slice a4 nS cap4, .int .i64 c.unit, .int .i64 c.accel, .int .i64 c.speed, .int .i64 c.turn, .int .i64 c.hoist, .int .i64 c.queue, .int .i64 c.resend, .int .i64 c.budget, .bool c.back] wq) ∧ Hid (Mid w (⟨n0 + 2, g, u0, n0, n0 + 1, n0, n0 + 3, v'⟩ : Sk) c G.uses nR k ps wq)) (fun i _ => nS - (intOf i).toNat)
        case atStart => exact ⟨0, _, Nat.zero_le _, rfl, HQ, HS0⟩
        case round =>
          clear HQ HS0 HR
          obtain ⟨k, ps, hk, rfl, HQ, HM⟩ := hrel
          by_cases hlt : k < nS
          · have hlt' : k < c.stacks.length := by rw [HnS.out]; exact hlt
            have B := HQ.out.below
            have hst := HST.out _ (List.getElem_mem hlt')
            have HPn : Hid (placed (c.stacks.take k) (c.stacks[k]'hlt').1 = []) := placed_none hlt' HND.out
            have HNx : Hid (∀ {j : Nat} {P : Pile} {vv : Value} {wf : World}, ps[j]? = some P → P.1 = (c.stacks[k]'hlt').1 → P.2.2 = [] → StAt (⟨n0 + 2, g, u0, n0, n0 + 1, n0, n0 + 3, v'⟩ : Sk) c G.uses (ps.set j (P.1, vv, P.2.2 ++ (c.stacks[k]'hlt').2)) (List.replicate nR 0) wf → Mid w (⟨n0 + 2, g, u0, n0, n0 + 1, n0, n0 + 3, v'⟩ : Sk) c G.uses nR (k + 1) (ps.set j (P.1, vv, P.2.2 ++ (c.stacks[k]'hlt').2)) wf) := fun h1 h2 h3 h4 => HM.out.next hlt' h1 h2 h3 (by omega) h4
            obtain ⟨p, cs, cap', hv, hpF, hcs, hrd⟩ := (hSu wr B).item hlt'
            generalize c.stacks[k]'hlt' = qs at *
            obtain ⟨⟨x, y⟩, bs⟩ := qs
            obtain ⟨vb', hcs', hbs⟩ := hcs
            subst hcs'
            rw [HnS.out] at hv
            obtain ⟨rfl, rfl⟩ : a4 = some p ∧ cap4 = cap' := by injection hv with h1 h2 h3; exact ⟨h1, h3⟩
            obtain ⟨ba, bcap, hvb, _⟩ := hbs.form
            subst hvb
            clear hv
            simp only at hst HPn HNx hrd hbs
            have hin : In c.W c.H (x, y) := hst.1.1.1
            obtain ⟨j, P, hj1, -, hj3, hj4, hj5⟩ := HM.out.st.num hin
            have hPz : P.2.2 = [] := by rw [HM.out.at_ j P hj4, hj5]; exact HPn.out
            have hbl : bs.length ≤ 8 := by have := hst.2; omega
            have cP := fun o => pile_any (HM.out.st.go (below_new (Below.refl wr.heap.size wr) o)) x y hj1 hj3
            have HSt : Hid (StAt (⟨n0 + 2, g, u0, n0, n0 + 1, n0, n0 + 3, v'⟩ : Sk) c G.uses ps (List.replicate nR 0) wr) := HM.out.st
            have HP : Hid (ps[j]? = some P ∧ P.1 = (x, y) ∧ P.2.2 = []) := ⟨hj4, hj5, hPz⟩
            obtain ⟨n, hn⟩ : ∃ n, bs.length = n := ⟨_, rfl⟩
            have Hn : Hid (bs.length = n) := hn
            rw [hn] at hrd hbs hbl
            clear hn hst hin hj1 hj4 hj5 hPz HPn HM
            go_wp2_with (first
              | (refine wpList_load_at rfl 59 (.tmp 64) rfl (p.add (k * 3)) rfl #[.int .i64 x, .int .i64 y, .slice ba n bcap] hrd (aggStack _) info_stack ?_)
              | (go_at_call 31; refine (cP _).mono ?_; rintro e w6 ⟨r6, rfl, rfl, b6⟩))
            have bb : Below wr.heap.size wr (wr.alloc (.cells #[.int .i64 x, .int .i64 y, .slice ba n bcap] 59)) := below_new (Below.refl _ _) _
            have eb := heap_alloc_new wr (.cells #[.int .i64 x, .int .i64 y, .slice ba n bcap] 59)
            have D6 := bcat (bcat bb b6 (Nat.le_refl _)) (Below.refl w6.heap.size w6).drew (Nat.le_refl _)
            have e6 : w6.drew.heap[wr.heap.size]? = some (.cells #[.int .i64 x, .int .i64 y, .slice ba n bcap] 59 (0, 0)) := (b6.block _ (lt_of_heap eb)).trans eb
            have S6 := HSt.out.go D6
            have L6 : ListAt 1 intEl F bs (.slice ba n bcap) w6.drew := hbs.stable heldInt fun g hg => D6.block g (Nat.lt_of_lt_of_le (hF g hg) B.size)
            have Q6 := HQ.out.go D6
            have o6 := S6.own j P HP.out.1
            obtain ⟨aP, capP, ev, _⟩ := own_form o6
            rw [HP.out.2.2] at ev
            simp only [List.length_nil] at ev
            have pv := S6.pv HP.out.1
            rw [ev] at pv
            have pv2 : w6.drew.cell? ⟨n0, j * 3 + 2, none⟩ = some (.slice aP 0 capP) := pv
            clear pv
            have hbx6 : wr.heap.size < w6.drew.heap.size := lt_of_heap e6
            obtain ⟨IV, hIV⟩ : ∃ I : World → Prop, I = fun u => u.cell? ⟨wr.heap.size, 2, none⟩ = some (.slice ba n bcap) := ⟨_, rfl⟩
            have q9 : ∀ u, IV u → u.cell? ⟨wr.heap.size, 2, none⟩ = some (.slice ba n bcap) := fun u hu => by rw [hIV] at hu; exact hu
            have hV : IV w6.drew := by rw [hIV]; exact cell_of e6 2
            clear D6 b6 bb eb
            refine start_held (S := IV) 11 rfl (by kernel_rfl) (hV) ?_
            simp only [Array.replicate_succ, Array.replicate_zero, List.push_toArray, List.nil_append, List.cons_append]
            generalize w6.drew = wd at *
            refine take_held 0 (by assumption) rfl (by kernel_rfl) (by kernel_rfl) (by kernel_rfl) (fun _ _ _ h => h) (by kernel_rfl) (v := ?v29) ?y29 ?r29
            case y29 => (intro u hu; go_simp; try rfl)
            simp only [Act.put, List.setIfInBounds_toArray, List.set_cons_zero, List.set_cons_succ]
            refine take_held 1 (by assumption) rfl (by kernel_rfl) (by kernel_rfl) (by kernel_rfl) (fun _ _ _ h => h) (by kernel_rfl) (v := ?v30) ?y30 ?r30
            case y30 => (intro u hu; go_simp; try rfl)
            simp only [Act.put, List.setIfInBounds_toArray, List.set_cons_zero, List.set_cons_succ]
            refine take_held 2 (by assumption) rfl (by kernel_rfl) (by kernel_rfl) (by kernel_rfl) (fun _ _ _ h => h) (by kernel_rfl) (v := ?v31) ?y31 ?r31
            case y31 => (intro u hu; go_simp; try rfl)
            simp only [Act.put, List.setIfInBounds_toArray, List.set_cons_zero, List.set_cons_succ]
            refine take_held 3 (by assumption) rfl (by kernel_rfl) (by kernel_rfl) (by kernel_rfl) (fun _ _ _ h => h) (by kernel_rfl) (v := ?v32) ?y32 ?r32
            case y32 => (intro u hu; go_simp; try rfl)
            simp only [Act.put, List.setIfInBounds_toArray, List.set_cons_zero, List.set_cons_succ]
            refine take_held 5 (by assumption) rfl (by kernel_rfl) (by kernel_rfl) (by kernel_rfl) (fun _ _ _ h => h) (by kernel_rfl) (v := ?v33) ?y33 ?r33
            case y33 => (intro u hu; go_simp; try rfl)
            simp only [Act.put, List.setIfInBounds_toArray, List.set_cons_zero, List.set_cons_succ]
            refine take_held 6 (by assumption) rfl (by kernel_rfl) (by kernel_rfl) (by kernel_rfl) (fun _ _ _ h => h) (by kernel_rfl) (v := ?v34) ?y34 ?r34
            case y34 => (intro u hu; have zz0 := q9 u hu; go_simp; try rfl)
            simp only [Act.put, List.setIfInBounds_toArray, List.set_cons_zero, List.set_cons_succ]
            refine wpAnyH_ready (rs := [4]) (by kernel_rfl) (by simp) (AllReadyH.cons ((nth_eq _ 4).trans rfl) ?_ AllReadyH.nil)
            intro K' hK
            refine value_in hK (by kernel_rfl) (.slice aP 0 capP) (wd) (by go_simp) (by assumption) ?_
            simp only [Act.put, List.setIfInBounds_toArray, List.set_cons_zero, List.set_cons_succ]
            refine wpAnyH_ready (rs := [7]) (by kernel_rfl) (by simp) (AllReadyH.cons ((nth_eq _ 7).trans rfl) ?_ AllReadyH.nil)
            intro K' hK
            rw [ev] at o6
            obtain ⟨v9, w9_, hrun9, own9, g9, at9⟩ := run_app kindInt o6 L6 (by rw [HP.out.2.2]; simp; rw [Hn.out]; omega) (by rw [HP.out.2.2]; unfold maxLen; simp; rw [Hn.out]; omega) S6.big 48
            obtain ⟨a9, cap9, hv9, _⟩ := own_form own9
            rw [show (P.2.2 ++ bs).length = n by rw [HP.out.2.2]; exact Hn.out] at hv9
            subst hv9
            have hp1 := S6.p1
            have hevb : P.2.1.ownBlock = (Value.slice aP 0 capP).ownBlock := by rw [ev]
            obtain ⟨S14, T14⟩ := S6.put HP.out.1 (by rw [ev]; exact g9) own9 (by rw [ev]; exact at9) (by rw [HP.out.2.2]; simp; rw [Hn.out]; omega)
            have gp := g9.block (n0) (lt_of_heap S6.pil) (fun e => by have := (o6.lt _ e.symm).1; have hq : n0 < n0 + 3 := hp1; have hq2 : n0 + 3 ≤ n0 := this; omega)
            have vd9 : w9_.cell? ⟨n0, j * 3 + 2, none⟩ = some (.slice aP 0 capP) := (cell_same (p := ⟨n0, j * 3 + 2, none⟩) gp).trans pv2
            have fd9 : w9_.frozen? ⟨n0, j * 3 + 2, none⟩ = false := (froz_same (p := ⟨n0, j * 3 + 2, none⟩) gp).trans (frozen_of S6.pil _)
            have hob : (Value.slice aP 0 capP).ownBlock ≠ some wr.heap.size := fun e => by
              have := HSt.out.own j P HP.out.1
              have h2 := (this.lt wr.heap.size (by rw [hevb]; exact e)).2
              omega
            have hV9 : IV w9_ := by
              rw [hIV]
              exact (cell_same (p := ⟨wr.heap.size, 2, none⟩) (g9.block wr.heap.size hbx6 (fun e => hob e.symm))).trans (q9 _ hV)
            have hfg := S6.foot_ge
            have hQb : ¬ Foot (⟨n0 + 2, g, u0, n0, n0 + 1, n0, n0 + 3, v'⟩ : Sk) ps w.heap.size := fun q => by have := hfg _ q; have h2 : n0 ≤ w.heap.size := this; omega
            have Q9 : One w #[.int .i64 c.W, .int .i64 c.H, .int .i64 c.height, v1, v2, .slice a3 nR cap3, .slice (some p) nS cap4, .int .i64 c.unit, .int .i64 c.accel, .int .i64 c.speed, .int .i64 c.turn, .int .i64 c.hoist, .int .i64 c.queue, .int .i64 c.resend, .int .i64 c.budget, .bool c.back] (w9_.setCell ⟨n0, j * 3 + 2, none⟩ (.slice a9 n cap9)) := ⟨Q6.below.trans (T14.below (by have := lt_of_heap Q6.a; omega) (fun b q => by have := hfg _ q; have h2 : n0 ≤ b := this; omega)), (T14.keep _ (lt_of_heap Q6.a) hQb).trans Q6.a⟩
            have hVf : IV (w9_.setCell ⟨n0, j * 3 + 2, none⟩ (.slice a9 n cap9)) := by
              rw [hIV]
              have hne : wr.heap.size ≠ n0 := by have := lt_of_heap HSt.out.pil; have h2 : n0 < wr.heap.size := this; omega
              exact (cell_same (p := ⟨wr.heap.size, 2, none⟩) (heap_setCell_other _ _ _ _ hne)).trans (q9 _ hV9)
            have HM9 : Hid (Mid w (⟨n0 + 2, g, u0, n0, n0 + 1, n0, n0 + 3, v'⟩ : Sk) c G.uses nR (k + 1) (ps.set j (P.1, (.slice a9 n cap9), P.2.2 ++ bs)) (w9_.setCell ⟨n0, j * 3 + 2, none⟩ (.slice a9 n cap9))) := HNx.out HP.out.1 HP.out.2.1 HP.out.2.2 S14
            have HQ9 : Hid (One w #[.int .i64 c.W, .int .i64 c.H, .int .i64 c.height, v1, v2, .slice a3 nR cap3, .slice (some p) nS cap4, .int .i64 c.unit, .int .i64 c.accel, .int .i64 c.speed, .int .i64 c.turn, .int .i64 c.hoist, .int .i64 c.queue, .int .i64 c.resend, .int .i64 c.budget, .bool c.back] (w9_.setCell ⟨n0, j * 3 + 2, none⟩ (.slice a9 n cap9))) := Q9
            clear S14 T14 Q9 own9 g9 at9 gp
            refine value_in hK (by kernel_rfl) ((.slice a9 n cap9)) (w9_) (run_append_op _ _ rfl _ _ _ rfl rfl hrun9) (hV9) ?_
            simp only [Act.put, List.setIfInBounds_toArray, List.set_cons_zero, List.set_cons_succ]
            refine take_held 8 (by assumption) rfl (by kernel_rfl) (by kernel_rfl) (by kernel_rfl) (fun _ _ _ h => h) (by kernel_rfl) (v := ?v35) ?y35 ?r35
            case y35 => (intro u hu; go_simp; try rfl)
            simp only [Act.put, List.setIfInBounds_toArray, List.set_cons_zero, List.set_cons_succ]
            refine take_held 9 (by assumption) rfl (by kernel_rfl) (by kernel_rfl) (by kernel_rfl) (fun _ _ _ h => h) (by kernel_rfl) (v := ?v36) ?y36 ?r36
            case y36 => (intro u hu; go_simp; try rfl)
            simp only [Act.put, List.setIfInBounds_toArray, List.set_cons_zero, List.set_cons_succ]
            refine wpAnyH_ready (rs := [10]) (by kernel_rfl) (by simp) (AllReadyH.cons ((nth_eq _ 10).trans rfl) ?_ AllReadyH.nil)
            intro K' hK
            refine skip_in hK (by kernel_rfl) (w9_.setCell ⟨n0, j * 3 + 2, none⟩ (.slice a9 n cap9)) (by go_simp) (hVf) ?_
            simp only [Act.put, List.setIfInBounds_toArray, List.set_cons_zero, List.set_cons_succ]
            refine done_held (by kernel_rfl) ?_ _
            go_wp2
            go_roundw
            case rel => exact ⟨k + 1, _, by omega, by go_num, HQ9, HM9⟩
            case measure => simp [intOf]; omega
          · obtain rfl : nS = k := by omega
            have hM := HM.out
            have hat := hM.at_
            have hpm := hM.perm
            rw [← HnS.out, List.take_length] at hat hpm
            have hS2 := hM.st
            have hB2 := HQ.out.below
            go_wp2
            exact bodyPost_ret (v := .tuple #[.pointer (some ⟨n0 + 2, 0, none⟩), .int .i64 0]) (by simp [results, Try.results7, go_sem]) rfl ⟨(⟨n0 + 2, g, u0, n0, n0 + 1, n0, n0 + 3, v'⟩ : Sk), ps, rfl, hS2, by simp only; omega, HGV.out, hat, hpm, hB2⟩
  · intro K' hK
    have hmk12 := run_loads nR (by omega) wd
    rw [show wd.heap.size = n0 by simp [hn0]] at hmk12
    have hB12 : IH (wd.alloc (.cells ((List.replicate nR (0 : Int)).map (Value.int .i64)).toArray 3)) := by rw [hIH]; exact below_new (kI _ (by assumption)) _
    refine value_in hK (by kernel_rfl) (.slice (some ⟨n0, 0, none⟩) nR nR) (wd.alloc (.cells ((List.replicate nR (0 : Int)).map (Value.int .i64)).toArray 3)) (run_made_op 48 (.tmp 30) (.tmp 30) rfl _ rfl rfl hmk12) (by assumption) ?_
    simp only [Act.put, List.setIfInBounds_toArray, List.set_cons_zero, List.set_cons_succ]
    refine wpAnyH_ready (rs := [8]) (by kernel_rfl) (by simp) (AllReadyH.cons ((nth_eq _ 8).trans rfl) ?_ AllReadyH.nil)
    intro K' hK
    have hmk8 := run_piles N (by omega) (wd.alloc (.cells ((List.replicate nR (0 : Int)).map (Value.int .i64)).toArray 3))
    rw [show (wd.alloc (.cells ((List.replicate nR (0 : Int)).map (Value.int .i64)).toArray 3)).heap.size = n0 + 1 by simp [hn0]] at hmk8
    have hB8 : IH ((wd.alloc (.cells ((List.replicate nR (0 : Int)).map (Value.int .i64)).toArray 3)).alloc (.cells (rowL pileL (List.replicate N (bare (0, 0)))).toArray 59)) := by rw [hIH]; exact below_new (kI _ (by assumption)) _
    refine value_in hK (by kernel_rfl) (.slice (some ⟨n0 + 1, 0, none⟩) N N) ((wd.alloc (.cells ((List.replicate nR (0 : Int)).map (Value.int .i64)).toArray 3)).alloc (.cells (rowL pileL (List.replicate N (bare (0, 0)))).toArray 59)) (run_made_op 24 (.tmp 26) (.tmp 26) rfl _ rfl rfl hmk8) (by assumption) ?_
    simp only [Act.put, List.setIfInBounds_toArray, List.set_cons_zero, List.set_cons_succ]
    refine take_held 13 (by assumption) rfl (by kernel_rfl) (by kernel_rfl) (by kernel_rfl) (fun _ _ _ h => h) (by kernel_rfl) (v := ?v37) ?y37 ?r37
    case y37 => (intro u hu; go_simp; try rfl)
    simp only [Act.put, List.setIfInBounds_toArray, List.set_cons_zero, List.set_cons_succ]
    refine wpAnyH_ready (rs := [14]) (by kernel_rfl) (by simp) (AllReadyH.cons ((nth_eq _ 14).trans rfl) ?_ AllReadyH.nil)
    intro K' hK
    have hB14 : IH (((wd.alloc (.cells ((List.replicate nR (0 : Int)).map (Value.int .i64)).toArray 3)).alloc (.cells (rowL pileL (List.replicate N (bare (0, 0)))).toArray 59)).alloc (.cells #[.pointer (some ⟨g, 0, none⟩), .int .i64 c.height, .slice (some ⟨n0 + 1, 0, none⟩) N N, .slice (some ⟨n0, 0, none⟩) nR nR] 65)) := by rw [hIH]; exact below_new (kI _ (by assumption)) _
    refine value_in hK (by kernel_rfl) (.pointer (some ⟨n0 + 2, 0, none⟩)) (((wd.alloc (.cells ((List.replicate nR (0 : Int)).map (Value.int .i64)).toArray 3)).alloc (.cells (rowL pileL (List.replicate N (bare (0, 0)))).toArray 59)).alloc (.cells #[.pointer (some ⟨g, 0, none⟩), .int .i64 c.height, .slice (some ⟨n0 + 1, 0, none⟩) N N, .slice (some ⟨n0, 0, none⟩) nR nR] 65)) (by go_simp; try simp [hn0]) (by assumption) ?_
    simp only [Act.put, List.setIfInBounds_toArray, List.set_cons_zero, List.set_cons_succ]
    refine take_held 15 (by assumption) rfl (by kernel_rfl) (by kernel_rfl) (by kernel_rfl) (fun _ _ _ h => h) (by kernel_rfl) (v := ?v38) ?y38 ?r38
    case y38 => (intro u hu; go_simp; try rfl)
    simp only [Act.put, List.setIfInBounds_toArray, List.set_cons_zero, List.set_cons_succ]
    refine done_held (by kernel_rfl) ?_ _
    have b5 : Below wd.heap.size wd (((wd.alloc (.cells ((List.replicate nR (0 : Int)).map (Value.int .i64)).toArray 3)).alloc (.cells (rowL pileL (List.replicate N (bare (0, 0)))).toArray 59)).alloc (.cells #[.pointer (some ⟨g, 0, none⟩), .int .i64 c.height, .slice (some ⟨n0 + 1, 0, none⟩) N N, .slice (some ⟨n0, 0, none⟩) nR nR] 65)) := kI _ hB14
    have Q5 := Q3.go b5
    have hep : (((wd.alloc (.cells ((List.replicate nR (0 : Int)).map (Value.int .i64)).toArray 3)).alloc (.cells (rowL pileL (List.replicate N (bare (0, 0)))).toArray 59)).alloc (.cells #[.pointer (some ⟨g, 0, none⟩), .int .i64 c.height, .slice (some ⟨n0 + 1, 0, none⟩) N N, .slice (some ⟨n0, 0, none⟩) nR nR] 65)).heap[n0 + 1]? = some (.cells (rowL pileL (List.replicate N (bare (0, 0)))).toArray 59 (0, 0)) := (alloc_old _ _ _ (by simp; omega)).trans (by have := heap_alloc_new (wd.alloc (.cells ((List.replicate nR (0 : Int)).map (Value.int .i64)).toArray 3)) (.cells (rowL pileL (List.replicate N (bare (0, 0)))).toArray 59); rw [show (wd.alloc (.cells ((List.replicate nR (0 : Int)).map (Value.int .i64)).toArray 3)).heap.size = n0 + 1 by simp [hn0]] at this; exact this)
    have hel : (((wd.alloc (.cells ((List.replicate nR (0 : Int)).map (Value.int .i64)).toArray 3)).alloc (.cells (rowL pileL (List.replicate N (bare (0, 0)))).toArray 59)).alloc (.cells #[.pointer (some ⟨g, 0, none⟩), .int .i64 c.height, .slice (some ⟨n0 + 1, 0, none⟩) N N, .slice (some ⟨n0, 0, none⟩) nR nR] 65)).heap[n0]? = some (.cells ((List.replicate nR (0 : Int)).map (Value.int .i64)).toArray 3 (0, 0)) := (alloc_old _ _ _ (by simp; omega)).trans ((alloc_old _ _ _ (by simp; omega)).trans (by have := heap_alloc_new wd (.cells ((List.replicate nR (0 : Int)).map (Value.int .i64)).toArray 3); rw [hn0] at this; exact this))
    have R5 : Pr (⟨n0 + 2, g, u0, n0 + 1, n0, n0, n0 + 3, v'⟩ : Sk) c G.uses (xsK c.W N 0) (List.replicate nR 0) (((wd.alloc (.cells ((List.replicate nR (0 : Int)).map (Value.int .i64)).toArray 3)).alloc (.cells (rowL pileL (List.replicate N (bare (0, 0)))).toArray 59)).alloc (.cells #[.pointer (some ⟨g, 0, none⟩), .int .i64 c.height, .slice (some ⟨n0 + 1, 0, none⟩) N N, .slice (some ⟨n0, 0, none⟩) nR nR] 65)) := by
      rw [xsK_zero]
      refine ⟨?_, G3.go b5, (P3.go heldCell (fun b hb => hb) b5).mono heldCell (fun b hb => by simp only; omega), ?_, ?_, by rw [List.length_replicate, HNN.out], by rw [List.length_replicate]; exact hr8, hp8, by simp only; omega, by simp only; omega, by simp only; omega, by simp only; omega, by simp only; omega, by simp only; omega, by simp only; omega, by simp only; omega, by simp only; omega, by simp only; omega, by simp only; omega, by omega, by simp [hn0]⟩
      · rw [List.length_replicate, List.length_replicate]
        have := heap_alloc_new (((wd.alloc (.cells ((List.replicate nR (0 : Int)).map (Value.int .i64)).toArray 3)).alloc (.cells (rowL pileL (List.replicate N (bare (0, 0)))).toArray 59))) (.cells #[.pointer (some ⟨g, 0, none⟩), .int .i64 c.height, .slice (some ⟨n0 + 1, 0, none⟩) N N, .slice (some ⟨n0, 0, none⟩) nR nR] 65)
        rw [show (((wd.alloc (.cells ((List.replicate nR (0 : Int)).map (Value.int .i64)).toArray 3)).alloc (.cells (rowL pileL (List.replicate N (bare (0, 0)))).toArray 59))).heap.size = n0 + 2 by simp [hn0]] at this
        exact this
      · rw [show (List.replicate N ((0 : Int), (0 : Int))).map bare = List.replicate N (bare (0, 0)) from List.map_replicate]
        exact hep
      · exact hel
    clear hep hel
    generalize ((wd.alloc (.cells ((List.replicate nR (0 : Int)).map (Value.int .i64)).toArray 3)).alloc (.cells (rowL pileL (List.replicate N (bare (0, 0)))).toArray 59)).alloc (.cells #[.pointer (some ⟨g, 0, none⟩), .int .i64 c.height, .slice (some ⟨n0 + 1, 0, none⟩) N N, .slice (some ⟨n0, 0, none⟩) nR nR] 65) = w5 at *
    clear hB8 hB12 hB14 hmk8 hmk12 b5 Q3 G3 P3 eA z0 z1 z2 z5 hgl hul hS
    have HQ5 : Hid (One w #[.int .i64 c.W, .int .i64 c.H, .int .i64 c.height, v1, v2, .slice a3 nR cap3, .slice a4 nS cap4, .int .i64 c.unit, .int .i64 c.accel, .int .i64 c.speed, .int .i64 c.turn, .int .i64 c.hoist, .int .i64 c.queue, .int .i64 c.resend, .int .i64 c.budget, .bool c.back] w5) := Q5
    have HR5 : Hid (Pr (⟨n0 + 2, g, u0, n0 + 1, n0, n0, n0 + 3, v'⟩ : Sk) c G.uses (xsK c.W N 0) (List.replicate nR 0) w5) := R5
    have y2 : w5.cell? ⟨n0 + 2, 2, none⟩ = some (.slice (some ⟨n0 + 1, 0, none⟩) N N) := by have := R5.c2; rw [xsK_len] at this; exact this
    clear Q5 R5
    go_wp2
    clear y2
    go_loopw [39] (fun i wq => ∃ k : Nat, k ≤ N ∧ i = .int .i64 k ∧ Hid (One w #[.int .i64 c.W, .int .i64 c.H, .int .i64 c.height, v1, v2, .slice a3 nR cap3, .slice a4 nS cap4, .int .i64 c.unit, .int .i64 c.accel, .int .i64 c.speed, .int .i64 c.turn, .int .i64 c.hoist, .int .i64 c.queue, .int .i64 c.resend, .int .i64 c.budget, .bool c.back] wq) ∧ Hid (Pr (⟨n0 + 2, g, u0, n0 + 1, n0, n0, n0 + 3, v'⟩ : Sk) c G.uses (xsK c.W N k) (List.replicate nR 0) wq)) (fun i _ => N - (intOf i).toNat)
    case atStart => exact ⟨0, Nat.zero_le _, rfl, HQ5, HR5⟩
    case round =>
      clear HQ5 HR5
      obtain ⟨k, hk, rfl, HQ, HR⟩ := hrel
      by_cases hlt : k < N
      · have hw0 : (c.W == 0) = false := by rw [beq_eq_false_iff_ne]; omega
        have hw1 : ¬ c.W = 0 := by omega
        have e1 : (k : Int).tmod c.W = (cellAt c.W k).1 := by unfold cellAt; rw [Int.tmod_eq_emod_of_nonneg (by omega)]
        have hdv : 0 ≤ (k : Int) / c.W ∧ (k : Int) / c.W ≤ k := ⟨Int.ediv_nonneg (by omega) (by omega), Int.ediv_le_self _ (by omega)⟩
        have e2 : IntKind.i64.wrap ((k : Int) / c.W) = (cellAt c.W k).2 := by unfold cellAt; rw [IntKind.wrap_i64]; simp only; omega
        have e3 : (k : Int).tdiv c.W = (k : Int) / c.W := Int.tdiv_eq_ediv_of_nonneg (by omega)
        have hbd := hdv
        go_wp2
        obtain ⟨IV, hIV⟩ : ∃ I : World → Prop, I = fun u => u.cell? ⟨n0 + 2, 2, none⟩ = some (.slice (some ⟨n0 + 1, 0, none⟩) N N) ∧ u.cell? ⟨w.heap.size, 0, none⟩ = some (.int .i64 c.W) := ⟨_, rfl⟩
        have q2 : ∀ u, IV u → u.cell? ⟨n0 + 2, 2, none⟩ = some (.slice (some ⟨n0 + 1, 0, none⟩) N N) := fun u hu => by rw [hIV] at hu; exact hu.1
        have q0 : ∀ u, IV u → u.cell? ⟨w.heap.size, 0, none⟩ = some (.int .i64 c.W) := fun u hu => by rw [hIV] at hu; exact hu.2
        have bd : Below wr.heap.size wr wr.drew := (Below.refl _ _).drew
        have RD := HR.out.go bd
        have QD := HQ.out.go bd
        have mkIV : ∀ (u : World) (j : Nat), Pr (⟨n0 + 2, g, u0, n0 + 1, n0, n0, n0 + 3, v'⟩ : Sk) c G.uses (xsK c.W N j) (List.replicate nR 0) u → One w #[.int .i64 c.W, .int .i64 c.H, .int .i64 c.height, v1, v2, .slice a3 nR cap3, .slice a4 nS cap4, .int .i64 c.unit, .int .i64 c.accel, .int .i64 c.speed, .int .i64 c.turn, .int .i64 c.hoist, .int .i64 c.queue, .int .i64 c.resend, .int .i64 c.budget, .bool c.back] u → IV u := fun u j r q => by
          rw [hIV]
          have r2 := r.c2
          rw [xsK_len] at r2
          exact ⟨r2, cell_of q.a 0⟩
        have hV : IV wr.drew := mkIV _ _ RD QD
        have kx : k < (xsK c.W N k).length := by rw [xsK_len]; exact hlt
        have R9 := RD.set kx (cellAt c.W k)
        rw [xsK_next c.W N k hlt] at R9
        have pil9 := RD.pil
        have Q9 : One w #[.int .i64 c.W, .int .i64 c.H, .int .i64 c.height, v1, v2, .slice a3 nR cap3, .slice a4 nS cap4, .int .i64 c.unit, .int .i64 c.accel, .int .i64 c.speed, .int .i64 c.turn, .int .i64 c.hoist, .int .i64 c.queue, .int .i64 c.resend, .int .i64 c.budget, .bool c.back] ((wr.drew.setCell ⟨n0 + 1, k * 3, none⟩ (.int .i64 (cellAt c.W k).1)).setCell ⟨n0 + 1, k * 3 + 1, none⟩ (.int .i64 (cellAt c.W k).2)) := ⟨below_set (below_set QD.below (by omega) _ _) (by omega) _ _, (heap_setCell_other _ _ _ _ (by simp; omega)).trans ((heap_setCell_other _ _ _ _ (by simp; omega)).trans QD.a)⟩
        have hV9 : IV ((wr.drew.setCell ⟨n0 + 1, k * 3, none⟩ (.int .i64 (cellAt c.W k).1)).setCell ⟨n0 + 1, k * 3 + 1, none⟩ (.int .i64 (cellAt c.W k).2)) := mkIV _ _ R9 Q9
        have HR9 : Hid (Pr (⟨n0 + 2, g, u0, n0 + 1, n0, n0, n0 + 3, v'⟩ : Sk) c G.uses (xsK c.W N (k + 1)) (List.replicate nR 0) ((wr.drew.setCell ⟨n0 + 1, k * 3, none⟩ (.int .i64 (cellAt c.W k).1)).setCell ⟨n0 + 1, k * 3 + 1, none⟩ (.int .i64 (cellAt c.W k).2))) := R9
        have HQ9 : Hid (One w #[.int .i64 c.W, .int .i64 c.H, .int .i64 c.height, v1, v2, .slice a3 nR cap3, .slice a4 nS cap4, .int .i64 c.unit, .int .i64 c.accel, .int .i64 c.speed, .int .i64 c.turn, .int .i64 c.hoist, .int .i64 c.queue, .int .i64 c.resend, .int .i64 c.budget, .bool c.back] ((wr.drew.setCell ⟨n0 + 1, k * 3, none⟩ (.int .i64 (cellAt c.W k).1)).setCell ⟨n0 + 1, k * 3 + 1, none⟩ (.int .i64 (cellAt c.W k).2))) := Q9
        have psz : k * 3 + 1 < (rowL pileL ((xsK c.W N k).map bare)).toArray.size := by rw [List.size_toArray, rowL_len pileL_len, List.length_map, xsK_len]; omega
        clear R9 Q9 RD QD bd
        generalize (cellAt c.W k).1 = cx at *
        generalize (cellAt c.W k).2 = cy at *
        refine start_held (S := IV) 17 rfl (by kernel_rfl) (hV) ?_
        simp only [Array.replicate_succ, Array.replicate_zero, List.push_toArray, List.nil_append, List.cons_append]
        refine take_held 0 (by assumption) rfl (by kernel_rfl) (by kernel_rfl) (by kernel_rfl) (fun _ _ _ h => h) (by kernel_rfl) (v := ?v39) ?y39 ?r39
        case y39 => (intro u hu; go_simp; try rfl)
        simp only [Act.put, List.setIfInBounds_toArray, List.set_cons_zero, List.set_cons_succ]
        refine take_held 1 (by assumption) rfl (by kernel_rfl) (by kernel_rfl) (by kernel_rfl) (fun _ _ _ h => h) (by kernel_rfl) (v := ?v40) ?y40 ?r40
        case y40 => (intro u hu; go_simp; try rfl)
        simp only [Act.put, List.setIfInBounds_toArray, List.set_cons_zero, List.set_cons_succ]
        refine take_held 2 (by assumption) rfl (by kernel_rfl) (by kernel_rfl) (by kernel_rfl) (fun _ _ _ h => h) (by kernel_rfl) (v := ?v41) ?y41 ?r41
        case y41 => (intro u hu; go_simp; try rfl)
        simp only [Act.put, List.setIfInBounds_toArray, List.set_cons_zero, List.set_cons_succ]
        refine take_held 3 (by assumption) rfl (by kernel_rfl) (by kernel_rfl) (by kernel_rfl) (fun _ _ _ h => h) (by kernel_rfl) (v := ?v42) ?y42 ?r42
        case y42 => (intro u hu; have zz0 := q2 u hu; go_simp; try rfl)
        simp only [Act.put, List.setIfInBounds_toArray, List.set_cons_zero, List.set_cons_succ]
        refine take_held 4 (by assumption) rfl (by kernel_rfl) (by kernel_rfl) (by kernel_rfl) (fun _ _ _ h => h) (by kernel_rfl) (v := ?v43) ?y43 ?r43
        case y43 => (intro u hu; go_simp; try rfl)
        simp only [Act.put, List.setIfInBounds_toArray, List.set_cons_zero, List.set_cons_succ]
        refine take_held 5 (by assumption) rfl (by kernel_rfl) (by kernel_rfl) (by kernel_rfl) (fun _ _ _ h => h) (by kernel_rfl) (v := ?v44) ?y44 ?r44
        case y44 => (intro u hu; go_simp; try rfl)
        simp only [Act.put, List.setIfInBounds_toArray, List.set_cons_zero, List.set_cons_succ]
        refine take_held 6 (by assumption) rfl (by kernel_rfl) (by kernel_rfl) (by kernel_rfl) (fun _ _ _ h => h) (by kernel_rfl) (v := ?v45) ?y45 ?r45
        case y45 => (intro u hu; go_simp; try rfl)
        simp only [Act.put, List.setIfInBounds_toArray, List.set_cons_zero, List.set_cons_succ]
        refine take_held 7 (by assumption) rfl (by kernel_rfl) (by kernel_rfl) (by kernel_rfl) (fun _ _ _ h => h) (by kernel_rfl) (v := ?v46) ?y46 ?r46
        case y46 => (intro u hu; have zz0 := q0 u hu; go_simp; try rfl)
        simp only [Act.put, List.setIfInBounds_toArray, List.set_cons_zero, List.set_cons_succ]
        refine take_held 8 (by assumption) rfl (by kernel_rfl) (by kernel_rfl) (by kernel_rfl) (fun _ _ _ h => h) (by kernel_rfl) (v := .int .i64 cx) ?y47 ?r47
        case y47 => (intro u hu; go_simp; try rw [if_neg hw1])
        simp only [Act.put, List.setIfInBounds_toArray, List.set_cons_zero, List.set_cons_succ]
        refine take_held 9 (by assumption) rfl (by kernel_rfl) (by kernel_rfl) (by kernel_rfl) (fun _ _ _ h => h) (by kernel_rfl) (v := ?v48) ?y48 ?r48
        case y48 => (intro u hu; go_simp; try rfl)
        simp only [Act.put, List.setIfInBounds_toArray, List.set_cons_zero, List.set_cons_succ]
        refine take_held 10 (by assumption) rfl (by kernel_rfl) (by kernel_rfl) (by kernel_rfl) (fun _ _ _ h => h) (by kernel_rfl) (v := ?v49) ?y49 ?r49
        case y49 => (intro u hu; go_simp; try rfl)
        simp only [Act.put, List.setIfInBounds_toArray, List.set_cons_zero, List.set_cons_succ]
        refine take_held 11 (by assumption) rfl (by kernel_rfl) (by kernel_rfl) (by kernel_rfl) (fun _ _ _ h => h) (by kernel_rfl) (v := ?v50) ?y50 ?r50
        case y50 => (intro u hu; have zz0 := q0 u hu; go_simp; try rfl)
        simp only [Act.put, List.setIfInBounds_toArray, List.set_cons_zero, List.set_cons_succ]
        refine take_held 12 (by assumption) rfl (by kernel_rfl) (by kernel_rfl) (by kernel_rfl) (fun _ _ _ h => h) (by kernel_rfl) (v := .int .i64 cy) ?y51 ?r51
        case y51 => (intro u hu; go_simp; try rw [if_neg hw1])
        simp only [Act.put, List.setIfInBounds_toArray, List.set_cons_zero, List.set_cons_succ]
        refine take_held 13 (by assumption) rfl (by kernel_rfl) (by kernel_rfl) (by kernel_rfl) (fun _ _ _ h => h) (by kernel_rfl) (v := ?v52) ?y52 ?r52
        case y52 => (intro u hu; go_simp; try rfl)
        simp only [Act.put, List.setIfInBounds_toArray, List.set_cons_zero, List.set_cons_succ]
        refine take_held 14 (by assumption) rfl (by kernel_rfl) (by kernel_rfl) (by kernel_rfl) (fun _ _ _ h => h) (by kernel_rfl) (v := ?v53) ?y53 ?r53
        case y53 => (intro u hu; go_simp; try rfl)
        simp only [Act.put, List.setIfInBounds_toArray, List.set_cons_zero, List.set_cons_succ]
        refine take_held 15 (by assumption) rfl (by kernel_rfl) (by kernel_rfl) (by kernel_rfl) (fun _ _ _ h => h) (by kernel_rfl) (v := ?v54) ?y54 ?r54
        case y54 => (intro u hu; go_simp; try rfl)
        simp only [Act.put, List.setIfInBounds_toArray, List.set_cons_zero, List.set_cons_succ]
        refine wpAnyH_ready (rs := [16]) (by kernel_rfl) (by simp) (AllReadyH.cons ((nth_eq _ 16).trans rfl) ?_ AllReadyH.nil)
        intro K' hK
        refine skip_in hK (by kernel_rfl) ((wr.drew.setCell ⟨n0 + 1, k * 3, none⟩ (.int .i64 cx)).setCell ⟨n0 + 1, k * 3 + 1, none⟩ (.int .i64 cy)) (run_store_cell _ _ rfl (n0 + 1) (k * 3) cx cy _ _ (by simp [Act.eval, Addr.add_lit]) rfl pil9 psz) (hV9) ?_
        simp only [Act.put, List.setIfInBounds_toArray, List.set_cons_zero, List.set_cons_succ]
        refine done_held (by kernel_rfl) ?_ _
        go_wp2
        go_roundw
        case rel => exact ⟨k + 1, by omega, by go_num, HQ9, HR9⟩
        case measure => simp [intOf]; omega
      · obtain rfl : N = k := by omega
        have S0 : StAt (⟨n0 + 2, g, u0, n0 + 1, n0, n0, n0 + 3, v'⟩ : Sk) c G.uses ((xsK c.W N N).map bare) (List.replicate nR 0) wr := HR.out.done (xsK_all c.W N)
        have HS0 : Hid (Mid w (⟨n0 + 2, g, u0, n0 + 1, n0, n0, n0 + 3, v'⟩ : Sk) c G.uses nR 0 ((xsK c.W N N).map bare) wr) := ⟨S0, fun i p hp => by
          rw [List.getElem?_map] at hp
          cases e : (xsK c.W N N)[i]? with
          | none => rw [e] at hp; cases hp
          | some x => rw [e] at hp; cases hp; rfl, by rw [bare_flat]; exact List.Perm.refl _⟩
        have y6 := cell_of HQ.out.a 6
        go_wp2
        clear y6 S0
        go_loopw [62] (fun i wq => ∃ (k : Nat) (ps : List Pile), k ≤ nS ∧ i = .int .i64 k ∧ Hid (One w #[.int .i64 c.W, .int .i64 c.H, .int .i64 c.height, v1, v2, .slice a3 nR cap3, .slice a4 nS cap4, .int .i64 c.unit, .int .i64 c.accel, .int .i64 c.speed, .int .i64 c.turn, .int .i64 c.hoist, .int .i64 c.queue, .int .i64 c.resend, .int .i64 c.budget, .bool c.back] wq) ∧ Hid (Mid w (⟨n0 + 2, g, u0, n0 + 1, n0, n0, n0 + 3, v'⟩ : Sk) c G.uses nR k ps wq)) (fun i _ => nS - (intOf i).toNat)
        case atStart => exact ⟨0, _, Nat.zero_le _, rfl, HQ, HS0⟩
        case round =>
          clear HQ HS0 HR
          obtain ⟨k, ps, hk, rfl, HQ, HM⟩ := hrel
          by_cases hlt : k < nS
          · have hlt' : k < c.stacks.length := by rw [HnS.out]; exact hlt
            have B := HQ.out.below
            have hst := HST.out _ (List.getElem_mem hlt')
            have HPn : Hid (placed (c.stacks.take k) (c.stacks[k]'hlt').1 = []) := placed_none hlt' HND.out
            have HNx : Hid (∀ {j : Nat} {P : Pile} {vv : Value} {wf : World}, ps[j]? = some P → P.1 = (c.stacks[k]'hlt').1 → P.2.2 = [] → StAt (⟨n0 + 2, g, u0, n0 + 1, n0, n0, n0 + 3, v'⟩ : Sk) c G.uses (ps.set j (P.1, vv, P.2.2 ++ (c.stacks[k]'hlt').2)) (List.replicate nR 0) wf → Mid w (⟨n0 + 2, g, u0, n0 + 1, n0, n0, n0 + 3, v'⟩ : Sk) c G.uses nR (k + 1) (ps.set j (P.1, vv, P.2.2 ++ (c.stacks[k]'hlt').2)) wf) := fun h1 h2 h3 h4 => HM.out.next hlt' h1 h2 h3 (by omega) h4
            obtain ⟨p, cs, cap', hv, hpF, hcs, hrd⟩ := (hSu wr B).item hlt'
            generalize c.stacks[k]'hlt' = qs at *
            obtain ⟨⟨x, y⟩, bs⟩ := qs
            obtain ⟨vb', hcs', hbs⟩ := hcs
            subst hcs'
            rw [HnS.out] at hv
            obtain ⟨rfl, rfl⟩ : a4 = some p ∧ cap4 = cap' := by injection hv with h1 h2 h3; exact ⟨h1, h3⟩
            obtain ⟨ba, bcap, hvb, _⟩ := hbs.form
            subst hvb
            clear hv
            simp only at hst HPn HNx hrd hbs
            have hin : In c.W c.H (x, y) := hst.1.1.1
            obtain ⟨j, P, hj1, -, hj3, hj4, hj5⟩ := HM.out.st.num hin
            have hPz : P.2.2 = [] := by rw [HM.out.at_ j P hj4, hj5]; exact HPn.out
            have hbl : bs.length ≤ 8 := by have := hst.2; omega
            have cP := fun o => pile_any (HM.out.st.go (below_new (Below.refl wr.heap.size wr) o)) x y hj1 hj3
            have HSt : Hid (StAt (⟨n0 + 2, g, u0, n0 + 1, n0, n0, n0 + 3, v'⟩ : Sk) c G.uses ps (List.replicate nR 0) wr) := HM.out.st
            have HP : Hid (ps[j]? = some P ∧ P.1 = (x, y) ∧ P.2.2 = []) := ⟨hj4, hj5, hPz⟩
            obtain ⟨n, hn⟩ : ∃ n, bs.length = n := ⟨_, rfl⟩
            have Hn : Hid (bs.length = n) := hn
            rw [hn] at hrd hbs hbl
            clear hn hst hin hj1 hj4 hj5 hPz HPn HM
            go_wp2_with (first
              | (refine wpList_load_at rfl 59 (.tmp 64) rfl (p.add (k * 3)) rfl #[.int .i64 x, .int .i64 y, .slice ba n bcap] hrd (aggStack _) info_stack ?_)
              | (go_at_call 31; refine (cP _).mono ?_; rintro e w6 ⟨r6, rfl, rfl, b6⟩))
            have bb : Below wr.heap.size wr (wr.alloc (.cells #[.int .i64 x, .int .i64 y, .slice ba n bcap] 59)) := below_new (Below.refl _ _) _
            have eb := heap_alloc_new wr (.cells #[.int .i64 x, .int .i64 y, .slice ba n bcap] 59)
            have D6 := bcat (bcat bb b6 (Nat.le_refl _)) (Below.refl w6.heap.size w6).drew (Nat.le_refl _)
            have e6 : w6.drew.heap[wr.heap.size]? = some (.cells #[.int .i64 x, .int .i64 y, .slice ba n bcap] 59 (0, 0)) := (b6.block _ (lt_of_heap eb)).trans eb
            have S6 := HSt.out.go D6
            have L6 : ListAt 1 intEl F bs (.slice ba n bcap) w6.drew := hbs.stable heldInt fun g hg => D6.block g (Nat.lt_of_lt_of_le (hF g hg) B.size)
            have Q6 := HQ.out.go D6
            have o6 := S6.own j P HP.out.1
            obtain ⟨aP, capP, ev, _⟩ := own_form o6
            rw [HP.out.2.2] at ev
            simp only [List.length_nil] at ev
            have pv := S6.pv HP.out.1
            rw [ev] at pv
            have pv2 : w6.drew.cell? ⟨n0 + 1, j * 3 + 2, none⟩ = some (.slice aP 0 capP) := pv
            clear pv
            have hbx6 : wr.heap.size < w6.drew.heap.size := lt_of_heap e6
            obtain ⟨IV, hIV⟩ : ∃ I : World → Prop, I = fun u => u.cell? ⟨wr.heap.size, 2, none⟩ = some (.slice ba n bcap) := ⟨_, rfl⟩
            have q9 : ∀ u, IV u → u.cell? ⟨wr.heap.size, 2, none⟩ = some (.slice ba n bcap) := fun u hu => by rw [hIV] at hu; exact hu
            have hV : IV w6.drew := by rw [hIV]; exact cell_of e6 2
            clear D6 b6 bb eb
            refine start_held (S := IV) 11 rfl (by kernel_rfl) (hV) ?_
            simp only [Array.replicate_succ, Array.replicate_zero, List.push_toArray, List.nil_append, List.cons_append]
            generalize w6.drew = wd at *
            refine take_held 0 (by assumption) rfl (by kernel_rfl) (by kernel_rfl) (by kernel_rfl) (fun _ _ _ h => h) (by kernel_rfl) (v := ?v55) ?y55 ?r55
            case y55 => (intro u hu; go_simp; try rfl)
            simp only [Act.put, List.setIfInBounds_toArray, List.set_cons_zero, List.set_cons_succ]
            refine take_held 1 (by assumption) rfl (by kernel_rfl) (by kernel_rfl) (by kernel_rfl) (fun _ _ _ h => h) (by kernel_rfl) (v := ?v56) ?y56 ?r56
            case y56 => (intro u hu; go_simp; try rfl)
            simp only [Act.put, List.setIfInBounds_toArray, List.set_cons_zero, List.set_cons_succ]
            refine take_held 2 (by assumption) rfl (by kernel_rfl) (by kernel_rfl) (by kernel_rfl) (fun _ _ _ h => h) (by kernel_rfl) (v := ?v57) ?y57 ?r57
            case y57 => (intro u hu; go_simp; try rfl)
            simp only [Act.put, List.setIfInBounds_toArray, List.set_cons_zero, List.set_cons_succ]
            refine take_held 3 (by assumption) rfl (by kernel_rfl) (by kernel_rfl) (by kernel_rfl) (fun _ _ _ h => h) (by kernel_rfl) (v := ?v58) ?y58 ?r58
            case y58 => (intro u hu; go_simp; try rfl)
            simp only [Act.put, List.setIfInBounds_toArray, List.set_cons_zero, List.set_cons_succ]
            refine take_held 5 (by assumption) rfl (by kernel_rfl) (by kernel_rfl) (by kernel_rfl) (fun _ _ _ h => h) (by kernel_rfl) (v := ?v59) ?y59 ?r59
            case y59 => (intro u hu; go_simp; try rfl)
            simp only [Act.put, List.setIfInBounds_toArray, List.set_cons_zero, List.set_cons_succ]
            refine take_held 6 (by assumption) rfl (by kernel_rfl) (by kernel_rfl) (by kernel_rfl) (fun _ _ _ h => h) (by kernel_rfl) (v := ?v60) ?y60 ?r60
            case y60 => (intro u hu; have zz0 := q9 u hu; go_simp; try rfl)
            simp only [Act.put, List.setIfInBounds_toArray, List.set_cons_zero, List.set_cons_succ]
            refine wpAnyH_ready (rs := [4]) (by kernel_rfl) (by simp) (AllReadyH.cons ((nth_eq _ 4).trans rfl) ?_ AllReadyH.nil)
            intro K' hK
            refine value_in hK (by kernel_rfl) (.slice aP 0 capP) (wd) (by go_simp) (by assumption) ?_
            simp only [Act.put, List.setIfInBounds_toArray, List.set_cons_zero, List.set_cons_succ]
            refine wpAnyH_ready (rs := [7]) (by kernel_rfl) (by simp) (AllReadyH.cons ((nth_eq _ 7).trans rfl) ?_ AllReadyH.nil)
            intro K' hK
            rw [ev] at o6
            obtain ⟨v9, w9_, hrun9, own9, g9, at9⟩ := run_app kindInt o6 L6 (by rw [HP.out.2.2]; simp; rw [Hn.out]; omega) (by rw [HP.out.2.2]; unfold maxLen; simp; rw [Hn.out]; omega) S6.big 48
            obtain ⟨a9, cap9, hv9, _⟩ := own_form own9
            rw [show (P.2.2 ++ bs).length = n by rw [HP.out.2.2]; exact Hn.out] at hv9
            subst hv9
            have hp1 := S6.p1
            have hevb : P.2.1.ownBlock = (Value.slice aP 0 capP).ownBlock := by rw [ev]
            obtain ⟨S14, T14⟩ := S6.put HP.out.1 (by rw [ev]; exact g9) own9 (by rw [ev]; exact at9) (by rw [HP.out.2.2]; simp; rw [Hn.out]; omega)
            have gp := g9.block (n0 + 1) (lt_of_heap S6.pil) (fun e => by have := (o6.lt _ e.symm).1; have hq : n0 + 1 < n0 + 3 := hp1; have hq2 : n0 + 3 ≤ n0 + 1 := this; omega)
            have vd9 : w9_.cell? ⟨n0 + 1, j * 3 + 2, none⟩ = some (.slice aP 0 capP) := (cell_same (p := ⟨n0 + 1, j * 3 + 2, none⟩) gp).trans pv2
            have fd9 : w9_.frozen? ⟨n0 + 1, j * 3 + 2, none⟩ = false := (froz_same (p := ⟨n0 + 1, j * 3 + 2, none⟩) gp).trans (frozen_of S6.pil _)
            have hob : (Value.slice aP 0 capP).ownBlock ≠ some wr.heap.size := fun e => by
              have := HSt.out.own j P HP.out.1
              have h2 := (this.lt wr.heap.size (by rw [hevb]; exact e)).2
              omega
            have hV9 : IV w9_ := by
              rw [hIV]
              exact (cell_same (p := ⟨wr.heap.size, 2, none⟩) (g9.block wr.heap.size hbx6 (fun e => hob e.symm))).trans (q9 _ hV)
            have hfg := S6.foot_ge
            have hQb : ¬ Foot (⟨n0 + 2, g, u0, n0 + 1, n0, n0, n0 + 3, v'⟩ : Sk) ps w.heap.size := fun q => by have := hfg _ q; have h2 : n0 ≤ w.heap.size := this; omega
            have Q9 : One w #[.int .i64 c.W, .int .i64 c.H, .int .i64 c.height, v1, v2, .slice a3 nR cap3, .slice (some p) nS cap4, .int .i64 c.unit, .int .i64 c.accel, .int .i64 c.speed, .int .i64 c.turn, .int .i64 c.hoist, .int .i64 c.queue, .int .i64 c.resend, .int .i64 c.budget, .bool c.back] (w9_.setCell ⟨n0 + 1, j * 3 + 2, none⟩ (.slice a9 n cap9)) := ⟨Q6.below.trans (T14.below (by have := lt_of_heap Q6.a; omega) (fun b q => by have := hfg _ q; have h2 : n0 ≤ b := this; omega)), (T14.keep _ (lt_of_heap Q6.a) hQb).trans Q6.a⟩
            have hVf : IV (w9_.setCell ⟨n0 + 1, j * 3 + 2, none⟩ (.slice a9 n cap9)) := by
              rw [hIV]
              have hne : wr.heap.size ≠ n0 + 1 := by have := lt_of_heap HSt.out.pil; have h2 : n0 + 1 < wr.heap.size := this; omega
              exact (cell_same (p := ⟨wr.heap.size, 2, none⟩) (heap_setCell_other _ _ _ _ hne)).trans (q9 _ hV9)
            have HM9 : Hid (Mid w (⟨n0 + 2, g, u0, n0 + 1, n0, n0, n0 + 3, v'⟩ : Sk) c G.uses nR (k + 1) (ps.set j (P.1, (.slice a9 n cap9), P.2.2 ++ bs)) (w9_.setCell ⟨n0 + 1, j * 3 + 2, none⟩ (.slice a9 n cap9))) := HNx.out HP.out.1 HP.out.2.1 HP.out.2.2 S14
            have HQ9 : Hid (One w #[.int .i64 c.W, .int .i64 c.H, .int .i64 c.height, v1, v2, .slice a3 nR cap3, .slice (some p) nS cap4, .int .i64 c.unit, .int .i64 c.accel, .int .i64 c.speed, .int .i64 c.turn, .int .i64 c.hoist, .int .i64 c.queue, .int .i64 c.resend, .int .i64 c.budget, .bool c.back] (w9_.setCell ⟨n0 + 1, j * 3 + 2, none⟩ (.slice a9 n cap9))) := Q9
            clear S14 T14 Q9 own9 g9 at9 gp
            refine value_in hK (by kernel_rfl) ((.slice a9 n cap9)) (w9_) (run_append_op _ _ rfl _ _ _ rfl rfl hrun9) (hV9) ?_
            simp only [Act.put, List.setIfInBounds_toArray, List.set_cons_zero, List.set_cons_succ]
            refine take_held 8 (by assumption) rfl (by kernel_rfl) (by kernel_rfl) (by kernel_rfl) (fun _ _ _ h => h) (by kernel_rfl) (v := ?v61) ?y61 ?r61
            case y61 => (intro u hu; go_simp; try rfl)
            simp only [Act.put, List.setIfInBounds_toArray, List.set_cons_zero, List.set_cons_succ]
            refine take_held 9 (by assumption) rfl (by kernel_rfl) (by kernel_rfl) (by kernel_rfl) (fun _ _ _ h => h) (by kernel_rfl) (v := ?v62) ?y62 ?r62
            case y62 => (intro u hu; go_simp; try rfl)
            simp only [Act.put, List.setIfInBounds_toArray, List.set_cons_zero, List.set_cons_succ]
            refine wpAnyH_ready (rs := [10]) (by kernel_rfl) (by simp) (AllReadyH.cons ((nth_eq _ 10).trans rfl) ?_ AllReadyH.nil)
            intro K' hK
            refine skip_in hK (by kernel_rfl) (w9_.setCell ⟨n0 + 1, j * 3 + 2, none⟩ (.slice a9 n cap9)) (by go_simp) (hVf) ?_
            simp only [Act.put, List.setIfInBounds_toArray, List.set_cons_zero, List.set_cons_succ]
            refine done_held (by kernel_rfl) ?_ _
            go_wp2
            go_roundw
            case rel => exact ⟨k + 1, _, by omega, by go_num, HQ9, HM9⟩
            case measure => simp [intOf]; omega
          · obtain rfl : nS = k := by omega
            have hM := HM.out
            have hat := hM.at_
            have hpm := hM.perm
            rw [← HnS.out, List.take_length] at hat hpm
            have hS2 := hM.st
            have hB2 := HQ.out.below
            go_wp2
            exact bodyPost_ret (v := .tuple #[.pointer (some ⟨n0 + 2, 0, none⟩), .int .i64 0]) (by simp [results, Try.results7, go_sem]) rfl ⟨(⟨n0 + 2, g, u0, n0 + 1, n0, n0, n0 + 3, v'⟩ : Sk), ps, rfl, hS2, by simp only; omega, HGV.out, hat, hpm, hB2⟩
end Go.Proofs.Ytabbdclpjghdbaa.Stk
