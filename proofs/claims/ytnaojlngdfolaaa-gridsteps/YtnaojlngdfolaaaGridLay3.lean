/-
  How a grid is laid: homes, stack cells.
-/
import Derived.Test.YtnaojlngdfolaaaGridLay2
namespace Go.Proofs.Ytnaojlngdfolaaa.Grid
set_option linter.unusedVariables false
set_option linter.unusedSimpArgs false
open Go Go.RowKit

set_option maxRecDepth 100000 in
set_option maxHeartbeats 4000000 in
theorem park_any (g u : Nat) (W H : Int) (us : List Int) (vp : Value) (F : Nat → Prop) (l : List Pose) (v : Value) (w : World) (hG : GridAt w g u W H us vp) (hL : ListAt 3 poseEl F l v w) (hF : ∀ b, F b → b < w.heap.size ∧ b ≠ u) (hm : l.length ≤ 9223372036854775807) :
    Calls Try.prog 67 #[.pointer (some ⟨g, 0, none⟩), v] w fun e w' => w.grownBy w' (some u) ∧
      ((∃ us', (if l.length ≤ 8 then takeR W H us l else none) = some us' ∧ e = .returned (.bool true) ∧ GridAt w' g u W H us' vp) ∨ ((if l.length ≤ 8 then takeR W H us l else none) = none ∧ e = .returned (.bool false))) := by
  obtain ⟨a, cap, hv, h0⟩ := hL.form
  subst hv
  have lg := hG.ltg
  by_cases h8 : l.length ≤ 8
  · rw [if_pos h8]
    obtain ⟨R, hR⟩ : ∃ R, takeR W H us l = R := ⟨_, rfl⟩
    rw [hR]
    obtain ⟨n, hN⟩ : ∃ n, l.length = n := ⟨_, rfl⟩
    have HN : Hid (l.length = n) := hN
    rw [hN] at hm h8 hL ⊢
    have HR : Hid (takeR W H us (l.drop 0) = R) := hR
    have t8 : (n : Int) ≤ 8 := by omega
    clear hN hR
    go_enter Try.func67, Try.ntmps67
    go_wp2
    go_loopw [12] (fun i wr => ∃ (k : Nat) (us1 : List Int), k ≤ n ∧ i = .int .i64 k ∧ GridAt wr g u W H us1 vp ∧ w.grownBy wr (some u) ∧ Hid (takeR W H us1 (l.drop k) = R)) (fun i _ => n - (intOf i).toNat)
    case atStart => exact ⟨0, us, Nat.zero_le _, rfl, hG, World.grownBy.refl _ _, HR⟩
    case round =>
      obtain ⟨k, us1, hk, rfl, G1, gr, HK⟩ := hrel
      by_cases hlt : k < n
      · have hlt' : k < l.length := by rw [HN.out]; exact hlt
        have HD : Hid (l.drop k = l[k]'hlt' :: l.drop (k + 1)) := drop_item l hlt'
        obtain ⟨p, cs, cap', hv, hpF, hcs, hrd⟩ := (hL.grow heldPose hF gr).item hlt'
        generalize l[k]'hlt' = xy at *
        obtain ⟨⟨x, y⟩, d⟩ := xy
        have hcs' : cs = #[.int .i64 x, .int .i64 y, .bool d] := hcs
        subst hcs'
        obtain ⟨rfl, rfl⟩ : a = some p ∧ cap = cap' := by injection hv with h1 h2 h3; exact ⟨h1, h3⟩
        have cT := fun o => take_any g u W H us1 vp x y (wr.alloc o) (G1.alloc o) 3 (by decide)
        have hgw : wr.heap.size ≠ u := by have := G1.ltu; omega
        have HS : Hid (second ((x, y), d) = ((second ((x, y), d)).1, (second ((x, y), d)).2)) := rfl
        have cS := fun u => second_any x y d u
        generalize hx2 : (second ((x, y), d)).1 = x2 at *
        generalize hy2 : (second ((x, y), d)).2 = y2 at *
        clear hv hcs hx2 hy2
        go_wp2_with (first
          | (refine wpList_load_at rfl 30 (.tmp 14) rfl (p.add (k * 3)) rfl #[.int .i64 x, .int .i64 y, .bool d] hrd (aggPose _) info_pose ?_)
          | (have X' := b2; go_at_call 122; refine (take_any g u W H us2 vp x2 y2 w2 (G2.go b2) 3 (by decide)).mono ?_; rintro e w3 ⟨g3, ⟨us3, t3, rfl, G3⟩ | ⟨t3, rfl, G3⟩⟩)
          | (go_at_call 122; refine (cT _).mono ?_; rintro e w1 ⟨g1, ⟨us2, t2, rfl, G2⟩ | ⟨t2, rfl, G2⟩⟩; have q0 : w1.cell? ⟨wr.heap.size, 0, none⟩ = some (.int .i64 x) := (g1.cell_far ⟨wr.heap.size, 0, none⟩ (by simp) (fun e => hgw (Option.some.inj e))).trans (new_cell wr _ _ 0); have q1 : w1.cell? ⟨wr.heap.size, 1, none⟩ = some (.int .i64 y) := (g1.cell_far ⟨wr.heap.size, 1, none⟩ (by simp) (fun e => hgw (Option.some.inj e))).trans (new_cell wr _ _ 1); have q2 : w1.cell? ⟨wr.heap.size, 2, none⟩ = some (.bool d) := (g1.cell_far ⟨wr.heap.size, 2, none⟩ (by simp) (fun e => hgw (Option.some.inj e))).trans (new_cell wr _ _ 2))
          | (go_at_call 125; refine (cS _).mono ?_; rintro e w2 ⟨rfl, b2⟩))
        · go_roundw
          case rel =>
            refine ⟨k + 1, us3, by omega, by go_num, G3, grow_trans gr (grow_trans (grow_alloc _ _ _) (grow_trans g1 (grow_trans (grow_of_below b2) g3))), ?_⟩
            have := HK.out
            rw [HD.out] at this
            unfold takeR at this
            rw [t2, Option.bind_some, HS.out, t3, Option.bind_some] at this
            exact this
          case measure => simp [intOf]; omega
        · go_ret
          refine ⟨grow_trans gr (grow_trans (grow_alloc _ _ _) (grow_trans g1 (grow_trans (grow_of_below b2) g3))), Or.inr ⟨?_, rfl⟩⟩
          have := HK.out
          rw [HD.out] at this
          unfold takeR at this
          rw [t2, Option.bind_some, HS.out, t3, Option.bind_none] at this
          exact this.symm
        · go_ret
          refine ⟨grow_trans gr (grow_trans (grow_alloc _ _ _) g1), Or.inr ⟨?_, rfl⟩⟩
          have := HK.out
          rw [HD.out] at this
          unfold takeR at this
          rw [t2, Option.bind_none] at this
          exact this.symm
      · obtain rfl : k = n := by omega
        have hK := HK.out
        rw [List.drop_eq_nil_of_le (by rw [HN.out]; omega)] at hK
        clear HK
        have HK2 : Hid (R = some us1) := hK.symm
        clear hK
        go_wp2
        go_ret
        exact ⟨gr, Or.inl ⟨us1, HK2.out, rfl, G1⟩⟩
  · rw [if_neg h8]
    have t8 : 8 < (l.length : Int) := by omega
    generalize l.length = n at *
    go_enter Try.func67, Try.ntmps67
    go_wp2
    go_ret
    exact ⟨World.grownBy.refl _ _, Or.inr ⟨trivial, rfl⟩⟩

/- The cell with that number. -/
set_option maxRecDepth 100000 in
set_option maxHeartbeats 4000000 in
theorem cell_any (g u : Nat) (W H : Int) (us : List Int) (vp : Value) (w : World) (hG : GridAt w g u W H us vp) (i : Nat) (hi : i < us.length) : Calls Try.prog 83 #[.pointer (some ⟨g, 0, none⟩), .int .i64 i] w fun e w' => e = .returned (.agg #[.int .i64 (cellAt W i).1, .int .i64 (cellAt W i).2]) ∧ Below w.heap.size w w' := by
  have lg := hG.ltg
  have hw := hG.w1
  have hw2 := hG.w2
  have hw0 : (W == 0) = false := by rw [beq_eq_false_iff_ne]; omega
  have hl := hG.le
  have e1 : (i : Int).tmod W = (cellAt W i).1 := by unfold cellAt; rw [Int.tmod_eq_emod_of_nonneg (by omega)]
  have e2 : IntKind.i64.wrap ((i : Int) / W) = (cellAt W i).2 := by
    unfold cellAt
    rw [IntKind.wrap_i64]
    have h1 : (0 : Int) ≤ (i : Int) / W := Int.ediv_nonneg (by omega) (by omega)
    have h2 : (i : Int) / W ≤ i := Int.ediv_le_self _ (by omega)
    show (_ : Int) = (i : Int) / W
    omega
  have HE1 : Hid ((i : Int).tmod W = (cellAt W i).1) := e1
  have HE2 : Hid (IntKind.i64.wrap ((i : Int) / W) = (cellAt W i).2) := e2
  clear e1 e2
  obtain ⟨IH, hIH⟩ : ∃ I : World → Prop, I = fun u => u.cell? ⟨g, 0, none⟩ = some (.int .i64 W) := ⟨_, rfl⟩
  have k0 : ∀ u, IH u → u.cell? ⟨g, 0, none⟩ = some (.int .i64 W) := fun u hu => by rw [hIH] at hu; exact hu
  have hS : IH (w.alloc (.cells #[.int .i64 0, .int .i64 0] 28)).drew := by rw [hIH]; exact (hG.alloc _).c0
  have hst : (storeVar 28 ⟨w.heap.size, 0, none⟩ (.agg #[.int .i64 ((i : Int).tmod W), .int .i64 (IntKind.i64.wrap ((i : Int) / W))])).run Try.prog (w.alloc (.cells #[.int .i64 0, .int .i64 0] 28)).drew = .ok () ((w.alloc (.cells #[.int .i64 0, .int .i64 0] 28)).drew.setRow w.heap.size #[.int .i64 ((i : Int).tmod W), .int .i64 (IntKind.i64.wrap ((i : Int) / W))]) :=
    run_storeVar_row _ _ 28 _ #[.int .i64 0, .int .i64 0] _ (heap_alloc_new w _) info_cell rfl (by simp [Value.oneCell'])
  go_enter Try.func83, Try.ntmps83
  go_wp2
  refine start_held (S := IH) 14 rfl (by kernel_rfl) (hS) ?_
  simp only [Array.replicate_succ, Array.replicate_zero, List.push_toArray, List.nil_append, List.cons_append]
  refine take_held 0 (by assumption) rfl (by kernel_rfl) (by kernel_rfl) (by kernel_rfl) (fun _ _ _ h => h) (by kernel_rfl) (v := ?v0) ?y0 ?r0
  case y0 => (intro u hu; go_simp; try rfl)
  simp only [Act.put, List.setIfInBounds_toArray, List.set_cons_zero, List.set_cons_succ]
  refine take_held 1 (by assumption) rfl (by kernel_rfl) (by kernel_rfl) (by kernel_rfl) (fun _ _ _ h => h) (by kernel_rfl) (v := ?v1) ?y1 ?r1
  case y1 => (intro u hu; go_simp; try rfl)
  simp only [Act.put, List.setIfInBounds_toArray, List.set_cons_zero, List.set_cons_succ]
  refine take_held 2 (by assumption) rfl (by kernel_rfl) (by kernel_rfl) (by kernel_rfl) (fun _ _ _ h => h) (by kernel_rfl) (v := ?v2) ?y2 ?r2
  case y2 => (intro u hu; go_simp; try rfl)
  simp only [Act.put, List.setIfInBounds_toArray, List.set_cons_zero, List.set_cons_succ]
  refine take_held 3 (by assumption) rfl (by kernel_rfl) (by kernel_rfl) (by kernel_rfl) (fun _ _ _ h => h) (by kernel_rfl) (v := ?v3) ?y3 ?r3
  case y3 => (intro u hu; go_simp; try rfl)
  simp only [Act.put, List.setIfInBounds_toArray, List.set_cons_zero, List.set_cons_succ]
  refine take_held 4 (by assumption) rfl (by kernel_rfl) (by kernel_rfl) (by kernel_rfl) (fun _ _ _ h => h) (by kernel_rfl) (v := ?v4) ?y4 ?r4
  case y4 => (intro u hu; have := k0 u hu; go_simp; try rfl)
  simp only [Act.put, List.setIfInBounds_toArray, List.set_cons_zero, List.set_cons_succ]
  refine take_held 5 (by assumption) rfl (by kernel_rfl) (by kernel_rfl) (by kernel_rfl) (fun _ _ _ h => h) (by kernel_rfl) (v := ?v5) ?y5 ?r5
  case y5 => (intro u hu; go_simp; rw [if_neg (by omega)])
  simp only [Act.put, List.setIfInBounds_toArray, List.set_cons_zero, List.set_cons_succ]
  refine take_held 6 (by assumption) rfl (by kernel_rfl) (by kernel_rfl) (by kernel_rfl) (fun _ _ _ h => h) (by kernel_rfl) (v := ?v6) ?y6 ?r6
  case y6 => (intro u hu; go_simp; try rfl)
  simp only [Act.put, List.setIfInBounds_toArray, List.set_cons_zero, List.set_cons_succ]
  refine take_held 7 (by assumption) rfl (by kernel_rfl) (by kernel_rfl) (by kernel_rfl) (fun _ _ _ h => h) (by kernel_rfl) (v := ?v7) ?y7 ?r7
  case y7 => (intro u hu; go_simp; try rfl)
  simp only [Act.put, List.setIfInBounds_toArray, List.set_cons_zero, List.set_cons_succ]
  refine take_held 8 (by assumption) rfl (by kernel_rfl) (by kernel_rfl) (by kernel_rfl) (fun _ _ _ h => h) (by kernel_rfl) (v := ?v8) ?y8 ?r8
  case y8 => (intro u hu; go_simp; try rfl)
  simp only [Act.put, List.setIfInBounds_toArray, List.set_cons_zero, List.set_cons_succ]
  refine take_held 9 (by assumption) rfl (by kernel_rfl) (by kernel_rfl) (by kernel_rfl) (fun _ _ _ h => h) (by kernel_rfl) (v := ?v9) ?y9 ?r9
  case y9 => (intro u hu; go_simp; try rfl)
  simp only [Act.put, List.setIfInBounds_toArray, List.set_cons_zero, List.set_cons_succ]
  refine take_held 10 (by assumption) rfl (by kernel_rfl) (by kernel_rfl) (by kernel_rfl) (fun _ _ _ h => h) (by kernel_rfl) (v := ?v10) ?y10 ?r10
  case y10 => (intro u hu; have := k0 u hu; go_simp; try rfl)
  simp only [Act.put, List.setIfInBounds_toArray, List.set_cons_zero, List.set_cons_succ]
  refine take_held 11 (by assumption) rfl (by kernel_rfl) (by kernel_rfl) (by kernel_rfl) (fun _ _ _ h => h) (by kernel_rfl) (v := ?v11) ?y11 ?r11
  case y11 => (intro u hu; go_simp; rw [if_neg (by omega)])
  simp only [Act.put, List.setIfInBounds_toArray, List.set_cons_zero, List.set_cons_succ]
  refine take_held 12 (by assumption) rfl (by kernel_rfl) (by kernel_rfl) (by kernel_rfl) (fun _ _ _ h => h) (by kernel_rfl) (v := ?v12) ?y12 ?r12
  case y12 => (intro u hu; go_simp; try rfl)
  simp only [Act.put, List.setIfInBounds_toArray, List.set_cons_zero, List.set_cons_succ]
  refine store_held 13 rfl (by kernel_rfl) (by kernel_rfl) ((w.alloc (.cells #[.int .i64 0, .int .i64 0] 28)).drew.setRow w.heap.size #[.int .i64 ((i : Int).tmod W), .int .i64 (IntKind.i64.wrap ((i : Int) / W))]) (run_store_op 28 (.tmp 4) (.tmp 17) rfl w.heap.size _ rfl rfl hst) (by rw [hIH]; exact (cell_same (setRow_other _ _ _ _ (by simp only; omega))).trans (hG.alloc _).c0) ?_
  simp only [Act.put, List.setIfInBounds_toArray, List.set_cons_zero, List.set_cons_succ]
  refine done_held (by kernel_rfl) ?_ _
  go_wp2
  exact bodyPost_ret (results_cell_row rfl _ _ w.heap.size 28 _ (0, 0) _ rfl (setRow_heap _ _ _ _ _ _ (heap_alloc_new w _)) Try.underlying28 rfl info_cell) rfl ⟨by rw [HE1.out, HE2.out], below_row ((Below.refl _ _).alloc (Nat.le_refl _) _).drew (Nat.le_refl _) _⟩

/- Stack cells. -/
theorem servedU_same {W H : Int} {us us1 : List Int} (h : ∀ j, us1.getD j 0 = 1 ↔ us.getD j 0 = 1) (c : Cell) : servedU W H us1 c = servedU W H us c := by
  unfold servedU openU
  have e : ∀ j, decide (us1.getD j 0 ≠ 1) = decide (us.getD j 0 ≠ 1) := fun j => by
    by_cases q : us.getD j 0 = 1
    · simp only [ne_eq, (h j).2 q, q]
    · have q2 : us1.getD j 0 ≠ 1 := fun e => q ((h j).1 e)
      simp only [ne_eq, q, q2, not_false_eq_true]
  rw [e, e]
theorem stackOf_one (W H : Int) (us : List Int) (j : Nat) : stackOf W H us j = 1 ↔ us.getD j 0 = 1 := by
  unfold stackOf
  by_cases q : us.getD j 0 = 0 ∧ servedU W H us (cellAt W j) = true
  · rw [if_pos q, q.1]; decide
  · rw [if_neg q]
/- The uses, once the first k cells were gone through. -/
structure Mid (W H : Int) (us us1 : List Int) (k : Nat) : Prop where
  len : us1.length = us.length
  lo : ∀ j, j < k → us1.getD j 0 = stackOf W H us j
  hi : ∀ j, k ≤ j → us1.getD j 0 = us.getD j 0
theorem Mid.one {W H : Int} {us us1 : List Int} {k : Nat} (h : Mid W H us us1 k) (j : Nat) : us1.getD j 0 = 1 ↔ us.getD j 0 = 1 := by
  by_cases q : j < k
  · rw [h.lo j q]; exact stackOf_one W H us j
  · rw [h.hi j (by omega)]
theorem Mid.stay {W H : Int} {us us1 : List Int} {k : Nat} (h : Mid W H us us1 k) (hk : ¬ (us.getD k 0 = 0 ∧ servedU W H us (cellAt W k) = true)) : Mid W H us us1 (k + 1) := by
  refine ⟨h.len, fun j hj => ?_, fun j hj => h.hi j (by omega)⟩
  by_cases q : j < k
  · exact h.lo j q
  · obtain rfl : j = k := by omega
    rw [h.hi j (Nat.le_refl _)]
    unfold stackOf
    rw [if_neg hk]
theorem Mid.turn {W H : Int} {us us1 : List Int} {k : Nat} (h : Mid W H us us1 k) (hl : k < us.length) (hk : us.getD k 0 = 0 ∧ servedU W H us (cellAt W k) = true) : Mid W H us (us1.set k 4) (k + 1) := by
  refine ⟨by rw [List.length_set]; exact h.len, fun j hj => ?_, fun j hj => ?_⟩
  · rw [getD_set _ _ _ _ (by rw [h.len]; exact hl)]
    by_cases q : j = k
    · subst q
      rw [if_pos rfl]
      unfold stackOf
      rw [if_pos hk]
    · rw [if_neg q]; exact h.lo j (by omega)
  · rw [getD_set _ _ _ _ (by rw [h.len]; exact hl), if_neg (by omega)]
    exact h.hi j (by omega)
theorem Mid.done {W H : Int} {us us1 : List Int} (h : Mid W H us us1 us.length) : us1 = stackUs W H us := by
  apply List.ext_getElem
  · unfold stackUs; rw [List.length_map, List.length_range]; exact h.len
  · intro j h1 h2
    have := h.lo j (by rw [← h.len]; exact h1)
    rw [List.getD_eq_getElem?_getD, List.getElem?_eq_getElem h1, Option.getD_some] at this
    rw [this]
    simp [stackUs]
set_option maxRecDepth 100000 in
set_option maxHeartbeats 4000000 in
theorem layStackCells_any (g u : Nat) (W H : Int) (us : List Int) (vp : Value) (w : World) (hG : GridAt w g u W H us vp) :
    Calls Try.prog 68 #[.pointer (some ⟨g, 0, none⟩)] w fun e w' => w.grownBy w' (some u) ∧ e = .returned (.tuple #[]) ∧ GridAt w' g u W H (stackUs W H us) vp := by
  have c2 := hG.c2
  obtain ⟨n, hN⟩ : ∃ n, us.length = n := ⟨_, rfl⟩
  have HN : Hid (us.length = n) := hN
  have hle : n ≤ 256 := by rw [← hN]; exact hG.le
  rw [hN] at c2
  clear hN
  go_enter Try.func68, Try.ntmps68
  go_wp2
  go_loopw [9] (fun i wr => ∃ (k : Nat) (us1 : List Int), k ≤ n ∧ i = .int .i64 k ∧ GridAt wr g u W H us1 vp ∧ w.grownBy wr (some u) ∧ Hid (Mid W H us us1 k)) (fun i _ => n - (intOf i).toNat)
  case atStart => exact ⟨0, us, Nat.zero_le _, rfl, hG, World.grownBy.refl _ _, ⟨rfl, fun j hj => by omega, fun j _ => rfl⟩⟩
  case round =>
    obtain ⟨k, us1, hk, rfl, G1, gr, HM⟩ := hrel
    have HL : Hid (us1.length = n) := HM.out.len.trans HN.out
    by_cases hlt : k < n
    · have dk := G1.at_ k (by rw [HL.out]; exact hlt)
      have d2 := G1.c2
      rw [HL.out] at d2
      have HZ : Hid (us1.getD k 0 = us.getD k 0) := HM.out.hi k (Nat.le_refl _)
      have cC := fun wx (hb : Below wr.heap.size wr wx) => cell_any g u W H us1 vp wx (G1.go hb) k (by rw [HL.out]; exact hlt)
      have cS := fun wx (hb : Below wr.heap.size wr wx) => served_any g u W H us1 vp (cellAt W k).1 (cellAt W k).2 wx (G1.go hb)
      have HS : Hid (servedU W H us1 ((cellAt W k).1, (cellAt W k).2) = servedU W H us (cellAt W k)) := servedU_same HM.out.one _
      generalize us1.getD k 0 = z at *
      have gF := fun wx (hb : Below wr.heap.size wr wx) => frozen_of (G1.go hb).row k
      by_cases hz : z = 0
      · subst hz
        cases hs : servedU W H us1 ((cellAt W k).1, (cellAt W k).2)
        all_goals
          rw [hs] at cS
          generalize hcx : (cellAt W k).1 = cx at *
          generalize hcy : (cellAt W k).2 = cy at *
          go_wp2_with (first
            | (go_at_call 83; refine (cC _ (Below.refl _ _)).mono ?_; rintro e w1 ⟨rfl, b1⟩)
            | (go_at_call 123; refine (cS _ b1).mono ?_; rintro e w2 ⟨rfl, b2⟩; have B2 := bcat b1 b2 (Nat.le_refl _); have G2 := G1.go B2; have y2 := G2.c2; rw [HL.out] at y2; have yk := G2.at_ k (by rw [HL.out]; exact hlt); have yf := gF _ B2))
          go_roundw
          case rel =>
            first
              | exact ⟨k + 1, us1, by omega, by go_num, G2, grow_trans gr (grow_of_below B2), HM.out.stay (fun h => by have h2 := h.2; rw [← HS.out, hs] at h2; cases h2)⟩
              | exact ⟨k + 1, us1.set k 4, by omega, by go_num, G2.set k 4 (by decide), grow_set (grow_trans gr (grow_of_below B2)) _ _, HM.out.turn (by rw [HN.out]; exact hlt) ⟨HZ.out.symm, by rw [← HS.out, hs]⟩⟩
          case measure => simp [intOf]; omega
      · have hz0 : (z == 0) = false := by rw [beq_eq_false_iff_ne]; exact hz
        go_wp2
        go_roundw
        case rel => exact ⟨k + 1, us1, by omega, by go_num, G1, gr, HM.out.stay (fun h => hz (HZ.out.trans h.1))⟩
        case measure => simp [intOf]; omega
    · obtain rfl : k = n := by omega
      go_wp2
      go_end0
      have hM := HM.out
      rw [← HN.out] at hM
      rw [← hM.done]
      exact ⟨gr, rfl, G1⟩
end Go.Proofs.Ytnaojlngdfolaaa.Grid
