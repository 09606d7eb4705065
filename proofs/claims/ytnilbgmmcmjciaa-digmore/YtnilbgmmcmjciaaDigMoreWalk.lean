/-
  The more cells are touched the further the place is.
-/
import Derived.Test.YtnilbgmmcmjciaaDigAwake
import Derived.Test.YtnilbgmmcmjciaaDigSmall
import Derived.Test.YtnilbgmmcmjciaaDgV
namespace Go.Proofs.Ytnilbgmmcmjciaa.Dig
set_option linter.unusedVariables false
set_option linter.unusedSimpArgs false
open Go Go.RowKit Go.Shelf Go.Proofs Go.Proofs.Ytnilbgmmcmjciaa.Grid Go.Proofs.Ytnilbgmmcmjciaa.Srt
attribute [local go_sem] Oper.semAt_some

theorem piles_len {stks : List Stk} {m : Nat} (h : ∀ s ∈ stks, s.2.length ≤ m) (x : Cell) : (pileOf stks x).length ≤ m := by
  unfold pileOf
  split
  · rename_i s hs
    exact h s (List.mem_of_find?_eq_some hs)
  · exact Nat.zero_le _
set_option maxRecDepth 100000 in
set_option maxHeartbeats 4000000 in
theorem more_all_law (c : Conf) (v1 v2 v3 v4 : Value) (w : World) (hA : ConfAt (Old w) c v1 v2 v3 v4 w) (l1 : c.blocked.length ≤ 8796093022208) (l2 : c.ports.length ≤ 8796093022208) (l3 : c.robots.length ≤ 5864062014805) (l4 : c.stacks.length ≤ 3518437208880) (l5 : ∀ s ∈ c.stacks, s.2.length ≤ 17592186044416) (tl : List Cell) (ta : Option Addr) (tn tc : Nat) (hT : ListAt 2 cellEl (Old w) tl (.slice ta tn tc) w) (ml : List Cell) (ma : Option Addr) (mn mc : Nat) (hM : ListAt 2 cellEl (Old w) ml (.slice ma mn mc) w) (fx fy : Int) :
    Calls Try.prog 12 #[.agg #[.int .i64 c.W, .int .i64 c.H, .int .i64 c.height, v1, v2, v3, v4, .int .i64 c.unit, .int .i64 c.accel, .int .i64 c.speed, .int .i64 c.turn, .int .i64 c.hoist, .int .i64 c.queue, .int .i64 c.resend, .int .i64 c.budget, .bool c.back], .slice ta tn tc, .slice ma mn mc, .agg #[.int .i64 fx, .int .i64 fy]] w fun e w' => e = .returned (.bool true) ∧ Below w.heap.size w w' := by
  obtain ⟨f, hf⟩ : ∃ f : Cell, f = (fx, fy) := ⟨_, rfl⟩
  rw [show fx = f.1 by rw [hf], show fy = f.2 by rw [hf]]
  clear hf
  obtain ⟨w2, hw2⟩ : ∃ w2, w2 = (w.alloc (.cells #[.int .i64 c.W, .int .i64 c.H, .int .i64 c.height, v1, v2, v3, v4, .int .i64 c.unit, .int .i64 c.accel, .int .i64 c.speed, .int .i64 c.turn, .int .i64 c.hoist, .int .i64 c.queue, .int .i64 c.resend, .int .i64 c.budget, .bool c.back] 26)).alloc (.cells #[.int .i64 f.1, .int .i64 f.2] 39) := ⟨_, rfl⟩
  have b2 : Below w.heap.size w w2 := by rw [hw2]; exact below_two _ _ _
  have hc2 : w2.heap[w.heap.size]? = some (.cells #[.int .i64 c.W, .int .i64 c.H, .int .i64 c.height, v1, v2, v3, v4, .int .i64 c.unit, .int .i64 c.accel, .int .i64 c.speed, .int .i64 c.turn, .int .i64 c.hoist, .int .i64 c.queue, .int .i64 c.resend, .int .i64 c.budget, .bool c.back] 26 (0, 0)) := by rw [hw2]; exact (alloc_old _ _ _ (by simp)).trans (heap_alloc_new w _)
  have hf2 : w2.heap[w.heap.size + 1]? = some (.cells #[.int .i64 f.1, .int .i64 f.2] 39 (0, 0)) := by rw [hw2]; exact heap_new2 _ _ _
  have hO : ∀ b, Old w b → b < w.heap.size := fun b h => h
  have cS := small_any (Old w) c v1 v2 v3 v4 w2 (hA.go hO b2) (fun b hb => Nat.lt_of_lt_of_le (hO b hb) b2.size) l1 l2 l3 l4 l5
  have HA : Hid (∀ u, Below w.heap.size w u → ConfAt (Old w) c v1 v2 v3 v4 u) := fun u b => hA.go hO b
  have HT : Hid (∀ u, Below w.heap.size w u → ListAt 2 cellEl (Old w) tl (.slice ta tn tc) u) := fun u b => hT.go heldCell hO b
  have HM : Hid (∀ u, Below w.heap.size w u → ListAt 2 cellEl (Old w) ml (.slice ma mn mc) u) := fun u b => hM.go heldCell hO b
  have HTn : Hid (tl.length = tn) := by obtain ⟨a, cap, e, _⟩ := hT.form; injection e with _ e2 _; exact e2.symm
  have HMn : Hid (ml.length = mn) := by obtain ⟨a, cap, e, _⟩ := hM.form; injection e with _ e2 _; exact e2.symm
  have HPl : Hid (∀ x, (pileOf c.stacks x).length ≤ 17592186044416) := piles_len l5
  have HL5 : Hid (∀ s ∈ c.stacks, s.2.length ≤ 17592186044416) := l5
  have HB2 : Hid (Below w.heap.size w w2) := b2
  have HC2 : Hid (w2.heap[w.heap.size]? = some (.cells #[.int .i64 c.W, .int .i64 c.H, .int .i64 c.height, v1, v2, v3, v4, .int .i64 c.unit, .int .i64 c.accel, .int .i64 c.speed, .int .i64 c.turn, .int .i64 c.hoist, .int .i64 c.queue, .int .i64 c.resend, .int .i64 c.budget, .bool c.back] 26 (0, 0)) ∧ w2.heap[w.heap.size + 1]? = some (.cells #[.int .i64 f.1, .int .i64 f.2] 39 (0, 0))) := ⟨hc2, hf2⟩
  clear hA hT hM l5
  go_enter Try.func12, Try.ntmps12
  go_upto_region 1 with fail
  rw [← hw2]
  clear hw2
  cases hsm : (smallN c && (newP c).isSome) with
  | false =>
    rw [hsm] at cS
    go_wp2_with (first
      | (refine wpList_load_row rfl 26 (.tmp 4) rfl w.heap.size rfl 26 _ (0, 0) _ hc2 Try.underlying26 rfl info_conf ?_)
      | (go_at_call 13; refine cS.mono ?_; rintro e w3 ⟨rs, rfl, rfl, b3⟩)
      | (go_at_call 37; refine (awake14_any _).mono ?_; rintro e w4 ⟨rw4, rfl, rfl, b4⟩))
    go_ret
    exact ⟨rfl, bcat (bcat HB2.out b3 (Nat.le_refl _)) b4 (Nat.le_refl _)⟩
  | true =>
    rw [hsm] at cS
    obtain ⟨G, hN⟩ : ∃ G, newP c = some G := by
      cases h : newP c with
      | none => rw [h] at hsm; simp at hsm
      | some G => exact ⟨G, rfl⟩
    clear hsm
    by_cases h1 : (30 : Int) < (tn : Int)
    · have hd1 := decide_eq_true h1
      go_wp2_with (first
        | (refine wpList_load_row rfl 26 (.tmp 4) rfl w.heap.size rfl 26 _ (0, 0) _ hc2 Try.underlying26 rfl info_conf ?_)
        | (go_at_call 13; refine cS.mono ?_; rintro e w3 ⟨rs, rfl, rfl, b3⟩)
        | (go_at_call 37; refine (awake14_any _).mono ?_; rintro e w4 ⟨rw4, rfl, rfl, b4⟩))
      go_ret
      exact ⟨rfl, bcat (bcat HB2.out b3 (Nat.le_refl _)) b4 (Nat.le_refl _)⟩
    · have hd1 := decide_eq_false h1
      by_cases h2 : (30 : Int) < (mn : Int)
      · have hd2 := decide_eq_true h2
        go_wp2_with (first
          | (refine wpList_load_row rfl 26 (.tmp 4) rfl w.heap.size rfl 26 _ (0, 0) _ hc2 Try.underlying26 rfl info_conf ?_)
          | (go_at_call 13; refine cS.mono ?_; rintro e w3 ⟨rs, rfl, rfl, b3⟩)
          | (go_at_call 37; refine (awake14_any _).mono ?_; rintro e w4 ⟨rw4, rfl, rfl, b4⟩))
        go_ret
        exact ⟨rfl, bcat (bcat HB2.out b3 (Nat.le_refl _)) b4 (Nat.le_refl _)⟩
      · have hd2 := decide_eq_false h2
        go_upto_region 3 with (first
          | (refine wpList_load_row rfl 26 (.tmp 4) rfl w.heap.size rfl 26 _ (0, 0) _ hc2 Try.underlying26 rfl info_conf ?_)
          | (go_at_call 13; refine cS.mono ?_; rintro e w3 ⟨rs, rfl, rfl, b3⟩))
        clear cS hd1 hd2
        have HBw : Hid (Below w.heap.size w w3) := bcat HB2.out b3 (Nat.le_refl _)
        have hc3 := (b3.block _ (lt_of_heap HC2.out.1)).trans HC2.out.1
        have hf3 := (b3.block _ (lt_of_heap HC2.out.2)).trans HC2.out.2
        have HK3 : Hid (w3.heap[w.heap.size]? = some (.cells #[.int .i64 c.W, .int .i64 c.H, .int .i64 c.height, v1, v2, v3, v4, .int .i64 c.unit, .int .i64 c.accel, .int .i64 c.speed, .int .i64 c.turn, .int .i64 c.hoist, .int .i64 c.queue, .int .i64 c.resend, .int .i64 c.budget, .bool c.back] 26 (0, 0)) ∧ w3.heap[w.heap.size + 1]? = some (.cells #[.int .i64 f.1, .int .i64 f.2] 39 (0, 0))) := ⟨hc3, hf3⟩
        have HCr : Hid (∀ u, Below w3.heap.size w3 u → ∀ j z, #[.int .i64 c.W, .int .i64 c.H, .int .i64 c.height, v1, v2, v3, v4, .int .i64 c.unit, .int .i64 c.accel, .int .i64 c.speed, .int .i64 c.turn, .int .i64 c.hoist, .int .i64 c.queue, .int .i64 c.resend, .int .i64 c.budget, .bool c.back][j]? = some z → u.cell? ((⟨w.heap.size, 0, none⟩ : Addr).add j) = some z) := fun u hu => row_below hc3 hu
        have HC6 : Hid (∀ u, Below w3.heap.size w3 u → u.cell? ⟨w.heap.size, 6, none⟩ = some v4) := fun u hu => cell_below ((cell_of hc3 6).trans rfl) hu
        have HFr : Hid (∀ u, Below w3.heap.size w3 u → ∀ j z, #[.int .i64 f.1, .int .i64 f.2][j]? = some z → u.cell? ((⟨w.heap.size + 1, 0, none⟩ : Addr).add j) = some z) := fun u hu => row_below hf3 hu
        have S0 : Below w3.heap.size w3 w3.drew := (Below.refl _ _).drew
        obtain ⟨sn, hsn0⟩ : ∃ sn, c.stacks.length = sn := ⟨_, rfl⟩
        have HSn : Hid (c.stacks.length = sn) := hsn0
        have hsn : sn ≤ 1000000 := by have := (new_few (new_some hN).1).2; omega
        clear hc2 hf2 hc3 hf3 hsn0 b3
        refine wp_via (fun a' w' => ∃ pb P z29 z32 z34, w'.heap[pb]? = some (.cells #[.int .i64 (placeP P).1, .int .i64 (placeP P).2] 39 (0, 0)) ∧ Places c.stacks c.height (stkUpTo c.W G.uses G.uses.length) tl f P ∧ Below w3.heap.size w3 w' ∧ w3.heap.size ≤ pb ∧ a' = { tmps := #[.agg #[.int .i64 c.W, .int .i64 c.H, .int .i64 c.height, v1, v2, v3, v4, .int .i64 c.unit, .int .i64 c.accel, .int .i64 c.speed, .int .i64 c.turn, .int .i64 c.hoist, .int .i64 c.queue, .int .i64 c.resend, .int .i64 c.budget, .bool c.back], .slice ta tn tc, .slice ma mn mc, .agg #[.int .i64 f.1, .int .i64 f.2], .pointer (some ⟨w.heap.size, 0, none⟩), undef, undef, .pointer (some ⟨w.heap.size + 1, 0, none⟩), .bool false, .pointer (some ⟨pb, 0, none⟩), .int .i64 (placeE P), undef, undef, .agg #[.int .i64 c.W, .int .i64 c.H, .int .i64 c.height, v1, v2, v3, v4, .int .i64 c.unit, .int .i64 c.accel, .int .i64 c.speed, .int .i64 c.turn, .int .i64 c.hoist, .int .i64 c.queue, .int .i64 c.resend, .int .i64 c.budget, .bool c.back], .bool true, .bool false, .bool false, .slice ta tn tc, .int .i64 tn, .bool false, .bool false, .bool false, .slice ma mn mc, .int .i64 mn, .bool false, .bool false, undef, .tuple #[.agg #[.int .i64 (placeP P).1, .int .i64 (placeP P).2], .int .i64 (placeE P)], .agg #[.int .i64 c.W, .int .i64 c.H, .int .i64 c.height, v1, v2, v3, v4, .int .i64 c.unit, .int .i64 c.accel, .int .i64 c.speed, .int .i64 c.turn, .int .i64 c.hoist, .int .i64 c.queue, .int .i64 c.resend, .int .i64 c.budget, .bool c.back], z29, .pointer (some ⟨w.heap.size, 6, none⟩), v4, z32, .slice ta tn tc, z34, .agg #[.int .i64 f.1, .int .i64 f.2], .tuple #[.agg #[.int .i64 (placeP P).1, .int .i64 (placeP P).2], .int .i64 (placeE P)], .agg #[.int .i64 (placeP P).1, .int .i64 (placeP P).2], .int .i64 (placeE P), undef, undef, undef, undef, undef, undef, undef, undef, undef, undef, undef, undef, undef, undef, undef, undef, undef, undef, undef, undef, undef, undef, undef, undef, undef, undef, undef, undef, undef, undef, undef, undef, undef, undef, undef, undef, undef, undef, undef], defers := [] }) ?reg3 ?rest3
        case reg3 =>
          refine start_held (S := fun u => Below w3.heap.size w3 u) 15 rfl (by kernel_rfl) S0 ?_
          simp only [Array.replicate_succ, Array.replicate_zero, List.push_toArray, List.nil_append, List.cons_append]
          refine take_held 0 S0 rfl (by kernel_rfl) (by kernel_rfl) (by kernel_rfl) (fun _ _ _ h => h) (by kernel_rfl) (v := .agg #[.int .i64 c.W, .int .i64 c.H, .int .i64 c.height, v1, v2, v3, v4, .int .i64 c.unit, .int .i64 c.accel, .int .i64 c.speed, .int .i64 c.turn, .int .i64 c.hoist, .int .i64 c.queue, .int .i64 c.resend, .int .i64 c.budget, .bool c.back]) ?y0 ?r0
          case y0 => (intro u hu; exact run_load_op 26 _ rfl ⟨w.heap.size, 0, none⟩ _ rfl (HCr.out u hu) (aggConf u) info_conf)
          simp only [Act.put, List.setIfInBounds_toArray, List.set_cons_zero, List.set_cons_succ]
          refine take_held 2 S0 rfl (by kernel_rfl) (by kernel_rfl) (by kernel_rfl) (fun _ _ _ h => h) (by kernel_rfl) (v := ?v1) ?y1 ?r1
          case y1 => (intro u hu; go_simp; try rfl)
          simp only [Act.put, List.setIfInBounds_toArray, List.set_cons_zero, List.set_cons_succ]
          refine take_held 3 S0 rfl (by kernel_rfl) (by kernel_rfl) (by kernel_rfl) (fun _ _ _ h => h) (by kernel_rfl) (v := v4) ?y2 ?r2
          case y2 => (intro u hu; have zz := HC6.out u hu; go_simp; try rfl)
          simp only [Act.put, List.setIfInBounds_toArray, List.set_cons_zero, List.set_cons_succ]
          refine take_held 5 S0 rfl (by kernel_rfl) (by kernel_rfl) (by kernel_rfl) (fun _ _ _ h => h) (by kernel_rfl) (v := ?v3) ?y3 ?r3
          case y3 => (intro u hu; go_simp; try rfl)
          simp only [Act.put, List.setIfInBounds_toArray, List.set_cons_zero, List.set_cons_succ]
          refine take_held 7 S0 rfl (by kernel_rfl) (by kernel_rfl) (by kernel_rfl) (fun _ _ _ h => h) (by kernel_rfl) (v := .agg #[.int .i64 f.1, .int .i64 f.2]) ?y4 ?r4
          case y4 => (intro u hu; exact run_load_op 39 _ rfl ⟨w.heap.size + 1, 0, none⟩ _ rfl (HFr.out u hu) (aggCell u) infoCell2)
          simp only [Act.put, List.setIfInBounds_toArray, List.set_cons_zero, List.set_cons_succ]
          generalize w3.drew = x0 at *
          refine wpAnyH_ready (rs := [1, 12]) (by kernel_rfl) (by simp) (AllReadyH.cons ((nth_eq _ 1).trans rfl) ?_ (AllReadyH.cons ((nth_eq _ 12).trans rfl) ?_ AllReadyH.nil))
          · intro K1 hK1
            refine call_in hK1 (by kernel_rfl) 15 #[.agg #[.int .i64 c.W, .int .i64 c.H, .int .i64 c.height, v1, v2, v3, v4, .int .i64 c.unit, .int .i64 c.accel, .int .i64 c.speed, .int .i64 c.turn, .int .i64 c.hoist, .int .i64 c.queue, .int .i64 c.resend, .int .i64 c.budget, .bool c.back]] (by go_simp) _ (copyConf_any (Old w) c v1 v2 v3 v4 x0 (HA.out _ (bcat HBw.out S0 (Nat.le_refl _))) (fun b hb => Nat.lt_of_lt_of_le (hO b hb) (bcat HBw.out S0 (Nat.le_refl _)).size) l1 l2 l3 l4 HL5.out) ?_
            rintro rc x1 ⟨⟨k1, k2, k3, k4, rfl, hC1⟩, b1⟩
            have S1 : Below w3.heap.size w3 x1 := bcat S0 b1 (Nat.le_refl _)
            have HC1 : Hid (∀ u, Below x1.heap.size x1 u → ConfAt (Since x0.heap.size x1) c k1 k2 k3 k4 u) := fun u b => hC1.go (fun q h => h.2) b
            have HC1f : Hid (∀ u, Below x1.heap.size x1 u → ∀ b, Since x0.heap.size x1 b → b < u.heap.size) := fun u b q h => Nat.lt_of_lt_of_le h.2 b.size
            obtain ⟨FC1, hFC1⟩ : ∃ F, F = Since x0.heap.size x1 := ⟨_, rfl⟩
            rw [← hFC1] at HC1 HC1f
            clear hFC1 hC1
            refine ⟨S1, ?_⟩
            simp only [Act.put, List.setIfInBounds_toArray, List.set_cons_zero, List.set_cons_succ]
            have AC_1 : Below x1.heap.size x1 x1 := Below.refl _ _
            refine wpAnyH_ready (rs := [4, 12]) (by kernel_rfl) (by simp) (AllReadyH.cons ((nth_eq _ 4).trans rfl) ?_ (AllReadyH.cons ((nth_eq _ 12).trans rfl) ?_ AllReadyH.nil))
            · intro K2 hK2
              refine call_in hK2 (by kernel_rfl) 36 #[v4] (by go_simp) _ (copyStacksC_any (Old w) c.stacks v4 x1 (HA.out _ (bcat HBw.out S1 (Nat.le_refl _))).s (fun b hb => Nat.lt_of_lt_of_le (hO b hb) (bcat HBw.out S1 (Nat.le_refl _)).size) l4 HL5.out) ?_
              rintro rs x2 ⟨hS1, b2⟩
              have S2 : Below w3.heap.size w3 x2 := bcat S1 b2 (Nat.le_refl _)
              have AC_2 := bcat AC_1 b2 (Nat.le_refl _)
              obtain ⟨ka, kc, hks, _⟩ := hS1.form
              rw [HSn.out] at hks
              subst hks
              have HS1 : Hid (∀ u, Below x2.heap.size x2 u → ListAt 3 stackElC (Since x1.heap.size x2) c.stacks (.slice ka sn kc) u) := fun u b => hS1.go heldStackC (fun q h => h.2) b
              have HS1f : Hid (∀ u, Below x2.heap.size x2 u → ∀ b, Since x1.heap.size x2 b → b < u.heap.size) := fun u b q h => Nat.lt_of_lt_of_le h.2 b.size
              obtain ⟨FS1, hFS1⟩ : ∃ F, F = Since x1.heap.size x2 := ⟨_, rfl⟩
              rw [← hFS1] at HS1 HS1f
              clear hFS1 hS1
              refine ⟨S2, ?_⟩
              simp only [Act.put, List.setIfInBounds_toArray, List.set_cons_zero, List.set_cons_succ]
              have AS_2 : Below x2.heap.size x2 x2 := Below.refl _ _
              refine wpAnyH_ready (rs := [6, 12]) (by kernel_rfl) (by simp) (AllReadyH.cons ((nth_eq _ 6).trans rfl) ?_ (AllReadyH.cons ((nth_eq _ 12).trans rfl) ?_ AllReadyH.nil))
              · intro K3 hK3
                obtain ⟨vt, x3, hrun3, own3, grow3, at3⟩ := run_app (xs := ([] : List Cell)) kindCell (World.ownsRow_nil x2 x2.heap.size 39 2) (HT.out _ (bcat HBw.out S2 (Nat.le_refl _))) (by have := HTn.out; simp only [List.length_nil]; omega) (by have := HTn.out; unfold maxLen; simp only [List.length_nil]; omega) (Nat.le_refl _) 22
                have b3 : Below x2.heap.size x2 x3 := below_none grow3
                have S3 : Below w3.heap.size w3 x3 := bcat S2 b3 (Nat.le_refl _)
                have AC_3 := bcat AC_2 b3 (Nat.le_refl _)
                have AS_3 := bcat AS_2 b3 (Nat.le_refl _)
                rw [List.nil_append] at own3
                have HOvt : Hid (∀ u, Below x3.heap.size x3 u → u.ownsRow x2.heap.size 39 2 vt tl.length (rowL cellL tl)) := fun u b => owns_go own3 b
                have HOvtl : Hid (x2.heap.size ≤ x3.heap.size) := b3.size
                refine value_in hK3 (by kernel_rfl) vt x3 (run_app_op (t := 22) (.const (.slice none 0 0)) (.tmp 33) rfl (.slice none 0 0) (.slice ta tn tc) vt rfl rfl hrun3) S3 ?_
                simp only [Act.put, List.setIfInBounds_toArray, List.set_cons_zero, List.set_cons_succ]
                have AT_3 : Below x3.heap.size x3 x3 := Below.refl _ _
                refine wpAnyH_ready (rs := [8, 12]) (by kernel_rfl) (by simp) (AllReadyH.cons ((nth_eq _ 8).trans rfl) ?_ (AllReadyH.cons ((nth_eq _ 12).trans rfl) ?_ AllReadyH.nil))
                · intro K4 hK4
                  have hLt := list_of_own kindCell.len (HOvt.out _ AT_3)
                  obtain ⟨qa, qc, hq, _⟩ := hLt.form
                  subst hq
                  have hln : tl.length ≤ 1000000 := by have := HTn.out; omega
                  refine call_in hK4 (by kernel_rfl) 42 #[.agg #[.int .i64 c.W, .int .i64 c.H, .int .i64 c.height, k1, k2, k3, k4, .int .i64 c.unit, .int .i64 c.accel, .int .i64 c.speed, .int .i64 c.turn, .int .i64 c.hoist, .int .i64 c.queue, .int .i64 c.resend, .int .i64 c.budget, .bool c.back], .slice ka sn kc, .slice qa tl.length qc, .agg #[.int .i64 f.1, .int .i64 f.2]] (by go_simp) _ (place_some (HC1.out _ AC_3) (HC1f.out _ AC_3) l1 l2 l3 l4 hN FS1 c.stacks ka sn kc (HS1.out _ AS_3) (HS1f.out _ AS_3) hsn HPl.out _ tl _ _ _ hLt (fun q h => h.2) hln f) ?_
                  rintro rp x4 ⟨⟨P, rfl, hPl⟩, b4⟩
                  have S4 : Below w3.heap.size w3 x4 := bcat S3 b4 (Nat.le_refl _)
                  have AC_4 := bcat AC_3 b4 (Nat.le_refl _)
                  have AS_4 := bcat AS_3 b4 (Nat.le_refl _)
                  have AT_4 := bcat AT_3 b4 (Nat.le_refl _)
                  refine ⟨S4, ?_⟩
                  simp only [Act.put, List.setIfInBounds_toArray, List.set_cons_zero, List.set_cons_succ]
                  refine take_held 9 S4 rfl (by kernel_rfl) (by kernel_rfl) (by kernel_rfl) (fun _ _ _ h => h) (by kernel_rfl) (v := ?v5) ?y5 ?r5
                  case y5 => (intro u hu; go_simp; try rfl)
                  simp only [Act.put, List.setIfInBounds_toArray, List.set_cons_zero, List.set_cons_succ]
                  refine take_held 10 S4 rfl (by kernel_rfl) (by kernel_rfl) (by kernel_rfl) (fun _ _ _ h => h) (by kernel_rfl) (v := ?v6) ?y6 ?r6
                  case y6 => (intro u hu; go_simp; try rfl)
                  simp only [Act.put, List.setIfInBounds_toArray, List.set_cons_zero, List.set_cons_succ]
                  refine take_held 11 S4 rfl (by kernel_rfl) (by kernel_rfl) (by kernel_rfl) (fun _ _ _ h => h) (by kernel_rfl) (v := ?v7) ?y7 ?r7
                  case y7 => (intro u hu; go_simp; try rfl)
                  simp only [Act.put, List.setIfInBounds_toArray, List.set_cons_zero, List.set_cons_succ]
                  refine wpAnyH_ready (rs := [12]) (by kernel_rfl) (by simp) (AllReadyH.cons ((nth_eq _ 12).trans rfl) ?_ AllReadyH.nil)
                  intro K5 hK5
                  obtain ⟨x5, hx5⟩ : ∃ x, x = x4.alloc (.cells #[.int .i64 0, .int .i64 0] 39) := ⟨_, rfl⟩
                  have b5 : Below x4.heap.size x4 x5 := by rw [hx5]; exact below_new (Below.refl _ _) _
                  have hva : x5.heap[x4.heap.size]? = some (.cells #[.int .i64 0, .int .i64 0] 39 (0, 0)) := by rw [hx5]; exact heap_alloc_new _ _
                  have lva : w3.heap.size ≤ x4.heap.size := S4.size
                  have S5 : Below w3.heap.size w3 x5 := bcat S4 b5 (Nat.le_refl _)
                  have AC_5 := bcat AC_4 b5 (Nat.le_refl _)
                  have AS_5 := bcat AS_4 b5 (Nat.le_refl _)
                  have AT_5 := bcat AT_4 b5 (Nat.le_refl _)
                  refine value_in hK5 (by kernel_rfl) (.pointer (some ⟨x4.heap.size, 0, none⟩)) x5 (by rw [hx5]; go_simp; try rfl) S5 ?_
                  simp only [Act.put, List.setIfInBounds_toArray, List.set_cons_zero, List.set_cons_succ]
                  clear hx5
                  obtain ⟨pb, hpb⟩ : ∃ pb, x4.heap.size = pb := ⟨_, rfl⟩
                  rw [hpb] at hva lva
                  try rw [hpb]
                  have HPb : Hid (x4.heap.size = pb) := hpb
                  clear hpb
                  have AV_5 : Below x5.heap.size x5 x5 := Below.refl _ _
                  have hv9 := (AV_5.block _ (lt_of_heap hva)).trans hva
                  have S9 : Below w3.heap.size w3 (x5.setRow pb #[.int .i64 (placeP P).1, .int .i64 (placeP P).2]) := below_row S5 lva _
                  have hst := run_storeVar_row (P := Try.prog) x5 pb 39 39 #[.int .i64 0, .int .i64 0] #[.int .i64 (placeP P).1, .int .i64 (placeP P).2] hv9 infoCell2 rfl (by simp [Value.oneCell'])
                  refine store_held 13 rfl (by kernel_rfl) (by kernel_rfl) (x5.setRow pb #[.int .i64 (placeP P).1, .int .i64 (placeP P).2]) (run_store_op 39 (.tmp 9) (.tmp 37) rfl pb #[.int .i64 (placeP P).1, .int .i64 (placeP P).2] rfl rfl hst) S9 ?_
                  simp only [Act.put, List.setIfInBounds_toArray, List.set_cons_zero, List.set_cons_succ]
                  refine take_held 14 S9 rfl (by kernel_rfl) (by kernel_rfl) (by kernel_rfl) (fun _ _ _ h => h) (by kernel_rfl) (v := ?v8) ?y8 ?r8
                  case y8 => (intro u hu; go_simp; try rfl)
                  simp only [Act.put, List.setIfInBounds_toArray, List.set_cons_zero, List.set_cons_succ]
                  refine done_held (by kernel_rfl) ?_ _
                  exact ⟨pb, P, _, _, _, setRow_heap _ _ _ _ _ _ hv9, hPl, S9, lva, rfl⟩
                · intro K4 hK4
                  obtain ⟨x4, hx4⟩ : ∃ x, x = x3.alloc (.cells #[.int .i64 0, .int .i64 0] 39) := ⟨_, rfl⟩
                  have b4 : Below x3.heap.size x3 x4 := by rw [hx4]; exact below_new (Below.refl _ _) _
                  have hva : x4.heap[x3.heap.size]? = some (.cells #[.int .i64 0, .int .i64 0] 39 (0, 0)) := by rw [hx4]; exact heap_alloc_new _ _
                  have lva : w3.heap.size ≤ x3.heap.size := S3.size
                  have S4 : Below w3.heap.size w3 x4 := bcat S3 b4 (Nat.le_refl _)
                  have AC_4 := bcat AC_3 b4 (Nat.le_refl _)
                  have AS_4 := bcat AS_3 b4 (Nat.le_refl _)
                  have AT_4 := bcat AT_3 b4 (Nat.le_refl _)
                  refine value_in hK4 (by kernel_rfl) (.pointer (some ⟨x3.heap.size, 0, none⟩)) x4 (by rw [hx4]; go_simp; try rfl) S4 ?_
                  simp only [Act.put, List.setIfInBounds_toArray, List.set_cons_zero, List.set_cons_succ]
                  clear hx4
                  obtain ⟨pb, hpb⟩ : ∃ pb, x3.heap.size = pb := ⟨_, rfl⟩
                  rw [hpb] at hva lva
                  try rw [hpb]
                  have HPb : Hid (x3.heap.size = pb) := hpb
                  clear hpb
                  have AV_4 : Below x4.heap.size x4 x4 := Below.refl _ _
                  refine wpAnyH_ready (rs := [8]) (by kernel_rfl) (by simp) (AllReadyH.cons ((nth_eq _ 8).trans rfl) ?_ AllReadyH.nil)
                  intro K5 hK5
                  have hLt := list_of_own kindCell.len (HOvt.out _ AT_4)
                  obtain ⟨qa, qc, hq, _⟩ := hLt.form
                  subst hq
                  have hln : tl.length ≤ 1000000 := by have := HTn.out; omega
                  refine call_in hK5 (by kernel_rfl) 42 #[.agg #[.int .i64 c.W, .int .i64 c.H, .int .i64 c.height, k1, k2, k3, k4, .int .i64 c.unit, .int .i64 c.accel, .int .i64 c.speed, .int .i64 c.turn, .int .i64 c.hoist, .int .i64 c.queue, .int .i64 c.resend, .int .i64 c.budget, .bool c.back], .slice ka sn kc, .slice qa tl.length qc, .agg #[.int .i64 f.1, .int .i64 f.2]] (by go_simp) _ (place_some (HC1.out _ AC_4) (HC1f.out _ AC_4) l1 l2 l3 l4 hN FS1 c.stacks ka sn kc (HS1.out _ AS_4) (HS1f.out _ AS_4) hsn HPl.out _ tl _ _ _ hLt (fun q h => h.2) hln f) ?_
                  rintro rp x5 ⟨⟨P, rfl, hPl⟩, b5⟩
                  have S5 : Below w3.heap.size w3 x5 := bcat S4 b5 (Nat.le_refl _)
                  have AC_5 := bcat AC_4 b5 (Nat.le_refl _)
                  have AS_5 := bcat AS_4 b5 (Nat.le_refl _)
                  have AT_5 := bcat AT_4 b5 (Nat.le_refl _)
                  have AV_5 := bcat AV_4 b5 (Nat.le_refl _)
                  refine ⟨S5, ?_⟩
                  simp only [Act.put, List.setIfInBounds_toArray, List.set_cons_zero, List.set_cons_succ]
                  refine take_held 9 S5 rfl (by kernel_rfl) (by kernel_rfl) (by kernel_rfl) (fun _ _ _ h => h) (by kernel_rfl) (v := ?v9) ?y9 ?r9
                  case y9 => (intro u hu; go_simp; try rfl)
                  simp only [Act.put, List.setIfInBounds_toArray, List.set_cons_zero, List.set_cons_succ]
                  refine take_held 10 S5 rfl (by kernel_rfl) (by kernel_rfl) (by kernel_rfl) (fun _ _ _ h => h) (by kernel_rfl) (v := ?v10) ?y10 ?r10
                  case y10 => (intro u hu; go_simp; try rfl)
                  simp only [Act.put, List.setIfInBounds_toArray, List.set_cons_zero, List.set_cons_succ]
                  refine take_held 11 S5 rfl (by kernel_rfl) (by kernel_rfl) (by kernel_rfl) (fun _ _ _ h => h) (by kernel_rfl) (v := ?v11) ?y11 ?r11
                  case y11 => (intro u hu; go_simp; try rfl)
                  simp only [Act.put, List.setIfInBounds_toArray, List.set_cons_zero, List.set_cons_succ]
                  have hv9 := (AV_5.block _ (lt_of_heap hva)).trans hva
                  have S9 : Below w3.heap.size w3 (x5.setRow pb #[.int .i64 (placeP P).1, .int .i64 (placeP P).2]) := below_row S5 lva _
                  have hst := run_storeVar_row (P := Try.prog) x5 pb 39 39 #[.int .i64 0, .int .i64 0] #[.int .i64 (placeP P).1, .int .i64 (placeP P).2] hv9 infoCell2 rfl (by simp [Value.oneCell'])
                  refine store_held 13 rfl (by kernel_rfl) (by kernel_rfl) (x5.setRow pb #[.int .i64 (placeP P).1, .int .i64 (placeP P).2]) (run_store_op 39 (.tmp 9) (.tmp 37) rfl pb #[.int .i64 (placeP P).1, .int .i64 (placeP P).2] rfl rfl hst) S9 ?_
                  simp only [Act.put, List.setIfInBounds_toArray, List.set_cons_zero, List.set_cons_succ]
                  refine take_held 14 S9 rfl (by kernel_rfl) (by kernel_rfl) (by kernel_rfl) (fun _ _ _ h => h) (by kernel_rfl) (v := ?v12) ?y12 ?r12
                  case y12 => (intro u hu; go_simp; try rfl)
                  simp only [Act.put, List.setIfInBounds_toArray, List.set_cons_zero, List.set_cons_succ]
                  refine done_held (by kernel_rfl) ?_ _
                  exact ⟨pb, P, _, _, _, setRow_heap _ _ _ _ _ _ hv9, hPl, S9, lva, rfl⟩
              · intro K3 hK3
                obtain ⟨x3, hx3⟩ : ∃ x, x = x2.alloc (.cells #[.int .i64 0, .int .i64 0] 39) := ⟨_, rfl⟩
                have b3 : Below x2.heap.size x2 x3 := by rw [hx3]; exact below_new (Below.refl _ _) _
                have hva : x3.heap[x2.heap.size]? = some (.cells #[.int .i64 0, .int .i64 0] 39 (0, 0)) := by rw [hx3]; exact heap_alloc_new _ _
                have lva : w3.heap.size ≤ x2.heap.size := S2.size
                have S3 : Below w3.heap.size w3 x3 := bcat S2 b3 (Nat.le_refl _)
                have AC_3 := bcat AC_2 b3 (Nat.le_refl _)
                have AS_3 := bcat AS_2 b3 (Nat.le_refl _)
                refine value_in hK3 (by kernel_rfl) (.pointer (some ⟨x2.heap.size, 0, none⟩)) x3 (by rw [hx3]; go_simp; try rfl) S3 ?_
                simp only [Act.put, List.setIfInBounds_toArray, List.set_cons_zero, List.set_cons_succ]
                clear hx3
                obtain ⟨pb, hpb⟩ : ∃ pb, x2.heap.size = pb := ⟨_, rfl⟩
                rw [hpb] at hva lva
                try rw [hpb]
                have HPb : Hid (x2.heap.size = pb) := hpb
                clear hpb
                have AV_3 : Below x3.heap.size x3 x3 := Below.refl _ _
                refine wpAnyH_ready (rs := [6]) (by kernel_rfl) (by simp) (AllReadyH.cons ((nth_eq _ 6).trans rfl) ?_ AllReadyH.nil)
                intro K4 hK4
                obtain ⟨vt, x4, hrun4, own4, grow4, at4⟩ := run_app (xs := ([] : List Cell)) kindCell (World.ownsRow_nil x3 x3.heap.size 39 2) (HT.out _ (bcat HBw.out S3 (Nat.le_refl _))) (by have := HTn.out; simp only [List.length_nil]; omega) (by have := HTn.out; unfold maxLen; simp only [List.length_nil]; omega) (Nat.le_refl _) 22
                have b4 : Below x3.heap.size x3 x4 := below_none grow4
                have S4 : Below w3.heap.size w3 x4 := bcat S3 b4 (Nat.le_refl _)
                have AC_4 := bcat AC_3 b4 (Nat.le_refl _)
                have AS_4 := bcat AS_3 b4 (Nat.le_refl _)
                have AV_4 := bcat AV_3 b4 (Nat.le_refl _)
                rw [List.nil_append] at own4
                have HOvt : Hid (∀ u, Below x4.heap.size x4 u → u.ownsRow x3.heap.size 39 2 vt tl.length (rowL cellL tl)) := fun u b => owns_go own4 b
                have HOvtl : Hid (x3.heap.size ≤ x4.heap.size) := b4.size
                refine value_in hK4 (by kernel_rfl) vt x4 (run_app_op (t := 22) (.const (.slice none 0 0)) (.tmp 33) rfl (.slice none 0 0) (.slice ta tn tc) vt rfl rfl hrun4) S4 ?_
                simp only [Act.put, List.setIfInBounds_toArray, List.set_cons_zero, List.set_cons_succ]
                have AT_4 : Below x4.heap.size x4 x4 := Below.refl _ _
                refine wpAnyH_ready (rs := [8]) (by kernel_rfl) (by simp) (AllReadyH.cons ((nth_eq _ 8).trans rfl) ?_ AllReadyH.nil)
                intro K5 hK5
                have hLt := list_of_own kindCell.len (HOvt.out _ AT_4)
                obtain ⟨qa, qc, hq, _⟩ := hLt.form
                subst hq
                have hln : tl.length ≤ 1000000 := by have := HTn.out; omega
                refine call_in hK5 (by kernel_rfl) 42 #[.agg #[.int .i64 c.W, .int .i64 c.H, .int .i64 c.height, k1, k2, k3, k4, .int .i64 c.unit, .int .i64 c.accel, .int .i64 c.speed, .int .i64 c.turn, .int .i64 c.hoist, .int .i64 c.queue, .int .i64 c.resend, .int .i64 c.budget, .bool c.back], .slice ka sn kc, .slice qa tl.length qc, .agg #[.int .i64 f.1, .int .i64 f.2]] (by go_simp) _ (place_some (HC1.out _ AC_4) (HC1f.out _ AC_4) l1 l2 l3 l4 hN FS1 c.stacks ka sn kc (HS1.out _ AS_4) (HS1f.out _ AS_4) hsn HPl.out _ tl _ _ _ hLt (fun q h => h.2) hln f) ?_
                rintro rp x5 ⟨⟨P, rfl, hPl⟩, b5⟩
                have S5 : Below w3.heap.size w3 x5 := bcat S4 b5 (Nat.le_refl _)
                have AC_5 := bcat AC_4 b5 (Nat.le_refl _)
                have AS_5 := bcat AS_4 b5 (Nat.le_refl _)
                have AV_5 := bcat AV_4 b5 (Nat.le_refl _)
                have AT_5 := bcat AT_4 b5 (Nat.le_refl _)
                refine ⟨S5, ?_⟩
                simp only [Act.put, List.setIfInBounds_toArray, List.set_cons_zero, List.set_cons_succ]
                refine take_held 9 S5 rfl (by kernel_rfl) (by kernel_rfl) (by kernel_rfl) (fun _ _ _ h => h) (by kernel_rfl) (v := ?v13) ?y13 ?r13
                case y13 => (intro u hu; go_simp; try rfl)
                simp only [Act.put, List.setIfInBounds_toArray, List.set_cons_zero, List.set_cons_succ]
                refine take_held 10 S5 rfl (by kernel_rfl) (by kernel_rfl) (by kernel_rfl) (fun _ _ _ h => h) (by kernel_rfl) (v := ?v14) ?y14 ?r14
                case y14 => (intro u hu; go_simp; try rfl)
                simp only [Act.put, List.setIfInBounds_toArray, List.set_cons_zero, List.set_cons_succ]
                refine take_held 11 S5 rfl (by kernel_rfl) (by kernel_rfl) (by kernel_rfl) (fun _ _ _ h => h) (by kernel_rfl) (v := ?v15) ?y15 ?r15
                case y15 => (intro u hu; go_simp; try rfl)
                simp only [Act.put, List.setIfInBounds_toArray, List.set_cons_zero, List.set_cons_succ]
                have hv9 := (AV_5.block _ (lt_of_heap hva)).trans hva
                have S9 : Below w3.heap.size w3 (x5.setRow pb #[.int .i64 (placeP P).1, .int .i64 (placeP P).2]) := below_row S5 lva _
                have hst := run_storeVar_row (P := Try.prog) x5 pb 39 39 #[.int .i64 0, .int .i64 0] #[.int .i64 (placeP P).1, .int .i64 (placeP P).2] hv9 infoCell2 rfl (by simp [Value.oneCell'])
                refine store_held 13 rfl (by kernel_rfl) (by kernel_rfl) (x5.setRow pb #[.int .i64 (placeP P).1, .int .i64 (placeP P).2]) (run_store_op 39 (.tmp 9) (.tmp 37) rfl pb #[.int .i64 (placeP P).1, .int .i64 (placeP P).2] rfl rfl hst) S9 ?_
                simp only [Act.put, List.setIfInBounds_toArray, List.set_cons_zero, List.set_cons_succ]
                refine take_held 14 S9 rfl (by kernel_rfl) (by kernel_rfl) (by kernel_rfl) (fun _ _ _ h => h) (by kernel_rfl) (v := ?v16) ?y16 ?r16
                case y16 => (intro u hu; go_simp; try rfl)
                simp only [Act.put, List.setIfInBounds_toArray, List.set_cons_zero, List.set_cons_succ]
                refine done_held (by kernel_rfl) ?_ _
                exact ⟨pb, P, _, _, _, setRow_heap _ _ _ _ _ _ hv9, hPl, S9, lva, rfl⟩
            · intro K2 hK2
              obtain ⟨x2, hx2⟩ : ∃ x, x = x1.alloc (.cells #[.int .i64 0, .int .i64 0] 39) := ⟨_, rfl⟩
              have b2 : Below x1.heap.size x1 x2 := by rw [hx2]; exact below_new (Below.refl _ _) _
              have hva : x2.heap[x1.heap.size]? = some (.cells #[.int .i64 0, .int .i64 0] 39 (0, 0)) := by rw [hx2]; exact heap_alloc_new _ _
              have lva : w3.heap.size ≤ x1.heap.size := S1.size
              have S2 : Below w3.heap.size w3 x2 := bcat S1 b2 (Nat.le_refl _)
              have AC_2 := bcat AC_1 b2 (Nat.le_refl _)
              refine value_in hK2 (by kernel_rfl) (.pointer (some ⟨x1.heap.size, 0, none⟩)) x2 (by rw [hx2]; go_simp; try rfl) S2 ?_
              simp only [Act.put, List.setIfInBounds_toArray, List.set_cons_zero, List.set_cons_succ]
              clear hx2
              obtain ⟨pb, hpb⟩ : ∃ pb, x1.heap.size = pb := ⟨_, rfl⟩
              rw [hpb] at hva lva
              try rw [hpb]
              have HPb : Hid (x1.heap.size = pb) := hpb
              clear hpb
              have AV_2 : Below x2.heap.size x2 x2 := Below.refl _ _
              refine wpAnyH_ready (rs := [4]) (by kernel_rfl) (by simp) (AllReadyH.cons ((nth_eq _ 4).trans rfl) ?_ AllReadyH.nil)
              intro K3 hK3
              refine call_in hK3 (by kernel_rfl) 36 #[v4] (by go_simp) _ (copyStacksC_any (Old w) c.stacks v4 x2 (HA.out _ (bcat HBw.out S2 (Nat.le_refl _))).s (fun b hb => Nat.lt_of_lt_of_le (hO b hb) (bcat HBw.out S2 (Nat.le_refl _)).size) l4 HL5.out) ?_
              rintro rs x3 ⟨hS1, b3⟩
              have S3 : Below w3.heap.size w3 x3 := bcat S2 b3 (Nat.le_refl _)
              have AC_3 := bcat AC_2 b3 (Nat.le_refl _)
              have AV_3 := bcat AV_2 b3 (Nat.le_refl _)
              obtain ⟨ka, kc, hks, _⟩ := hS1.form
              rw [HSn.out] at hks
              subst hks
              have HS1 : Hid (∀ u, Below x3.heap.size x3 u → ListAt 3 stackElC (Since x2.heap.size x3) c.stacks (.slice ka sn kc) u) := fun u b => hS1.go heldStackC (fun q h => h.2) b
              have HS1f : Hid (∀ u, Below x3.heap.size x3 u → ∀ b, Since x2.heap.size x3 b → b < u.heap.size) := fun u b q h => Nat.lt_of_lt_of_le h.2 b.size
              obtain ⟨FS1, hFS1⟩ : ∃ F, F = Since x2.heap.size x3 := ⟨_, rfl⟩
              rw [← hFS1] at HS1 HS1f
              clear hFS1 hS1
              refine ⟨S3, ?_⟩
              simp only [Act.put, List.setIfInBounds_toArray, List.set_cons_zero, List.set_cons_succ]
              have AS_3 : Below x3.heap.size x3 x3 := Below.refl _ _
              refine wpAnyH_ready (rs := [6]) (by kernel_rfl) (by simp) (AllReadyH.cons ((nth_eq _ 6).trans rfl) ?_ AllReadyH.nil)
              intro K4 hK4
              obtain ⟨vt, x4, hrun4, own4, grow4, at4⟩ := run_app (xs := ([] : List Cell)) kindCell (World.ownsRow_nil x3 x3.heap.size 39 2) (HT.out _ (bcat HBw.out S3 (Nat.le_refl _))) (by have := HTn.out; simp only [List.length_nil]; omega) (by have := HTn.out; unfold maxLen; simp only [List.length_nil]; omega) (Nat.le_refl _) 22
              have b4 : Below x3.heap.size x3 x4 := below_none grow4
              have S4 : Below w3.heap.size w3 x4 := bcat S3 b4 (Nat.le_refl _)
              have AC_4 := bcat AC_3 b4 (Nat.le_refl _)
              have AV_4 := bcat AV_3 b4 (Nat.le_refl _)
              have AS_4 := bcat AS_3 b4 (Nat.le_refl _)
              rw [List.nil_append] at own4
              have HOvt : Hid (∀ u, Below x4.heap.size x4 u → u.ownsRow x3.heap.size 39 2 vt tl.length (rowL cellL tl)) := fun u b => owns_go own4 b
              have HOvtl : Hid (x3.heap.size ≤ x4.heap.size) := b4.size
              refine value_in hK4 (by kernel_rfl) vt x4 (run_app_op (t := 22) (.const (.slice none 0 0)) (.tmp 33) rfl (.slice none 0 0) (.slice ta tn tc) vt rfl rfl hrun4) S4 ?_
              simp only [Act.put, List.setIfInBounds_toArray, List.set_cons_zero, List.set_cons_succ]
              have AT_4 : Below x4.heap.size x4 x4 := Below.refl _ _
              refine wpAnyH_ready (rs := [8]) (by kernel_rfl) (by simp) (AllReadyH.cons ((nth_eq _ 8).trans rfl) ?_ AllReadyH.nil)
              intro K5 hK5
              have hLt := list_of_own kindCell.len (HOvt.out _ AT_4)
              obtain ⟨qa, qc, hq, _⟩ := hLt.form
              subst hq
              have hln : tl.length ≤ 1000000 := by have := HTn.out; omega
              refine call_in hK5 (by kernel_rfl) 42 #[.agg #[.int .i64 c.W, .int .i64 c.H, .int .i64 c.height, k1, k2, k3, k4, .int .i64 c.unit, .int .i64 c.accel, .int .i64 c.speed, .int .i64 c.turn, .int .i64 c.hoist, .int .i64 c.queue, .int .i64 c.resend, .int .i64 c.budget, .bool c.back], .slice ka sn kc, .slice qa tl.length qc, .agg #[.int .i64 f.1, .int .i64 f.2]] (by go_simp) _ (place_some (HC1.out _ AC_4) (HC1f.out _ AC_4) l1 l2 l3 l4 hN FS1 c.stacks ka sn kc (HS1.out _ AS_4) (HS1f.out _ AS_4) hsn HPl.out _ tl _ _ _ hLt (fun q h => h.2) hln f) ?_
              rintro rp x5 ⟨⟨P, rfl, hPl⟩, b5⟩
              have S5 : Below w3.heap.size w3 x5 := bcat S4 b5 (Nat.le_refl _)
              have AC_5 := bcat AC_4 b5 (Nat.le_refl _)
              have AV_5 := bcat AV_4 b5 (Nat.le_refl _)
              have AS_5 := bcat AS_4 b5 (Nat.le_refl _)
              have AT_5 := bcat AT_4 b5 (Nat.le_refl _)
              refine ⟨S5, ?_⟩
              simp only [Act.put, List.setIfInBounds_toArray, List.set_cons_zero, List.set_cons_succ]
              refine take_held 9 S5 rfl (by kernel_rfl) (by kernel_rfl) (by kernel_rfl) (fun _ _ _ h => h) (by kernel_rfl) (v := ?v17) ?y17 ?r17
              case y17 => (intro u hu; go_simp; try rfl)
              simp only [Act.put, List.setIfInBounds_toArray, List.set_cons_zero, List.set_cons_succ]
              refine take_held 10 S5 rfl (by kernel_rfl) (by kernel_rfl) (by kernel_rfl) (fun _ _ _ h => h) (by kernel_rfl) (v := ?v18) ?y18 ?r18
              case y18 => (intro u hu; go_simp; try rfl)
              simp only [Act.put, List.setIfInBounds_toArray, List.set_cons_zero, List.set_cons_succ]
              refine take_held 11 S5 rfl (by kernel_rfl) (by kernel_rfl) (by kernel_rfl) (fun _ _ _ h => h) (by kernel_rfl) (v := ?v19) ?y19 ?r19
              case y19 => (intro u hu; go_simp; try rfl)
              simp only [Act.put, List.setIfInBounds_toArray, List.set_cons_zero, List.set_cons_succ]
              have hv9 := (AV_5.block _ (lt_of_heap hva)).trans hva
              have S9 : Below w3.heap.size w3 (x5.setRow pb #[.int .i64 (placeP P).1, .int .i64 (placeP P).2]) := below_row S5 lva _
              have hst := run_storeVar_row (P := Try.prog) x5 pb 39 39 #[.int .i64 0, .int .i64 0] #[.int .i64 (placeP P).1, .int .i64 (placeP P).2] hv9 infoCell2 rfl (by simp [Value.oneCell'])
              refine store_held 13 rfl (by kernel_rfl) (by kernel_rfl) (x5.setRow pb #[.int .i64 (placeP P).1, .int .i64 (placeP P).2]) (run_store_op 39 (.tmp 9) (.tmp 37) rfl pb #[.int .i64 (placeP P).1, .int .i64 (placeP P).2] rfl rfl hst) S9 ?_
              simp only [Act.put, List.setIfInBounds_toArray, List.set_cons_zero, List.set_cons_succ]
              refine take_held 14 S9 rfl (by kernel_rfl) (by kernel_rfl) (by kernel_rfl) (fun _ _ _ h => h) (by kernel_rfl) (v := ?v20) ?y20 ?r20
              case y20 => (intro u hu; go_simp; try rfl)
              simp only [Act.put, List.setIfInBounds_toArray, List.set_cons_zero, List.set_cons_succ]
              refine done_held (by kernel_rfl) ?_ _
              exact ⟨pb, P, _, _, _, setRow_heap _ _ _ _ _ _ hv9, hPl, S9, lva, rfl⟩
          · intro K1 hK1
            obtain ⟨x1, hx1⟩ : ∃ x, x = x0.alloc (.cells #[.int .i64 0, .int .i64 0] 39) := ⟨_, rfl⟩
            have b1 : Below x0.heap.size x0 x1 := by rw [hx1]; exact below_new (Below.refl _ _) _
            have hva : x1.heap[x0.heap.size]? = some (.cells #[.int .i64 0, .int .i64 0] 39 (0, 0)) := by rw [hx1]; exact heap_alloc_new _ _
            have lva : w3.heap.size ≤ x0.heap.size := S0.size
            have S1 : Below w3.heap.size w3 x1 := bcat S0 b1 (Nat.le_refl _)
            refine value_in hK1 (by kernel_rfl) (.pointer (some ⟨x0.heap.size, 0, none⟩)) x1 (by rw [hx1]; go_simp; try rfl) S1 ?_
            simp only [Act.put, List.setIfInBounds_toArray, List.set_cons_zero, List.set_cons_succ]
            clear hx1
            obtain ⟨pb, hpb⟩ : ∃ pb, x0.heap.size = pb := ⟨_, rfl⟩
            rw [hpb] at hva lva
            try rw [hpb]
            have HPb : Hid (x0.heap.size = pb) := hpb
            clear hpb
            have AV_1 : Below x1.heap.size x1 x1 := Below.refl _ _
            refine wpAnyH_ready (rs := [1]) (by kernel_rfl) (by simp) (AllReadyH.cons ((nth_eq _ 1).trans rfl) ?_ AllReadyH.nil)
            intro K2 hK2
            refine call_in hK2 (by kernel_rfl) 15 #[.agg #[.int .i64 c.W, .int .i64 c.H, .int .i64 c.height, v1, v2, v3, v4, .int .i64 c.unit, .int .i64 c.accel, .int .i64 c.speed, .int .i64 c.turn, .int .i64 c.hoist, .int .i64 c.queue, .int .i64 c.resend, .int .i64 c.budget, .bool c.back]] (by go_simp) _ (copyConf_any (Old w) c v1 v2 v3 v4 x1 (HA.out _ (bcat HBw.out S1 (Nat.le_refl _))) (fun b hb => Nat.lt_of_lt_of_le (hO b hb) (bcat HBw.out S1 (Nat.le_refl _)).size) l1 l2 l3 l4 HL5.out) ?_
            rintro rc x2 ⟨⟨k1, k2, k3, k4, rfl, hC1⟩, b2⟩
            have S2 : Below w3.heap.size w3 x2 := bcat S1 b2 (Nat.le_refl _)
            have AV_2 := bcat AV_1 b2 (Nat.le_refl _)
            have HC1 : Hid (∀ u, Below x2.heap.size x2 u → ConfAt (Since x1.heap.size x2) c k1 k2 k3 k4 u) := fun u b => hC1.go (fun q h => h.2) b
            have HC1f : Hid (∀ u, Below x2.heap.size x2 u → ∀ b, Since x1.heap.size x2 b → b < u.heap.size) := fun u b q h => Nat.lt_of_lt_of_le h.2 b.size
            obtain ⟨FC1, hFC1⟩ : ∃ F, F = Since x1.heap.size x2 := ⟨_, rfl⟩
            rw [← hFC1] at HC1 HC1f
            clear hFC1 hC1
            refine ⟨S2, ?_⟩
            simp only [Act.put, List.setIfInBounds_toArray, List.set_cons_zero, List.set_cons_succ]
            have AC_2 : Below x2.heap.size x2 x2 := Below.refl _ _
            refine wpAnyH_ready (rs := [4]) (by kernel_rfl) (by simp) (AllReadyH.cons ((nth_eq _ 4).trans rfl) ?_ AllReadyH.nil)
            intro K3 hK3
            refine call_in hK3 (by kernel_rfl) 36 #[v4] (by go_simp) _ (copyStacksC_any (Old w) c.stacks v4 x2 (HA.out _ (bcat HBw.out S2 (Nat.le_refl _))).s (fun b hb => Nat.lt_of_lt_of_le (hO b hb) (bcat HBw.out S2 (Nat.le_refl _)).size) l4 HL5.out) ?_
            rintro rs x3 ⟨hS1, b3⟩
            have S3 : Below w3.heap.size w3 x3 := bcat S2 b3 (Nat.le_refl _)
            have AV_3 := bcat AV_2 b3 (Nat.le_refl _)
            have AC_3 := bcat AC_2 b3 (Nat.le_refl _)
            obtain ⟨ka, kc, hks, _⟩ := hS1.form
            rw [HSn.out] at hks
            subst hks
            have HS1 : Hid (∀ u, Below x3.heap.size x3 u → ListAt 3 stackElC (Since x2.heap.size x3) c.stacks (.slice ka sn kc) u) := fun u b => hS1.go heldStackC (fun q h => h.2) b
            have HS1f : Hid (∀ u, Below x3.heap.size x3 u → ∀ b, Since x2.heap.size x3 b → b < u.heap.size) := fun u b q h => Nat.lt_of_lt_of_le h.2 b.size
            obtain ⟨FS1, hFS1⟩ : ∃ F, F = Since x2.heap.size x3 := ⟨_, rfl⟩
            rw [← hFS1] at HS1 HS1f
            clear hFS1 hS1
            refine ⟨S3, ?_⟩
            simp only [Act.put, List.setIfInBounds_toArray, List.set_cons_zero, List.set_cons_succ]
            have AS_3 : Below x3.heap.size x3 x3 := Below.refl _ _
            refine wpAnyH_ready (rs := [6]) (by kernel_rfl) (by simp) (AllReadyH.cons ((nth_eq _ 6).trans rfl) ?_ AllReadyH.nil)
            intro K4 hK4
            obtain ⟨vt, x4, hrun4, own4, grow4, at4⟩ := run_app (xs := ([] : List Cell)) kindCell (World.ownsRow_nil x3 x3.heap.size 39 2) (HT.out _ (bcat HBw.out S3 (Nat.le_refl _))) (by have := HTn.out; simp only [List.length_nil]; omega) (by have := HTn.out; unfold maxLen; simp only [List.length_nil]; omega) (Nat.le_refl _) 22
            have b4 : Below x3.heap.size x3 x4 := below_none grow4
            have S4 : Below w3.heap.size w3 x4 := bcat S3 b4 (Nat.le_refl _)
            have AV_4 := bcat AV_3 b4 (Nat.le_refl _)
            have AC_4 := bcat AC_3 b4 (Nat.le_refl _)
            have AS_4 := bcat AS_3 b4 (Nat.le_refl _)
            rw [List.nil_append] at own4
            have HOvt : Hid (∀ u, Below x4.heap.size x4 u → u.ownsRow x3.heap.size 39 2 vt tl.length (rowL cellL tl)) := fun u b => owns_go own4 b
            have HOvtl : Hid (x3.heap.size ≤ x4.heap.size) := b4.size
            refine value_in hK4 (by kernel_rfl) vt x4 (run_app_op (t := 22) (.const (.slice none 0 0)) (.tmp 33) rfl (.slice none 0 0) (.slice ta tn tc) vt rfl rfl hrun4) S4 ?_
            simp only [Act.put, List.setIfInBounds_toArray, List.set_cons_zero, List.set_cons_succ]
            have AT_4 : Below x4.heap.size x4 x4 := Below.refl _ _
            refine wpAnyH_ready (rs := [8]) (by kernel_rfl) (by simp) (AllReadyH.cons ((nth_eq _ 8).trans rfl) ?_ AllReadyH.nil)
            intro K5 hK5
            have hLt := list_of_own kindCell.len (HOvt.out _ AT_4)
            obtain ⟨qa, qc, hq, _⟩ := hLt.form
            subst hq
            have hln : tl.length ≤ 1000000 := by have := HTn.out; omega
            refine call_in hK5 (by kernel_rfl) 42 #[.agg #[.int .i64 c.W, .int .i64 c.H, .int .i64 c.height, k1, k2, k3, k4, .int .i64 c.unit, .int .i64 c.accel, .int .i64 c.speed, .int .i64 c.turn, .int .i64 c.hoist, .int .i64 c.queue, .int .i64 c.resend, .int .i64 c.budget, .bool c.back], .slice ka sn kc, .slice qa tl.length qc, .agg #[.int .i64 f.1, .int .i64 f.2]] (by go_simp) _ (place_some (HC1.out _ AC_4) (HC1f.out _ AC_4) l1 l2 l3 l4 hN FS1 c.stacks ka sn kc (HS1.out _ AS_4) (HS1f.out _ AS_4) hsn HPl.out _ tl _ _ _ hLt (fun q h => h.2) hln f) ?_
            rintro rp x5 ⟨⟨P, rfl, hPl⟩, b5⟩
            have S5 : Below w3.heap.size w3 x5 := bcat S4 b5 (Nat.le_refl _)
            have AV_5 := bcat AV_4 b5 (Nat.le_refl _)
            have AC_5 := bcat AC_4 b5 (Nat.le_refl _)
            have AS_5 := bcat AS_4 b5 (Nat.le_refl _)
            have AT_5 := bcat AT_4 b5 (Nat.le_refl _)
            refine ⟨S5, ?_⟩
            simp only [Act.put, List.setIfInBounds_toArray, List.set_cons_zero, List.set_cons_succ]
            refine take_held 9 S5 rfl (by kernel_rfl) (by kernel_rfl) (by kernel_rfl) (fun _ _ _ h => h) (by kernel_rfl) (v := ?v21) ?y21 ?r21
            case y21 => (intro u hu; go_simp; try rfl)
            simp only [Act.put, List.setIfInBounds_toArray, List.set_cons_zero, List.set_cons_succ]
            refine take_held 10 S5 rfl (by kernel_rfl) (by kernel_rfl) (by kernel_rfl) (fun _ _ _ h => h) (by kernel_rfl) (v := ?v22) ?y22 ?r22
            case y22 => (intro u hu; go_simp; try rfl)
            simp only [Act.put, List.setIfInBounds_toArray, List.set_cons_zero, List.set_cons_succ]
            refine take_held 11 S5 rfl (by kernel_rfl) (by kernel_rfl) (by kernel_rfl) (fun _ _ _ h => h) (by kernel_rfl) (v := ?v23) ?y23 ?r23
            case y23 => (intro u hu; go_simp; try rfl)
            simp only [Act.put, List.setIfInBounds_toArray, List.set_cons_zero, List.set_cons_succ]
            have hv9 := (AV_5.block _ (lt_of_heap hva)).trans hva
            have S9 : Below w3.heap.size w3 (x5.setRow pb #[.int .i64 (placeP P).1, .int .i64 (placeP P).2]) := below_row S5 lva _
            have hst := run_storeVar_row (P := Try.prog) x5 pb 39 39 #[.int .i64 0, .int .i64 0] #[.int .i64 (placeP P).1, .int .i64 (placeP P).2] hv9 infoCell2 rfl (by simp [Value.oneCell'])
            refine store_held 13 rfl (by kernel_rfl) (by kernel_rfl) (x5.setRow pb #[.int .i64 (placeP P).1, .int .i64 (placeP P).2]) (run_store_op 39 (.tmp 9) (.tmp 37) rfl pb #[.int .i64 (placeP P).1, .int .i64 (placeP P).2] rfl rfl hst) S9 ?_
            simp only [Act.put, List.setIfInBounds_toArray, List.set_cons_zero, List.set_cons_succ]
            refine take_held 14 S9 rfl (by kernel_rfl) (by kernel_rfl) (by kernel_rfl) (fun _ _ _ h => h) (by kernel_rfl) (v := ?v24) ?y24 ?r24
            case y24 => (intro u hu; go_simp; try rfl)
            simp only [Act.put, List.setIfInBounds_toArray, List.set_cons_zero, List.set_cons_succ]
            refine done_held (by kernel_rfl) ?_ _
            exact ⟨pb, P, _, _, _, setRow_heap _ _ _ _ _ _ hv9, hPl, S9, lva, rfl⟩
        case rest3 =>
          rintro _ w4 ⟨pb, P, z29, z32, z34, hp4, hPl4, b4, lpb, rfl⟩
          dsimp only
          have HP4 : Hid (w4.heap[pb]? = some (.cells #[.int .i64 (placeP P).1, .int .i64 (placeP P).2] 39 (0, 0)) ∧ Places c.stacks c.height (stkUpTo c.W G.uses G.uses.length) tl f P) := ⟨hp4, hPl4⟩
          have HBw0 := HBw
          have hc4 := (b4.block _ (lt_of_heap HK3.out.1)).trans HK3.out.1
          have hf4 := (b4.block _ (lt_of_heap HK3.out.2)).trans HK3.out.2
          clear HBw HCr HC6 HFr S0
          have HBw : Hid (Below w.heap.size w w4) := bcat HBw0.out b4 (Nat.le_refl _)
          have HCr : Hid (∀ u, Below w4.heap.size w4 u → ∀ j z, #[.int .i64 c.W, .int .i64 c.H, .int .i64 c.height, v1, v2, v3, v4, .int .i64 c.unit, .int .i64 c.accel, .int .i64 c.speed, .int .i64 c.turn, .int .i64 c.hoist, .int .i64 c.queue, .int .i64 c.resend, .int .i64 c.budget, .bool c.back][j]? = some z → u.cell? ((⟨w.heap.size, 0, none⟩ : Addr).add j) = some z) := fun u hu => row_below hc4 hu
          have HC6 : Hid (∀ u, Below w4.heap.size w4 u → u.cell? ⟨w.heap.size, 6, none⟩ = some v4) := fun u hu => cell_below ((cell_of hc4 6).trans rfl) hu
          have HFr : Hid (∀ u, Below w4.heap.size w4 u → ∀ j z, #[.int .i64 f.1, .int .i64 f.2][j]? = some z → u.cell? ((⟨w.heap.size + 1, 0, none⟩ : Addr).add j) = some z) := fun u hu => row_below hf4 hu
          have S0 : Below w4.heap.size w4 w4.drew := (Below.refl _ _).drew
          have lp4 := lt_of_heap hp4
          have hf4' := hf4
          clear hp4 hPl4 hc4 hf4 lpb
          go_wp2_with fail
          refine wp_via (fun a' w' => ∃ qb Q y41 y44 y46 y48, w'.heap[qb]? = some (.cells #[.int .i64 (placeP Q).1, .int .i64 (placeP Q).2] 39 (0, 0)) ∧ Places c.stacks c.height (stkUpTo c.W G.uses G.uses.length) (tl ++ ml) f Q ∧ Below w4.heap.size w4 w' ∧ w4.heap.size ≤ qb ∧ a' = { tmps := #[.agg #[.int .i64 c.W, .int .i64 c.H, .int .i64 c.height, v1, v2, v3, v4, .int .i64 c.unit, .int .i64 c.accel, .int .i64 c.speed, .int .i64 c.turn, .int .i64 c.hoist, .int .i64 c.queue, .int .i64 c.resend, .int .i64 c.budget, .bool c.back], .slice ta tn tc, .slice ma mn mc, .agg #[.int .i64 f.1, .int .i64 f.2], .pointer (some ⟨w.heap.size, 0, none⟩), undef, undef, .pointer (some ⟨w.heap.size + 1, 0, none⟩), .bool false, .pointer (some ⟨pb, 0, none⟩), .int .i64 (placeE P), .pointer (some ⟨qb, 0, none⟩), .int .i64 (placeE Q), .agg #[.int .i64 c.W, .int .i64 c.H, .int .i64 c.height, v1, v2, v3, v4, .int .i64 c.unit, .int .i64 c.accel, .int .i64 c.speed, .int .i64 c.turn, .int .i64 c.hoist, .int .i64 c.queue, .int .i64 c.resend, .int .i64 c.budget, .bool c.back], .bool true, .bool false, .bool false, .slice ta tn tc, .int .i64 tn, .bool false, .bool false, .bool false, .slice ma mn mc, .int .i64 mn, .bool false, .bool false, undef, .tuple #[.agg #[.int .i64 (placeP P).1, .int .i64 (placeP P).2], .int .i64 (placeE P)], .agg #[.int .i64 c.W, .int .i64 c.H, .int .i64 c.height, v1, v2, v3, v4, .int .i64 c.unit, .int .i64 c.accel, .int .i64 c.speed, .int .i64 c.turn, .int .i64 c.hoist, .int .i64 c.queue, .int .i64 c.resend, .int .i64 c.budget, .bool c.back], z29, .pointer (some ⟨w.heap.size, 6, none⟩), v4, z32, .slice ta tn tc, z34, .agg #[.int .i64 f.1, .int .i64 f.2], .tuple #[.agg #[.int .i64 (placeP P).1, .int .i64 (placeP P).2], .int .i64 (placeE P)], .agg #[.int .i64 (placeP P).1, .int .i64 (placeP P).2], .int .i64 (placeE P), .tuple #[.agg #[.int .i64 (placeP Q).1, .int .i64 (placeP Q).2], .int .i64 (placeE Q)], .agg #[.int .i64 c.W, .int .i64 c.H, .int .i64 c.height, v1, v2, v3, v4, .int .i64 c.unit, .int .i64 c.accel, .int .i64 c.speed, .int .i64 c.turn, .int .i64 c.hoist, .int .i64 c.queue, .int .i64 c.resend, .int .i64 c.budget, .bool c.back], y41, .pointer (some ⟨w.heap.size, 6, none⟩), v4, y44, .slice ta tn tc, y46, .slice ma mn mc, y48, .agg #[.int .i64 f.1, .int .i64 f.2], .tuple #[.agg #[.int .i64 (placeP Q).1, .int .i64 (placeP Q).2], .int .i64 (placeE Q)], .agg #[.int .i64 (placeP Q).1, .int .i64 (placeP Q).2], .int .i64 (placeE Q), undef, undef, undef, undef, undef, undef, undef, undef, undef, undef, undef, undef, undef, undef, undef, undef, undef, undef, undef, undef, undef, undef, undef, undef, undef], defers := [] }) ?reg4 ?rest4
          case reg4 =>
            refine start_held (S := fun u => Below w4.heap.size w4 u) 17 rfl (by kernel_rfl) S0 ?_
            simp only [Array.replicate_succ, Array.replicate_zero, List.push_toArray, List.nil_append, List.cons_append]
            refine take_held 0 S0 rfl (by kernel_rfl) (by kernel_rfl) (by kernel_rfl) (fun _ _ _ h => h) (by kernel_rfl) (v := .agg #[.int .i64 c.W, .int .i64 c.H, .int .i64 c.height, v1, v2, v3, v4, .int .i64 c.unit, .int .i64 c.accel, .int .i64 c.speed, .int .i64 c.turn, .int .i64 c.hoist, .int .i64 c.queue, .int .i64 c.resend, .int .i64 c.budget, .bool c.back]) ?y25 ?r25
            case y25 => (intro u hu; exact run_load_op 26 _ rfl ⟨w.heap.size, 0, none⟩ _ rfl (HCr.out u hu) (aggConf u) info_conf)
            simp only [Act.put, List.setIfInBounds_toArray, List.set_cons_zero, List.set_cons_succ]
            refine take_held 2 S0 rfl (by kernel_rfl) (by kernel_rfl) (by kernel_rfl) (fun _ _ _ h => h) (by kernel_rfl) (v := ?v26) ?y26 ?r26
            case y26 => (intro u hu; go_simp; try rfl)
            simp only [Act.put, List.setIfInBounds_toArray, List.set_cons_zero, List.set_cons_succ]
            refine take_held 3 S0 rfl (by kernel_rfl) (by kernel_rfl) (by kernel_rfl) (fun _ _ _ h => h) (by kernel_rfl) (v := v4) ?y27 ?r27
            case y27 => (intro u hu; have zz := HC6.out u hu; go_simp; try rfl)
            simp only [Act.put, List.setIfInBounds_toArray, List.set_cons_zero, List.set_cons_succ]
            refine take_held 5 S0 rfl (by kernel_rfl) (by kernel_rfl) (by kernel_rfl) (fun _ _ _ h => h) (by kernel_rfl) (v := ?v28) ?y28 ?r28
            case y28 => (intro u hu; go_simp; try rfl)
            simp only [Act.put, List.setIfInBounds_toArray, List.set_cons_zero, List.set_cons_succ]
            refine take_held 7 S0 rfl (by kernel_rfl) (by kernel_rfl) (by kernel_rfl) (fun _ _ _ h => h) (by kernel_rfl) (v := ?v29) ?y29 ?r29
            case y29 => (intro u hu; go_simp; try rfl)
            simp only [Act.put, List.setIfInBounds_toArray, List.set_cons_zero, List.set_cons_succ]
            refine take_held 9 S0 rfl (by kernel_rfl) (by kernel_rfl) (by kernel_rfl) (fun _ _ _ h => h) (by kernel_rfl) (v := .agg #[.int .i64 f.1, .int .i64 f.2]) ?y30 ?r30
            case y30 => (intro u hu; exact run_load_op 39 _ rfl ⟨w.heap.size + 1, 0, none⟩ _ rfl (HFr.out u hu) (aggCell u) infoCell2)
            simp only [Act.put, List.setIfInBounds_toArray, List.set_cons_zero, List.set_cons_succ]
            generalize w4.drew = x0 at *
            refine wpAnyH_ready (rs := [1, 14]) (by kernel_rfl) (by simp) (AllReadyH.cons ((nth_eq _ 1).trans rfl) ?_ (AllReadyH.cons ((nth_eq _ 14).trans rfl) ?_ AllReadyH.nil))
            · intro K1 hK1
              refine call_in hK1 (by kernel_rfl) 15 #[.agg #[.int .i64 c.W, .int .i64 c.H, .int .i64 c.height, v1, v2, v3, v4, .int .i64 c.unit, .int .i64 c.accel, .int .i64 c.speed, .int .i64 c.turn, .int .i64 c.hoist, .int .i64 c.queue, .int .i64 c.resend, .int .i64 c.budget, .bool c.back]] (by go_simp) _ (copyConf_any (Old w) c v1 v2 v3 v4 x0 (HA.out _ (bcat HBw.out S0 (Nat.le_refl _))) (fun b hb => Nat.lt_of_lt_of_le (hO b hb) (bcat HBw.out S0 (Nat.le_refl _)).size) l1 l2 l3 l4 HL5.out) ?_
              rintro rc x1 ⟨⟨k1, k2, k3, k4, rfl, hC1⟩, b1⟩
              have S1 : Below w4.heap.size w4 x1 := bcat S0 b1 (Nat.le_refl _)
              have HC1 : Hid (∀ u, Below x1.heap.size x1 u → ConfAt (Since x0.heap.size x1) c k1 k2 k3 k4 u) := fun u b => hC1.go (fun q h => h.2) b
              have HC1f : Hid (∀ u, Below x1.heap.size x1 u → ∀ b, Since x0.heap.size x1 b → b < u.heap.size) := fun u b q h => Nat.lt_of_lt_of_le h.2 b.size
              obtain ⟨FC1, hFC1⟩ : ∃ F, F = Since x0.heap.size x1 := ⟨_, rfl⟩
              rw [← hFC1] at HC1 HC1f
              clear hFC1 hC1
              refine ⟨S1, ?_⟩
              simp only [Act.put, List.setIfInBounds_toArray, List.set_cons_zero, List.set_cons_succ]
              have AC_1 : Below x1.heap.size x1 x1 := Below.refl _ _
              refine wpAnyH_ready (rs := [4, 14]) (by kernel_rfl) (by simp) (AllReadyH.cons ((nth_eq _ 4).trans rfl) ?_ (AllReadyH.cons ((nth_eq _ 14).trans rfl) ?_ AllReadyH.nil))
              · intro K2 hK2
                refine call_in hK2 (by kernel_rfl) 36 #[v4] (by go_simp) _ (copyStacksC_any (Old w) c.stacks v4 x1 (HA.out _ (bcat HBw.out S1 (Nat.le_refl _))).s (fun b hb => Nat.lt_of_lt_of_le (hO b hb) (bcat HBw.out S1 (Nat.le_refl _)).size) l4 HL5.out) ?_
                rintro rs x2 ⟨hS1, b2⟩
                have S2 : Below w4.heap.size w4 x2 := bcat S1 b2 (Nat.le_refl _)
                have AC_2 := bcat AC_1 b2 (Nat.le_refl _)
                obtain ⟨ka, kc, hks, _⟩ := hS1.form
                rw [HSn.out] at hks
                subst hks
                have HS1 : Hid (∀ u, Below x2.heap.size x2 u → ListAt 3 stackElC (Since x1.heap.size x2) c.stacks (.slice ka sn kc) u) := fun u b => hS1.go heldStackC (fun q h => h.2) b
                have HS1f : Hid (∀ u, Below x2.heap.size x2 u → ∀ b, Since x1.heap.size x2 b → b < u.heap.size) := fun u b q h => Nat.lt_of_lt_of_le h.2 b.size
                obtain ⟨FS1, hFS1⟩ : ∃ F, F = Since x1.heap.size x2 := ⟨_, rfl⟩
                rw [← hFS1] at HS1 HS1f
                clear hFS1 hS1
                refine ⟨S2, ?_⟩
                simp only [Act.put, List.setIfInBounds_toArray, List.set_cons_zero, List.set_cons_succ]
                have AS_2 : Below x2.heap.size x2 x2 := Below.refl _ _
                refine wpAnyH_ready (rs := [6, 14]) (by kernel_rfl) (by simp) (AllReadyH.cons ((nth_eq _ 6).trans rfl) ?_ (AllReadyH.cons ((nth_eq _ 14).trans rfl) ?_ AllReadyH.nil))
                · intro K3 hK3
                  obtain ⟨vt, x3, hrun3, own3, grow3, at3⟩ := run_app (xs := ([] : List Cell)) kindCell (World.ownsRow_nil x2 x2.heap.size 39 2) (HT.out _ (bcat HBw.out S2 (Nat.le_refl _))) (by have := HTn.out; simp only [List.length_nil]; omega) (by have := HTn.out; unfold maxLen; simp only [List.length_nil]; omega) (Nat.le_refl _) 22
                  have b3 : Below x2.heap.size x2 x3 := below_none grow3
                  have S3 : Below w4.heap.size w4 x3 := bcat S2 b3 (Nat.le_refl _)
                  have AC_3 := bcat AC_2 b3 (Nat.le_refl _)
                  have AS_3 := bcat AS_2 b3 (Nat.le_refl _)
                  rw [List.nil_append] at own3
                  have HOvt : Hid (∀ u, Below x3.heap.size x3 u → u.ownsRow x2.heap.size 39 2 vt tl.length (rowL cellL tl)) := fun u b => owns_go own3 b
                  have HOvtl : Hid (x2.heap.size ≤ x3.heap.size) := b3.size
                  refine value_in hK3 (by kernel_rfl) vt x3 (run_app_op (t := 22) (.const (.slice none 0 0)) (.tmp 45) rfl (.slice none 0 0) (.slice ta tn tc) vt rfl rfl hrun3) S3 ?_
                  simp only [Act.put, List.setIfInBounds_toArray, List.set_cons_zero, List.set_cons_succ]
                  have AT_3 : Below x3.heap.size x3 x3 := Below.refl _ _
                  refine wpAnyH_ready (rs := [8, 14]) (by kernel_rfl) (by simp) (AllReadyH.cons ((nth_eq _ 8).trans rfl) ?_ (AllReadyH.cons ((nth_eq _ 14).trans rfl) ?_ AllReadyH.nil))
                  · intro K4 hK4
                    obtain ⟨vu, x4, hrun4, own4, grow4, at4⟩ := run_app kindCell (HOvt.out _ AT_3) (HM.out _ (bcat HBw.out S3 (Nat.le_refl _))) (by have := HMn.out; have := HTn.out; omega) (by have := HMn.out; have := HTn.out; unfold maxLen; omega) (by have := AT_3.size; have := (HOvtl.out); omega) 22
                    have sg4 := grow4.size
                    have lo4 : ∀ k, vt.ownBlock = some k → x2.heap.size ≤ k := fun k e => (own3.lt k e).1
                    have S4 : Below w4.heap.size w4 x4 := S3.grown grow4 S3.size (fun k e => by have := lo4 k e; have := S2.size; omega)
                    have AC_4 : Below x1.heap.size x1 x4 := AC_3.grown grow4 AC_3.size (fun k e => by have := lo4 k e; have := AC_2.size; omega)
                    have AS_4 : Below x2.heap.size x2 x4 := AS_3.grown grow4 AS_3.size (fun k e => by have := lo4 k e; have := AS_2.size; omega)
                    have HOvu : Hid (∀ u, Below x4.heap.size x4 u → ∃ B, B ≤ x4.heap.size ∧ u.ownsRow B 39 2 vu (tl ++ ml).length (rowL cellL (tl ++ ml))) := fun u b => ⟨_, (by have := HOvtl.out; have := AT_3.size; omega), owns_go own4 b⟩
                    refine value_in hK4 (by kernel_rfl) vu x4 (run_app_op (t := 22) (.tmp 46) (.tmp 47) rfl vt (.slice ma mn mc) vu rfl rfl hrun4) S4 ?_
                    simp only [Act.put, List.setIfInBounds_toArray, List.set_cons_zero, List.set_cons_succ]
                    have AU_4 : Below x4.heap.size x4 x4 := Below.refl _ _
                    refine wpAnyH_ready (rs := [10, 14]) (by kernel_rfl) (by simp) (AllReadyH.cons ((nth_eq _ 10).trans rfl) ?_ (AllReadyH.cons ((nth_eq _ 14).trans rfl) ?_ AllReadyH.nil))
                    · intro K5 hK5
                      obtain ⟨B9, hB9, own9⟩ := HOvu.out _ AU_4
                      have hLt := list_of_own kindCell.len own9
                      obtain ⟨qa, qc, hq, _⟩ := hLt.form
                      subst hq
                      have hln : (tl ++ ml).length ≤ 1000000 := by rw [List.length_append]; have := HTn.out; have := HMn.out; omega
                      refine call_in hK5 (by kernel_rfl) 42 #[.agg #[.int .i64 c.W, .int .i64 c.H, .int .i64 c.height, k1, k2, k3, k4, .int .i64 c.unit, .int .i64 c.accel, .int .i64 c.speed, .int .i64 c.turn, .int .i64 c.hoist, .int .i64 c.queue, .int .i64 c.resend, .int .i64 c.budget, .bool c.back], .slice ka sn kc, .slice qa (tl ++ ml).length qc, .agg #[.int .i64 f.1, .int .i64 f.2]] (by go_simp) _ (place_some (HC1.out _ AC_4) (HC1f.out _ AC_4) l1 l2 l3 l4 hN FS1 c.stacks ka sn kc (HS1.out _ AS_4) (HS1f.out _ AS_4) hsn HPl.out _ (tl ++ ml) _ _ _ hLt (fun q h => h.2) hln f) ?_
                      rintro rp x5 ⟨⟨Q, rfl, hPl⟩, b5⟩
                      have S5 : Below w4.heap.size w4 x5 := bcat S4 b5 (Nat.le_refl _)
                      have AC_5 := bcat AC_4 b5 (Nat.le_refl _)
                      have AS_5 := bcat AS_4 b5 (Nat.le_refl _)
                      have AU_5 := bcat AU_4 b5 (Nat.le_refl _)
                      refine ⟨S5, ?_⟩
                      simp only [Act.put, List.setIfInBounds_toArray, List.set_cons_zero, List.set_cons_succ]
                      refine take_held 11 S5 rfl (by kernel_rfl) (by kernel_rfl) (by kernel_rfl) (fun _ _ _ h => h) (by kernel_rfl) (v := ?v31) ?y31 ?r31
                      case y31 => (intro u hu; go_simp; try rfl)
                      simp only [Act.put, List.setIfInBounds_toArray, List.set_cons_zero, List.set_cons_succ]
                      refine take_held 12 S5 rfl (by kernel_rfl) (by kernel_rfl) (by kernel_rfl) (fun _ _ _ h => h) (by kernel_rfl) (v := ?v32) ?y32 ?r32
                      case y32 => (intro u hu; go_simp; try rfl)
                      simp only [Act.put, List.setIfInBounds_toArray, List.set_cons_zero, List.set_cons_succ]
                      refine take_held 13 S5 rfl (by kernel_rfl) (by kernel_rfl) (by kernel_rfl) (fun _ _ _ h => h) (by kernel_rfl) (v := ?v33) ?y33 ?r33
                      case y33 => (intro u hu; go_simp; try rfl)
                      simp only [Act.put, List.setIfInBounds_toArray, List.set_cons_zero, List.set_cons_succ]
                      refine wpAnyH_ready (rs := [14]) (by kernel_rfl) (by simp) (AllReadyH.cons ((nth_eq _ 14).trans rfl) ?_ AllReadyH.nil)
                      intro K6 hK6
                      obtain ⟨x6, hx6⟩ : ∃ x, x = x5.alloc (.cells #[.int .i64 0, .int .i64 0] 39) := ⟨_, rfl⟩
                      have b6 : Below x5.heap.size x5 x6 := by rw [hx6]; exact below_new (Below.refl _ _) _
                      have hva : x6.heap[x5.heap.size]? = some (.cells #[.int .i64 0, .int .i64 0] 39 (0, 0)) := by rw [hx6]; exact heap_alloc_new _ _
                      have lva : w4.heap.size ≤ x5.heap.size := S5.size
                      have S6 : Below w4.heap.size w4 x6 := bcat S5 b6 (Nat.le_refl _)
                      have AC_6 := bcat AC_5 b6 (Nat.le_refl _)
                      have AS_6 := bcat AS_5 b6 (Nat.le_refl _)
                      have AU_6 := bcat AU_5 b6 (Nat.le_refl _)
                      refine value_in hK6 (by kernel_rfl) (.pointer (some ⟨x5.heap.size, 0, none⟩)) x6 (by rw [hx6]; go_simp; try rfl) S6 ?_
                      simp only [Act.put, List.setIfInBounds_toArray, List.set_cons_zero, List.set_cons_succ]
                      clear hx6
                      obtain ⟨pb, hpb⟩ : ∃ pb, x5.heap.size = pb := ⟨_, rfl⟩
                      rw [hpb] at hva lva
                      try rw [hpb]
                      have HPb : Hid (x5.heap.size = pb) := hpb
                      clear hpb
                      have AV_6 : Below x6.heap.size x6 x6 := Below.refl _ _
                      have hv9 := (AV_6.block _ (lt_of_heap hva)).trans hva
                      have S9 : Below w4.heap.size w4 (x6.setRow pb #[.int .i64 (placeP Q).1, .int .i64 (placeP Q).2]) := below_row S6 lva _
                      have hst := run_storeVar_row (P := Try.prog) x6 pb 39 39 #[.int .i64 0, .int .i64 0] #[.int .i64 (placeP Q).1, .int .i64 (placeP Q).2] hv9 infoCell2 rfl (by simp [Value.oneCell'])
                      refine store_held 15 rfl (by kernel_rfl) (by kernel_rfl) (x6.setRow pb #[.int .i64 (placeP Q).1, .int .i64 (placeP Q).2]) (run_store_op 39 (.tmp 11) (.tmp 51) rfl pb #[.int .i64 (placeP Q).1, .int .i64 (placeP Q).2] rfl rfl hst) S9 ?_
                      simp only [Act.put, List.setIfInBounds_toArray, List.set_cons_zero, List.set_cons_succ]
                      refine take_held 16 S9 rfl (by kernel_rfl) (by kernel_rfl) (by kernel_rfl) (fun _ _ _ h => h) (by kernel_rfl) (v := ?v34) ?y34 ?r34
                      case y34 => (intro u hu; go_simp; try rfl)
                      simp only [Act.put, List.setIfInBounds_toArray, List.set_cons_zero, List.set_cons_succ]
                      refine done_held (by kernel_rfl) ?_ _
                      exact ⟨pb, Q, _, _, _, _, setRow_heap _ _ _ _ _ _ hv9, hPl, S9, lva, rfl⟩
                    · intro K5 hK5
                      obtain ⟨x5, hx5⟩ : ∃ x, x = x4.alloc (.cells #[.int .i64 0, .int .i64 0] 39) := ⟨_, rfl⟩
                      have b5 : Below x4.heap.size x4 x5 := by rw [hx5]; exact below_new (Below.refl _ _) _
                      have hva : x5.heap[x4.heap.size]? = some (.cells #[.int .i64 0, .int .i64 0] 39 (0, 0)) := by rw [hx5]; exact heap_alloc_new _ _
                      have lva : w4.heap.size ≤ x4.heap.size := S4.size
                      have S5 : Below w4.heap.size w4 x5 := bcat S4 b5 (Nat.le_refl _)
                      have AC_5 := bcat AC_4 b5 (Nat.le_refl _)
                      have AS_5 := bcat AS_4 b5 (Nat.le_refl _)
                      have AU_5 := bcat AU_4 b5 (Nat.le_refl _)
                      refine value_in hK5 (by kernel_rfl) (.pointer (some ⟨x4.heap.size, 0, none⟩)) x5 (by rw [hx5]; go_simp; try rfl) S5 ?_
                      simp only [Act.put, List.setIfInBounds_toArray, List.set_cons_zero, List.set_cons_succ]
                      clear hx5
                      obtain ⟨pb, hpb⟩ : ∃ pb, x4.heap.size = pb := ⟨_, rfl⟩
                      rw [hpb] at hva lva
                      try rw [hpb]
                      have HPb : Hid (x4.heap.size = pb) := hpb
                      clear hpb
                      have AV_5 : Below x5.heap.size x5 x5 := Below.refl _ _
                      refine wpAnyH_ready (rs := [10]) (by kernel_rfl) (by simp) (AllReadyH.cons ((nth_eq _ 10).trans rfl) ?_ AllReadyH.nil)
                      intro K6 hK6
                      obtain ⟨B9, hB9, own9⟩ := HOvu.out _ AU_5
                      have hLt := list_of_own kindCell.len own9
                      obtain ⟨qa, qc, hq, _⟩ := hLt.form
                      subst hq
                      have hln : (tl ++ ml).length ≤ 1000000 := by rw [List.length_append]; have := HTn.out; have := HMn.out; omega
                      refine call_in hK6 (by kernel_rfl) 42 #[.agg #[.int .i64 c.W, .int .i64 c.H, .int .i64 c.height, k1, k2, k3, k4, .int .i64 c.unit, .int .i64 c.accel, .int .i64 c.speed, .int .i64 c.turn, .int .i64 c.hoist, .int .i64 c.queue, .int .i64 c.resend, .int .i64 c.budget, .bool c.back], .slice ka sn kc, .slice qa (tl ++ ml).length qc, .agg #[.int .i64 f.1, .int .i64 f.2]] (by go_simp) _ (place_some (HC1.out _ AC_5) (HC1f.out _ AC_5) l1 l2 l3 l4 hN FS1 c.stacks ka sn kc (HS1.out _ AS_5) (HS1f.out _ AS_5) hsn HPl.out _ (tl ++ ml) _ _ _ hLt (fun q h => h.2) hln f) ?_
                      rintro rp x6 ⟨⟨Q, rfl, hPl⟩, b6⟩
                      have S6 : Below w4.heap.size w4 x6 := bcat S5 b6 (Nat.le_refl _)
                      have AC_6 := bcat AC_5 b6 (Nat.le_refl _)
                      have AS_6 := bcat AS_5 b6 (Nat.le_refl _)
                      have AU_6 := bcat AU_5 b6 (Nat.le_refl _)
                      have AV_6 := bcat AV_5 b6 (Nat.le_refl _)
                      refine ⟨S6, ?_⟩
                      simp only [Act.put, List.setIfInBounds_toArray, List.set_cons_zero, List.set_cons_succ]
                      refine take_held 11 S6 rfl (by kernel_rfl) (by kernel_rfl) (by kernel_rfl) (fun _ _ _ h => h) (by kernel_rfl) (v := ?v35) ?y35 ?r35
                      case y35 => (intro u hu; go_simp; try rfl)
                      simp only [Act.put, List.setIfInBounds_toArray, List.set_cons_zero, List.set_cons_succ]
                      refine take_held 12 S6 rfl (by kernel_rfl) (by kernel_rfl) (by kernel_rfl) (fun _ _ _ h => h) (by kernel_rfl) (v := ?v36) ?y36 ?r36
                      case y36 => (intro u hu; go_simp; try rfl)
                      simp only [Act.put, List.setIfInBounds_toArray, List.set_cons_zero, List.set_cons_succ]
                      refine take_held 13 S6 rfl (by kernel_rfl) (by kernel_rfl) (by kernel_rfl) (fun _ _ _ h => h) (by kernel_rfl) (v := ?v37) ?y37 ?r37
                      case y37 => (intro u hu; go_simp; try rfl)
                      simp only [Act.put, List.setIfInBounds_toArray, List.set_cons_zero, List.set_cons_succ]
                      have hv9 := (AV_6.block _ (lt_of_heap hva)).trans hva
                      have S9 : Below w4.heap.size w4 (x6.setRow pb #[.int .i64 (placeP Q).1, .int .i64 (placeP Q).2]) := below_row S6 lva _
                      have hst := run_storeVar_row (P := Try.prog) x6 pb 39 39 #[.int .i64 0, .int .i64 0] #[.int .i64 (placeP Q).1, .int .i64 (placeP Q).2] hv9 infoCell2 rfl (by simp [Value.oneCell'])
                      refine store_held 15 rfl (by kernel_rfl) (by kernel_rfl) (x6.setRow pb #[.int .i64 (placeP Q).1, .int .i64 (placeP Q).2]) (run_store_op 39 (.tmp 11) (.tmp 51) rfl pb #[.int .i64 (placeP Q).1, .int .i64 (placeP Q).2] rfl rfl hst) S9 ?_
                      simp only [Act.put, List.setIfInBounds_toArray, List.set_cons_zero, List.set_cons_succ]
                      refine take_held 16 S9 rfl (by kernel_rfl) (by kernel_rfl) (by kernel_rfl) (fun _ _ _ h => h) (by kernel_rfl) (v := ?v38) ?y38 ?r38
                      case y38 => (intro u hu; go_simp; try rfl)
                      simp only [Act.put, List.setIfInBounds_toArray, List.set_cons_zero, List.set_cons_succ]
                      refine done_held (by kernel_rfl) ?_ _
                      exact ⟨pb, Q, _, _, _, _, setRow_heap _ _ _ _ _ _ hv9, hPl, S9, lva, rfl⟩
                  · intro K4 hK4
                    obtain ⟨x4, hx4⟩ : ∃ x, x = x3.alloc (.cells #[.int .i64 0, .int .i64 0] 39) := ⟨_, rfl⟩
                    have b4 : Below x3.heap.size x3 x4 := by rw [hx4]; exact below_new (Below.refl _ _) _
                    have hva : x4.heap[x3.heap.size]? = some (.cells #[.int .i64 0, .int .i64 0] 39 (0, 0)) := by rw [hx4]; exact heap_alloc_new _ _
                    have lva : w4.heap.size ≤ x3.heap.size := S3.size
                    have S4 : Below w4.heap.size w4 x4 := bcat S3 b4 (Nat.le_refl _)
                    have AC_4 := bcat AC_3 b4 (Nat.le_refl _)
                    have AS_4 := bcat AS_3 b4 (Nat.le_refl _)
                    have AT_4 := bcat AT_3 b4 (Nat.le_refl _)
                    refine value_in hK4 (by kernel_rfl) (.pointer (some ⟨x3.heap.size, 0, none⟩)) x4 (by rw [hx4]; go_simp; try rfl) S4 ?_
                    simp only [Act.put, List.setIfInBounds_toArray, List.set_cons_zero, List.set_cons_succ]
                    clear hx4
                    obtain ⟨pb, hpb⟩ : ∃ pb, x3.heap.size = pb := ⟨_, rfl⟩
                    rw [hpb] at hva lva
                    try rw [hpb]
                    have HPb : Hid (x3.heap.size = pb) := hpb
                    clear hpb
                    have AV_4 : Below x4.heap.size x4 x4 := Below.refl _ _
                    refine wpAnyH_ready (rs := [8]) (by kernel_rfl) (by simp) (AllReadyH.cons ((nth_eq _ 8).trans rfl) ?_ AllReadyH.nil)
                    intro K5 hK5
                    obtain ⟨vu, x5, hrun5, own5, grow5, at5⟩ := run_app kindCell (HOvt.out _ AT_4) (HM.out _ (bcat HBw.out S4 (Nat.le_refl _))) (by have := HMn.out; have := HTn.out; omega) (by have := HMn.out; have := HTn.out; unfold maxLen; omega) (by have := AT_4.size; have := (HOvtl.out); omega) 22
                    have sg5 := grow5.size
                    have lo5 : ∀ k, vt.ownBlock = some k → x2.heap.size ≤ k := fun k e => (own3.lt k e).1
                    have S5 : Below w4.heap.size w4 x5 := S4.grown grow5 S4.size (fun k e => by have := lo5 k e; have := S2.size; omega)
                    have AC_5 : Below x1.heap.size x1 x5 := AC_4.grown grow5 AC_4.size (fun k e => by have := lo5 k e; have := AC_2.size; omega)
                    have AS_5 : Below x2.heap.size x2 x5 := AS_4.grown grow5 AS_4.size (fun k e => by have := lo5 k e; have := AS_2.size; omega)
                    have hva' := (grow5.block _ (by have := lt_of_heap hva; have := AV_4.size; omega) (fun e => (show vt.ownBlock ≠ some pb from fun e => by have := (own3.lt _ e).2; have := AT_3.size; have := HPb.out; omega) e.symm)).trans ((AV_4.block _ (lt_of_heap hva)).trans hva)
                    clear hva
                    have hva := hva'
                    clear hva'
                    have AV_5 : Below x5.heap.size x5 x5 := Below.refl _ _
                    have HOvu : Hid (∀ u, Below x5.heap.size x5 u → ∃ B, B ≤ x5.heap.size ∧ u.ownsRow B 39 2 vu (tl ++ ml).length (rowL cellL (tl ++ ml))) := fun u b => ⟨_, (by have := HOvtl.out; have := AT_4.size; omega), owns_go own5 b⟩
                    refine value_in hK5 (by kernel_rfl) vu x5 (run_app_op (t := 22) (.tmp 46) (.tmp 47) rfl vt (.slice ma mn mc) vu rfl rfl hrun5) S5 ?_
                    simp only [Act.put, List.setIfInBounds_toArray, List.set_cons_zero, List.set_cons_succ]
                    have AU_5 : Below x5.heap.size x5 x5 := Below.refl _ _
                    refine wpAnyH_ready (rs := [10]) (by kernel_rfl) (by simp) (AllReadyH.cons ((nth_eq _ 10).trans rfl) ?_ AllReadyH.nil)
                    intro K6 hK6
                    obtain ⟨B9, hB9, own9⟩ := HOvu.out _ AU_5
                    have hLt := list_of_own kindCell.len own9
                    obtain ⟨qa, qc, hq, _⟩ := hLt.form
                    subst hq
                    have hln : (tl ++ ml).length ≤ 1000000 := by rw [List.length_append]; have := HTn.out; have := HMn.out; omega
                    refine call_in hK6 (by kernel_rfl) 42 #[.agg #[.int .i64 c.W, .int .i64 c.H, .int .i64 c.height, k1, k2, k3, k4, .int .i64 c.unit, .int .i64 c.accel, .int .i64 c.speed, .int .i64 c.turn, .int .i64 c.hoist, .int .i64 c.queue, .int .i64 c.resend, .int .i64 c.budget, .bool c.back], .slice ka sn kc, .slice qa (tl ++ ml).length qc, .agg #[.int .i64 f.1, .int .i64 f.2]] (by go_simp) _ (place_some (HC1.out _ AC_5) (HC1f.out _ AC_5) l1 l2 l3 l4 hN FS1 c.stacks ka sn kc (HS1.out _ AS_5) (HS1f.out _ AS_5) hsn HPl.out _ (tl ++ ml) _ _ _ hLt (fun q h => h.2) hln f) ?_
                    rintro rp x6 ⟨⟨Q, rfl, hPl⟩, b6⟩
                    have S6 : Below w4.heap.size w4 x6 := bcat S5 b6 (Nat.le_refl _)
                    have AC_6 := bcat AC_5 b6 (Nat.le_refl _)
                    have AS_6 := bcat AS_5 b6 (Nat.le_refl _)
                    have AV_6 := bcat AV_5 b6 (Nat.le_refl _)
                    have AU_6 := bcat AU_5 b6 (Nat.le_refl _)
                    refine ⟨S6, ?_⟩
                    simp only [Act.put, List.setIfInBounds_toArray, List.set_cons_zero, List.set_cons_succ]
                    refine take_held 11 S6 rfl (by kernel_rfl) (by kernel_rfl) (by kernel_rfl) (fun _ _ _ h => h) (by kernel_rfl) (v := ?v39) ?y39 ?r39
                    case y39 => (intro u hu; go_simp; try rfl)
                    simp only [Act.put, List.setIfInBounds_toArray, List.set_cons_zero, List.set_cons_succ]
                    refine take_held 12 S6 rfl (by kernel_rfl) (by kernel_rfl) (by kernel_rfl) (fun _ _ _ h => h) (by kernel_rfl) (v := ?v40) ?y40 ?r40
                    case y40 => (intro u hu; go_simp; try rfl)
                    simp only [Act.put, List.setIfInBounds_toArray, List.set_cons_zero, List.set_cons_succ]
                    refine take_held 13 S6 rfl (by kernel_rfl) (by kernel_rfl) (by kernel_rfl) (fun _ _ _ h => h) (by kernel_rfl) (v := ?v41) ?y41 ?r41
                    case y41 => (intro u hu; go_simp; try rfl)
                    simp only [Act.put, List.setIfInBounds_toArray, List.set_cons_zero, List.set_cons_succ]
                    have hv9 := (AV_6.block _ (lt_of_heap hva)).trans hva
                    have S9 : Below w4.heap.size w4 (x6.setRow pb #[.int .i64 (placeP Q).1, .int .i64 (placeP Q).2]) := below_row S6 lva _
                    have hst := run_storeVar_row (P := Try.prog) x6 pb 39 39 #[.int .i64 0, .int .i64 0] #[.int .i64 (placeP Q).1, .int .i64 (placeP Q).2] hv9 infoCell2 rfl (by simp [Value.oneCell'])
                    refine store_held 15 rfl (by kernel_rfl) (by kernel_rfl) (x6.setRow pb #[.int .i64 (placeP Q).1, .int .i64 (placeP Q).2]) (run_store_op 39 (.tmp 11) (.tmp 51) rfl pb #[.int .i64 (placeP Q).1, .int .i64 (placeP Q).2] rfl rfl hst) S9 ?_
                    simp only [Act.put, List.setIfInBounds_toArray, List.set_cons_zero, List.set_cons_succ]
                    refine take_held 16 S9 rfl (by kernel_rfl) (by kernel_rfl) (by kernel_rfl) (fun _ _ _ h => h) (by kernel_rfl) (v := ?v42) ?y42 ?r42
                    case y42 => (intro u hu; go_simp; try rfl)
                    simp only [Act.put, List.setIfInBounds_toArray, List.set_cons_zero, List.set_cons_succ]
                    refine done_held (by kernel_rfl) ?_ _
                    exact ⟨pb, Q, _, _, _, _, setRow_heap _ _ _ _ _ _ hv9, hPl, S9, lva, rfl⟩
                · intro K3 hK3
                  obtain ⟨x3, hx3⟩ : ∃ x, x = x2.alloc (.cells #[.int .i64 0, .int .i64 0] 39) := ⟨_, rfl⟩
                  have b3 : Below x2.heap.size x2 x3 := by rw [hx3]; exact below_new (Below.refl _ _) _
                  have hva : x3.heap[x2.heap.size]? = some (.cells #[.int .i64 0, .int .i64 0] 39 (0, 0)) := by rw [hx3]; exact heap_alloc_new _ _
                  have lva : w4.heap.size ≤ x2.heap.size := S2.size
                  have S3 : Below w4.heap.size w4 x3 := bcat S2 b3 (Nat.le_refl _)
                  have AC_3 := bcat AC_2 b3 (Nat.le_refl _)
                  have AS_3 := bcat AS_2 b3 (Nat.le_refl _)
                  refine value_in hK3 (by kernel_rfl) (.pointer (some ⟨x2.heap.size, 0, none⟩)) x3 (by rw [hx3]; go_simp; try rfl) S3 ?_
                  simp only [Act.put, List.setIfInBounds_toArray, List.set_cons_zero, List.set_cons_succ]
                  clear hx3
                  obtain ⟨pb, hpb⟩ : ∃ pb, x2.heap.size = pb := ⟨_, rfl⟩
                  rw [hpb] at hva lva
                  try rw [hpb]
                  have HPb : Hid (x2.heap.size = pb) := hpb
                  clear hpb
                  have AV_3 : Below x3.heap.size x3 x3 := Below.refl _ _
                  refine wpAnyH_ready (rs := [6]) (by kernel_rfl) (by simp) (AllReadyH.cons ((nth_eq _ 6).trans rfl) ?_ AllReadyH.nil)
                  intro K4 hK4
                  obtain ⟨vt, x4, hrun4, own4, grow4, at4⟩ := run_app (xs := ([] : List Cell)) kindCell (World.ownsRow_nil x3 x3.heap.size 39 2) (HT.out _ (bcat HBw.out S3 (Nat.le_refl _))) (by have := HTn.out; simp only [List.length_nil]; omega) (by have := HTn.out; unfold maxLen; simp only [List.length_nil]; omega) (Nat.le_refl _) 22
                  have b4 : Below x3.heap.size x3 x4 := below_none grow4
                  have S4 : Below w4.heap.size w4 x4 := bcat S3 b4 (Nat.le_refl _)
                  have AC_4 := bcat AC_3 b4 (Nat.le_refl _)
                  have AS_4 := bcat AS_3 b4 (Nat.le_refl _)
                  have AV_4 := bcat AV_3 b4 (Nat.le_refl _)
                  rw [List.nil_append] at own4
                  have HOvt : Hid (∀ u, Below x4.heap.size x4 u → u.ownsRow x3.heap.size 39 2 vt tl.length (rowL cellL tl)) := fun u b => owns_go own4 b
                  have HOvtl : Hid (x3.heap.size ≤ x4.heap.size) := b4.size
                  refine value_in hK4 (by kernel_rfl) vt x4 (run_app_op (t := 22) (.const (.slice none 0 0)) (.tmp 45) rfl (.slice none 0 0) (.slice ta tn tc) vt rfl rfl hrun4) S4 ?_
                  simp only [Act.put, List.setIfInBounds_toArray, List.set_cons_zero, List.set_cons_succ]
                  have AT_4 : Below x4.heap.size x4 x4 := Below.refl _ _
                  refine wpAnyH_ready (rs := [8]) (by kernel_rfl) (by simp) (AllReadyH.cons ((nth_eq _ 8).trans rfl) ?_ AllReadyH.nil)
                  intro K5 hK5
                  obtain ⟨vu, x5, hrun5, own5, grow5, at5⟩ := run_app kindCell (HOvt.out _ AT_4) (HM.out _ (bcat HBw.out S4 (Nat.le_refl _))) (by have := HMn.out; have := HTn.out; omega) (by have := HMn.out; have := HTn.out; unfold maxLen; omega) (by have := AT_4.size; have := (HOvtl.out); omega) 22
                  have sg5 := grow5.size
                  have lo5 : ∀ k, vt.ownBlock = some k → x3.heap.size ≤ k := fun k e => (own4.lt k e).1
                  have S5 : Below w4.heap.size w4 x5 := S4.grown grow5 S4.size (fun k e => by have := lo5 k e; have := S3.size; omega)
                  have AC_5 : Below x1.heap.size x1 x5 := AC_4.grown grow5 AC_4.size (fun k e => by have := lo5 k e; have := AC_3.size; omega)
                  have AS_5 : Below x2.heap.size x2 x5 := AS_4.grown grow5 AS_4.size (fun k e => by have := lo5 k e; have := AS_3.size; omega)
                  have hva' := (grow5.block _ (by have := lt_of_heap hva; have := AV_4.size; omega) (fun e => (show vt.ownBlock ≠ some pb from fun e => by have := (own4.lt _ e).1; have := lt_of_heap hva; have := AV_3.size; omega) e.symm)).trans ((AV_4.block _ (lt_of_heap hva)).trans hva)
                  clear hva
                  have hva := hva'
                  clear hva'
                  have AV_5 : Below x5.heap.size x5 x5 := Below.refl _ _
                  have HOvu : Hid (∀ u, Below x5.heap.size x5 u → ∃ B, B ≤ x5.heap.size ∧ u.ownsRow B 39 2 vu (tl ++ ml).length (rowL cellL (tl ++ ml))) := fun u b => ⟨_, (by have := HOvtl.out; have := AT_4.size; omega), owns_go own5 b⟩
                  refine value_in hK5 (by kernel_rfl) vu x5 (run_app_op (t := 22) (.tmp 46) (.tmp 47) rfl vt (.slice ma mn mc) vu rfl rfl hrun5) S5 ?_
                  simp only [Act.put, List.setIfInBounds_toArray, List.set_cons_zero, List.set_cons_succ]
                  have AU_5 : Below x5.heap.size x5 x5 := Below.refl _ _
                  refine wpAnyH_ready (rs := [10]) (by kernel_rfl) (by simp) (AllReadyH.cons ((nth_eq _ 10).trans rfl) ?_ AllReadyH.nil)
                  intro K6 hK6
                  obtain ⟨B9, hB9, own9⟩ := HOvu.out _ AU_5
                  have hLt := list_of_own kindCell.len own9
                  obtain ⟨qa, qc, hq, _⟩ := hLt.form
                  subst hq
                  have hln : (tl ++ ml).length ≤ 1000000 := by rw [List.length_append]; have := HTn.out; have := HMn.out; omega
                  refine call_in hK6 (by kernel_rfl) 42 #[.agg #[.int .i64 c.W, .int .i64 c.H, .int .i64 c.height, k1, k2, k3, k4, .int .i64 c.unit, .int .i64 c.accel, .int .i64 c.speed, .int .i64 c.turn, .int .i64 c.hoist, .int .i64 c.queue, .int .i64 c.resend, .int .i64 c.budget, .bool c.back], .slice ka sn kc, .slice qa (tl ++ ml).length qc, .agg #[.int .i64 f.1, .int .i64 f.2]] (by go_simp) _ (place_some (HC1.out _ AC_5) (HC1f.out _ AC_5) l1 l2 l3 l4 hN FS1 c.stacks ka sn kc (HS1.out _ AS_5) (HS1f.out _ AS_5) hsn HPl.out _ (tl ++ ml) _ _ _ hLt (fun q h => h.2) hln f) ?_
                  rintro rp x6 ⟨⟨Q, rfl, hPl⟩, b6⟩
                  have S6 : Below w4.heap.size w4 x6 := bcat S5 b6 (Nat.le_refl _)
                  have AC_6 := bcat AC_5 b6 (Nat.le_refl _)
                  have AS_6 := bcat AS_5 b6 (Nat.le_refl _)
                  have AV_6 := bcat AV_5 b6 (Nat.le_refl _)
                  have AU_6 := bcat AU_5 b6 (Nat.le_refl _)
                  refine ⟨S6, ?_⟩
                  simp only [Act.put, List.setIfInBounds_toArray, List.set_cons_zero, List.set_cons_succ]
                  refine take_held 11 S6 rfl (by kernel_rfl) (by kernel_rfl) (by kernel_rfl) (fun _ _ _ h => h) (by kernel_rfl) (v := ?v43) ?y43 ?r43
                  case y43 => (intro u hu; go_simp; try rfl)
                  simp only [Act.put, List.setIfInBounds_toArray, List.set_cons_zero, List.set_cons_succ]
                  refine take_held 12 S6 rfl (by kernel_rfl) (by kernel_rfl) (by kernel_rfl) (fun _ _ _ h => h) (by kernel_rfl) (v := ?v44) ?y44 ?r44
                  case y44 => (intro u hu; go_simp; try rfl)
                  simp only [Act.put, List.setIfInBounds_toArray, List.set_cons_zero, List.set_cons_succ]
                  refine take_held 13 S6 rfl (by kernel_rfl) (by kernel_rfl) (by kernel_rfl) (fun _ _ _ h => h) (by kernel_rfl) (v := ?v45) ?y45 ?r45
                  case y45 => (intro u hu; go_simp; try rfl)
                  simp only [Act.put, List.setIfInBounds_toArray, List.set_cons_zero, List.set_cons_succ]
                  have hv9 := (AV_6.block _ (lt_of_heap hva)).trans hva
                  have S9 : Below w4.heap.size w4 (x6.setRow pb #[.int .i64 (placeP Q).1, .int .i64 (placeP Q).2]) := below_row S6 lva _
                  have hst := run_storeVar_row (P := Try.prog) x6 pb 39 39 #[.int .i64 0, .int .i64 0] #[.int .i64 (placeP Q).1, .int .i64 (placeP Q).2] hv9 infoCell2 rfl (by simp [Value.oneCell'])
                  refine store_held 15 rfl (by kernel_rfl) (by kernel_rfl) (x6.setRow pb #[.int .i64 (placeP Q).1, .int .i64 (placeP Q).2]) (run_store_op 39 (.tmp 11) (.tmp 51) rfl pb #[.int .i64 (placeP Q).1, .int .i64 (placeP Q).2] rfl rfl hst) S9 ?_
                  simp only [Act.put, List.setIfInBounds_toArray, List.set_cons_zero, List.set_cons_succ]
                  refine take_held 16 S9 rfl (by kernel_rfl) (by kernel_rfl) (by kernel_rfl) (fun _ _ _ h => h) (by kernel_rfl) (v := ?v46) ?y46 ?r46
                  case y46 => (intro u hu; go_simp; try rfl)
                  simp only [Act.put, List.setIfInBounds_toArray, List.set_cons_zero, List.set_cons_succ]
                  refine done_held (by kernel_rfl) ?_ _
                  exact ⟨pb, Q, _, _, _, _, setRow_heap _ _ _ _ _ _ hv9, hPl, S9, lva, rfl⟩
              · intro K2 hK2
                obtain ⟨x2, hx2⟩ : ∃ x, x = x1.alloc (.cells #[.int .i64 0, .int .i64 0] 39) := ⟨_, rfl⟩
                have b2 : Below x1.heap.size x1 x2 := by rw [hx2]; exact below_new (Below.refl _ _) _
                have hva : x2.heap[x1.heap.size]? = some (.cells #[.int .i64 0, .int .i64 0] 39 (0, 0)) := by rw [hx2]; exact heap_alloc_new _ _
                have lva : w4.heap.size ≤ x1.heap.size := S1.size
                have S2 : Below w4.heap.size w4 x2 := bcat S1 b2 (Nat.le_refl _)
                have AC_2 := bcat AC_1 b2 (Nat.le_refl _)
                refine value_in hK2 (by kernel_rfl) (.pointer (some ⟨x1.heap.size, 0, none⟩)) x2 (by rw [hx2]; go_simp; try rfl) S2 ?_
                simp only [Act.put, List.setIfInBounds_toArray, List.set_cons_zero, List.set_cons_succ]
                clear hx2
                obtain ⟨pb, hpb⟩ : ∃ pb, x1.heap.size = pb := ⟨_, rfl⟩
                rw [hpb] at hva lva
                try rw [hpb]
                have HPb : Hid (x1.heap.size = pb) := hpb
                clear hpb
                have AV_2 : Below x2.heap.size x2 x2 := Below.refl _ _
                refine wpAnyH_ready (rs := [4]) (by kernel_rfl) (by simp) (AllReadyH.cons ((nth_eq _ 4).trans rfl) ?_ AllReadyH.nil)
                intro K3 hK3
                refine call_in hK3 (by kernel_rfl) 36 #[v4] (by go_simp) _ (copyStacksC_any (Old w) c.stacks v4 x2 (HA.out _ (bcat HBw.out S2 (Nat.le_refl _))).s (fun b hb => Nat.lt_of_lt_of_le (hO b hb) (bcat HBw.out S2 (Nat.le_refl _)).size) l4 HL5.out) ?_
                rintro rs x3 ⟨hS1, b3⟩
                have S3 : Below w4.heap.size w4 x3 := bcat S2 b3 (Nat.le_refl _)
                have AC_3 := bcat AC_2 b3 (Nat.le_refl _)
                have AV_3 := bcat AV_2 b3 (Nat.le_refl _)
                obtain ⟨ka, kc, hks, _⟩ := hS1.form
                rw [HSn.out] at hks
                subst hks
                have HS1 : Hid (∀ u, Below x3.heap.size x3 u → ListAt 3 stackElC (Since x2.heap.size x3) c.stacks (.slice ka sn kc) u) := fun u b => hS1.go heldStackC (fun q h => h.2) b
                have HS1f : Hid (∀ u, Below x3.heap.size x3 u → ∀ b, Since x2.heap.size x3 b → b < u.heap.size) := fun u b q h => Nat.lt_of_lt_of_le h.2 b.size
                obtain ⟨FS1, hFS1⟩ : ∃ F, F = Since x2.heap.size x3 := ⟨_, rfl⟩
                rw [← hFS1] at HS1 HS1f
                clear hFS1 hS1
                refine ⟨S3, ?_⟩
                simp only [Act.put, List.setIfInBounds_toArray, List.set_cons_zero, List.set_cons_succ]
                have AS_3 : Below x3.heap.size x3 x3 := Below.refl _ _
                refine wpAnyH_ready (rs := [6]) (by kernel_rfl) (by simp) (AllReadyH.cons ((nth_eq _ 6).trans rfl) ?_ AllReadyH.nil)
                intro K4 hK4
                obtain ⟨vt, x4, hrun4, own4, grow4, at4⟩ := run_app (xs := ([] : List Cell)) kindCell (World.ownsRow_nil x3 x3.heap.size 39 2) (HT.out _ (bcat HBw.out S3 (Nat.le_refl _))) (by have := HTn.out; simp only [List.length_nil]; omega) (by have := HTn.out; unfold maxLen; simp only [List.length_nil]; omega) (Nat.le_refl _) 22
                have b4 : Below x3.heap.size x3 x4 := below_none grow4
                have S4 : Below w4.heap.size w4 x4 := bcat S3 b4 (Nat.le_refl _)
                have AC_4 := bcat AC_3 b4 (Nat.le_refl _)
                have AV_4 := bcat AV_3 b4 (Nat.le_refl _)
                have AS_4 := bcat AS_3 b4 (Nat.le_refl _)
                rw [List.nil_append] at own4
                have HOvt : Hid (∀ u, Below x4.heap.size x4 u → u.ownsRow x3.heap.size 39 2 vt tl.length (rowL cellL tl)) := fun u b => owns_go own4 b
                have HOvtl : Hid (x3.heap.size ≤ x4.heap.size) := b4.size
                refine value_in hK4 (by kernel_rfl) vt x4 (run_app_op (t := 22) (.const (.slice none 0 0)) (.tmp 45) rfl (.slice none 0 0) (.slice ta tn tc) vt rfl rfl hrun4) S4 ?_
                simp only [Act.put, List.setIfInBounds_toArray, List.set_cons_zero, List.set_cons_succ]
                have AT_4 : Below x4.heap.size x4 x4 := Below.refl _ _
                refine wpAnyH_ready (rs := [8]) (by kernel_rfl) (by simp) (AllReadyH.cons ((nth_eq _ 8).trans rfl) ?_ AllReadyH.nil)
                intro K5 hK5
                obtain ⟨vu, x5, hrun5, own5, grow5, at5⟩ := run_app kindCell (HOvt.out _ AT_4) (HM.out _ (bcat HBw.out S4 (Nat.le_refl _))) (by have := HMn.out; have := HTn.out; omega) (by have := HMn.out; have := HTn.out; unfold maxLen; omega) (by have := AT_4.size; have := (HOvtl.out); omega) 22
                have sg5 := grow5.size
                have lo5 : ∀ k, vt.ownBlock = some k → x3.heap.size ≤ k := fun k e => (own4.lt k e).1
                have S5 : Below w4.heap.size w4 x5 := S4.grown grow5 S4.size (fun k e => by have := lo5 k e; have := S3.size; omega)
                have AC_5 : Below x1.heap.size x1 x5 := AC_4.grown grow5 AC_4.size (fun k e => by have := lo5 k e; have := AC_3.size; omega)
                have AS_5 : Below x3.heap.size x3 x5 := AS_4.grown grow5 AS_4.size (fun k e => by have := lo5 k e; have := AS_3.size; omega)
                have hva' := (grow5.block _ (by have := lt_of_heap hva; have := AV_4.size; omega) (fun e => (show vt.ownBlock ≠ some pb from fun e => by have := (own4.lt _ e).1; have := lt_of_heap hva; have := AV_3.size; omega) e.symm)).trans ((AV_4.block _ (lt_of_heap hva)).trans hva)
                clear hva
                have hva := hva'
                clear hva'
                have AV_5 : Below x5.heap.size x5 x5 := Below.refl _ _
                have HOvu : Hid (∀ u, Below x5.heap.size x5 u → ∃ B, B ≤ x5.heap.size ∧ u.ownsRow B 39 2 vu (tl ++ ml).length (rowL cellL (tl ++ ml))) := fun u b => ⟨_, (by have := HOvtl.out; have := AT_4.size; omega), owns_go own5 b⟩
                refine value_in hK5 (by kernel_rfl) vu x5 (run_app_op (t := 22) (.tmp 46) (.tmp 47) rfl vt (.slice ma mn mc) vu rfl rfl hrun5) S5 ?_
                simp only [Act.put, List.setIfInBounds_toArray, List.set_cons_zero, List.set_cons_succ]
                have AU_5 : Below x5.heap.size x5 x5 := Below.refl _ _
                refine wpAnyH_ready (rs := [10]) (by kernel_rfl) (by simp) (AllReadyH.cons ((nth_eq _ 10).trans rfl) ?_ AllReadyH.nil)
                intro K6 hK6
                obtain ⟨B9, hB9, own9⟩ := HOvu.out _ AU_5
                have hLt := list_of_own kindCell.len own9
                obtain ⟨qa, qc, hq, _⟩ := hLt.form
                subst hq
                have hln : (tl ++ ml).length ≤ 1000000 := by rw [List.length_append]; have := HTn.out; have := HMn.out; omega
                refine call_in hK6 (by kernel_rfl) 42 #[.agg #[.int .i64 c.W, .int .i64 c.H, .int .i64 c.height, k1, k2, k3, k4, .int .i64 c.unit, .int .i64 c.accel, .int .i64 c.speed, .int .i64 c.turn, .int .i64 c.hoist, .int .i64 c.queue, .int .i64 c.resend, .int .i64 c.budget, .bool c.back], .slice ka sn kc, .slice qa (tl ++ ml).length qc, .agg #[.int .i64 f.1, .int .i64 f.2]] (by go_simp) _ (place_some (HC1.out _ AC_5) (HC1f.out _ AC_5) l1 l2 l3 l4 hN FS1 c.stacks ka sn kc (HS1.out _ AS_5) (HS1f.out _ AS_5) hsn HPl.out _ (tl ++ ml) _ _ _ hLt (fun q h => h.2) hln f) ?_
                rintro rp x6 ⟨⟨Q, rfl, hPl⟩, b6⟩
                have S6 : Below w4.heap.size w4 x6 := bcat S5 b6 (Nat.le_refl _)
                have AC_6 := bcat AC_5 b6 (Nat.le_refl _)
                have AS_6 := bcat AS_5 b6 (Nat.le_refl _)
                have AV_6 := bcat AV_5 b6 (Nat.le_refl _)
                have AU_6 := bcat AU_5 b6 (Nat.le_refl _)
                refine ⟨S6, ?_⟩
                simp only [Act.put, List.setIfInBounds_toArray, List.set_cons_zero, List.set_cons_succ]
                refine take_held 11 S6 rfl (by kernel_rfl) (by kernel_rfl) (by kernel_rfl) (fun _ _ _ h => h) (by kernel_rfl) (v := ?v47) ?y47 ?r47
                case y47 => (intro u hu; go_simp; try rfl)
                simp only [Act.put, List.setIfInBounds_toArray, List.set_cons_zero, List.set_cons_succ]
                refine take_held 12 S6 rfl (by kernel_rfl) (by kernel_rfl) (by kernel_rfl) (fun _ _ _ h => h) (by kernel_rfl) (v := ?v48) ?y48 ?r48
                case y48 => (intro u hu; go_simp; try rfl)
                simp only [Act.put, List.setIfInBounds_toArray, List.set_cons_zero, List.set_cons_succ]
                refine take_held 13 S6 rfl (by kernel_rfl) (by kernel_rfl) (by kernel_rfl) (fun _ _ _ h => h) (by kernel_rfl) (v := ?v49) ?y49 ?r49
                case y49 => (intro u hu; go_simp; try rfl)
                simp only [Act.put, List.setIfInBounds_toArray, List.set_cons_zero, List.set_cons_succ]
                have hv9 := (AV_6.block _ (lt_of_heap hva)).trans hva
                have S9 : Below w4.heap.size w4 (x6.setRow pb #[.int .i64 (placeP Q).1, .int .i64 (placeP Q).2]) := below_row S6 lva _
                have hst := run_storeVar_row (P := Try.prog) x6 pb 39 39 #[.int .i64 0, .int .i64 0] #[.int .i64 (placeP Q).1, .int .i64 (placeP Q).2] hv9 infoCell2 rfl (by simp [Value.oneCell'])
                refine store_held 15 rfl (by kernel_rfl) (by kernel_rfl) (x6.setRow pb #[.int .i64 (placeP Q).1, .int .i64 (placeP Q).2]) (run_store_op 39 (.tmp 11) (.tmp 51) rfl pb #[.int .i64 (placeP Q).1, .int .i64 (placeP Q).2] rfl rfl hst) S9 ?_
                simp only [Act.put, List.setIfInBounds_toArray, List.set_cons_zero, List.set_cons_succ]
                refine take_held 16 S9 rfl (by kernel_rfl) (by kernel_rfl) (by kernel_rfl) (fun _ _ _ h => h) (by kernel_rfl) (v := ?v50) ?y50 ?r50
                case y50 => (intro u hu; go_simp; try rfl)
                simp only [Act.put, List.setIfInBounds_toArray, List.set_cons_zero, List.set_cons_succ]
                refine done_held (by kernel_rfl) ?_ _
                exact ⟨pb, Q, _, _, _, _, setRow_heap _ _ _ _ _ _ hv9, hPl, S9, lva, rfl⟩
            · intro K1 hK1
              obtain ⟨x1, hx1⟩ : ∃ x, x = x0.alloc (.cells #[.int .i64 0, .int .i64 0] 39) := ⟨_, rfl⟩
              have b1 : Below x0.heap.size x0 x1 := by rw [hx1]; exact below_new (Below.refl _ _) _
              have hva : x1.heap[x0.heap.size]? = some (.cells #[.int .i64 0, .int .i64 0] 39 (0, 0)) := by rw [hx1]; exact heap_alloc_new _ _
              have lva : w4.heap.size ≤ x0.heap.size := S0.size
              have S1 : Below w4.heap.size w4 x1 := bcat S0 b1 (Nat.le_refl _)
              refine value_in hK1 (by kernel_rfl) (.pointer (some ⟨x0.heap.size, 0, none⟩)) x1 (by rw [hx1]; go_simp; try rfl) S1 ?_
              simp only [Act.put, List.setIfInBounds_toArray, List.set_cons_zero, List.set_cons_succ]
              clear hx1
              obtain ⟨pb, hpb⟩ : ∃ pb, x0.heap.size = pb := ⟨_, rfl⟩
              rw [hpb] at hva lva
              try rw [hpb]
              have HPb : Hid (x0.heap.size = pb) := hpb
              clear hpb
              have AV_1 : Below x1.heap.size x1 x1 := Below.refl _ _
              refine wpAnyH_ready (rs := [1]) (by kernel_rfl) (by simp) (AllReadyH.cons ((nth_eq _ 1).trans rfl) ?_ AllReadyH.nil)
              intro K2 hK2
              refine call_in hK2 (by kernel_rfl) 15 #[.agg #[.int .i64 c.W, .int .i64 c.H, .int .i64 c.height, v1, v2, v3, v4, .int .i64 c.unit, .int .i64 c.accel, .int .i64 c.speed, .int .i64 c.turn, .int .i64 c.hoist, .int .i64 c.queue, .int .i64 c.resend, .int .i64 c.budget, .bool c.back]] (by go_simp) _ (copyConf_any (Old w) c v1 v2 v3 v4 x1 (HA.out _ (bcat HBw.out S1 (Nat.le_refl _))) (fun b hb => Nat.lt_of_lt_of_le (hO b hb) (bcat HBw.out S1 (Nat.le_refl _)).size) l1 l2 l3 l4 HL5.out) ?_
              rintro rc x2 ⟨⟨k1, k2, k3, k4, rfl, hC1⟩, b2⟩
              have S2 : Below w4.heap.size w4 x2 := bcat S1 b2 (Nat.le_refl _)
              have AV_2 := bcat AV_1 b2 (Nat.le_refl _)
              have HC1 : Hid (∀ u, Below x2.heap.size x2 u → ConfAt (Since x1.heap.size x2) c k1 k2 k3 k4 u) := fun u b => hC1.go (fun q h => h.2) b
              have HC1f : Hid (∀ u, Below x2.heap.size x2 u → ∀ b, Since x1.heap.size x2 b → b < u.heap.size) := fun u b q h => Nat.lt_of_lt_of_le h.2 b.size
              obtain ⟨FC1, hFC1⟩ : ∃ F, F = Since x1.heap.size x2 := ⟨_, rfl⟩
              rw [← hFC1] at HC1 HC1f
              clear hFC1 hC1
              refine ⟨S2, ?_⟩
              simp only [Act.put, List.setIfInBounds_toArray, List.set_cons_zero, List.set_cons_succ]
              have AC_2 : Below x2.heap.size x2 x2 := Below.refl _ _
              refine wpAnyH_ready (rs := [4]) (by kernel_rfl) (by simp) (AllReadyH.cons ((nth_eq _ 4).trans rfl) ?_ AllReadyH.nil)
              intro K3 hK3
              refine call_in hK3 (by kernel_rfl) 36 #[v4] (by go_simp) _ (copyStacksC_any (Old w) c.stacks v4 x2 (HA.out _ (bcat HBw.out S2 (Nat.le_refl _))).s (fun b hb => Nat.lt_of_lt_of_le (hO b hb) (bcat HBw.out S2 (Nat.le_refl _)).size) l4 HL5.out) ?_
              rintro rs x3 ⟨hS1, b3⟩
              have S3 : Below w4.heap.size w4 x3 := bcat S2 b3 (Nat.le_refl _)
              have AV_3 := bcat AV_2 b3 (Nat.le_refl _)
              have AC_3 := bcat AC_2 b3 (Nat.le_refl _)
              obtain ⟨ka, kc, hks, _⟩ := hS1.form
              rw [HSn.out] at hks
              subst hks
              have HS1 : Hid (∀ u, Below x3.heap.size x3 u → ListAt 3 stackElC (Since x2.heap.size x3) c.stacks (.slice ka sn kc) u) := fun u b => hS1.go heldStackC (fun q h => h.2) b
              have HS1f : Hid (∀ u, Below x3.heap.size x3 u → ∀ b, Since x2.heap.size x3 b → b < u.heap.size) := fun u b q h => Nat.lt_of_lt_of_le h.2 b.size
              obtain ⟨FS1, hFS1⟩ : ∃ F, F = Since x2.heap.size x3 := ⟨_, rfl⟩
              rw [← hFS1] at HS1 HS1f
              clear hFS1 hS1
              refine ⟨S3, ?_⟩
              simp only [Act.put, List.setIfInBounds_toArray, List.set_cons_zero, List.set_cons_succ]
              have AS_3 : Below x3.heap.size x3 x3 := Below.refl _ _
              refine wpAnyH_ready (rs := [6]) (by kernel_rfl) (by simp) (AllReadyH.cons ((nth_eq _ 6).trans rfl) ?_ AllReadyH.nil)
              intro K4 hK4
              obtain ⟨vt, x4, hrun4, own4, grow4, at4⟩ := run_app (xs := ([] : List Cell)) kindCell (World.ownsRow_nil x3 x3.heap.size 39 2) (HT.out _ (bcat HBw.out S3 (Nat.le_refl _))) (by have := HTn.out; simp only [List.length_nil]; omega) (by have := HTn.out; unfold maxLen; simp only [List.length_nil]; omega) (Nat.le_refl _) 22
              have b4 : Below x3.heap.size x3 x4 := below_none grow4
              have S4 : Below w4.heap.size w4 x4 := bcat S3 b4 (Nat.le_refl _)
              have AV_4 := bcat AV_3 b4 (Nat.le_refl _)
              have AC_4 := bcat AC_3 b4 (Nat.le_refl _)
              have AS_4 := bcat AS_3 b4 (Nat.le_refl _)
              rw [List.nil_append] at own4
              have HOvt : Hid (∀ u, Below x4.heap.size x4 u → u.ownsRow x3.heap.size 39 2 vt tl.length (rowL cellL tl)) := fun u b => owns_go own4 b
              have HOvtl : Hid (x3.heap.size ≤ x4.heap.size) := b4.size
              refine value_in hK4 (by kernel_rfl) vt x4 (run_app_op (t := 22) (.const (.slice none 0 0)) (.tmp 45) rfl (.slice none 0 0) (.slice ta tn tc) vt rfl rfl hrun4) S4 ?_
              simp only [Act.put, List.setIfInBounds_toArray, List.set_cons_zero, List.set_cons_succ]
              have AT_4 : Below x4.heap.size x4 x4 := Below.refl _ _
              refine wpAnyH_ready (rs := [8]) (by kernel_rfl) (by simp) (AllReadyH.cons ((nth_eq _ 8).trans rfl) ?_ AllReadyH.nil)
              intro K5 hK5
              obtain ⟨vu, x5, hrun5, own5, grow5, at5⟩ := run_app kindCell (HOvt.out _ AT_4) (HM.out _ (bcat HBw.out S4 (Nat.le_refl _))) (by have := HMn.out; have := HTn.out; omega) (by have := HMn.out; have := HTn.out; unfold maxLen; omega) (by have := AT_4.size; have := (HOvtl.out); omega) 22
              have sg5 := grow5.size
              have lo5 : ∀ k, vt.ownBlock = some k → x3.heap.size ≤ k := fun k e => (own4.lt k e).1
              have S5 : Below w4.heap.size w4 x5 := S4.grown grow5 S4.size (fun k e => by have := lo5 k e; have := S3.size; omega)
              have AC_5 : Below x2.heap.size x2 x5 := AC_4.grown grow5 AC_4.size (fun k e => by have := lo5 k e; have := AC_3.size; omega)
              have AS_5 : Below x3.heap.size x3 x5 := AS_4.grown grow5 AS_4.size (fun k e => by have := lo5 k e; have := AS_3.size; omega)
              have hva' := (grow5.block _ (by have := lt_of_heap hva; have := AV_4.size; omega) (fun e => (show vt.ownBlock ≠ some pb from fun e => by have := (own4.lt _ e).1; have := lt_of_heap hva; have := AV_3.size; omega) e.symm)).trans ((AV_4.block _ (lt_of_heap hva)).trans hva)
              clear hva
              have hva := hva'
              clear hva'
              have AV_5 : Below x5.heap.size x5 x5 := Below.refl _ _
              have HOvu : Hid (∀ u, Below x5.heap.size x5 u → ∃ B, B ≤ x5.heap.size ∧ u.ownsRow B 39 2 vu (tl ++ ml).length (rowL cellL (tl ++ ml))) := fun u b => ⟨_, (by have := HOvtl.out; have := AT_4.size; omega), owns_go own5 b⟩
              refine value_in hK5 (by kernel_rfl) vu x5 (run_app_op (t := 22) (.tmp 46) (.tmp 47) rfl vt (.slice ma mn mc) vu rfl rfl hrun5) S5 ?_
              simp only [Act.put, List.setIfInBounds_toArray, List.set_cons_zero, List.set_cons_succ]
              have AU_5 : Below x5.heap.size x5 x5 := Below.refl _ _
              refine wpAnyH_ready (rs := [10]) (by kernel_rfl) (by simp) (AllReadyH.cons ((nth_eq _ 10).trans rfl) ?_ AllReadyH.nil)
              intro K6 hK6
              obtain ⟨B9, hB9, own9⟩ := HOvu.out _ AU_5
              have hLt := list_of_own kindCell.len own9
              obtain ⟨qa, qc, hq, _⟩ := hLt.form
              subst hq
              have hln : (tl ++ ml).length ≤ 1000000 := by rw [List.length_append]; have := HTn.out; have := HMn.out; omega
              refine call_in hK6 (by kernel_rfl) 42 #[.agg #[.int .i64 c.W, .int .i64 c.H, .int .i64 c.height, k1, k2, k3, k4, .int .i64 c.unit, .int .i64 c.accel, .int .i64 c.speed, .int .i64 c.turn, .int .i64 c.hoist, .int .i64 c.queue, .int .i64 c.resend, .int .i64 c.budget, .bool c.back], .slice ka sn kc, .slice qa (tl ++ ml).length qc, .agg #[.int .i64 f.1, .int .i64 f.2]] (by go_simp) _ (place_some (HC1.out _ AC_5) (HC1f.out _ AC_5) l1 l2 l3 l4 hN FS1 c.stacks ka sn kc (HS1.out _ AS_5) (HS1f.out _ AS_5) hsn HPl.out _ (tl ++ ml) _ _ _ hLt (fun q h => h.2) hln f) ?_
              rintro rp x6 ⟨⟨Q, rfl, hPl⟩, b6⟩
              have S6 : Below w4.heap.size w4 x6 := bcat S5 b6 (Nat.le_refl _)
              have AC_6 := bcat AC_5 b6 (Nat.le_refl _)
              have AS_6 := bcat AS_5 b6 (Nat.le_refl _)
              have AV_6 := bcat AV_5 b6 (Nat.le_refl _)
              have AU_6 := bcat AU_5 b6 (Nat.le_refl _)
              refine ⟨S6, ?_⟩
              simp only [Act.put, List.setIfInBounds_toArray, List.set_cons_zero, List.set_cons_succ]
              refine take_held 11 S6 rfl (by kernel_rfl) (by kernel_rfl) (by kernel_rfl) (fun _ _ _ h => h) (by kernel_rfl) (v := ?v51) ?y51 ?r51
              case y51 => (intro u hu; go_simp; try rfl)
              simp only [Act.put, List.setIfInBounds_toArray, List.set_cons_zero, List.set_cons_succ]
              refine take_held 12 S6 rfl (by kernel_rfl) (by kernel_rfl) (by kernel_rfl) (fun _ _ _ h => h) (by kernel_rfl) (v := ?v52) ?y52 ?r52
              case y52 => (intro u hu; go_simp; try rfl)
              simp only [Act.put, List.setIfInBounds_toArray, List.set_cons_zero, List.set_cons_succ]
              refine take_held 13 S6 rfl (by kernel_rfl) (by kernel_rfl) (by kernel_rfl) (fun _ _ _ h => h) (by kernel_rfl) (v := ?v53) ?y53 ?r53
              case y53 => (intro u hu; go_simp; try rfl)
              simp only [Act.put, List.setIfInBounds_toArray, List.set_cons_zero, List.set_cons_succ]
              have hv9 := (AV_6.block _ (lt_of_heap hva)).trans hva
              have S9 : Below w4.heap.size w4 (x6.setRow pb #[.int .i64 (placeP Q).1, .int .i64 (placeP Q).2]) := below_row S6 lva _
              have hst := run_storeVar_row (P := Try.prog) x6 pb 39 39 #[.int .i64 0, .int .i64 0] #[.int .i64 (placeP Q).1, .int .i64 (placeP Q).2] hv9 infoCell2 rfl (by simp [Value.oneCell'])
              refine store_held 15 rfl (by kernel_rfl) (by kernel_rfl) (x6.setRow pb #[.int .i64 (placeP Q).1, .int .i64 (placeP Q).2]) (run_store_op 39 (.tmp 11) (.tmp 51) rfl pb #[.int .i64 (placeP Q).1, .int .i64 (placeP Q).2] rfl rfl hst) S9 ?_
              simp only [Act.put, List.setIfInBounds_toArray, List.set_cons_zero, List.set_cons_succ]
              refine take_held 16 S9 rfl (by kernel_rfl) (by kernel_rfl) (by kernel_rfl) (fun _ _ _ h => h) (by kernel_rfl) (v := ?v54) ?y54 ?r54
              case y54 => (intro u hu; go_simp; try rfl)
              simp only [Act.put, List.setIfInBounds_toArray, List.set_cons_zero, List.set_cons_succ]
              refine done_held (by kernel_rfl) ?_ _
              exact ⟨pb, Q, _, _, _, _, setRow_heap _ _ _ _ _ _ hv9, hPl, S9, lva, rfl⟩
          case rest4 =>
            rintro _ w5 ⟨qb, Q, y41, y44, y46, y48, hp5, hPl5, b5, lqb, rfl⟩
            dsimp only
            have B5 := bcat HBw.out b5 (Nat.le_refl _)
            have hp4' := (b5.block _ lp4).trans HP4.out.1
            have hf5 := (b5.block _ (lt_of_heap hf4')).trans hf4'
            have hnd := stk_nodup c.W G.uses G.uses.length
            have HPq : Hid (Places c.stacks c.height (stkUpTo c.W G.uses G.uses.length) (tl ++ ml) f Q) := hPl5
            have hPl4 := HP4.out.2
            clear HP4 hPl5
            cases P with
            | nil =>
              have hQ : Q = [] := by
                cases Q with
                | nil => rfl
                | cons q Q => exact absurd (may_less (places_cons hnd HPq.out).1) (places_nil hnd hPl4 q)
              subst hQ
              simp only [placeE, placeP]
              go_wp2_with (go_at_call 37; refine (awake14_any _).mono ?_; rintro e w6 ⟨rw6, rfl, rfl, b6⟩)
              go_ret
              exact ⟨rfl, bcat B5 b6 (Nat.le_refl _)⟩
            | cons p P =>
              cases Q with
              | nil =>
                simp only [placeE, placeP]
                go_wp2_with (go_at_call 37; refine (awake14_any _).mono ?_; rintro e w6 ⟨rw6, rfl, rfl, b6⟩)
                go_ret
                exact ⟨rfl, bcat B5 b6 (Nat.le_refl _)⟩
              | cons q Q =>
                have hle := (places_cons hnd hPl4).2 q (may_less (places_cons hnd HPq.out).1)
                have hge : decide (awayP f p ≤ awayP f q) = true := decide_eq_true hle
                have HPc : Hid (∀ u, Below w5.heap.size w5 u → ∀ j z, #[Value.int .i64 p.1, .int .i64 p.2][j]? = some z → u.cell? ((⟨pb, 0, none⟩ : Addr).add j) = some z) := fun u hu => row_below hp4' hu
                have HQc : Hid (∀ u, Below w5.heap.size w5 u → ∀ j z, #[Value.int .i64 q.1, .int .i64 q.2][j]? = some z → u.cell? ((⟨qb, 0, none⟩ : Addr).add j) = some z) := fun u hu => row_below hp5 hu
                have HFc : Hid (∀ u, Below w5.heap.size w5 u → ∀ j z, #[.int .i64 f.1, .int .i64 f.2][j]? = some z → u.cell? ((⟨w.heap.size + 1, 0, none⟩ : Addr).add j) = some z) := fun u hu => row_below hf5 hu
                have T0 : Below w5.heap.size w5 w5.drew := (Below.refl _ _).drew
                have e1 : placeP (p :: P) = p := rfl
                have e2 : placeP (q :: Q) = q := rfl
                simp only [placeE, e1, e2]
                clear hp4' hp5 hf5 hle HPq hPl4
                go_upto_region 9 with fail
                refine start_held (S := fun u => Below w5.heap.size w5 u) 11 rfl (by kernel_rfl) T0 ?_
                simp only [Array.replicate_succ, Array.replicate_zero, List.push_toArray, List.nil_append, List.cons_append]
                refine take_held 0 T0 rfl (by kernel_rfl) (by kernel_rfl) (by kernel_rfl) (fun _ _ _ h => h) (by kernel_rfl) (v := .agg #[.int .i64 f.1, .int .i64 f.2]) ?y55 ?r55
                case y55 => (intro u hu; exact run_load_op 39 _ rfl ⟨w.heap.size + 1, 0, none⟩ _ rfl (HFc.out u hu) (aggCell u) infoCell2)
                simp only [Act.put, List.setIfInBounds_toArray, List.set_cons_zero, List.set_cons_succ]
                refine take_held 1 T0 rfl (by kernel_rfl) (by kernel_rfl) (by kernel_rfl) (fun _ _ _ h => h) (by kernel_rfl) (v := .agg #[.int .i64 q.1, .int .i64 q.2]) ?y56 ?r56
                case y56 => (intro u hu; exact run_load_op 39 _ rfl ⟨qb, 0, none⟩ _ rfl (HQc.out u hu) (aggCell u) infoCell2)
                simp only [Act.put, List.setIfInBounds_toArray, List.set_cons_zero, List.set_cons_succ]
                refine take_held 3 T0 rfl (by kernel_rfl) (by kernel_rfl) (by kernel_rfl) (fun _ _ _ h => h) (by kernel_rfl) (v := .agg #[.int .i64 f.1, .int .i64 f.2]) ?y57 ?r57
                case y57 => (intro u hu; exact run_load_op 39 _ rfl ⟨w.heap.size + 1, 0, none⟩ _ rfl (HFc.out u hu) (aggCell u) infoCell2)
                simp only [Act.put, List.setIfInBounds_toArray, List.set_cons_zero, List.set_cons_succ]
                refine take_held 4 T0 rfl (by kernel_rfl) (by kernel_rfl) (by kernel_rfl) (fun _ _ _ h => h) (by kernel_rfl) (v := .agg #[.int .i64 p.1, .int .i64 p.2]) ?y58 ?r58
                case y58 => (intro u hu; exact run_load_op 39 _ rfl ⟨pb, 0, none⟩ _ rfl (HPc.out u hu) (aggCell u) infoCell2)
                simp only [Act.put, List.setIfInBounds_toArray, List.set_cons_zero, List.set_cons_succ]
                refine wpAnyH_ready (rs := [2]) (by kernel_rfl) (by simp) (AllReadyH.cons ((nth_eq _ 2).trans rfl) ?_ AllReadyH.nil)
                intro K1 hK1
                refine call_in hK1 (by kernel_rfl) 50 #[.agg #[.int .i64 f.1, .int .i64 f.2], .agg #[.int .i64 q.1, .int .i64 q.2]] (by go_simp) _ (away_any f.1 f.2 q.1 q.2 _) ?_
                rintro v1_ y1 ⟨rfl, b1⟩
                have T1 : Below w5.heap.size w5 y1 := bcat T0 b1 (Nat.le_refl _)
                refine ⟨T1, ?_⟩
                simp only [Act.put, List.setIfInBounds_toArray, List.set_cons_zero, List.set_cons_succ]
                refine wpAnyH_ready (rs := [5]) (by kernel_rfl) (by simp) (AllReadyH.cons ((nth_eq _ 5).trans rfl) ?_ AllReadyH.nil)
                intro K2 hK2
                refine call_in hK2 (by kernel_rfl) 50 #[.agg #[.int .i64 f.1, .int .i64 f.2], .agg #[.int .i64 p.1, .int .i64 p.2]] (by go_simp) _ (away_any f.1 f.2 p.1 p.2 _) ?_
                rintro v2_ y2 ⟨rfl, b2⟩
                have T2 : Below w5.heap.size w5 y2 := bcat T1 b2 (Nat.le_refl _)
                refine ⟨T2, ?_⟩
                simp only [Act.put, List.setIfInBounds_toArray, List.set_cons_zero, List.set_cons_succ]
                refine take_held 6 T2 rfl (by kernel_rfl) (by kernel_rfl) (by kernel_rfl) (fun _ _ _ h => h) (by kernel_rfl) (v := .bool true) ?y59 ?r59
                case y59 => (intro u hu; have zz : decide (awayP (f.1, f.2) (p.1, p.2) ≤ awayP (f.1, f.2) (q.1, q.2)) = true := hge; go_simp; try rfl)
                simp only [Act.put, List.setIfInBounds_toArray, List.set_cons_zero, List.set_cons_succ]
                refine take_held 7 T2 rfl (by kernel_rfl) (by kernel_rfl) (by kernel_rfl) (fun _ _ _ h => h) (by kernel_rfl) (v := ?v60) ?y60 ?r60
                case y60 => (intro u hu; go_simp; try rfl)
                simp only [Act.put, List.setIfInBounds_toArray, List.set_cons_zero, List.set_cons_succ]
                refine wpAnyH_ready (rs := [8]) (by kernel_rfl) (by simp) (AllReadyH.cons ((nth_eq _ 8).trans rfl) ?_ AllReadyH.nil)
                intro K3 hK3
                refine call_in hK3 (by kernel_rfl) 37 #[] (by go_simp) _ (awake14_any _) ?_
                rintro v3_ y3 ⟨rfl, b3⟩
                have T3 : Below w5.heap.size w5 y3 := bcat T2 b3 (Nat.le_refl _)
                refine ⟨T3, ?_⟩
                simp only [Act.put, List.setIfInBounds_toArray, List.set_cons_zero, List.set_cons_succ]
                refine take_held 9 T3 rfl (by kernel_rfl) (by kernel_rfl) (by kernel_rfl) (fun _ _ _ h => h) (by kernel_rfl) (v := ?v61) ?y61 ?r61
                case y61 => (intro u hu; go_simp; try rfl)
                simp only [Act.put, List.setIfInBounds_toArray, List.set_cons_zero, List.set_cons_succ]
                refine take_held 10 T3 rfl (by kernel_rfl) (by kernel_rfl) (by kernel_rfl) (fun _ _ _ h => h) (by kernel_rfl) (v := ?v62) ?y62 ?r62
                case y62 => (intro u hu; go_simp; try rfl)
                simp only [Act.put, List.setIfInBounds_toArray, List.set_cons_zero, List.set_cons_succ]
                refine done_held (by kernel_rfl) ?_ _
                go_wp2_with fail
                go_ret
                exact ⟨rfl, bcat B5 T3 (Nat.le_refl _)⟩
end Go.Proofs.Ytnilbgmmcmjciaa.Dig
