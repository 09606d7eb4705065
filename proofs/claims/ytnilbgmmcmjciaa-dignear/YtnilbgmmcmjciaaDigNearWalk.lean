/-
  Nobody works at a place, it has room, and none that has is nearer.
-/
import Derived.Test.YtnilbgmmcmjciaaDigAwake
import Derived.Test.YtnilbgmmcmjciaaDigSmall
import Derived.Test.YtnilbgmmcmjciaaDgV
namespace Go.Proofs.Ytnilbgmmcmjciaa.Dig
set_option linter.unusedVariables false
set_option linter.unusedSimpArgs false
open Go Go.RowKit Go.Shelf Go.Proofs Go.Proofs.Ytnilbgmmcmjciaa.Grid Go.Proofs.Ytnilbgmmcmjciaa.Srt
attribute [local go_sem] Oper.semAt_some

theorem piles_lenN {stks : List Stk} {m : Nat} (h : ∀ s ∈ stks, s.2.length ≤ m) (x : Cell) : (pileOf stks x).length ≤ m := by
  unfold pileOf
  split
  · rename_i s hs
    exact h s (List.mem_of_find?_eq_some hs)
  · exact Nat.zero_le _
theorem wpList_val_wantN {ops : Array Oper} {rest : List Oper} {o : Oper} {a : Act} {w : World} {Q : Exit → Act → World → Prop} (hw : Region.wanted o (yielded ops a.tmps) = true) (v : Value) (hr : (execOp a.eval o).run Try.prog w = .ok (.value v) w)
    (h : wpList Try.prog ops Q rest (a.put o.dst v) w) : wpList Try.prog ops Q (o :: rest) a w :=
  BigFrame.wpList_want hw fun _ hK => by
    unfold Oper.wp
    simp only [hr]
    exact hK _ _ h
/- A cell where none may be put. -/
def inB (stks : List Stk) (height : Int) (tl : List Cell) (f x : Cell) : Bool := decide (x = f) || decide (height ≤ ((pileOf stks x).length : Int)) || decide (x ∈ tl)
theorem inB_may {stks : List Stk} {height : Int} {L tl : List Cell} {f x : Cell} (hx : x ∈ L) : inB stks height tl f x = false ↔ MayP stks height L tl f x := by
  unfold inB MayP
  simp only [Bool.or_eq_false_iff, decide_eq_false_iff_not]
  constructor
  · rintro ⟨⟨h1, h2⟩, h3⟩
    exact ⟨hx, h1, h3, by omega⟩
  · rintro ⟨_, h1, h2, h3⟩
    exact ⟨⟨h1, by omega⟩, h2⟩
set_option maxRecDepth 100000 in
set_option maxHeartbeats 4000000 in
theorem near_all_law (c : Conf) (v1 v2 v3 v4 : Value) (w : World) (hA : ConfAt (Old w) c v1 v2 v3 v4 w) (l1 : c.blocked.length ≤ 8796093022208) (l2 : c.ports.length ≤ 8796093022208) (l3 : c.robots.length ≤ 5864062014805) (l4 : c.stacks.length ≤ 3518437208880) (l5 : ∀ s ∈ c.stacks, s.2.length ≤ 17592186044416) (tl : List Cell) (ta : Option Addr) (tn tc : Nat) (hT : ListAt 2 cellEl (Old w) tl (.slice ta tn tc) w) (fx fy : Int) :
    Calls Try.prog 9 #[.agg #[.int .i64 c.W, .int .i64 c.H, .int .i64 c.height, v1, v2, v3, v4, .int .i64 c.unit, .int .i64 c.accel, .int .i64 c.speed, .int .i64 c.turn, .int .i64 c.hoist, .int .i64 c.queue, .int .i64 c.resend, .int .i64 c.budget, .bool c.back], .slice ta tn tc, .agg #[.int .i64 fx, .int .i64 fy]] w fun e w' => e = .returned (.bool true) ∧ Below w.heap.size w w' := by
  obtain ⟨f, hf⟩ : ∃ f : Cell, f = (fx, fy) := ⟨_, rfl⟩
  rw [show fx = f.1 by rw [hf], show fy = f.2 by rw [hf]]
  clear hf
  obtain ⟨w2, hw2⟩ : ∃ w2, w2 = (w.alloc (.cells #[.int .i64 c.W, .int .i64 c.H, .int .i64 c.height, v1, v2, v3, v4, .int .i64 c.unit, .int .i64 c.accel, .int .i64 c.speed, .int .i64 c.turn, .int .i64 c.hoist, .int .i64 c.queue, .int .i64 c.resend, .int .i64 c.budget, .bool c.back] 26)).alloc (.cells #[.int .i64 f.1, .int .i64 f.2] 39) := ⟨_, rfl⟩
  have b2 : Below w.heap.size w w2 := by rw [hw2]; exact below_two _ _ _
  have hc2 : w2.heap[w.heap.size]? = some (.cells #[.int .i64 c.W, .int .i64 c.H, .int .i64 c.height, v1, v2, v3, v4, .int .i64 c.unit, .int .i64 c.accel, .int .i64 c.speed, .int .i64 c.turn, .int .i64 c.hoist, .int .i64 c.queue, .int .i64 c.resend, .int .i64 c.budget, .bool c.back] 26 (0, 0)) := by rw [hw2]; exact (alloc_old _ _ _ (by simp)).trans (heap_alloc_new w _)
  have hf2 : w2.heap[w.heap.size + 1]? = some (.cells #[.int .i64 f.1, .int .i64 f.2] 39 (0, 0)) := by rw [hw2]; exact heap_new2 _ _ _
  have hO : ∀ b, Old w b → b < w.heap.size := fun b h => h
  have cS := small_any (Old w) c v1 v2 v3 v4 w2 (hA.go hO b2) (fun b hb => Nat.lt_of_lt_of_le (hO b hb) b2.size) l1 l2 l3 l4 l5
  have HA : Hid (∀ u, Below w.heap.size w u → ConfAt (Old w) c v1 v2 v3 v4 u) := fun u b => hA.go hO b
  have HT : Hid (∀ u, Below w.heap.size w u → ListAt 2 cellEl (Old w) tl (.slice ta tn tc) u) := fun u b => hT.go heldCell hO b
  have HTn : Hid (tl.length = tn) := by obtain ⟨a, cap, e, _⟩ := hT.form; injection e with _ e2 _; exact e2.symm
  have HPl : Hid (∀ x, (pileOf c.stacks x).length ≤ 17592186044416) := piles_lenN l5
  have HL5 : Hid (∀ s ∈ c.stacks, s.2.length ≤ 17592186044416) := l5
  have HB2 : Hid (Below w.heap.size w w2) := b2
  clear hA hT l5
  go_enter Try.func9, Try.ntmps9
  go_upto_region 1 with fail
  rw [← hw2]
  clear hw2
  cases hsm : (smallN c && (newP c).isSome) with
  | false =>
    rw [hsm] at cS
    go_wp2_with (first
      | (refine wpList_load_row rfl 26 (.tmp 3) rfl w.heap.size rfl 26 _ (0, 0) _ hc2 Try.underlying26 rfl info_conf ?_)
      | (go_at_call 13; refine cS.mono ?_; rintro e w3 ⟨rs, rfl, rfl, b3⟩)
      | (go_at_call 37; refine (awake14_any _).mono ?_; rintro e w4 ⟨rw4, rfl, rfl, b4⟩))
    go_ret
    exact ⟨rfl, bcat (bcat HB2.out b3 (Nat.le_refl _)) b4 (Nat.le_refl _)⟩
  | true =>
    rw [hsm] at cS
    obtain ⟨G, hN⟩ : ∃ G, newP c = some G := by
      cases h : newP c with
      | none => rw [h] at hsm; simp at hsm
      | some G => exact ⟨G, rfl⟩
    clear hsm
    by_cases h1 : (40 : Int) < (tn : Int)
    · have hd1 := decide_eq_true h1
      go_wp2_with (first
        | (refine wpList_load_row rfl 26 (.tmp 3) rfl w.heap.size rfl 26 _ (0, 0) _ hc2 Try.underlying26 rfl info_conf ?_)
        | (go_at_call 13; refine cS.mono ?_; rintro e w3 ⟨rs, rfl, rfl, b3⟩)
        | (go_at_call 37; refine (awake14_any _).mono ?_; rintro e w4 ⟨rw4, rfl, rfl, b4⟩))
      go_ret
      exact ⟨rfl, bcat (bcat HB2.out b3 (Nat.le_refl _)) b4 (Nat.le_refl _)⟩
    · have hd1 := decide_eq_false h1
      go_upto_region 3 with (first
        | (refine wpList_load_row rfl 26 (.tmp 3) rfl w.heap.size rfl 26 _ (0, 0) _ hc2 Try.underlying26 rfl info_conf ?_)
        | (go_at_call 13; refine cS.mono ?_; rintro e w3 ⟨rs, rfl, rfl, b3⟩))
      clear cS hd1
      have B3 := bcat HB2.out b3 (Nat.le_refl _)
      have hc3 := (b3.block _ (lt_of_heap hc2)).trans hc2
      have hf3 := (b3.block _ (lt_of_heap hf2)).trans hf2
      have cC := copyConf_any (Old w) c v1 v2 v3 v4 w3 (HA.out _ B3) (fun b hb => Nat.lt_of_lt_of_le (hO b hb) B3.size) l1 l2 l3 l4 HL5.out
      clear hc2 hf2
      go_upto_region 4 with (first
        | (refine wpList_load_row rfl 26 (.tmp 3) rfl w.heap.size rfl 26 _ (0, 0) _ hc3 Try.underlying26 rfl info_conf ?_)
        | (go_at_call 15; refine cC.mono ?_; rintro e w3' ⟨rc, rfl, ⟨q1, q2, q3, q4, rfl, hQ⟩, bq⟩; have cN := new_yes hQ (fun q h => h.2) l1 l2 l3 l4 hN)
        | (go_at_call 47; refine cN.mono ?_; rintro e w4 ⟨g, u0, vp, rfl, hG, _, _, _, b4⟩))
      have b34 := bcat bq b4 (Nat.le_refl _)
      have HBw : Hid (Below w.heap.size w w4) := bcat B3 b34 (Nat.le_refl _)
      have hc4 := (b34.block _ (lt_of_heap hc3)).trans hc3
      have hf4 := (b34.block _ (lt_of_heap hf3)).trans hf3
      have HK4 : Hid (w4.heap[w.heap.size]? = some (.cells #[.int .i64 c.W, .int .i64 c.H, .int .i64 c.height, v1, v2, v3, v4, .int .i64 c.unit, .int .i64 c.accel, .int .i64 c.speed, .int .i64 c.turn, .int .i64 c.hoist, .int .i64 c.queue, .int .i64 c.resend, .int .i64 c.budget, .bool c.back] 26 (0, 0)) ∧ w4.heap[w.heap.size + 1]? = some (.cells #[.int .i64 f.1, .int .i64 f.2] 39 (0, 0))) := ⟨hc4, hf4⟩
      have HCr : Hid (∀ u, Below w4.heap.size w4 u → ∀ j z, #[.int .i64 c.W, .int .i64 c.H, .int .i64 c.height, v1, v2, v3, v4, .int .i64 c.unit, .int .i64 c.accel, .int .i64 c.speed, .int .i64 c.turn, .int .i64 c.hoist, .int .i64 c.queue, .int .i64 c.resend, .int .i64 c.budget, .bool c.back][j]? = some z → u.cell? ((⟨w.heap.size, 0, none⟩ : Addr).add j) = some z) := fun u hu => row_below hc4 hu
      have HC6 : Hid (∀ u, Below w4.heap.size w4 u → u.cell? ⟨w.heap.size, 6, none⟩ = some v4) := fun u hu => cell_below ((cell_of hc4 6).trans rfl) hu
      have HFr : Hid (∀ u, Below w4.heap.size w4 u → ∀ j z, #[.int .i64 f.1, .int .i64 f.2][j]? = some z → u.cell? ((⟨w.heap.size + 1, 0, none⟩ : Addr).add j) = some z) := fun u hu => row_below hf4 hu
      have S0 : Below w4.heap.size w4 w4.drew := (Below.refl _ _).drew
      obtain ⟨sn, hsn0⟩ : ∃ sn, c.stacks.length = sn := ⟨_, rfl⟩
      have HSn : Hid (c.stacks.length = sn) := hsn0
      have hsn : sn ≤ 1000000 := by have := (new_few (new_some hN).1).2; omega
      have HG : Hid (GridAt w4 g u0 c.W c.H G.uses vp) := hG
      clear hc3 hf3 hc4 hf4 hsn0 b3 bq b4 b34 hQ hG cC cN B3
      refine wp_via (fun a' w' => ∃ pb P z34 z37 z39, w'.heap[pb]? = some (.cells #[.int .i64 (placeP P).1, .int .i64 (placeP P).2] 39 (0, 0)) ∧ Places c.stacks c.height (stkUpTo c.W G.uses G.uses.length) tl f P ∧ Below w4.heap.size w4 w' ∧ w4.heap.size ≤ pb ∧ a' = { tmps := #[.agg #[.int .i64 c.W, .int .i64 c.H, .int .i64 c.height, v1, v2, v3, v4, .int .i64 c.unit, .int .i64 c.accel, .int .i64 c.speed, .int .i64 c.turn, .int .i64 c.hoist, .int .i64 c.queue, .int .i64 c.resend, .int .i64 c.budget, .bool c.back], .slice ta tn tc, .agg #[.int .i64 f.1, .int .i64 f.2], .pointer (some ⟨w.heap.size, 0, none⟩), undef, .pointer (some ⟨w.heap.size + 1, 0, none⟩), .bool false, .pointer (some ⟨g, 0, none⟩), .int .i64 0, .pointer (some ⟨pb, 0, none⟩), .int .i64 (placeE P), undef, undef, undef, undef, undef, undef, .agg #[.int .i64 c.W, .int .i64 c.H, .int .i64 c.height, v1, v2, v3, v4, .int .i64 c.unit, .int .i64 c.accel, .int .i64 c.speed, .int .i64 c.turn, .int .i64 c.hoist, .int .i64 c.queue, .int .i64 c.resend, .int .i64 c.budget, .bool c.back], .bool true, .bool false, .bool false, .slice ta tn tc, .int .i64 tn, .bool false, .bool false, undef, .tuple #[.pointer (some ⟨g, 0, none⟩), .int .i64 0], .agg #[.int .i64 c.W, .int .i64 c.H, .int .i64 c.height, v1, v2, v3, v4, .int .i64 c.unit, .int .i64 c.accel, .int .i64 c.speed, .int .i64 c.turn, .int .i64 c.hoist, .int .i64 c.queue, .int .i64 c.resend, .int .i64 c.budget, .bool c.back], .agg #[.int .i64 c.W, .int .i64 c.H, .int .i64 c.height, q1, q2, q3, q4, .int .i64 c.unit, .int .i64 c.accel, .int .i64 c.speed, .int .i64 c.turn, .int .i64 c.hoist, .int .i64 c.queue, .int .i64 c.resend, .int .i64 c.budget, .bool c.back], .tuple #[.pointer (some ⟨g, 0, none⟩), .int .i64 0], .pointer (some ⟨g, 0, none⟩), .int .i64 0, .tuple #[.agg #[.int .i64 (placeP P).1, .int .i64 (placeP P).2], .int .i64 (placeE P)], .agg #[.int .i64 c.W, .int .i64 c.H, .int .i64 c.height, v1, v2, v3, v4, .int .i64 c.unit, .int .i64 c.accel, .int .i64 c.speed, .int .i64 c.turn, .int .i64 c.hoist, .int .i64 c.queue, .int .i64 c.resend, .int .i64 c.budget, .bool c.back], z34, .pointer (some ⟨w.heap.size, 6, none⟩), v4, z37, .slice ta tn tc, z39, .agg #[.int .i64 f.1, .int .i64 f.2], .tuple #[.agg #[.int .i64 (placeP P).1, .int .i64 (placeP P).2], .int .i64 (placeE P)], .agg #[.int .i64 (placeP P).1, .int .i64 (placeP P).2], .int .i64 (placeE P), undef, undef, undef, undef, undef, undef, undef, undef, undef, undef, undef, undef, undef, undef, undef, undef, undef, undef, undef, undef, undef, undef, undef, undef, undef, undef, undef, undef, undef, undef, undef, undef, undef, undef, undef, undef, undef, undef, undef, undef, undef, undef, undef, undef, undef, undef, undef, undef, undef, undef, undef, undef, undef, undef, undef, undef, undef, undef, undef, undef, undef, undef, undef, undef, undef, undef, undef, undef, undef, undef, undef, undef, undef, undef, undef, undef, undef, undef, undef, undef, undef], defers := [] }) ?reg4 ?rest4
      case reg4 =>
        refine start_held (S := fun u => Below w4.heap.size w4 u) 15 rfl (by kernel_rfl) S0 ?_
        simp only [Array.replicate_succ, Array.replicate_zero, List.push_toArray, List.nil_append, List.cons_append]
        refine take_held 0 S0 rfl (by kernel_rfl) (by kernel_rfl) (by kernel_rfl) (fun _ _ _ h => h) (by kernel_rfl) (v := .agg #[.int .i64 c.W, .int .i64 c.H, .int .i64 c.height, v1, v2, v3, v4, .int .i64 c.unit, .int .i64 c.accel, .int .i64 c.speed, .int .i64 c.turn, .int .i64 c.hoist, .int .i64 c.queue, .int .i64 c.resend, .int .i64 c.budget, .bool c.back]) ?y0 ?r0
        case y0 => (intro u hu; exact run_load_op 26 _ rfl ⟨w.heap.size, 0, none⟩ _ rfl (HCr.out u hu) (aggConf u) info_conf)
        simp only [Act.put, List.setIfInBounds_toArray, List.set_cons_zero, List.set_cons_succ]
        refine take_held 2 S0 rfl (by kernel_rfl) (by kernel_rfl) (by kernel_rfl) (fun _ _ _ h => h) (by kernel_rfl) (v := ?v1) ?y1 ?r1
        case y1 => (intro u hu; go_simp; try rfl)
        simp only [Act.put, List.setIfInBounds_toArray, List.set_cons_zero, List.set_cons_succ]
        refine take_held 3 S0 rfl (by kernel_rfl) (by kernel_rfl) (by kernel_rfl) (fun _ _ _ h => h) (by kernel_rfl) (v := v4) ?y2 ?r2
        case y2 => (intro u hu; have zz := HC6.out u hu; go_simp; try rfl)
        simp only [Act.put, List.setIfInBounds_toArray, List.set_cons_zero, List.set_cons_succ]
        refine take_held 5 S0 rfl (by kernel_rfl) (by kernel_rfl) (by kernel_rfl) (fun _ _ _ h => h) (by kernel_rfl) (v := ?v3) ?y3 ?r3
        case y3 => (intro u hu; go_simp; try rfl)
        simp only [Act.put, List.setIfInBounds_toArray, List.set_cons_zero, List.set_cons_succ]
        refine take_held 7 S0 rfl (by kernel_rfl) (by kernel_rfl) (by kernel_rfl) (fun _ _ _ h => h) (by kernel_rfl) (v := .agg #[.int .i64 f.1, .int .i64 f.2]) ?y4 ?r4
        case y4 => (intro u hu; exact run_load_op 39 _ rfl ⟨w.heap.size + 1, 0, none⟩ _ rfl (HFr.out u hu) (aggCell u) infoCell2)
        simp only [Act.put, List.setIfInBounds_toArray, List.set_cons_zero, List.set_cons_succ]
        generalize w4.drew = x0 at *
        refine wpAnyH_ready (rs := [1, 12]) (by kernel_rfl) (by simp) (AllReadyH.cons ((nth_eq _ 1).trans rfl) ?_ (AllReadyH.cons ((nth_eq _ 12).trans rfl) ?_ AllReadyH.nil))
        · intro K1 hK1
          refine call_in hK1 (by kernel_rfl) 15 #[.agg #[.int .i64 c.W, .int .i64 c.H, .int .i64 c.height, v1, v2, v3, v4, .int .i64 c.unit, .int .i64 c.accel, .int .i64 c.speed, .int .i64 c.turn, .int .i64 c.hoist, .int .i64 c.queue, .int .i64 c.resend, .int .i64 c.budget, .bool c.back]] (by go_simp) _ (copyConf_any (Old w) c v1 v2 v3 v4 x0 (HA.out _ (bcat HBw.out S0 (Nat.le_refl _))) (fun b hb => Nat.lt_of_lt_of_le (hO b hb) (bcat HBw.out S0 (Nat.le_refl _)).size) l1 l2 l3 l4 HL5.out) ?_
          rintro rc x1 ⟨⟨k1, k2, k3, k4, rfl, hC1⟩, b1⟩
          have S1 : Below w4.heap.size w4 x1 := bcat S0 b1 (Nat.le_refl _)
          have HC1 : Hid (∀ u, Below x1.heap.size x1 u → ConfAt (Since x0.heap.size x1) c k1 k2 k3 k4 u) := fun u b => hC1.go (fun q h => h.2) b
          have HC1f : Hid (∀ u, Below x1.heap.size x1 u → ∀ b, Since x0.heap.size x1 b → b < u.heap.size) := fun u b q h => Nat.lt_of_lt_of_le h.2 b.size
          obtain ⟨FC1, hFC1⟩ : ∃ F, F = Since x0.heap.size x1 := ⟨_, rfl⟩
          rw [← hFC1] at HC1 HC1f
          clear hFC1 hC1
          refine ⟨S1, ?_⟩
          simp only [Act.put, List.setIfInBounds_toArray, List.set_cons_zero, List.set_cons_succ]
          have AC_1 : Below x1.heap.size x1 x1 := Below.refl _ _
          refine wpAnyH_ready (rs := [4, 12]) (by kernel_rfl) (by simp) (AllReadyH.cons ((nth_eq _ 4).trans rfl) ?_ (AllReadyH.cons ((nth_eq _ 12).trans rfl) ?_ AllReadyH.nil))
          · intro K2 hK2
            refine call_in hK2 (by kernel_rfl) 36 #[v4] (by go_simp) _ (copyStacksC_any (Old w) c.stacks v4 x1 (HA.out _ (bcat HBw.out S1 (Nat.le_refl _))).s (fun b hb => Nat.lt_of_lt_of_le (hO b hb) (bcat HBw.out S1 (Nat.le_refl _)).size) l4 HL5.out) ?_
            rintro rs x2 ⟨hS1, b2⟩
            have S2 : Below w4.heap.size w4 x2 := bcat S1 b2 (Nat.le_refl _)
            have AC_2 := bcat AC_1 b2 (Nat.le_refl _)
            obtain ⟨ka, kc, hks, _⟩ := hS1.form
            rw [HSn.out] at hks
            subst hks
            have HS1 : Hid (∀ u, Below x2.heap.size x2 u → ListAt 3 stackElC (Since x1.heap.size x2) c.stacks (.slice ka sn kc) u) := fun u b => hS1.go heldStackC (fun q h => h.2) b
            have HS1f : Hid (∀ u, Below x2.heap.size x2 u → ∀ b, Since x1.heap.size x2 b → b < u.heap.size) := fun u b q h => Nat.lt_of_lt_of_le h.2 b.size
            obtain ⟨FS1, hFS1⟩ : ∃ F, F = Since x1.heap.size x2 := ⟨_, rfl⟩
            rw [← hFS1] at HS1 HS1f
            clear hFS1 hS1
            refine ⟨S2, ?_⟩
            simp only [Act.put, List.setIfInBounds_toArray, List.set_cons_zero, List.set_cons_succ]
            have AS_2 : Below x2.heap.size x2 x2 := Below.refl _ _
            refine wpAnyH_ready (rs := [6, 12]) (by kernel_rfl) (by simp) (AllReadyH.cons ((nth_eq _ 6).trans rfl) ?_ (AllReadyH.cons ((nth_eq _ 12).trans rfl) ?_ AllReadyH.nil))
            · intro K3 hK3
              obtain ⟨vt, x3, hrun3, own3, grow3, at3⟩ := run_app (xs := ([] : List Cell)) kindCell (World.ownsRow_nil x2 x2.heap.size 39 2) (HT.out _ (bcat HBw.out S2 (Nat.le_refl _))) (by have := HTn.out; simp only [List.length_nil]; omega) (by have := HTn.out; unfold maxLen; simp only [List.length_nil]; omega) (Nat.le_refl _) 22
              have b3 : Below x2.heap.size x2 x3 := below_none grow3
              have S3 : Below w4.heap.size w4 x3 := bcat S2 b3 (Nat.le_refl _)
              have AC_3 := bcat AC_2 b3 (Nat.le_refl _)
              have AS_3 := bcat AS_2 b3 (Nat.le_refl _)
              rw [List.nil_append] at own3
              have HOvt : Hid (∀ u, Below x3.heap.size x3 u → u.ownsRow x2.heap.size 39 2 vt tl.length (rowL cellL tl)) := fun u b => owns_go own3 b
              have HOvtl : Hid (x2.heap.size ≤ x3.heap.size) := b3.size
              refine value_in hK3 (by kernel_rfl) vt x3 (run_app_op (t := 22) (.const (.slice none 0 0)) (.tmp 38) rfl (.slice none 0 0) (.slice ta tn tc) vt rfl rfl hrun3) S3 ?_
              simp only [Act.put, List.setIfInBounds_toArray, List.set_cons_zero, List.set_cons_succ]
              have AT_3 : Below x3.heap.size x3 x3 := Below.refl _ _
              refine wpAnyH_ready (rs := [8, 12]) (by kernel_rfl) (by simp) (AllReadyH.cons ((nth_eq _ 8).trans rfl) ?_ (AllReadyH.cons ((nth_eq _ 12).trans rfl) ?_ AllReadyH.nil))
              · intro K4 hK4
                have hLt := list_of_own kindCell.len (HOvt.out _ AT_3)
                obtain ⟨qa, qc, hq, _⟩ := hLt.form
                subst hq
                have hln : tl.length ≤ 1000000 := by have := HTn.out; omega
                refine call_in hK4 (by kernel_rfl) 42 #[.agg #[.int .i64 c.W, .int .i64 c.H, .int .i64 c.height, k1, k2, k3, k4, .int .i64 c.unit, .int .i64 c.accel, .int .i64 c.speed, .int .i64 c.turn, .int .i64 c.hoist, .int .i64 c.queue, .int .i64 c.resend, .int .i64 c.budget, .bool c.back], .slice ka sn kc, .slice qa tl.length qc, .agg #[.int .i64 f.1, .int .i64 f.2]] (by go_simp) _ (place_some (HC1.out _ AC_3) (HC1f.out _ AC_3) l1 l2 l3 l4 hN FS1 c.stacks ka sn kc (HS1.out _ AS_3) (HS1f.out _ AS_3) hsn HPl.out _ tl _ _ _ hLt (fun q h => h.2) hln f) ?_
                rintro rp x4 ⟨⟨P, rfl, hPl⟩, b4⟩
                have S4 : Below w4.heap.size w4 x4 := bcat S3 b4 (Nat.le_refl _)
                have AC_4 := bcat AC_3 b4 (Nat.le_refl _)
                have AS_4 := bcat AS_3 b4 (Nat.le_refl _)
                have AT_4 := bcat AT_3 b4 (Nat.le_refl _)
                refine ⟨S4, ?_⟩
                simp only [Act.put, List.setIfInBounds_toArray, List.set_cons_zero, List.set_cons_succ]
                refine take_held 9 S4 rfl (by kernel_rfl) (by kernel_rfl) (by kernel_rfl) (fun _ _ _ h => h) (by kernel_rfl) (v := ?v5) ?y5 ?r5
                case y5 => (intro u hu; go_simp; try rfl)
                simp only [Act.put, List.setIfInBounds_toArray, List.set_cons_zero, List.set_cons_succ]
                refine take_held 10 S4 rfl (by kernel_rfl) (by kernel_rfl) (by kernel_rfl) (fun _ _ _ h => h) (by kernel_rfl) (v := ?v6) ?y6 ?r6
                case y6 => (intro u hu; go_simp; try rfl)
                simp only [Act.put, List.setIfInBounds_toArray, List.set_cons_zero, List.set_cons_succ]
                refine take_held 11 S4 rfl (by kernel_rfl) (by kernel_rfl) (by kernel_rfl) (fun _ _ _ h => h) (by kernel_rfl) (v := ?v7) ?y7 ?r7
                case y7 => (intro u hu; go_simp; try rfl)
                simp only [Act.put, List.setIfInBounds_toArray, List.set_cons_zero, List.set_cons_succ]
                refine wpAnyH_ready (rs := [12]) (by kernel_rfl) (by simp) (AllReadyH.cons ((nth_eq _ 12).trans rfl) ?_ AllReadyH.nil)
                intro K5 hK5
                obtain ⟨x5, hx5⟩ : ∃ x, x = x4.alloc (.cells #[.int .i64 0, .int .i64 0] 39) := ⟨_, rfl⟩
                have b5 : Below x4.heap.size x4 x5 := by rw [hx5]; exact below_new (Below.refl _ _) _
                have hva : x5.heap[x4.heap.size]? = some (.cells #[.int .i64 0, .int .i64 0] 39 (0, 0)) := by rw [hx5]; exact heap_alloc_new _ _
                have lva : w4.heap.size ≤ x4.heap.size := S4.size
                have S5 : Below w4.heap.size w4 x5 := bcat S4 b5 (Nat.le_refl _)
                have AC_5 := bcat AC_4 b5 (Nat.le_refl _)
                have AS_5 := bcat AS_4 b5 (Nat.le_refl _)
                have AT_5 := bcat AT_4 b5 (Nat.le_refl _)
                refine value_in hK5 (by kernel_rfl) (.pointer (some ⟨x4.heap.size, 0, none⟩)) x5 (by rw [hx5]; go_simp; try rfl) S5 ?_
                simp only [Act.put, List.setIfInBounds_toArray, List.set_cons_zero, List.set_cons_succ]
                clear hx5
                obtain ⟨pb, hpb⟩ : ∃ pb, x4.heap.size = pb := ⟨_, rfl⟩
                rw [hpb] at hva lva
                try rw [hpb]
                have HPb : Hid (x4.heap.size = pb) := hpb
                clear hpb
                have AV_5 : Below x5.heap.size x5 x5 := Below.refl _ _
                have hv9 := (AV_5.block _ (lt_of_heap hva)).trans hva
                have S9 : Below w4.heap.size w4 (x5.setRow pb #[.int .i64 (placeP P).1, .int .i64 (placeP P).2]) := below_row S5 lva _
                have hst := run_storeVar_row (P := Try.prog) x5 pb 39 39 #[.int .i64 0, .int .i64 0] #[.int .i64 (placeP P).1, .int .i64 (placeP P).2] hv9 infoCell2 rfl (by simp [Value.oneCell'])
                refine store_held 13 rfl (by kernel_rfl) (by kernel_rfl) (x5.setRow pb #[.int .i64 (placeP P).1, .int .i64 (placeP P).2]) (run_store_op 39 (.tmp 9) (.tmp 42) rfl pb #[.int .i64 (placeP P).1, .int .i64 (placeP P).2] rfl rfl hst) S9 ?_
                simp only [Act.put, List.setIfInBounds_toArray, List.set_cons_zero, List.set_cons_succ]
                refine take_held 14 S9 rfl (by kernel_rfl) (by kernel_rfl) (by kernel_rfl) (fun _ _ _ h => h) (by kernel_rfl) (v := ?v8) ?y8 ?r8
                case y8 => (intro u hu; go_simp; try rfl)
                simp only [Act.put, List.setIfInBounds_toArray, List.set_cons_zero, List.set_cons_succ]
                refine done_held (by kernel_rfl) ?_ _
                exact ⟨pb, P, _, _, _, setRow_heap _ _ _ _ _ _ hv9, hPl, S9, lva, rfl⟩
              · intro K4 hK4
                obtain ⟨x4, hx4⟩ : ∃ x, x = x3.alloc (.cells #[.int .i64 0, .int .i64 0] 39) := ⟨_, rfl⟩
                have b4 : Below x3.heap.size x3 x4 := by rw [hx4]; exact below_new (Below.refl _ _) _
                have hva : x4.heap[x3.heap.size]? = some (.cells #[.int .i64 0, .int .i64 0] 39 (0, 0)) := by rw [hx4]; exact heap_alloc_new _ _
                have lva : w4.heap.size ≤ x3.heap.size := S3.size
                have S4 : Below w4.heap.size w4 x4 := bcat S3 b4 (Nat.le_refl _)
                have AC_4 := bcat AC_3 b4 (Nat.le_refl _)
                have AS_4 := bcat AS_3 b4 (Nat.le_refl _)
                have AT_4 := bcat AT_3 b4 (Nat.le_refl _)
                refine value_in hK4 (by kernel_rfl) (.pointer (some ⟨x3.heap.size, 0, none⟩)) x4 (by rw [hx4]; go_simp; try rfl) S4 ?_
                simp only [Act.put, List.setIfInBounds_toArray, List.set_cons_zero, List.set_cons_succ]
                clear hx4
                obtain ⟨pb, hpb⟩ : ∃ pb, x3.heap.size = pb := ⟨_, rfl⟩
                rw [hpb] at hva lva
                try rw [hpb]
                have HPb : Hid (x3.heap.size = pb) := hpb
                clear hpb
                have AV_4 : Below x4.heap.size x4 x4 := Below.refl _ _
                refine wpAnyH_ready (rs := [8]) (by kernel_rfl) (by simp) (AllReadyH.cons ((nth_eq _ 8).trans rfl) ?_ AllReadyH.nil)
                intro K5 hK5
                have hLt := list_of_own kindCell.len (HOvt.out _ AT_4)
                obtain ⟨qa, qc, hq, _⟩ := hLt.form
                subst hq
                have hln : tl.length ≤ 1000000 := by have := HTn.out; omega
                refine call_in hK5 (by kernel_rfl) 42 #[.agg #[.int .i64 c.W, .int .i64 c.H, .int .i64 c.height, k1, k2, k3, k4, .int .i64 c.unit, .int .i64 c.accel, .int .i64 c.speed, .int .i64 c.turn, .int .i64 c.hoist, .int .i64 c.queue, .int .i64 c.resend, .int .i64 c.budget, .bool c.back], .slice ka sn kc, .slice qa tl.length qc, .agg #[.int .i64 f.1, .int .i64 f.2]] (by go_simp) _ (place_some (HC1.out _ AC_4) (HC1f.out _ AC_4) l1 l2 l3 l4 hN FS1 c.stacks ka sn kc (HS1.out _ AS_4) (HS1f.out _ AS_4) hsn HPl.out _ tl _ _ _ hLt (fun q h => h.2) hln f) ?_
                rintro rp x5 ⟨⟨P, rfl, hPl⟩, b5⟩
                have S5 : Below w4.heap.size w4 x5 := bcat S4 b5 (Nat.le_refl _)
                have AC_5 := bcat AC_4 b5 (Nat.le_refl _)
                have AS_5 := bcat AS_4 b5 (Nat.le_refl _)
                have AT_5 := bcat AT_4 b5 (Nat.le_refl _)
                have AV_5 := bcat AV_4 b5 (Nat.le_refl _)
                refine ⟨S5, ?_⟩
                simp only [Act.put, List.setIfInBounds_toArray, List.set_cons_zero, List.set_cons_succ]
                refine take_held 9 S5 rfl (by kernel_rfl) (by kernel_rfl) (by kernel_rfl) (fun _ _ _ h => h) (by kernel_rfl) (v := ?v9) ?y9 ?r9
                case y9 => (intro u hu; go_simp; try rfl)
                simp only [Act.put, List.setIfInBounds_toArray, List.set_cons_zero, List.set_cons_succ]
                refine take_held 10 S5 rfl (by kernel_rfl) (by kernel_rfl) (by kernel_rfl) (fun _ _ _ h => h) (by kernel_rfl) (v := ?v10) ?y10 ?r10
                case y10 => (intro u hu; go_simp; try rfl)
                simp only [Act.put, List.setIfInBounds_toArray, List.set_cons_zero, List.set_cons_succ]
                refine take_held 11 S5 rfl (by kernel_rfl) (by kernel_rfl) (by kernel_rfl) (fun _ _ _ h => h) (by kernel_rfl) (v := ?v11) ?y11 ?r11
                case y11 => (intro u hu; go_simp; try rfl)
                simp only [Act.put, List.setIfInBounds_toArray, List.set_cons_zero, List.set_cons_succ]
                have hv9 := (AV_5.block _ (lt_of_heap hva)).trans hva
                have S9 : Below w4.heap.size w4 (x5.setRow pb #[.int .i64 (placeP P).1, .int .i64 (placeP P).2]) := below_row S5 lva _
                have hst := run_storeVar_row (P := Try.prog) x5 pb 39 39 #[.int .i64 0, .int .i64 0] #[.int .i64 (placeP P).1, .int .i64 (placeP P).2] hv9 infoCell2 rfl (by simp [Value.oneCell'])
                refine store_held 13 rfl (by kernel_rfl) (by kernel_rfl) (x5.setRow pb #[.int .i64 (placeP P).1, .int .i64 (placeP P).2]) (run_store_op 39 (.tmp 9) (.tmp 42) rfl pb #[.int .i64 (placeP P).1, .int .i64 (placeP P).2] rfl rfl hst) S9 ?_
                simp only [Act.put, List.setIfInBounds_toArray, List.set_cons_zero, List.set_cons_succ]
                refine take_held 14 S9 rfl (by kernel_rfl) (by kernel_rfl) (by kernel_rfl) (fun _ _ _ h => h) (by kernel_rfl) (v := ?v12) ?y12 ?r12
                case y12 => (intro u hu; go_simp; try rfl)
                simp only [Act.put, List.setIfInBounds_toArray, List.set_cons_zero, List.set_cons_succ]
                refine done_held (by kernel_rfl) ?_ _
                exact ⟨pb, P, _, _, _, setRow_heap _ _ _ _ _ _ hv9, hPl, S9, lva, rfl⟩
            · intro K3 hK3
              obtain ⟨x3, hx3⟩ : ∃ x, x = x2.alloc (.cells #[.int .i64 0, .int .i64 0] 39) := ⟨_, rfl⟩
              have b3 : Below x2.heap.size x2 x3 := by rw [hx3]; exact below_new (Below.refl _ _) _
              have hva : x3.heap[x2.heap.size]? = some (.cells #[.int .i64 0, .int .i64 0] 39 (0, 0)) := by rw [hx3]; exact heap_alloc_new _ _
              have lva : w4.heap.size ≤ x2.heap.size := S2.size
              have S3 : Below w4.heap.size w4 x3 := bcat S2 b3 (Nat.le_refl _)
              have AC_3 := bcat AC_2 b3 (Nat.le_refl _)
              have AS_3 := bcat AS_2 b3 (Nat.le_refl _)
              refine value_in hK3 (by kernel_rfl) (.pointer (some ⟨x2.heap.size, 0, none⟩)) x3 (by rw [hx3]; go_simp; try rfl) S3 ?_
              simp only [Act.put, List.setIfInBounds_toArray, List.set_cons_zero, List.set_cons_succ]
              clear hx3
              obtain ⟨pb, hpb⟩ : ∃ pb, x2.heap.size = pb := ⟨_, rfl⟩
              rw [hpb] at hva lva
              try rw [hpb]
              have HPb : Hid (x2.heap.size = pb) := hpb
              clear hpb
              have AV_3 : Below x3.heap.size x3 x3 := Below.refl _ _
              refine wpAnyH_ready (rs := [6]) (by kernel_rfl) (by simp) (AllReadyH.cons ((nth_eq _ 6).trans rfl) ?_ AllReadyH.nil)
              intro K4 hK4
              obtain ⟨vt, x4, hrun4, own4, grow4, at4⟩ := run_app (xs := ([] : List Cell)) kindCell (World.ownsRow_nil x3 x3.heap.size 39 2) (HT.out _ (bcat HBw.out S3 (Nat.le_refl _))) (by have := HTn.out; simp only [List.length_nil]; omega) (by have := HTn.out; unfold maxLen; simp only [List.length_nil]; omega) (Nat.le_refl _) 22
              have b4 : Below x3.heap.size x3 x4 := below_none grow4
              have S4 : Below w4.heap.size w4 x4 := bcat S3 b4 (Nat.le_refl _)
              have AC_4 := bcat AC_3 b4 (Nat.le_refl _)
              have AS_4 := bcat AS_3 b4 (Nat.le_refl _)
              have AV_4 := bcat AV_3 b4 (Nat.le_refl _)
              rw [List.nil_append] at own4
              have HOvt : Hid (∀ u, Below x4.heap.size x4 u → u.ownsRow x3.heap.size 39 2 vt tl.length (rowL cellL tl)) := fun u b => owns_go own4 b
              have HOvtl : Hid (x3.heap.size ≤ x4.heap.size) := b4.size
              refine value_in hK4 (by kernel_rfl) vt x4 (run_app_op (t := 22) (.const (.slice none 0 0)) (.tmp 38) rfl (.slice none 0 0) (.slice ta tn tc) vt rfl rfl hrun4) S4 ?_
              simp only [Act.put, List.setIfInBounds_toArray, List.set_cons_zero, List.set_cons_succ]
              have AT_4 : Below x4.heap.size x4 x4 := Below.refl _ _
              refine wpAnyH_ready (rs := [8]) (by kernel_rfl) (by simp) (AllReadyH.cons ((nth_eq _ 8).trans rfl) ?_ AllReadyH.nil)
              intro K5 hK5
              have hLt := list_of_own kindCell.len (HOvt.out _ AT_4)
              obtain ⟨qa, qc, hq, _⟩ := hLt.form
              subst hq
              have hln : tl.length ≤ 1000000 := by have := HTn.out; omega
              refine call_in hK5 (by kernel_rfl) 42 #[.agg #[.int .i64 c.W, .int .i64 c.H, .int .i64 c.height, k1, k2, k3, k4, .int .i64 c.unit, .int .i64 c.accel, .int .i64 c.speed, .int .i64 c.turn, .int .i64 c.hoist, .int .i64 c.queue, .int .i64 c.resend, .int .i64 c.budget, .bool c.back], .slice ka sn kc, .slice qa tl.length qc, .agg #[.int .i64 f.1, .int .i64 f.2]] (by go_simp) _ (place_some (HC1.out _ AC_4) (HC1f.out _ AC_4) l1 l2 l3 l4 hN FS1 c.stacks ka sn kc (HS1.out _ AS_4) (HS1f.out _ AS_4) hsn HPl.out _ tl _ _ _ hLt (fun q h => h.2) hln f) ?_
              rintro rp x5 ⟨⟨P, rfl, hPl⟩, b5⟩
              have S5 : Below w4.heap.size w4 x5 := bcat S4 b5 (Nat.le_refl _)
              have AC_5 := bcat AC_4 b5 (Nat.le_refl _)
              have AS_5 := bcat AS_4 b5 (Nat.le_refl _)
              have AV_5 := bcat AV_4 b5 (Nat.le_refl _)
              have AT_5 := bcat AT_4 b5 (Nat.le_refl _)
              refine ⟨S5, ?_⟩
              simp only [Act.put, List.setIfInBounds_toArray, List.set_cons_zero, List.set_cons_succ]
              refine take_held 9 S5 rfl (by kernel_rfl) (by kernel_rfl) (by kernel_rfl) (fun _ _ _ h => h) (by kernel_rfl) (v := ?v13) ?y13 ?r13
              case y13 => (intro u hu; go_simp; try rfl)
              simp only [Act.put, List.setIfInBounds_toArray, List.set_cons_zero, List.set_cons_succ]
              refine take_held 10 S5 rfl (by kernel_rfl) (by kernel_rfl) (by kernel_rfl) (fun _ _ _ h => h) (by kernel_rfl) (v := ?v14) ?y14 ?r14
              case y14 => (intro u hu; go_simp; try rfl)
              simp only [Act.put, List.setIfInBounds_toArray, List.set_cons_zero, List.set_cons_succ]
              refine take_held 11 S5 rfl (by kernel_rfl) (by kernel_rfl) (by kernel_rfl) (fun _ _ _ h => h) (by kernel_rfl) (v := ?v15) ?y15 ?r15
              case y15 => (intro u hu; go_simp; try rfl)
              simp only [Act.put, List.setIfInBounds_toArray, List.set_cons_zero, List.set_cons_succ]
              have hv9 := (AV_5.block _ (lt_of_heap hva)).trans hva
              have S9 : Below w4.heap.size w4 (x5.setRow pb #[.int .i64 (placeP P).1, .int .i64 (placeP P).2]) := below_row S5 lva _
              have hst := run_storeVar_row (P := Try.prog) x5 pb 39 39 #[.int .i64 0, .int .i64 0] #[.int .i64 (placeP P).1, .int .i64 (placeP P).2] hv9 infoCell2 rfl (by simp [Value.oneCell'])
              refine store_held 13 rfl (by kernel_rfl) (by kernel_rfl) (x5.setRow pb #[.int .i64 (placeP P).1, .int .i64 (placeP P).2]) (run_store_op 39 (.tmp 9) (.tmp 42) rfl pb #[.int .i64 (placeP P).1, .int .i64 (placeP P).2] rfl rfl hst) S9 ?_
              simp only [Act.put, List.setIfInBounds_toArray, List.set_cons_zero, List.set_cons_succ]
              refine take_held 14 S9 rfl (by kernel_rfl) (by kernel_rfl) (by kernel_rfl) (fun _ _ _ h => h) (by kernel_rfl) (v := ?v16) ?y16 ?r16
              case y16 => (intro u hu; go_simp; try rfl)
              simp only [Act.put, List.setIfInBounds_toArray, List.set_cons_zero, List.set_cons_succ]
              refine done_held (by kernel_rfl) ?_ _
              exact ⟨pb, P, _, _, _, setRow_heap _ _ _ _ _ _ hv9, hPl, S9, lva, rfl⟩
          · intro K2 hK2
            obtain ⟨x2, hx2⟩ : ∃ x, x = x1.alloc (.cells #[.int .i64 0, .int .i64 0] 39) := ⟨_, rfl⟩
            have b2 : Below x1.heap.size x1 x2 := by rw [hx2]; exact below_new (Below.refl _ _) _
            have hva : x2.heap[x1.heap.size]? = some (.cells #[.int .i64 0, .int .i64 0] 39 (0, 0)) := by rw [hx2]; exact heap_alloc_new _ _
            have lva : w4.heap.size ≤ x1.heap.size := S1.size
            have S2 : Below w4.heap.size w4 x2 := bcat S1 b2 (Nat.le_refl _)
            have AC_2 := bcat AC_1 b2 (Nat.le_refl _)
            refine value_in hK2 (by kernel_rfl) (.pointer (some ⟨x1.heap.size, 0, none⟩)) x2 (by rw [hx2]; go_simp; try rfl) S2 ?_
            simp only [Act.put, List.setIfInBounds_toArray, List.set_cons_zero, List.set_cons_succ]
            clear hx2
            obtain ⟨pb, hpb⟩ : ∃ pb, x1.heap.size = pb := ⟨_, rfl⟩
            rw [hpb] at hva lva
            try rw [hpb]
            have HPb : Hid (x1.heap.size = pb) := hpb
            clear hpb
            have AV_2 : Below x2.heap.size x2 x2 := Below.refl _ _
            refine wpAnyH_ready (rs := [4]) (by kernel_rfl) (by simp) (AllReadyH.cons ((nth_eq _ 4).trans rfl) ?_ AllReadyH.nil)
            intro K3 hK3
            refine call_in hK3 (by kernel_rfl) 36 #[v4] (by go_simp) _ (copyStacksC_any (Old w) c.stacks v4 x2 (HA.out _ (bcat HBw.out S2 (Nat.le_refl _))).s (fun b hb => Nat.lt_of_lt_of_le (hO b hb) (bcat HBw.out S2 (Nat.le_refl _)).size) l4 HL5.out) ?_
            rintro rs x3 ⟨hS1, b3⟩
            have S3 : Below w4.heap.size w4 x3 := bcat S2 b3 (Nat.le_refl _)
            have AC_3 := bcat AC_2 b3 (Nat.le_refl _)
            have AV_3 := bcat AV_2 b3 (Nat.le_refl _)
            obtain ⟨ka, kc, hks, _⟩ := hS1.form
            rw [HSn.out] at hks
            subst hks
            have HS1 : Hid (∀ u, Below x3.heap.size x3 u → ListAt 3 stackElC (Since x2.heap.size x3) c.stacks (.slice ka sn kc) u) := fun u b => hS1.go heldStackC (fun q h => h.2) b
            have HS1f : Hid (∀ u, Below x3.heap.size x3 u → ∀ b, Since x2.heap.size x3 b → b < u.heap.size) := fun u b q h => Nat.lt_of_lt_of_le h.2 b.size
            obtain ⟨FS1, hFS1⟩ : ∃ F, F = Since x2.heap.size x3 := ⟨_, rfl⟩
            rw [← hFS1] at HS1 HS1f
            clear hFS1 hS1
            refine ⟨S3, ?_⟩
            simp only [Act.put, List.setIfInBounds_toArray, List.set_cons_zero, List.set_cons_succ]
            have AS_3 : Below x3.heap.size x3 x3 := Below.refl _ _
            refine wpAnyH_ready (rs := [6]) (by kernel_rfl) (by simp) (AllReadyH.cons ((nth_eq _ 6).trans rfl) ?_ AllReadyH.nil)
            intro K4 hK4
            obtain ⟨vt, x4, hrun4, own4, grow4, at4⟩ := run_app (xs := ([] : List Cell)) kindCell (World.ownsRow_nil x3 x3.heap.size 39 2) (HT.out _ (bcat HBw.out S3 (Nat.le_refl _))) (by have := HTn.out; simp only [List.length_nil]; omega) (by have := HTn.out; unfold maxLen; simp only [List.length_nil]; omega) (Nat.le_refl _) 22
            have b4 : Below x3.heap.size x3 x4 := below_none grow4
            have S4 : Below w4.heap.size w4 x4 := bcat S3 b4 (Nat.le_refl _)
            have AC_4 := bcat AC_3 b4 (Nat.le_refl _)
            have AV_4 := bcat AV_3 b4 (Nat.le_refl _)
            have AS_4 := bcat AS_3 b4 (Nat.le_refl _)
            rw [List.nil_append] at own4
            have HOvt : Hid (∀ u, Below x4.heap.size x4 u → u.ownsRow x3.heap.size 39 2 vt tl.length (rowL cellL tl)) := fun u b => owns_go own4 b
            have HOvtl : Hid (x3.heap.size ≤ x4.heap.size) := b4.size
            refine value_in hK4 (by kernel_rfl) vt x4 (run_app_op (t := 22) (.const (.slice none 0 0)) (.tmp 38) rfl (.slice none 0 0) (.slice ta tn tc) vt rfl rfl hrun4) S4 ?_
            simp only [Act.put, List.setIfInBounds_toArray, List.set_cons_zero, List.set_cons_succ]
            have AT_4 : Below x4.heap.size x4 x4 := Below.refl _ _
            refine wpAnyH_ready (rs := [8]) (by kernel_rfl) (by simp) (AllReadyH.cons ((nth_eq _ 8).trans rfl) ?_ AllReadyH.nil)
            intro K5 hK5
            have hLt := list_of_own kindCell.len (HOvt.out _ AT_4)
            obtain ⟨qa, qc, hq, _⟩ := hLt.form
            subst hq
            have hln : tl.length ≤ 1000000 := by have := HTn.out; omega
            refine call_in hK5 (by kernel_rfl) 42 #[.agg #[.int .i64 c.W, .int .i64 c.H, .int .i64 c.height, k1, k2, k3, k4, .int .i64 c.unit, .int .i64 c.accel, .int .i64 c.speed, .int .i64 c.turn, .int .i64 c.hoist, .int .i64 c.queue, .int .i64 c.resend, .int .i64 c.budget, .bool c.back], .slice ka sn kc, .slice qa tl.length qc, .agg #[.int .i64 f.1, .int .i64 f.2]] (by go_simp) _ (place_some (HC1.out _ AC_4) (HC1f.out _ AC_4) l1 l2 l3 l4 hN FS1 c.stacks ka sn kc (HS1.out _ AS_4) (HS1f.out _ AS_4) hsn HPl.out _ tl _ _ _ hLt (fun q h => h.2) hln f) ?_
            rintro rp x5 ⟨⟨P, rfl, hPl⟩, b5⟩
            have S5 : Below w4.heap.size w4 x5 := bcat S4 b5 (Nat.le_refl _)
            have AC_5 := bcat AC_4 b5 (Nat.le_refl _)
            have AV_5 := bcat AV_4 b5 (Nat.le_refl _)
            have AS_5 := bcat AS_4 b5 (Nat.le_refl _)
            have AT_5 := bcat AT_4 b5 (Nat.le_refl _)
            refine ⟨S5, ?_⟩
            simp only [Act.put, List.setIfInBounds_toArray, List.set_cons_zero, List.set_cons_succ]
            refine take_held 9 S5 rfl (by kernel_rfl) (by kernel_rfl) (by kernel_rfl) (fun _ _ _ h => h) (by kernel_rfl) (v := ?v17) ?y17 ?r17
            case y17 => (intro u hu; go_simp; try rfl)
            simp only [Act.put, List.setIfInBounds_toArray, List.set_cons_zero, List.set_cons_succ]
            refine take_held 10 S5 rfl (by kernel_rfl) (by kernel_rfl) (by kernel_rfl) (fun _ _ _ h => h) (by kernel_rfl) (v := ?v18) ?y18 ?r18
            case y18 => (intro u hu; go_simp; try rfl)
            simp only [Act.put, List.setIfInBounds_toArray, List.set_cons_zero, List.set_cons_succ]
            refine take_held 11 S5 rfl (by kernel_rfl) (by kernel_rfl) (by kernel_rfl) (fun _ _ _ h => h) (by kernel_rfl) (v := ?v19) ?y19 ?r19
            case y19 => (intro u hu; go_simp; try rfl)
            simp only [Act.put, List.setIfInBounds_toArray, List.set_cons_zero, List.set_cons_succ]
            have hv9 := (AV_5.block _ (lt_of_heap hva)).trans hva
            have S9 : Below w4.heap.size w4 (x5.setRow pb #[.int .i64 (placeP P).1, .int .i64 (placeP P).2]) := below_row S5 lva _
            have hst := run_storeVar_row (P := Try.prog) x5 pb 39 39 #[.int .i64 0, .int .i64 0] #[.int .i64 (placeP P).1, .int .i64 (placeP P).2] hv9 infoCell2 rfl (by simp [Value.oneCell'])
            refine store_held 13 rfl (by kernel_rfl) (by kernel_rfl) (x5.setRow pb #[.int .i64 (placeP P).1, .int .i64 (placeP P).2]) (run_store_op 39 (.tmp 9) (.tmp 42) rfl pb #[.int .i64 (placeP P).1, .int .i64 (placeP P).2] rfl rfl hst) S9 ?_
            simp only [Act.put, List.setIfInBounds_toArray, List.set_cons_zero, List.set_cons_succ]
            refine take_held 14 S9 rfl (by kernel_rfl) (by kernel_rfl) (by kernel_rfl) (fun _ _ _ h => h) (by kernel_rfl) (v := ?v20) ?y20 ?r20
            case y20 => (intro u hu; go_simp; try rfl)
            simp only [Act.put, List.setIfInBounds_toArray, List.set_cons_zero, List.set_cons_succ]
            refine done_held (by kernel_rfl) ?_ _
            exact ⟨pb, P, _, _, _, setRow_heap _ _ _ _ _ _ hv9, hPl, S9, lva, rfl⟩
        · intro K1 hK1
          obtain ⟨x1, hx1⟩ : ∃ x, x = x0.alloc (.cells #[.int .i64 0, .int .i64 0] 39) := ⟨_, rfl⟩
          have b1 : Below x0.heap.size x0 x1 := by rw [hx1]; exact below_new (Below.refl _ _) _
          have hva : x1.heap[x0.heap.size]? = some (.cells #[.int .i64 0, .int .i64 0] 39 (0, 0)) := by rw [hx1]; exact heap_alloc_new _ _
          have lva : w4.heap.size ≤ x0.heap.size := S0.size
          have S1 : Below w4.heap.size w4 x1 := bcat S0 b1 (Nat.le_refl _)
          refine value_in hK1 (by kernel_rfl) (.pointer (some ⟨x0.heap.size, 0, none⟩)) x1 (by rw [hx1]; go_simp; try rfl) S1 ?_
          simp only [Act.put, List.setIfInBounds_toArray, List.set_cons_zero, List.set_cons_succ]
          clear hx1
          obtain ⟨pb, hpb⟩ : ∃ pb, x0.heap.size = pb := ⟨_, rfl⟩
          rw [hpb] at hva lva
          try rw [hpb]
          have HPb : Hid (x0.heap.size = pb) := hpb
          clear hpb
          have AV_1 : Below x1.heap.size x1 x1 := Below.refl _ _
          refine wpAnyH_ready (rs := [1]) (by kernel_rfl) (by simp) (AllReadyH.cons ((nth_eq _ 1).trans rfl) ?_ AllReadyH.nil)
          intro K2 hK2
          refine call_in hK2 (by kernel_rfl) 15 #[.agg #[.int .i64 c.W, .int .i64 c.H, .int .i64 c.height, v1, v2, v3, v4, .int .i64 c.unit, .int .i64 c.accel, .int .i64 c.speed, .int .i64 c.turn, .int .i64 c.hoist, .int .i64 c.queue, .int .i64 c.resend, .int .i64 c.budget, .bool c.back]] (by go_simp) _ (copyConf_any (Old w) c v1 v2 v3 v4 x1 (HA.out _ (bcat HBw.out S1 (Nat.le_refl _))) (fun b hb => Nat.lt_of_lt_of_le (hO b hb) (bcat HBw.out S1 (Nat.le_refl _)).size) l1 l2 l3 l4 HL5.out) ?_
          rintro rc x2 ⟨⟨k1, k2, k3, k4, rfl, hC1⟩, b2⟩
          have S2 : Below w4.heap.size w4 x2 := bcat S1 b2 (Nat.le_refl _)
          have AV_2 := bcat AV_1 b2 (Nat.le_refl _)
          have HC1 : Hid (∀ u, Below x2.heap.size x2 u → ConfAt (Since x1.heap.size x2) c k1 k2 k3 k4 u) := fun u b => hC1.go (fun q h => h.2) b
          have HC1f : Hid (∀ u, Below x2.heap.size x2 u → ∀ b, Since x1.heap.size x2 b → b < u.heap.size) := fun u b q h => Nat.lt_of_lt_of_le h.2 b.size
          obtain ⟨FC1, hFC1⟩ : ∃ F, F = Since x1.heap.size x2 := ⟨_, rfl⟩
          rw [← hFC1] at HC1 HC1f
          clear hFC1 hC1
          refine ⟨S2, ?_⟩
          simp only [Act.put, List.setIfInBounds_toArray, List.set_cons_zero, List.set_cons_succ]
          have AC_2 : Below x2.heap.size x2 x2 := Below.refl _ _
          refine wpAnyH_ready (rs := [4]) (by kernel_rfl) (by simp) (AllReadyH.cons ((nth_eq _ 4).trans rfl) ?_ AllReadyH.nil)
          intro K3 hK3
          refine call_in hK3 (by kernel_rfl) 36 #[v4] (by go_simp) _ (copyStacksC_any (Old w) c.stacks v4 x2 (HA.out _ (bcat HBw.out S2 (Nat.le_refl _))).s (fun b hb => Nat.lt_of_lt_of_le (hO b hb) (bcat HBw.out S2 (Nat.le_refl _)).size) l4 HL5.out) ?_
          rintro rs x3 ⟨hS1, b3⟩
          have S3 : Below w4.heap.size w4 x3 := bcat S2 b3 (Nat.le_refl _)
          have AV_3 := bcat AV_2 b3 (Nat.le_refl _)
          have AC_3 := bcat AC_2 b3 (Nat.le_refl _)
          obtain ⟨ka, kc, hks, _⟩ := hS1.form
          rw [HSn.out] at hks
          subst hks
          have HS1 : Hid (∀ u, Below x3.heap.size x3 u → ListAt 3 stackElC (Since x2.heap.size x3) c.stacks (.slice ka sn kc) u) := fun u b => hS1.go heldStackC (fun q h => h.2) b
          have HS1f : Hid (∀ u, Below x3.heap.size x3 u → ∀ b, Since x2.heap.size x3 b → b < u.heap.size) := fun u b q h => Nat.lt_of_lt_of_le h.2 b.size
          obtain ⟨FS1, hFS1⟩ : ∃ F, F = Since x2.heap.size x3 := ⟨_, rfl⟩
          rw [← hFS1] at HS1 HS1f
          clear hFS1 hS1
          refine ⟨S3, ?_⟩
          simp only [Act.put, List.setIfInBounds_toArray, List.set_cons_zero, List.set_cons_succ]
          have AS_3 : Below x3.heap.size x3 x3 := Below.refl _ _
          refine wpAnyH_ready (rs := [6]) (by kernel_rfl) (by simp) (AllReadyH.cons ((nth_eq _ 6).trans rfl) ?_ AllReadyH.nil)
          intro K4 hK4
          obtain ⟨vt, x4, hrun4, own4, grow4, at4⟩ := run_app (xs := ([] : List Cell)) kindCell (World.ownsRow_nil x3 x3.heap.size 39 2) (HT.out _ (bcat HBw.out S3 (Nat.le_refl _))) (by have := HTn.out; simp only [List.length_nil]; omega) (by have := HTn.out; unfold maxLen; simp only [List.length_nil]; omega) (Nat.le_refl _) 22
          have b4 : Below x3.heap.size x3 x4 := below_none grow4
          have S4 : Below w4.heap.size w4 x4 := bcat S3 b4 (Nat.le_refl _)
          have AV_4 := bcat AV_3 b4 (Nat.le_refl _)
          have AC_4 := bcat AC_3 b4 (Nat.le_refl _)
          have AS_4 := bcat AS_3 b4 (Nat.le_refl _)
          rw [List.nil_append] at own4
          have HOvt : Hid (∀ u, Below x4.heap.size x4 u → u.ownsRow x3.heap.size 39 2 vt tl.length (rowL cellL tl)) := fun u b => owns_go own4 b
          have HOvtl : Hid (x3.heap.size ≤ x4.heap.size) := b4.size
          refine value_in hK4 (by kernel_rfl) vt x4 (run_app_op (t := 22) (.const (.slice none 0 0)) (.tmp 38) rfl (.slice none 0 0) (.slice ta tn tc) vt rfl rfl hrun4) S4 ?_
          simp only [Act.put, List.setIfInBounds_toArray, List.set_cons_zero, List.set_cons_succ]
          have AT_4 : Below x4.heap.size x4 x4 := Below.refl _ _
          refine wpAnyH_ready (rs := [8]) (by kernel_rfl) (by simp) (AllReadyH.cons ((nth_eq _ 8).trans rfl) ?_ AllReadyH.nil)
          intro K5 hK5
          have hLt := list_of_own kindCell.len (HOvt.out _ AT_4)
          obtain ⟨qa, qc, hq, _⟩ := hLt.form
          subst hq
          have hln : tl.length ≤ 1000000 := by have := HTn.out; omega
          refine call_in hK5 (by kernel_rfl) 42 #[.agg #[.int .i64 c.W, .int .i64 c.H, .int .i64 c.height, k1, k2, k3, k4, .int .i64 c.unit, .int .i64 c.accel, .int .i64 c.speed, .int .i64 c.turn, .int .i64 c.hoist, .int .i64 c.queue, .int .i64 c.resend, .int .i64 c.budget, .bool c.back], .slice ka sn kc, .slice qa tl.length qc, .agg #[.int .i64 f.1, .int .i64 f.2]] (by go_simp) _ (place_some (HC1.out _ AC_4) (HC1f.out _ AC_4) l1 l2 l3 l4 hN FS1 c.stacks ka sn kc (HS1.out _ AS_4) (HS1f.out _ AS_4) hsn HPl.out _ tl _ _ _ hLt (fun q h => h.2) hln f) ?_
          rintro rp x5 ⟨⟨P, rfl, hPl⟩, b5⟩
          have S5 : Below w4.heap.size w4 x5 := bcat S4 b5 (Nat.le_refl _)
          have AV_5 := bcat AV_4 b5 (Nat.le_refl _)
          have AC_5 := bcat AC_4 b5 (Nat.le_refl _)
          have AS_5 := bcat AS_4 b5 (Nat.le_refl _)
          have AT_5 := bcat AT_4 b5 (Nat.le_refl _)
          refine ⟨S5, ?_⟩
          simp only [Act.put, List.setIfInBounds_toArray, List.set_cons_zero, List.set_cons_succ]
          refine take_held 9 S5 rfl (by kernel_rfl) (by kernel_rfl) (by kernel_rfl) (fun _ _ _ h => h) (by kernel_rfl) (v := ?v21) ?y21 ?r21
          case y21 => (intro u hu; go_simp; try rfl)
          simp only [Act.put, List.setIfInBounds_toArray, List.set_cons_zero, List.set_cons_succ]
          refine take_held 10 S5 rfl (by kernel_rfl) (by kernel_rfl) (by kernel_rfl) (fun _ _ _ h => h) (by kernel_rfl) (v := ?v22) ?y22 ?r22
          case y22 => (intro u hu; go_simp; try rfl)
          simp only [Act.put, List.setIfInBounds_toArray, List.set_cons_zero, List.set_cons_succ]
          refine take_held 11 S5 rfl (by kernel_rfl) (by kernel_rfl) (by kernel_rfl) (fun _ _ _ h => h) (by kernel_rfl) (v := ?v23) ?y23 ?r23
          case y23 => (intro u hu; go_simp; try rfl)
          simp only [Act.put, List.setIfInBounds_toArray, List.set_cons_zero, List.set_cons_succ]
          have hv9 := (AV_5.block _ (lt_of_heap hva)).trans hva
          have S9 : Below w4.heap.size w4 (x5.setRow pb #[.int .i64 (placeP P).1, .int .i64 (placeP P).2]) := below_row S5 lva _
          have hst := run_storeVar_row (P := Try.prog) x5 pb 39 39 #[.int .i64 0, .int .i64 0] #[.int .i64 (placeP P).1, .int .i64 (placeP P).2] hv9 infoCell2 rfl (by simp [Value.oneCell'])
          refine store_held 13 rfl (by kernel_rfl) (by kernel_rfl) (x5.setRow pb #[.int .i64 (placeP P).1, .int .i64 (placeP P).2]) (run_store_op 39 (.tmp 9) (.tmp 42) rfl pb #[.int .i64 (placeP P).1, .int .i64 (placeP P).2] rfl rfl hst) S9 ?_
          simp only [Act.put, List.setIfInBounds_toArray, List.set_cons_zero, List.set_cons_succ]
          refine take_held 14 S9 rfl (by kernel_rfl) (by kernel_rfl) (by kernel_rfl) (fun _ _ _ h => h) (by kernel_rfl) (v := ?v24) ?y24 ?r24
          case y24 => (intro u hu; go_simp; try rfl)
          simp only [Act.put, List.setIfInBounds_toArray, List.set_cons_zero, List.set_cons_succ]
          refine done_held (by kernel_rfl) ?_ _
          exact ⟨pb, P, _, _, _, setRow_heap _ _ _ _ _ _ hv9, hPl, S9, lva, rfl⟩
      case rest4 =>
        rintro _ w5 ⟨pb, P, z34, z37, z39, hp5, hPl5, b5, lpb, rfl⟩
        dsimp only
        have B5 := bcat HBw.out b5 (Nat.le_refl _)
        have hc5 := (b5.block _ (lt_of_heap HK4.out.1)).trans HK4.out.1
        have hf5 := (b5.block _ (lt_of_heap HK4.out.2)).trans HK4.out.2
        have hG5 := HG.out.go b5
        have cT := stacksG_any g u0 c.W c.H G.uses vp w5 hG5
        obtain ⟨L, hL⟩ : ∃ L, stkUpTo c.W G.uses G.uses.length = L := ⟨_, rfl⟩
        have hLl : L.length ≤ 256 := by rw [← hL]; exact Nat.le_trans (stkUpTo_len _ _ _) (uses_len hN)
        have hnd : L.Nodup := by rw [← hL]; exact stk_nodup _ _ _
        rw [hL] at hPl5
        have hLt : L.take (1000 : Int).toNat = L := List.take_of_length_le (by omega)
        have HPs : Hid (Places c.stacks c.height L tl f P) := hPl5
        have HND : Hid L.Nodup := hnd
        clear HCr HC6 HFr S0 hPl5 hnd
        cases P with
        | nil =>
          simp only [placeE, placeP]
          simp only [placeP] at hp5
          go_upto_region 8 with (first
            | (go_at_call 49; refine cT.mono ?_; rintro e w6 ⟨rfl, hC6, b6⟩; have cL := lawCells_any g u0 c.W c.H G.uses vp w5.heap.size 1000 (by decide) (by decide) w6 hC6; rw [hL, hLt] at cL)
            | (go_at_call 48; refine cL.mono ?_; rintro e w7 ⟨vL, rfl, ownL, b7⟩))
          have b57 := bcat b6 b7 (Nat.le_refl _)
          have B7 := bcat B5 b57 (Nat.le_refl _)
          have hc7 := (b57.block _ (lt_of_heap hc5)).trans hc5
          have hf7 := (b57.block _ (lt_of_heap hf5)).trans hf5
          have hp7 := (b57.block _ (lt_of_heap hp5)).trans hp5
          have HK7 : Hid (w7.heap[w.heap.size]? = some (.cells #[.int .i64 c.W, .int .i64 c.H, .int .i64 c.height, v1, v2, v3, v4, .int .i64 c.unit, .int .i64 c.accel, .int .i64 c.speed, .int .i64 c.turn, .int .i64 c.hoist, .int .i64 c.queue, .int .i64 c.resend, .int .i64 c.budget, .bool c.back] 26 (0, 0)) ∧ w7.heap[w.heap.size + 1]? = some (.cells #[.int .i64 f.1, .int .i64 f.2] 39 (0, 0)) ∧ w7.heap[pb]? = some (.cells #[.int .i64 0, .int .i64 0] 39 (0, 0))) := ⟨hc7, hf7, hp7⟩
          have HB7 : Hid (Below w.heap.size w w7) := B7
          obtain ⟨la, lc, hvL, _⟩ := own_form ownL
          obtain ⟨n, hn⟩ : ∃ n, L.length = n := ⟨_, rfl⟩
          have HNn : Hid (L.length = n) := hn
          rw [hn] at hvL hLl
          subst hvL
          have HOL : Hid (w7.ownsRow w6.heap.size 39 2 (.slice la n lc) L.length (rowL cellL L)) := ownL
          have HBz : Hid (Below w7.heap.size w7 w7) := Below.refl _ _
          clear hc5 hf5 hp5 hc7 hf7 hp7 ownL cT cL hn hG5 hL hLt hC6 b6 b7 b57
          go_wp2_with fail
          go_loopw [12, 13] (fun sv i wq => ∃ k : Nat, k ≤ n ∧ i = .int .i64 k ∧ sv = .bool ((L.take k).any fun x => !inB c.stacks c.height tl f x) ∧ Hid (Below w7.heap.size w7 wq)) (fun _ i _ => n - (intOf i).toNat)
          case atStart => exact ⟨0, Nat.zero_le _, rfl, rfl, HBz⟩
          case round =>
            clear HBz
            obtain ⟨k, hk, rfl, rfl, HB⟩ := hrel
            generalize hsv : ((L.take k).any fun x => !inB c.stacks c.height tl f x) = sm at *
            have HSv : Hid (((L.take k).any fun x => !inB c.stacks c.height tl f x) = sm) := hsv
            clear hsv
            by_cases hlt : k < n
            · have hd : decide ((k : Int) < (n : Int)) = true := decide_eq_true (by omega)
              have hkL : k < L.length := by rw [HNn.out]; exact hlt
              obtain ⟨pp, cap2, hv, hrd⟩ := own_item (own_go HOL.out HB.out) hkL
              obtain ⟨rfl, rfl⟩ : la = some pp ∧ lc = cap2 := by injection hv with h1 h2 h3; exact ⟨h1, h3⟩
              have HTk1 : Hid (L.take (k + 1) = L.take k ++ [L[k]'hkL]) := by show _ = _; rw [List.take_add_one, List.getElem?_eq_getElem hkL]; rfl
              have HMm : Hid (L[k]'hkL ∈ L) := List.getElem_mem hkL
              generalize L[k]'hkL = x at *
              obtain ⟨wx, hwx⟩ : ∃ wx, wx = wr.alloc (.cells #[.int .i64 x.1, .int .i64 x.2] 39) := ⟨_, rfl⟩
              have bx : Below wr.heap.size wr wx := by rw [hwx]; exact below_new (Below.refl _ _) _
              have hxb : wx.heap[wr.heap.size]? = some (.cells #[.int .i64 x.1, .int .i64 x.2] 39 (0, 0)) := by rw [hwx]; exact heap_alloc_new wr _
              obtain ⟨xb, hxbe⟩ : ∃ xb, wr.heap.size = xb := ⟨_, rfl⟩
              rw [hxbe] at hxb
              have HBx : Hid (Below w7.heap.size w7 wx) := bcat HB.out bx (Nat.le_refl _)
              have hcx := (HBx.out.block _ (lt_of_heap HK7.out.1)).trans HK7.out.1
              have hfx := (HBx.out.block _ (lt_of_heap HK7.out.2.1)).trans HK7.out.2.1
              have HXc : Hid (∀ u, Below wx.heap.size wx u → ∀ j z, #[.int .i64 x.1, .int .i64 x.2][j]? = some z → u.cell? ((⟨xb, 0, none⟩ : Addr).add j) = some z) := fun u hu => row_below hxb hu
              have HFc : Hid (∀ u, Below wx.heap.size wx u → ∀ j z, #[.int .i64 f.1, .int .i64 f.2][j]? = some z → u.cell? ((⟨w.heap.size + 1, 0, none⟩ : Addr).add j) = some z) := fun u hu => row_below hfx hu
              have HC6 : Hid (∀ u, Below wx.heap.size wx u → u.cell? ⟨w.heap.size, 6, none⟩ = some v4) := fun u hu => cell_below ((cell_of hcx 6).trans rfl) hu
              have HC2h : Hid (∀ u, Below wx.heap.size wx u → u.cell? ⟨w.heap.size, 2, none⟩ = some (.int .i64 c.height)) := fun u hu => cell_below ((cell_of hcx 2).trans rfl) hu
              have HBi : Hid (∀ uu, Below wx.heap.size wx uu → Calls Try.prog 44 #[v4, .agg #[.int .i64 x.1, .int .i64 x.2]] uu fun e w' => ∃ r, e = .returned r ∧ (ListAt 1 intEl (Old w) (pileOf c.stacks x) r w' ∧ Below uu.heap.size uu w')) := fun uu b => by
                have bb := bcat (bcat HB7.out HBx.out (Nat.le_refl _)) b (Nat.le_refl _)
                exact lawBins_any (Old w) c.stacks v4 x uu (HA.out _ bb).s (fun q hq => Nat.lt_of_lt_of_le (hO q hq) bb.size) (by omega)
              obtain ⟨ln, hln⟩ : ∃ ln, (pileOf c.stacks x).length = ln := ⟨_, rfl⟩
              have HLen : Hid ((pileOf c.stacks x).length = ln) := hln
              have hlnb := HPl.out x
              rw [hln] at hlnb
              have S0 : Below wx.heap.size wx wx.drew := (Below.refl _ _).drew
              have HXb : Hid (wx.heap[xb]? = some (.cells #[.int .i64 x.1, .int .i64 x.2] 39 (0, 0))) := hxb
              clear hv hln hcx hfx hxb bx
              go_upto_region 13 with (refine wpList_load_at rfl 39 (.tmp 69) rfl (pp.add (k * 2)) rfl #[.int .i64 x.1, .int .i64 x.2] hrd (aggCell _) infoCell2 ?_)
              rw [← hwx]
              try rw [hxbe]
              clear hwx hrd hxbe
              by_cases hxf0 : x = f
              · have hxf := decide_eq_true hxf0
                have HI0 : Hid (inB c.stacks c.height tl f x = (true || decide (x ∈ tl))) := by show _ = _; unfold inB; rw [hxf, Bool.true_or]
                clear hxf0
                refine start_held (S := fun u => Below wx.heap.size wx u) 14 rfl (by kernel_rfl) S0 ?_
                simp only [Array.replicate_succ, Array.replicate_zero, List.push_toArray, List.nil_append, List.cons_append]
                refine take_held 0 S0 rfl (by kernel_rfl) (by kernel_rfl) (by kernel_rfl) (fun _ _ _ h => h) (by kernel_rfl) (v := .agg #[.int .i64 x.1, .int .i64 x.2]) ?y25 ?r25
                case y25 => (intro u hu; exact run_load_op 39 _ rfl ⟨xb, 0, none⟩ _ rfl (HXc.out u hu) (aggCell u) infoCell2)
                simp only [Act.put, List.setIfInBounds_toArray, List.set_cons_zero, List.set_cons_succ]
                refine take_held 1 S0 rfl (by kernel_rfl) (by kernel_rfl) (by kernel_rfl) (fun _ _ _ h => h) (by kernel_rfl) (v := .agg #[.int .i64 f.1, .int .i64 f.2]) ?y26 ?r26
                case y26 => (intro u hu; exact run_load_op 39 _ rfl ⟨w.heap.size + 1, 0, none⟩ _ rfl (HFc.out u hu) (aggCell u) infoCell2)
                simp only [Act.put, List.setIfInBounds_toArray, List.set_cons_zero, List.set_cons_succ]
                refine take_held 2 S0 rfl (by kernel_rfl) (by kernel_rfl) (by kernel_rfl) (fun _ _ _ h => h) (by kernel_rfl) (v := .bool true) ?y27 ?r27
                case y27 => (intro u hu; exact (run_eql_cell (.tmp 71) (.tmp 72) rfl x.1 x.2 f.1 f.2 rfl rfl).trans (by rw [show decide ((x.1, x.2) = (f.1, f.2)) = true from hxf]))
                simp only [Act.put, List.setIfInBounds_toArray, List.set_cons_zero, List.set_cons_succ]
                refine take_held 3 S0 rfl (by kernel_rfl) (by kernel_rfl) (by kernel_rfl) (fun _ _ _ h => h) (by kernel_rfl) (v := ?v28) ?y28 ?r28
                case y28 => (intro u hu; go_simp; try rfl)
                simp only [Act.put, List.setIfInBounds_toArray, List.set_cons_zero, List.set_cons_succ]
                refine skip_held 4 S0 rfl (by kernel_rfl) (by kernel_rfl) (by kernel_rfl) (fun _ _ _ h => h) (by kernel_rfl) ?_
                simp only [Act.put, List.setIfInBounds_toArray, List.set_cons_zero, List.set_cons_succ]
                refine skip_held 5 S0 rfl (by kernel_rfl) (by kernel_rfl) (by kernel_rfl) (fun _ _ _ h => h) (by kernel_rfl) ?_
                simp only [Act.put, List.setIfInBounds_toArray, List.set_cons_zero, List.set_cons_succ]
                refine skip_held 6 S0 rfl (by kernel_rfl) (by kernel_rfl) (by kernel_rfl) (fun _ _ _ h => h) (by kernel_rfl) ?_
                simp only [Act.put, List.setIfInBounds_toArray, List.set_cons_zero, List.set_cons_succ]
                refine skip_held 7 S0 rfl (by kernel_rfl) (by kernel_rfl) (by kernel_rfl) (fun _ _ _ h => h) (by kernel_rfl) ?_
                simp only [Act.put, List.setIfInBounds_toArray, List.set_cons_zero, List.set_cons_succ]
                refine skip_held 8 S0 rfl (by kernel_rfl) (by kernel_rfl) (by kernel_rfl) (fun _ _ _ h => h) (by kernel_rfl) ?_
                simp only [Act.put, List.setIfInBounds_toArray, List.set_cons_zero, List.set_cons_succ]
                refine skip_held 9 S0 rfl (by kernel_rfl) (by kernel_rfl) (by kernel_rfl) (fun _ _ _ h => h) (by kernel_rfl) ?_
                simp only [Act.put, List.setIfInBounds_toArray, List.set_cons_zero, List.set_cons_succ]
                refine skip_held 10 S0 rfl (by kernel_rfl) (by kernel_rfl) (by kernel_rfl) (fun _ _ _ h => h) (by kernel_rfl) ?_
                simp only [Act.put, List.setIfInBounds_toArray, List.set_cons_zero, List.set_cons_succ]
                refine skip_held 11 S0 rfl (by kernel_rfl) (by kernel_rfl) (by kernel_rfl) (fun _ _ _ h => h) (by kernel_rfl) ?_
                simp only [Act.put, List.setIfInBounds_toArray, List.set_cons_zero, List.set_cons_succ]
                refine take_held 12 S0 rfl (by kernel_rfl) (by kernel_rfl) (by kernel_rfl) (fun _ _ _ h => h) (by kernel_rfl) (v := ?v29) ?y29 ?r29
                case y29 => (intro u hu; go_simp; try rfl)
                simp only [Act.put, List.setIfInBounds_toArray, List.set_cons_zero, List.set_cons_succ]
                refine take_held 13 S0 rfl (by kernel_rfl) (by kernel_rfl) (by kernel_rfl) (fun _ _ _ h => h) (by kernel_rfl) (v := ?v30) ?y30 ?r30
                case y30 => (intro u hu; go_simp; try rfl)
                simp only [Act.put, List.setIfInBounds_toArray, List.set_cons_zero, List.set_cons_succ]
                refine done_held (by kernel_rfl) ?_ _
                have HBc : Hid (Below wx.heap.size wx wx.drew) := S0
                clear S0 HXc HFc HC6 HC2h HBi
                generalize hwz : wx.drew = wz at *
                clear hwz
                go_wp2_with fail
                go_loopw [15, 16] (fun iv jv wq => ∃ j : Nat, j ≤ tn ∧ jv = .int .i64 j ∧ iv = .bool (true || decide (x ∈ tl.take j)) ∧ Hid (Below wx.heap.size wx wq)) (fun _ jv _ => tn - (intOf jv).toNat)
                case atStart => exact ⟨0, Nat.zero_le _, rfl, by simp, HBc⟩
                case round =>
                  clear HBc
                  obtain ⟨j, hj, rfl, rfl, HBj⟩ := hrel
                  generalize hib : (true || decide (x ∈ tl.take j)) = ib at *
                  have HIb : Hid ((true || decide (x ∈ tl.take j)) = ib) := hib
                  clear hib
                  have hxr := (HBj.out.block _ (lt_of_heap HXb.out)).trans HXb.out
                  by_cases hjt : j < tn
                  · have hd3 : decide ((j : Int) < (tn : Int)) = true := decide_eq_true (by omega)
                    have hjl : j < tl.length := by rw [HTn.out]; exact hjt
                    obtain ⟨tp, cs, cap3, hv3, htF, hcs, hrd3⟩ := (HT.out _ (bcat (bcat HB7.out HBx.out (Nat.le_refl _)) HBj.out (Nat.le_refl _))).item hjl
                    have e2 : cs = #[Value.int .i64 (tl[j]'hjl).1, .int .i64 (tl[j]'hjl).2] := hcs
                    subst e2
                    have HTj : Hid (tl.take (j + 1) = tl.take j ++ [tl[j]'hjl]) := by show _ = _; rw [List.take_add_one, List.getElem?_eq_getElem hjl]; rfl
                    generalize tl[j]'hjl = tk at *
                    obtain ⟨rfl, rfl⟩ : ta = some tp ∧ tc = cap3 := by injection hv3 with h1 h2 h3; exact ⟨h1, h3⟩
                    have hjn : (j : Int) < (tn : Int) := by omega
                    have ltp : tp.block < wr.heap.size := by have := hO _ htF; have := (bcat (bcat HB7.out HBx.out (Nat.le_refl _)) HBj.out (Nat.le_refl _)).size; omega
                    have HTk : Hid (∀ u, Below wr.heap.size wr u → ∀ q z, #[Value.int .i64 tk.1, .int .i64 tk.2][q]? = some z → u.cell? ((tp.add (j * 2)).add q) = some z) := fun u hu q z hq => (cell_same (by rw [block_add, block_add]; exact hu.block _ ltp)).trans (hrd3 q z hq)
                    have HXr : Hid (∀ u, Below wr.heap.size wr u → ∀ q z, #[.int .i64 x.1, .int .i64 x.2][q]? = some z → u.cell? ((⟨xb, 0, none⟩ : Addr).add q) = some z) := fun u hu => row_below hxr hu
                    have R0 : Below wr.heap.size wr wr.drew := (Below.refl _ _).drew
                    have HBn : Hid (Below wx.heap.size wx wr.drew) := bcat HBj.out R0 (Nat.le_refl _)
                    have HNx : Hid ((true || decide (x ∈ tl.take (j + 1))) = (ib || decide (tk = x))) := by
                      show _ = _
                      rw [HTj.out, ← HIb.out, Bool.or_assoc]
                      congr 1
                      by_cases q1 : x ∈ tl.take j <;> by_cases q2 : tk = x <;> simp [q1, q2, eq_comm]
                      exact fun e => q2 e.symm
                    clear hv3 hrd3 hcs htF hxr
                    cases ib with
                    | true =>
                      go_upto_region 17 with fail
                      refine start_held (S := fun u => Below wr.heap.size wr u) 10 rfl (by kernel_rfl) R0 ?_
                      simp only [Array.replicate_succ, Array.replicate_zero, List.push_toArray, List.nil_append, List.cons_append]
                      refine take_held 0 R0 rfl (by kernel_rfl) (by kernel_rfl) (by kernel_rfl) (fun _ _ _ h => h) (by kernel_rfl) (v := ?v44) ?y44 ?r44
                      case y44 => (intro u hu; go_simp; try rfl)
                      simp only [Act.put, List.setIfInBounds_toArray, List.set_cons_zero, List.set_cons_succ]
                      refine take_held 1 R0 rfl (by kernel_rfl) (by kernel_rfl) (by kernel_rfl) (fun _ _ _ h => h) (by kernel_rfl) (v := ?v45) ?y45 ?r45
                      case y45 => (intro u hu; go_simp; try rfl)
                      simp only [Act.put, List.setIfInBounds_toArray, List.set_cons_zero, List.set_cons_succ]
                      refine skip_held 2 R0 rfl (by kernel_rfl) (by kernel_rfl) (by kernel_rfl) (fun _ _ _ h => h) (by kernel_rfl) ?_
                      simp only [Act.put, List.setIfInBounds_toArray, List.set_cons_zero, List.set_cons_succ]
                      refine skip_held 3 R0 rfl (by kernel_rfl) (by kernel_rfl) (by kernel_rfl) (fun _ _ _ h => h) (by kernel_rfl) ?_
                      simp only [Act.put, List.setIfInBounds_toArray, List.set_cons_zero, List.set_cons_succ]
                      refine skip_held 4 R0 rfl (by kernel_rfl) (by kernel_rfl) (by kernel_rfl) (fun _ _ _ h => h) (by kernel_rfl) ?_
                      simp only [Act.put, List.setIfInBounds_toArray, List.set_cons_zero, List.set_cons_succ]
                      refine skip_held 5 R0 rfl (by kernel_rfl) (by kernel_rfl) (by kernel_rfl) (fun _ _ _ h => h) (by kernel_rfl) ?_
                      simp only [Act.put, List.setIfInBounds_toArray, List.set_cons_zero, List.set_cons_succ]
                      refine skip_held 6 R0 rfl (by kernel_rfl) (by kernel_rfl) (by kernel_rfl) (fun _ _ _ h => h) (by kernel_rfl) ?_
                      simp only [Act.put, List.setIfInBounds_toArray, List.set_cons_zero, List.set_cons_succ]
                      refine skip_held 7 R0 rfl (by kernel_rfl) (by kernel_rfl) (by kernel_rfl) (fun _ _ _ h => h) (by kernel_rfl) ?_
                      simp only [Act.put, List.setIfInBounds_toArray, List.set_cons_zero, List.set_cons_succ]
                      refine take_held 8 R0 rfl (by kernel_rfl) (by kernel_rfl) (by kernel_rfl) (fun _ _ _ h => h) (by kernel_rfl) (v := ?v46) ?y46 ?r46
                      case y46 => (intro u hu; go_simp; try rfl)
                      simp only [Act.put, List.setIfInBounds_toArray, List.set_cons_zero, List.set_cons_succ]
                      refine take_held 9 R0 rfl (by kernel_rfl) (by kernel_rfl) (by kernel_rfl) (fun _ _ _ h => h) (by kernel_rfl) (v := ?v47) ?y47 ?r47
                      case y47 => (intro u hu; go_simp; try rfl)
                      simp only [Act.put, List.setIfInBounds_toArray, List.set_cons_zero, List.set_cons_succ]
                      refine done_held (by kernel_rfl) ?_ _
                      go_wp2_with fail
                      go_roundw
                      case rel => exact ⟨j + 1, by omega, by go_num, by rw [HNx.out]; rfl, HBn⟩
                      case measure => simp only [intOf]; omega
                    | false =>
                      go_upto_region 17 with fail
                      refine start_held (S := fun u => Below wr.heap.size wr u) 10 rfl (by kernel_rfl) R0 ?_
                      simp only [Array.replicate_succ, Array.replicate_zero, List.push_toArray, List.nil_append, List.cons_append]
                      refine take_held 0 R0 rfl (by kernel_rfl) (by kernel_rfl) (by kernel_rfl) (fun _ _ _ h => h) (by kernel_rfl) (v := ?v48) ?y48 ?r48
                      case y48 => (intro u hu; go_simp; try rfl)
                      simp only [Act.put, List.setIfInBounds_toArray, List.set_cons_zero, List.set_cons_succ]
                      refine take_held 1 R0 rfl (by kernel_rfl) (by kernel_rfl) (by kernel_rfl) (fun _ _ _ h => h) (by kernel_rfl) (v := ?v49) ?y49 ?r49
                      case y49 => (intro u hu; go_simp; try rfl)
                      simp only [Act.put, List.setIfInBounds_toArray, List.set_cons_zero, List.set_cons_succ]
                      refine take_held 2 R0 rfl (by kernel_rfl) (by kernel_rfl) (by kernel_rfl) (fun _ _ _ h => h) (by kernel_rfl) (v := ?v50) ?y50 ?r50
                      case y50 => (intro u hu; go_simp; try rfl)
                      simp only [Act.put, List.setIfInBounds_toArray, List.set_cons_zero, List.set_cons_succ]
                      refine take_held 3 R0 rfl (by kernel_rfl) (by kernel_rfl) (by kernel_rfl) (fun _ _ _ h => h) (by kernel_rfl) (v := ?v51) ?y51 ?r51
                      case y51 => (intro u hu; go_simp; try rfl)
                      simp only [Act.put, List.setIfInBounds_toArray, List.set_cons_zero, List.set_cons_succ]
                      refine take_held 4 R0 rfl (by kernel_rfl) (by kernel_rfl) (by kernel_rfl) (fun _ _ _ h => h) (by kernel_rfl) (v := ?v52) ?y52 ?r52
                      case y52 => (intro u hu; go_simp; try rfl)
                      simp only [Act.put, List.setIfInBounds_toArray, List.set_cons_zero, List.set_cons_succ]
                      refine take_held 5 R0 rfl (by kernel_rfl) (by kernel_rfl) (by kernel_rfl) (fun _ _ _ h => h) (by kernel_rfl) (v := .agg #[.int .i64 tk.1, .int .i64 tk.2]) ?y53 ?r53
                      case y53 => (intro u hu; exact run_load_op 39 _ rfl (tp.add (j * 2)) _ rfl (HTk.out u hu) (aggCell u) infoCell2)
                      simp only [Act.put, List.setIfInBounds_toArray, List.set_cons_zero, List.set_cons_succ]
                      refine take_held 6 R0 rfl (by kernel_rfl) (by kernel_rfl) (by kernel_rfl) (fun _ _ _ h => h) (by kernel_rfl) (v := .agg #[.int .i64 x.1, .int .i64 x.2]) ?y54 ?r54
                      case y54 => (intro u hu; exact run_load_op 39 _ rfl ⟨xb, 0, none⟩ _ rfl (HXr.out u hu) (aggCell u) infoCell2)
                      simp only [Act.put, List.setIfInBounds_toArray, List.set_cons_zero, List.set_cons_succ]
                      refine take_held 7 R0 rfl (by kernel_rfl) (by kernel_rfl) (by kernel_rfl) (fun _ _ _ h => h) (by kernel_rfl) (v := .bool (decide (tk = x))) ?y55 ?r55
                      case y55 => (intro u hu; exact run_eql_cell (.tmp 95) (.tmp 96) rfl tk.1 tk.2 x.1 x.2 rfl rfl)
                      simp only [Act.put, List.setIfInBounds_toArray, List.set_cons_zero, List.set_cons_succ]
                      refine take_held 8 R0 rfl (by kernel_rfl) (by kernel_rfl) (by kernel_rfl) (fun _ _ _ h => h) (by kernel_rfl) (v := ?v56) ?y56 ?r56
                      case y56 => (intro u hu; go_simp; try rfl)
                      simp only [Act.put, List.setIfInBounds_toArray, List.set_cons_zero, List.set_cons_succ]
                      refine take_held 9 R0 rfl (by kernel_rfl) (by kernel_rfl) (by kernel_rfl) (fun _ _ _ h => h) (by kernel_rfl) (v := ?v57) ?y57 ?r57
                      case y57 => (intro u hu; go_simp; try rfl)
                      simp only [Act.put, List.setIfInBounds_toArray, List.set_cons_zero, List.set_cons_succ]
                      refine done_held (by kernel_rfl) ?_ _
                      go_wp2_with fail
                      go_roundw
                      case rel => exact ⟨j + 1, by omega, by go_num, by rw [HNx.out, Bool.false_or], HBn⟩
                      case measure => simp only [intOf]; omega
                  · obtain rfl : j = tn := by omega
                    have hd3 : decide ((j : Int) < (j : Int)) = false := decide_eq_false (by omega)
                    have HIn : Hid (inB c.stacks c.height tl f x = ib) := by show _ = _; rw [HI0.out, ← HIb.out, List.take_of_length_le (by rw [HTn.out]; exact Nat.le_refl _)]
                    have HBy : Hid (Below w7.heap.size w7 wr) := bcat HBx.out HBj.out (Nat.le_refl _)
                    have hpr := (HBy.out.block _ (lt_of_heap HK7.out.2.2)).trans HK7.out.2.2
                    have hfr := (HBy.out.block _ (lt_of_heap HK7.out.2.1)).trans HK7.out.2.1
                    have hkk : decide ((k : Int) < (n : Int)) = true := decide_eq_true (by omega)
                    cases ib with
                    | true =>
                      have HAny : Hid (((L.take (k + 1)).any fun x => !inB c.stacks c.height tl f x) = sm) := by show _ = _; rw [HTk1.out, List.any_append, HSv.out]; simp [HIn.out]
                      go_wp2_with fail
                      go_roundw
                      case rel => exact ⟨k + 1, by omega, by go_num, by rw [HAny.out], HBy⟩
                      case measure => simp only [intOf]; omega
                    | false =>
                      have HAny : Hid (((L.take (k + 1)).any fun x => !inB c.stacks c.height tl f x) = true) := by show _ = _; rw [HTk1.out, List.any_append]; simp [HIn.out]
                      have Y0 : Below wr.heap.size wr wr.drew := (Below.refl _ _).drew
                      have HXy : Hid (∀ u, Below wr.heap.size wr u → ∀ q z, #[.int .i64 x.1, .int .i64 x.2][q]? = some z → u.cell? ((⟨xb, 0, none⟩ : Addr).add q) = some z) := fun u hu => row_below hxr hu
                      have HFy : Hid (∀ u, Below wr.heap.size wr u → ∀ q z, #[.int .i64 f.1, .int .i64 f.2][q]? = some z → u.cell? ((⟨w.heap.size + 1, 0, none⟩ : Addr).add q) = some z) := fun u hu => row_below hfr hu
                      have HPy : Hid (∀ u, Below wr.heap.size wr u → ∀ q z, #[.int .i64 0, .int .i64 0][q]? = some z → u.cell? ((⟨pb, 0, none⟩ : Addr).add q) = some z) := fun u hu => row_below hpr hu
                      clear hxr hpr hfr
                      go_upto_region 22 with fail
                      refine start_held (S := fun u => Below wr.heap.size wr u) 11 rfl (by kernel_rfl) Y0 ?_
                      simp only [Array.replicate_succ, Array.replicate_zero, List.push_toArray, List.nil_append, List.cons_append]
                      refine take_held 0 Y0 rfl (by kernel_rfl) (by kernel_rfl) (by kernel_rfl) (fun _ _ _ h => h) (by kernel_rfl) (v := ?v58) ?y58 ?r58
                      case y58 => (intro u hu; go_simp; try rfl)
                      simp only [Act.put, List.setIfInBounds_toArray, List.set_cons_zero, List.set_cons_succ]
                      refine take_held 1 Y0 rfl (by kernel_rfl) (by kernel_rfl) (by kernel_rfl) (fun _ _ _ h => h) (by kernel_rfl) (v := .bool false) ?y59 ?r59
                      case y59 => (intro u hu; go_simp; try rfl)
                      simp only [Act.put, List.setIfInBounds_toArray, List.set_cons_zero, List.set_cons_succ]
                      refine take_held 2 Y0 rfl (by kernel_rfl) (by kernel_rfl) (by kernel_rfl) (fun _ _ _ h => h) (by kernel_rfl) (v := ?v60) ?y60 ?r60
                      case y60 => (intro u hu; go_simp; try rfl)
                      simp only [Act.put, List.setIfInBounds_toArray, List.set_cons_zero, List.set_cons_succ]
                      refine skip_held 3 Y0 rfl (by kernel_rfl) (by kernel_rfl) (by kernel_rfl) (fun _ _ _ h => h) (by kernel_rfl) ?_
                      simp only [Act.put, List.setIfInBounds_toArray, List.set_cons_zero, List.set_cons_succ]
                      refine skip_held 4 Y0 rfl (by kernel_rfl) (by kernel_rfl) (by kernel_rfl) (fun _ _ _ h => h) (by kernel_rfl) ?_
                      simp only [Act.put, List.setIfInBounds_toArray, List.set_cons_zero, List.set_cons_succ]
                      refine skip_held 5 Y0 rfl (by kernel_rfl) (by kernel_rfl) (by kernel_rfl) (fun _ _ _ h => h) (by kernel_rfl) ?_
                      simp only [Act.put, List.setIfInBounds_toArray, List.set_cons_zero, List.set_cons_succ]
                      refine skip_held 6 Y0 rfl (by kernel_rfl) (by kernel_rfl) (by kernel_rfl) (fun _ _ _ h => h) (by kernel_rfl) ?_
                      simp only [Act.put, List.setIfInBounds_toArray, List.set_cons_zero, List.set_cons_succ]
                      refine skip_held 7 Y0 rfl (by kernel_rfl) (by kernel_rfl) (by kernel_rfl) (fun _ _ _ h => h) (by kernel_rfl) ?_
                      simp only [Act.put, List.setIfInBounds_toArray, List.set_cons_zero, List.set_cons_succ]
                      refine skip_held 8 Y0 rfl (by kernel_rfl) (by kernel_rfl) (by kernel_rfl) (fun _ _ _ h => h) (by kernel_rfl) ?_
                      simp only [Act.put, List.setIfInBounds_toArray, List.set_cons_zero, List.set_cons_succ]
                      refine skip_held 9 Y0 rfl (by kernel_rfl) (by kernel_rfl) (by kernel_rfl) (fun _ _ _ h => h) (by kernel_rfl) ?_
                      simp only [Act.put, List.setIfInBounds_toArray, List.set_cons_zero, List.set_cons_succ]
                      refine take_held 10 Y0 rfl (by kernel_rfl) (by kernel_rfl) (by kernel_rfl) (fun _ _ _ h => h) (by kernel_rfl) (v := ?v61) ?y61 ?r61
                      case y61 => (intro u hu; go_simp; try rfl)
                      simp only [Act.put, List.setIfInBounds_toArray, List.set_cons_zero, List.set_cons_succ]
                      refine done_held (by kernel_rfl) ?_ _
                      go_wp2_with fail
                      go_roundw
                      case rel => exact ⟨k + 1, by omega, by go_num, by rw [HAny.out], bcat HBy.out Y0 (Nat.le_refl _)⟩
                      case measure => simp only [intOf]; omega
              · have hxf := decide_eq_false hxf0
                have HI0 : Hid (inB c.stacks c.height tl f x = (decide (c.height ≤ (ln : Int)) || decide (x ∈ tl))) := by show _ = _; unfold inB; rw [hxf, Bool.false_or, HLen.out]
                clear hxf0
                refine start_held (S := fun u => Below wx.heap.size wx u) 14 rfl (by kernel_rfl) S0 ?_
                simp only [Array.replicate_succ, Array.replicate_zero, List.push_toArray, List.nil_append, List.cons_append]
                refine take_held 0 S0 rfl (by kernel_rfl) (by kernel_rfl) (by kernel_rfl) (fun _ _ _ h => h) (by kernel_rfl) (v := .agg #[.int .i64 x.1, .int .i64 x.2]) ?y31 ?r31
                case y31 => (intro u hu; exact run_load_op 39 _ rfl ⟨xb, 0, none⟩ _ rfl (HXc.out u hu) (aggCell u) infoCell2)
                simp only [Act.put, List.setIfInBounds_toArray, List.set_cons_zero, List.set_cons_succ]
                refine take_held 1 S0 rfl (by kernel_rfl) (by kernel_rfl) (by kernel_rfl) (fun _ _ _ h => h) (by kernel_rfl) (v := .agg #[.int .i64 f.1, .int .i64 f.2]) ?y32 ?r32
                case y32 => (intro u hu; exact run_load_op 39 _ rfl ⟨w.heap.size + 1, 0, none⟩ _ rfl (HFc.out u hu) (aggCell u) infoCell2)
                simp only [Act.put, List.setIfInBounds_toArray, List.set_cons_zero, List.set_cons_succ]
                refine take_held 2 S0 rfl (by kernel_rfl) (by kernel_rfl) (by kernel_rfl) (fun _ _ _ h => h) (by kernel_rfl) (v := .bool false) ?y33 ?r33
                case y33 => (intro u hu; exact (run_eql_cell (.tmp 71) (.tmp 72) rfl x.1 x.2 f.1 f.2 rfl rfl).trans (by rw [show decide ((x.1, x.2) = (f.1, f.2)) = false from hxf]))
                simp only [Act.put, List.setIfInBounds_toArray, List.set_cons_zero, List.set_cons_succ]
                refine take_held 3 S0 rfl (by kernel_rfl) (by kernel_rfl) (by kernel_rfl) (fun _ _ _ h => h) (by kernel_rfl) (v := ?v34) ?y34 ?r34
                case y34 => (intro u hu; go_simp; try rfl)
                simp only [Act.put, List.setIfInBounds_toArray, List.set_cons_zero, List.set_cons_succ]
                refine take_held 4 S0 rfl (by kernel_rfl) (by kernel_rfl) (by kernel_rfl) (fun _ _ _ h => h) (by kernel_rfl) (v := ?v35) ?y35 ?r35
                case y35 => (intro u hu; go_simp; try rfl)
                simp only [Act.put, List.setIfInBounds_toArray, List.set_cons_zero, List.set_cons_succ]
                refine take_held 5 S0 rfl (by kernel_rfl) (by kernel_rfl) (by kernel_rfl) (fun _ _ _ h => h) (by kernel_rfl) (v := v4) ?y36 ?r36
                case y36 => (intro u hu; have zz := HC6.out u hu; go_simp; try rfl)
                simp only [Act.put, List.setIfInBounds_toArray, List.set_cons_zero, List.set_cons_succ]
                refine take_held 6 S0 rfl (by kernel_rfl) (by kernel_rfl) (by kernel_rfl) (fun _ _ _ h => h) (by kernel_rfl) (v := .agg #[.int .i64 x.1, .int .i64 x.2]) ?y37 ?r37
                case y37 => (intro u hu; exact run_load_op 39 _ rfl ⟨xb, 0, none⟩ _ rfl (HXc.out u hu) (aggCell u) infoCell2)
                simp only [Act.put, List.setIfInBounds_toArray, List.set_cons_zero, List.set_cons_succ]
                refine take_held 9 S0 rfl (by kernel_rfl) (by kernel_rfl) (by kernel_rfl) (fun _ _ _ h => h) (by kernel_rfl) (v := ?v38) ?y38 ?r38
                case y38 => (intro u hu; go_simp; try rfl)
                simp only [Act.put, List.setIfInBounds_toArray, List.set_cons_zero, List.set_cons_succ]
                refine take_held 10 S0 rfl (by kernel_rfl) (by kernel_rfl) (by kernel_rfl) (fun _ _ _ h => h) (by kernel_rfl) (v := .int .i64 c.height) ?y39 ?r39
                case y39 => (intro u hu; have zz := HC2h.out u hu; go_simp; try rfl)
                simp only [Act.put, List.setIfInBounds_toArray, List.set_cons_zero, List.set_cons_succ]
                refine wpAnyH_ready (rs := [7]) (by kernel_rfl) (by simp) (AllReadyH.cons ((nth_eq _ 7).trans rfl) ?_ AllReadyH.nil)
                intro K' hK
                refine call_in hK (by kernel_rfl) 44 #[v4, .agg #[.int .i64 x.1, .int .i64 x.2]] (by go_simp) _ (HBi.out _ S0) ?_
                rintro vb x1 ⟨hLb, b1⟩
                have S1 : Below wx.heap.size wx x1 := bcat S0 b1 (Nat.le_refl _)
                obtain ⟨ba, bc, hvb, _⟩ := hLb.form
                rw [HLen.out] at hvb
                subst hvb
                refine ⟨S1, ?_⟩
                simp only [Act.put, List.setIfInBounds_toArray, List.set_cons_zero, List.set_cons_succ]
                refine take_held 8 S1 rfl (by kernel_rfl) (by kernel_rfl) (by kernel_rfl) (fun _ _ _ h => h) (by kernel_rfl) (v := ?v40) ?y40 ?r40
                case y40 => (intro u hu; go_simp; try rfl)
                simp only [Act.put, List.setIfInBounds_toArray, List.set_cons_zero, List.set_cons_succ]
                refine take_held 11 S1 rfl (by kernel_rfl) (by kernel_rfl) (by kernel_rfl) (fun _ _ _ h => h) (by kernel_rfl) (v := .bool (decide (c.height ≤ (ln : Int)))) ?y41 ?r41
                case y41 => (intro u hu; go_simp; try rfl)
                simp only [Act.put, List.setIfInBounds_toArray, List.set_cons_zero, List.set_cons_succ]
                refine take_held 12 S1 rfl (by kernel_rfl) (by kernel_rfl) (by kernel_rfl) (fun _ _ _ h => h) (by kernel_rfl) (v := ?v42) ?y42 ?r42
                case y42 => (intro u hu; go_simp; try rfl)
                simp only [Act.put, List.setIfInBounds_toArray, List.set_cons_zero, List.set_cons_succ]
                refine take_held 13 S1 rfl (by kernel_rfl) (by kernel_rfl) (by kernel_rfl) (fun _ _ _ h => h) (by kernel_rfl) (v := ?v43) ?y43 ?r43
                case y43 => (intro u hu; go_simp; try rfl)
                simp only [Act.put, List.setIfInBounds_toArray, List.set_cons_zero, List.set_cons_succ]
                refine done_held (by kernel_rfl) ?_ _
                have HBc : Hid (Below wx.heap.size wx x1) := S1
                clear S0 S1 b1 hLb HXc HFc HC6 HC2h HBi
                generalize hi0 : decide (c.height ≤ (ln : Int)) = i0 at *
                clear hi0
                generalize hwz : x1 = wz at *
                clear hwz
                go_wp2_with fail
                go_loopw [15, 16] (fun iv jv wq => ∃ j : Nat, j ≤ tn ∧ jv = .int .i64 j ∧ iv = .bool (i0 || decide (x ∈ tl.take j)) ∧ Hid (Below wx.heap.size wx wq)) (fun _ jv _ => tn - (intOf jv).toNat)
                case atStart => exact ⟨0, Nat.zero_le _, rfl, by simp, HBc⟩
                case round =>
                  clear HBc
                  obtain ⟨j, hj, rfl, rfl, HBj⟩ := hrel
                  generalize hib : (i0 || decide (x ∈ tl.take j)) = ib at *
                  have HIb : Hid ((i0 || decide (x ∈ tl.take j)) = ib) := hib
                  clear hib
                  have hxr := (HBj.out.block _ (lt_of_heap HXb.out)).trans HXb.out
                  by_cases hjt : j < tn
                  · have hd3 : decide ((j : Int) < (tn : Int)) = true := decide_eq_true (by omega)
                    have hjl : j < tl.length := by rw [HTn.out]; exact hjt
                    obtain ⟨tp, cs, cap3, hv3, htF, hcs, hrd3⟩ := (HT.out _ (bcat (bcat HB7.out HBx.out (Nat.le_refl _)) HBj.out (Nat.le_refl _))).item hjl
                    have e2 : cs = #[Value.int .i64 (tl[j]'hjl).1, .int .i64 (tl[j]'hjl).2] := hcs
                    subst e2
                    have HTj : Hid (tl.take (j + 1) = tl.take j ++ [tl[j]'hjl]) := by show _ = _; rw [List.take_add_one, List.getElem?_eq_getElem hjl]; rfl
                    generalize tl[j]'hjl = tk at *
                    obtain ⟨rfl, rfl⟩ : ta = some tp ∧ tc = cap3 := by injection hv3 with h1 h2 h3; exact ⟨h1, h3⟩
                    have hjn : (j : Int) < (tn : Int) := by omega
                    have ltp : tp.block < wr.heap.size := by have := hO _ htF; have := (bcat (bcat HB7.out HBx.out (Nat.le_refl _)) HBj.out (Nat.le_refl _)).size; omega
                    have HTk : Hid (∀ u, Below wr.heap.size wr u → ∀ q z, #[Value.int .i64 tk.1, .int .i64 tk.2][q]? = some z → u.cell? ((tp.add (j * 2)).add q) = some z) := fun u hu q z hq => (cell_same (by rw [block_add, block_add]; exact hu.block _ ltp)).trans (hrd3 q z hq)
                    have HXr : Hid (∀ u, Below wr.heap.size wr u → ∀ q z, #[.int .i64 x.1, .int .i64 x.2][q]? = some z → u.cell? ((⟨xb, 0, none⟩ : Addr).add q) = some z) := fun u hu => row_below hxr hu
                    have R0 : Below wr.heap.size wr wr.drew := (Below.refl _ _).drew
                    have HBn : Hid (Below wx.heap.size wx wr.drew) := bcat HBj.out R0 (Nat.le_refl _)
                    have HNx : Hid ((i0 || decide (x ∈ tl.take (j + 1))) = (ib || decide (tk = x))) := by
                      show _ = _
                      rw [HTj.out, ← HIb.out, Bool.or_assoc]
                      congr 1
                      by_cases q1 : x ∈ tl.take j <;> by_cases q2 : tk = x <;> simp [q1, q2, eq_comm]
                      exact fun e => q2 e.symm
                    clear hv3 hrd3 hcs htF hxr
                    cases ib with
                    | true =>
                      go_upto_region 17 with fail
                      refine start_held (S := fun u => Below wr.heap.size wr u) 10 rfl (by kernel_rfl) R0 ?_
                      simp only [Array.replicate_succ, Array.replicate_zero, List.push_toArray, List.nil_append, List.cons_append]
                      refine take_held 0 R0 rfl (by kernel_rfl) (by kernel_rfl) (by kernel_rfl) (fun _ _ _ h => h) (by kernel_rfl) (v := ?v62) ?y62 ?r62
                      case y62 => (intro u hu; go_simp; try rfl)
                      simp only [Act.put, List.setIfInBounds_toArray, List.set_cons_zero, List.set_cons_succ]
                      refine take_held 1 R0 rfl (by kernel_rfl) (by kernel_rfl) (by kernel_rfl) (fun _ _ _ h => h) (by kernel_rfl) (v := ?v63) ?y63 ?r63
                      case y63 => (intro u hu; go_simp; try rfl)
                      simp only [Act.put, List.setIfInBounds_toArray, List.set_cons_zero, List.set_cons_succ]
                      refine skip_held 2 R0 rfl (by kernel_rfl) (by kernel_rfl) (by kernel_rfl) (fun _ _ _ h => h) (by kernel_rfl) ?_
                      simp only [Act.put, List.setIfInBounds_toArray, List.set_cons_zero, List.set_cons_succ]
                      refine skip_held 3 R0 rfl (by kernel_rfl) (by kernel_rfl) (by kernel_rfl) (fun _ _ _ h => h) (by kernel_rfl) ?_
                      simp only [Act.put, List.setIfInBounds_toArray, List.set_cons_zero, List.set_cons_succ]
                      refine skip_held 4 R0 rfl (by kernel_rfl) (by kernel_rfl) (by kernel_rfl) (fun _ _ _ h => h) (by kernel_rfl) ?_
                      simp only [Act.put, List.setIfInBounds_toArray, List.set_cons_zero, List.set_cons_succ]
                      refine skip_held 5 R0 rfl (by kernel_rfl) (by kernel_rfl) (by kernel_rfl) (fun _ _ _ h => h) (by kernel_rfl) ?_
                      simp only [Act.put, List.setIfInBounds_toArray, List.set_cons_zero, List.set_cons_succ]
                      refine skip_held 6 R0 rfl (by kernel_rfl) (by kernel_rfl) (by kernel_rfl) (fun _ _ _ h => h) (by kernel_rfl) ?_
                      simp only [Act.put, List.setIfInBounds_toArray, List.set_cons_zero, List.set_cons_succ]
                      refine skip_held 7 R0 rfl (by kernel_rfl) (by kernel_rfl) (by kernel_rfl) (fun _ _ _ h => h) (by kernel_rfl) ?_
                      simp only [Act.put, List.setIfInBounds_toArray, List.set_cons_zero, List.set_cons_succ]
                      refine take_held 8 R0 rfl (by kernel_rfl) (by kernel_rfl) (by kernel_rfl) (fun _ _ _ h => h) (by kernel_rfl) (v := ?v64) ?y64 ?r64
                      case y64 => (intro u hu; go_simp; try rfl)
                      simp only [Act.put, List.setIfInBounds_toArray, List.set_cons_zero, List.set_cons_succ]
                      refine take_held 9 R0 rfl (by kernel_rfl) (by kernel_rfl) (by kernel_rfl) (fun _ _ _ h => h) (by kernel_rfl) (v := ?v65) ?y65 ?r65
                      case y65 => (intro u hu; go_simp; try rfl)
                      simp only [Act.put, List.setIfInBounds_toArray, List.set_cons_zero, List.set_cons_succ]
                      refine done_held (by kernel_rfl) ?_ _
                      go_wp2_with fail
                      go_roundw
                      case rel => exact ⟨j + 1, by omega, by go_num, by rw [HNx.out]; rfl, HBn⟩
                      case measure => simp only [intOf]; omega
                    | false =>
                      go_upto_region 17 with fail
                      refine start_held (S := fun u => Below wr.heap.size wr u) 10 rfl (by kernel_rfl) R0 ?_
                      simp only [Array.replicate_succ, Array.replicate_zero, List.push_toArray, List.nil_append, List.cons_append]
                      refine take_held 0 R0 rfl (by kernel_rfl) (by kernel_rfl) (by kernel_rfl) (fun _ _ _ h => h) (by kernel_rfl) (v := ?v66) ?y66 ?r66
                      case y66 => (intro u hu; go_simp; try rfl)
                      simp only [Act.put, List.setIfInBounds_toArray, List.set_cons_zero, List.set_cons_succ]
                      refine take_held 1 R0 rfl (by kernel_rfl) (by kernel_rfl) (by kernel_rfl) (fun _ _ _ h => h) (by kernel_rfl) (v := ?v67) ?y67 ?r67
                      case y67 => (intro u hu; go_simp; try rfl)
                      simp only [Act.put, List.setIfInBounds_toArray, List.set_cons_zero, List.set_cons_succ]
                      refine take_held 2 R0 rfl (by kernel_rfl) (by kernel_rfl) (by kernel_rfl) (fun _ _ _ h => h) (by kernel_rfl) (v := ?v68) ?y68 ?r68
                      case y68 => (intro u hu; go_simp; try rfl)
                      simp only [Act.put, List.setIfInBounds_toArray, List.set_cons_zero, List.set_cons_succ]
                      refine take_held 3 R0 rfl (by kernel_rfl) (by kernel_rfl) (by kernel_rfl) (fun _ _ _ h => h) (by kernel_rfl) (v := ?v69) ?y69 ?r69
                      case y69 => (intro u hu; go_simp; try rfl)
                      simp only [Act.put, List.setIfInBounds_toArray, List.set_cons_zero, List.set_cons_succ]
                      refine take_held 4 R0 rfl (by kernel_rfl) (by kernel_rfl) (by kernel_rfl) (fun _ _ _ h => h) (by kernel_rfl) (v := ?v70) ?y70 ?r70
                      case y70 => (intro u hu; go_simp; try rfl)
                      simp only [Act.put, List.setIfInBounds_toArray, List.set_cons_zero, List.set_cons_succ]
                      refine take_held 5 R0 rfl (by kernel_rfl) (by kernel_rfl) (by kernel_rfl) (fun _ _ _ h => h) (by kernel_rfl) (v := .agg #[.int .i64 tk.1, .int .i64 tk.2]) ?y71 ?r71
                      case y71 => (intro u hu; exact run_load_op 39 _ rfl (tp.add (j * 2)) _ rfl (HTk.out u hu) (aggCell u) infoCell2)
                      simp only [Act.put, List.setIfInBounds_toArray, List.set_cons_zero, List.set_cons_succ]
                      refine take_held 6 R0 rfl (by kernel_rfl) (by kernel_rfl) (by kernel_rfl) (fun _ _ _ h => h) (by kernel_rfl) (v := .agg #[.int .i64 x.1, .int .i64 x.2]) ?y72 ?r72
                      case y72 => (intro u hu; exact run_load_op 39 _ rfl ⟨xb, 0, none⟩ _ rfl (HXr.out u hu) (aggCell u) infoCell2)
                      simp only [Act.put, List.setIfInBounds_toArray, List.set_cons_zero, List.set_cons_succ]
                      refine take_held 7 R0 rfl (by kernel_rfl) (by kernel_rfl) (by kernel_rfl) (fun _ _ _ h => h) (by kernel_rfl) (v := .bool (decide (tk = x))) ?y73 ?r73
                      case y73 => (intro u hu; exact run_eql_cell (.tmp 95) (.tmp 96) rfl tk.1 tk.2 x.1 x.2 rfl rfl)
                      simp only [Act.put, List.setIfInBounds_toArray, List.set_cons_zero, List.set_cons_succ]
                      refine take_held 8 R0 rfl (by kernel_rfl) (by kernel_rfl) (by kernel_rfl) (fun _ _ _ h => h) (by kernel_rfl) (v := ?v74) ?y74 ?r74
                      case y74 => (intro u hu; go_simp; try rfl)
                      simp only [Act.put, List.setIfInBounds_toArray, List.set_cons_zero, List.set_cons_succ]
                      refine take_held 9 R0 rfl (by kernel_rfl) (by kernel_rfl) (by kernel_rfl) (fun _ _ _ h => h) (by kernel_rfl) (v := ?v75) ?y75 ?r75
                      case y75 => (intro u hu; go_simp; try rfl)
                      simp only [Act.put, List.setIfInBounds_toArray, List.set_cons_zero, List.set_cons_succ]
                      refine done_held (by kernel_rfl) ?_ _
                      go_wp2_with fail
                      go_roundw
                      case rel => exact ⟨j + 1, by omega, by go_num, by rw [HNx.out, Bool.false_or], HBn⟩
                      case measure => simp only [intOf]; omega
                  · obtain rfl : j = tn := by omega
                    have hd3 : decide ((j : Int) < (j : Int)) = false := decide_eq_false (by omega)
                    have HIn : Hid (inB c.stacks c.height tl f x = ib) := by show _ = _; rw [HI0.out, ← HIb.out, List.take_of_length_le (by rw [HTn.out]; exact Nat.le_refl _)]
                    have HBy : Hid (Below w7.heap.size w7 wr) := bcat HBx.out HBj.out (Nat.le_refl _)
                    have hpr := (HBy.out.block _ (lt_of_heap HK7.out.2.2)).trans HK7.out.2.2
                    have hfr := (HBy.out.block _ (lt_of_heap HK7.out.2.1)).trans HK7.out.2.1
                    have hkk : decide ((k : Int) < (n : Int)) = true := decide_eq_true (by omega)
                    cases ib with
                    | true =>
                      have HAny : Hid (((L.take (k + 1)).any fun x => !inB c.stacks c.height tl f x) = sm) := by show _ = _; rw [HTk1.out, List.any_append, HSv.out]; simp [HIn.out]
                      go_wp2_with fail
                      go_roundw
                      case rel => exact ⟨k + 1, by omega, by go_num, by rw [HAny.out], HBy⟩
                      case measure => simp only [intOf]; omega
                    | false =>
                      have HAny : Hid (((L.take (k + 1)).any fun x => !inB c.stacks c.height tl f x) = true) := by show _ = _; rw [HTk1.out, List.any_append]; simp [HIn.out]
                      have Y0 : Below wr.heap.size wr wr.drew := (Below.refl _ _).drew
                      have HXy : Hid (∀ u, Below wr.heap.size wr u → ∀ q z, #[.int .i64 x.1, .int .i64 x.2][q]? = some z → u.cell? ((⟨xb, 0, none⟩ : Addr).add q) = some z) := fun u hu => row_below hxr hu
                      have HFy : Hid (∀ u, Below wr.heap.size wr u → ∀ q z, #[.int .i64 f.1, .int .i64 f.2][q]? = some z → u.cell? ((⟨w.heap.size + 1, 0, none⟩ : Addr).add q) = some z) := fun u hu => row_below hfr hu
                      have HPy : Hid (∀ u, Below wr.heap.size wr u → ∀ q z, #[.int .i64 0, .int .i64 0][q]? = some z → u.cell? ((⟨pb, 0, none⟩ : Addr).add q) = some z) := fun u hu => row_below hpr hu
                      clear hxr hpr hfr
                      go_upto_region 22 with fail
                      refine start_held (S := fun u => Below wr.heap.size wr u) 11 rfl (by kernel_rfl) Y0 ?_
                      simp only [Array.replicate_succ, Array.replicate_zero, List.push_toArray, List.nil_append, List.cons_append]
                      refine take_held 0 Y0 rfl (by kernel_rfl) (by kernel_rfl) (by kernel_rfl) (fun _ _ _ h => h) (by kernel_rfl) (v := ?v76) ?y76 ?r76
                      case y76 => (intro u hu; go_simp; try rfl)
                      simp only [Act.put, List.setIfInBounds_toArray, List.set_cons_zero, List.set_cons_succ]
                      refine take_held 1 Y0 rfl (by kernel_rfl) (by kernel_rfl) (by kernel_rfl) (fun _ _ _ h => h) (by kernel_rfl) (v := .bool false) ?y77 ?r77
                      case y77 => (intro u hu; go_simp; try rfl)
                      simp only [Act.put, List.setIfInBounds_toArray, List.set_cons_zero, List.set_cons_succ]
                      refine take_held 2 Y0 rfl (by kernel_rfl) (by kernel_rfl) (by kernel_rfl) (fun _ _ _ h => h) (by kernel_rfl) (v := ?v78) ?y78 ?r78
                      case y78 => (intro u hu; go_simp; try rfl)
                      simp only [Act.put, List.setIfInBounds_toArray, List.set_cons_zero, List.set_cons_succ]
                      refine skip_held 3 Y0 rfl (by kernel_rfl) (by kernel_rfl) (by kernel_rfl) (fun _ _ _ h => h) (by kernel_rfl) ?_
                      simp only [Act.put, List.setIfInBounds_toArray, List.set_cons_zero, List.set_cons_succ]
                      refine skip_held 4 Y0 rfl (by kernel_rfl) (by kernel_rfl) (by kernel_rfl) (fun _ _ _ h => h) (by kernel_rfl) ?_
                      simp only [Act.put, List.setIfInBounds_toArray, List.set_cons_zero, List.set_cons_succ]
                      refine skip_held 5 Y0 rfl (by kernel_rfl) (by kernel_rfl) (by kernel_rfl) (fun _ _ _ h => h) (by kernel_rfl) ?_
                      simp only [Act.put, List.setIfInBounds_toArray, List.set_cons_zero, List.set_cons_succ]
                      refine skip_held 6 Y0 rfl (by kernel_rfl) (by kernel_rfl) (by kernel_rfl) (fun _ _ _ h => h) (by kernel_rfl) ?_
                      simp only [Act.put, List.setIfInBounds_toArray, List.set_cons_zero, List.set_cons_succ]
                      refine skip_held 7 Y0 rfl (by kernel_rfl) (by kernel_rfl) (by kernel_rfl) (fun _ _ _ h => h) (by kernel_rfl) ?_
                      simp only [Act.put, List.setIfInBounds_toArray, List.set_cons_zero, List.set_cons_succ]
                      refine skip_held 8 Y0 rfl (by kernel_rfl) (by kernel_rfl) (by kernel_rfl) (fun _ _ _ h => h) (by kernel_rfl) ?_
                      simp only [Act.put, List.setIfInBounds_toArray, List.set_cons_zero, List.set_cons_succ]
                      refine skip_held 9 Y0 rfl (by kernel_rfl) (by kernel_rfl) (by kernel_rfl) (fun _ _ _ h => h) (by kernel_rfl) ?_
                      simp only [Act.put, List.setIfInBounds_toArray, List.set_cons_zero, List.set_cons_succ]
                      refine take_held 10 Y0 rfl (by kernel_rfl) (by kernel_rfl) (by kernel_rfl) (fun _ _ _ h => h) (by kernel_rfl) (v := ?v79) ?y79 ?r79
                      case y79 => (intro u hu; go_simp; try rfl)
                      simp only [Act.put, List.setIfInBounds_toArray, List.set_cons_zero, List.set_cons_succ]
                      refine done_held (by kernel_rfl) ?_ _
                      go_wp2_with fail
                      go_roundw
                      case rel => exact ⟨k + 1, by omega, by go_num, by rw [HAny.out], bcat HBy.out Y0 (Nat.le_refl _)⟩
                      case measure => simp only [intOf]; omega
            · obtain rfl : k = n := by omega
              have hd : decide ((k : Int) < (k : Int)) = false := decide_eq_false (by omega)
              have hall : L.take k = L := List.take_of_length_le (by rw [HNn.out]; exact Nat.le_refl _)
              have hsm : sm = false := by
                rw [← HSv.out, hall]
                rw [List.any_eq_false]
                intro y hy
                cases hb : inB c.stacks c.height tl f y with
                | true => simp
                | false => exact absurd ((inB_may hy).1 hb) (places_nil HND.out HPs.out y)
              subst hsm
              go_wp2_with (go_at_call 37; refine (awake14_any _).mono ?_; rintro e w9 ⟨rw9, rfl, rfl, b9⟩)
              go_ret
              exact ⟨rfl, bcat (bcat HB7.out HB.out (Nat.le_refl _)) b9 (Nat.le_refl _)⟩
        | cons p P =>
          have e1 : placeP (p :: P) = p := rfl
          simp only [placeE, e1]
          rw [e1] at hp5
          go_upto_region 8 with (first
            | (go_at_call 49; refine cT.mono ?_; rintro e w6 ⟨rfl, hC6, b6⟩; have cL := lawCells_any g u0 c.W c.H G.uses vp w5.heap.size 1000 (by decide) (by decide) w6 hC6; rw [hL, hLt] at cL)
            | (go_at_call 48; refine cL.mono ?_; rintro e w7 ⟨vL, rfl, ownL, b7⟩))
          have b57 := bcat b6 b7 (Nat.le_refl _)
          have B7 := bcat B5 b57 (Nat.le_refl _)
          have hc7 := (b57.block _ (lt_of_heap hc5)).trans hc5
          have hf7 := (b57.block _ (lt_of_heap hf5)).trans hf5
          have hp7 := (b57.block _ (lt_of_heap hp5)).trans hp5
          have HK7 : Hid (w7.heap[w.heap.size]? = some (.cells #[.int .i64 c.W, .int .i64 c.H, .int .i64 c.height, v1, v2, v3, v4, .int .i64 c.unit, .int .i64 c.accel, .int .i64 c.speed, .int .i64 c.turn, .int .i64 c.hoist, .int .i64 c.queue, .int .i64 c.resend, .int .i64 c.budget, .bool c.back] 26 (0, 0)) ∧ w7.heap[w.heap.size + 1]? = some (.cells #[.int .i64 f.1, .int .i64 f.2] 39 (0, 0)) ∧ w7.heap[pb]? = some (.cells #[.int .i64 p.1, .int .i64 p.2] 39 (0, 0))) := ⟨hc7, hf7, hp7⟩
          have HB7 : Hid (Below w.heap.size w w7) := B7
          obtain ⟨la, lc, hvL, _⟩ := own_form ownL
          obtain ⟨n, hn⟩ : ∃ n, L.length = n := ⟨_, rfl⟩
          have HNn : Hid (L.length = n) := hn
          rw [hn] at hvL hLl
          subst hvL
          have HOL : Hid (w7.ownsRow w6.heap.size 39 2 (.slice la n lc) L.length (rowL cellL L)) := ownL
          have HBz : Hid (Below w7.heap.size w7 w7) := Below.refl _ _
          clear hc5 hf5 hp5 hc7 hf7 hp7 ownL cT cL hn hG5 hL hLt hC6 b6 b7 b57
          go_wp2_with fail
          go_loopw [12, 13] (fun sv i wq => ∃ k : Nat, k ≤ n ∧ i = .int .i64 k ∧ sv = .bool ((L.take k).any fun x => !inB c.stacks c.height tl f x) ∧ Hid (Below w7.heap.size w7 wq)) (fun _ i _ => n - (intOf i).toNat)
          case atStart => exact ⟨0, Nat.zero_le _, rfl, rfl, HBz⟩
          case round =>
            clear HBz
            obtain ⟨k, hk, rfl, rfl, HB⟩ := hrel
            generalize hsv : ((L.take k).any fun x => !inB c.stacks c.height tl f x) = sm at *
            have HSv : Hid (((L.take k).any fun x => !inB c.stacks c.height tl f x) = sm) := hsv
            clear hsv
            by_cases hlt : k < n
            · have hd : decide ((k : Int) < (n : Int)) = true := decide_eq_true (by omega)
              have hkL : k < L.length := by rw [HNn.out]; exact hlt
              obtain ⟨pp, cap2, hv, hrd⟩ := own_item (own_go HOL.out HB.out) hkL
              obtain ⟨rfl, rfl⟩ : la = some pp ∧ lc = cap2 := by injection hv with h1 h2 h3; exact ⟨h1, h3⟩
              have HTk1 : Hid (L.take (k + 1) = L.take k ++ [L[k]'hkL]) := by show _ = _; rw [List.take_add_one, List.getElem?_eq_getElem hkL]; rfl
              have HMm : Hid (L[k]'hkL ∈ L) := List.getElem_mem hkL
              generalize L[k]'hkL = x at *
              obtain ⟨wx, hwx⟩ : ∃ wx, wx = wr.alloc (.cells #[.int .i64 x.1, .int .i64 x.2] 39) := ⟨_, rfl⟩
              have bx : Below wr.heap.size wr wx := by rw [hwx]; exact below_new (Below.refl _ _) _
              have hxb : wx.heap[wr.heap.size]? = some (.cells #[.int .i64 x.1, .int .i64 x.2] 39 (0, 0)) := by rw [hwx]; exact heap_alloc_new wr _
              obtain ⟨xb, hxbe⟩ : ∃ xb, wr.heap.size = xb := ⟨_, rfl⟩
              rw [hxbe] at hxb
              have HBx : Hid (Below w7.heap.size w7 wx) := bcat HB.out bx (Nat.le_refl _)
              have hcx := (HBx.out.block _ (lt_of_heap HK7.out.1)).trans HK7.out.1
              have hfx := (HBx.out.block _ (lt_of_heap HK7.out.2.1)).trans HK7.out.2.1
              have HXc : Hid (∀ u, Below wx.heap.size wx u → ∀ j z, #[.int .i64 x.1, .int .i64 x.2][j]? = some z → u.cell? ((⟨xb, 0, none⟩ : Addr).add j) = some z) := fun u hu => row_below hxb hu
              have HFc : Hid (∀ u, Below wx.heap.size wx u → ∀ j z, #[.int .i64 f.1, .int .i64 f.2][j]? = some z → u.cell? ((⟨w.heap.size + 1, 0, none⟩ : Addr).add j) = some z) := fun u hu => row_below hfx hu
              have HC6 : Hid (∀ u, Below wx.heap.size wx u → u.cell? ⟨w.heap.size, 6, none⟩ = some v4) := fun u hu => cell_below ((cell_of hcx 6).trans rfl) hu
              have HC2h : Hid (∀ u, Below wx.heap.size wx u → u.cell? ⟨w.heap.size, 2, none⟩ = some (.int .i64 c.height)) := fun u hu => cell_below ((cell_of hcx 2).trans rfl) hu
              have HBi : Hid (∀ uu, Below wx.heap.size wx uu → Calls Try.prog 44 #[v4, .agg #[.int .i64 x.1, .int .i64 x.2]] uu fun e w' => ∃ r, e = .returned r ∧ (ListAt 1 intEl (Old w) (pileOf c.stacks x) r w' ∧ Below uu.heap.size uu w')) := fun uu b => by
                have bb := bcat (bcat HB7.out HBx.out (Nat.le_refl _)) b (Nat.le_refl _)
                exact lawBins_any (Old w) c.stacks v4 x uu (HA.out _ bb).s (fun q hq => Nat.lt_of_lt_of_le (hO q hq) bb.size) (by omega)
              obtain ⟨ln, hln⟩ : ∃ ln, (pileOf c.stacks x).length = ln := ⟨_, rfl⟩
              have HLen : Hid ((pileOf c.stacks x).length = ln) := hln
              have hlnb := HPl.out x
              rw [hln] at hlnb
              have S0 : Below wx.heap.size wx wx.drew := (Below.refl _ _).drew
              have HXb : Hid (wx.heap[xb]? = some (.cells #[.int .i64 x.1, .int .i64 x.2] 39 (0, 0))) := hxb
              clear hv hln hcx hfx hxb bx
              go_upto_region 13 with (refine wpList_load_at rfl 39 (.tmp 69) rfl (pp.add (k * 2)) rfl #[.int .i64 x.1, .int .i64 x.2] hrd (aggCell _) infoCell2 ?_)
              rw [← hwx]
              try rw [hxbe]
              clear hwx hrd hxbe
              by_cases hxf0 : x = f
              · have hxf := decide_eq_true hxf0
                have HI0 : Hid (inB c.stacks c.height tl f x = (true || decide (x ∈ tl))) := by show _ = _; unfold inB; rw [hxf, Bool.true_or]
                clear hxf0
                refine start_held (S := fun u => Below wx.heap.size wx u) 14 rfl (by kernel_rfl) S0 ?_
                simp only [Array.replicate_succ, Array.replicate_zero, List.push_toArray, List.nil_append, List.cons_append]
                refine take_held 0 S0 rfl (by kernel_rfl) (by kernel_rfl) (by kernel_rfl) (fun _ _ _ h => h) (by kernel_rfl) (v := .agg #[.int .i64 x.1, .int .i64 x.2]) ?y80 ?r80
                case y80 => (intro u hu; exact run_load_op 39 _ rfl ⟨xb, 0, none⟩ _ rfl (HXc.out u hu) (aggCell u) infoCell2)
                simp only [Act.put, List.setIfInBounds_toArray, List.set_cons_zero, List.set_cons_succ]
                refine take_held 1 S0 rfl (by kernel_rfl) (by kernel_rfl) (by kernel_rfl) (fun _ _ _ h => h) (by kernel_rfl) (v := .agg #[.int .i64 f.1, .int .i64 f.2]) ?y81 ?r81
                case y81 => (intro u hu; exact run_load_op 39 _ rfl ⟨w.heap.size + 1, 0, none⟩ _ rfl (HFc.out u hu) (aggCell u) infoCell2)
                simp only [Act.put, List.setIfInBounds_toArray, List.set_cons_zero, List.set_cons_succ]
                refine take_held 2 S0 rfl (by kernel_rfl) (by kernel_rfl) (by kernel_rfl) (fun _ _ _ h => h) (by kernel_rfl) (v := .bool true) ?y82 ?r82
                case y82 => (intro u hu; exact (run_eql_cell (.tmp 71) (.tmp 72) rfl x.1 x.2 f.1 f.2 rfl rfl).trans (by rw [show decide ((x.1, x.2) = (f.1, f.2)) = true from hxf]))
                simp only [Act.put, List.setIfInBounds_toArray, List.set_cons_zero, List.set_cons_succ]
                refine take_held 3 S0 rfl (by kernel_rfl) (by kernel_rfl) (by kernel_rfl) (fun _ _ _ h => h) (by kernel_rfl) (v := ?v83) ?y83 ?r83
                case y83 => (intro u hu; go_simp; try rfl)
                simp only [Act.put, List.setIfInBounds_toArray, List.set_cons_zero, List.set_cons_succ]
                refine skip_held 4 S0 rfl (by kernel_rfl) (by kernel_rfl) (by kernel_rfl) (fun _ _ _ h => h) (by kernel_rfl) ?_
                simp only [Act.put, List.setIfInBounds_toArray, List.set_cons_zero, List.set_cons_succ]
                refine skip_held 5 S0 rfl (by kernel_rfl) (by kernel_rfl) (by kernel_rfl) (fun _ _ _ h => h) (by kernel_rfl) ?_
                simp only [Act.put, List.setIfInBounds_toArray, List.set_cons_zero, List.set_cons_succ]
                refine skip_held 6 S0 rfl (by kernel_rfl) (by kernel_rfl) (by kernel_rfl) (fun _ _ _ h => h) (by kernel_rfl) ?_
                simp only [Act.put, List.setIfInBounds_toArray, List.set_cons_zero, List.set_cons_succ]
                refine skip_held 7 S0 rfl (by kernel_rfl) (by kernel_rfl) (by kernel_rfl) (fun _ _ _ h => h) (by kernel_rfl) ?_
                simp only [Act.put, List.setIfInBounds_toArray, List.set_cons_zero, List.set_cons_succ]
                refine skip_held 8 S0 rfl (by kernel_rfl) (by kernel_rfl) (by kernel_rfl) (fun _ _ _ h => h) (by kernel_rfl) ?_
                simp only [Act.put, List.setIfInBounds_toArray, List.set_cons_zero, List.set_cons_succ]
                refine skip_held 9 S0 rfl (by kernel_rfl) (by kernel_rfl) (by kernel_rfl) (fun _ _ _ h => h) (by kernel_rfl) ?_
                simp only [Act.put, List.setIfInBounds_toArray, List.set_cons_zero, List.set_cons_succ]
                refine skip_held 10 S0 rfl (by kernel_rfl) (by kernel_rfl) (by kernel_rfl) (fun _ _ _ h => h) (by kernel_rfl) ?_
                simp only [Act.put, List.setIfInBounds_toArray, List.set_cons_zero, List.set_cons_succ]
                refine skip_held 11 S0 rfl (by kernel_rfl) (by kernel_rfl) (by kernel_rfl) (fun _ _ _ h => h) (by kernel_rfl) ?_
                simp only [Act.put, List.setIfInBounds_toArray, List.set_cons_zero, List.set_cons_succ]
                refine take_held 12 S0 rfl (by kernel_rfl) (by kernel_rfl) (by kernel_rfl) (fun _ _ _ h => h) (by kernel_rfl) (v := ?v84) ?y84 ?r84
                case y84 => (intro u hu; go_simp; try rfl)
                simp only [Act.put, List.setIfInBounds_toArray, List.set_cons_zero, List.set_cons_succ]
                refine take_held 13 S0 rfl (by kernel_rfl) (by kernel_rfl) (by kernel_rfl) (fun _ _ _ h => h) (by kernel_rfl) (v := ?v85) ?y85 ?r85
                case y85 => (intro u hu; go_simp; try rfl)
                simp only [Act.put, List.setIfInBounds_toArray, List.set_cons_zero, List.set_cons_succ]
                refine done_held (by kernel_rfl) ?_ _
                have HBc : Hid (Below wx.heap.size wx wx.drew) := S0
                clear S0 HXc HFc HC6 HC2h HBi
                generalize hwz : wx.drew = wz at *
                clear hwz
                go_wp2_with fail
                go_loopw [15, 16] (fun iv jv wq => ∃ j : Nat, j ≤ tn ∧ jv = .int .i64 j ∧ iv = .bool (true || decide (x ∈ tl.take j)) ∧ Hid (Below wx.heap.size wx wq)) (fun _ jv _ => tn - (intOf jv).toNat)
                case atStart => exact ⟨0, Nat.zero_le _, rfl, by simp, HBc⟩
                case round =>
                  clear HBc
                  obtain ⟨j, hj, rfl, rfl, HBj⟩ := hrel
                  generalize hib : (true || decide (x ∈ tl.take j)) = ib at *
                  have HIb : Hid ((true || decide (x ∈ tl.take j)) = ib) := hib
                  clear hib
                  have hxr := (HBj.out.block _ (lt_of_heap HXb.out)).trans HXb.out
                  by_cases hjt : j < tn
                  · have hd3 : decide ((j : Int) < (tn : Int)) = true := decide_eq_true (by omega)
                    have hjl : j < tl.length := by rw [HTn.out]; exact hjt
                    obtain ⟨tp, cs, cap3, hv3, htF, hcs, hrd3⟩ := (HT.out _ (bcat (bcat HB7.out HBx.out (Nat.le_refl _)) HBj.out (Nat.le_refl _))).item hjl
                    have e2 : cs = #[Value.int .i64 (tl[j]'hjl).1, .int .i64 (tl[j]'hjl).2] := hcs
                    subst e2
                    have HTj : Hid (tl.take (j + 1) = tl.take j ++ [tl[j]'hjl]) := by show _ = _; rw [List.take_add_one, List.getElem?_eq_getElem hjl]; rfl
                    generalize tl[j]'hjl = tk at *
                    obtain ⟨rfl, rfl⟩ : ta = some tp ∧ tc = cap3 := by injection hv3 with h1 h2 h3; exact ⟨h1, h3⟩
                    have hjn : (j : Int) < (tn : Int) := by omega
                    have ltp : tp.block < wr.heap.size := by have := hO _ htF; have := (bcat (bcat HB7.out HBx.out (Nat.le_refl _)) HBj.out (Nat.le_refl _)).size; omega
                    have HTk : Hid (∀ u, Below wr.heap.size wr u → ∀ q z, #[Value.int .i64 tk.1, .int .i64 tk.2][q]? = some z → u.cell? ((tp.add (j * 2)).add q) = some z) := fun u hu q z hq => (cell_same (by rw [block_add, block_add]; exact hu.block _ ltp)).trans (hrd3 q z hq)
                    have HXr : Hid (∀ u, Below wr.heap.size wr u → ∀ q z, #[.int .i64 x.1, .int .i64 x.2][q]? = some z → u.cell? ((⟨xb, 0, none⟩ : Addr).add q) = some z) := fun u hu => row_below hxr hu
                    have R0 : Below wr.heap.size wr wr.drew := (Below.refl _ _).drew
                    have HBn : Hid (Below wx.heap.size wx wr.drew) := bcat HBj.out R0 (Nat.le_refl _)
                    have HNx : Hid ((true || decide (x ∈ tl.take (j + 1))) = (ib || decide (tk = x))) := by
                      show _ = _
                      rw [HTj.out, ← HIb.out, Bool.or_assoc]
                      congr 1
                      by_cases q1 : x ∈ tl.take j <;> by_cases q2 : tk = x <;> simp [q1, q2, eq_comm]
                      exact fun e => q2 e.symm
                    clear hv3 hrd3 hcs htF hxr
                    cases ib with
                    | true =>
                      go_upto_region 17 with fail
                      refine start_held (S := fun u => Below wr.heap.size wr u) 10 rfl (by kernel_rfl) R0 ?_
                      simp only [Array.replicate_succ, Array.replicate_zero, List.push_toArray, List.nil_append, List.cons_append]
                      refine take_held 0 R0 rfl (by kernel_rfl) (by kernel_rfl) (by kernel_rfl) (fun _ _ _ h => h) (by kernel_rfl) (v := ?v99) ?y99 ?r99
                      case y99 => (intro u hu; go_simp; try rfl)
                      simp only [Act.put, List.setIfInBounds_toArray, List.set_cons_zero, List.set_cons_succ]
                      refine take_held 1 R0 rfl (by kernel_rfl) (by kernel_rfl) (by kernel_rfl) (fun _ _ _ h => h) (by kernel_rfl) (v := ?v100) ?y100 ?r100
                      case y100 => (intro u hu; go_simp; try rfl)
                      simp only [Act.put, List.setIfInBounds_toArray, List.set_cons_zero, List.set_cons_succ]
                      refine skip_held 2 R0 rfl (by kernel_rfl) (by kernel_rfl) (by kernel_rfl) (fun _ _ _ h => h) (by kernel_rfl) ?_
                      simp only [Act.put, List.setIfInBounds_toArray, List.set_cons_zero, List.set_cons_succ]
                      refine skip_held 3 R0 rfl (by kernel_rfl) (by kernel_rfl) (by kernel_rfl) (fun _ _ _ h => h) (by kernel_rfl) ?_
                      simp only [Act.put, List.setIfInBounds_toArray, List.set_cons_zero, List.set_cons_succ]
                      refine skip_held 4 R0 rfl (by kernel_rfl) (by kernel_rfl) (by kernel_rfl) (fun _ _ _ h => h) (by kernel_rfl) ?_
                      simp only [Act.put, List.setIfInBounds_toArray, List.set_cons_zero, List.set_cons_succ]
                      refine skip_held 5 R0 rfl (by kernel_rfl) (by kernel_rfl) (by kernel_rfl) (fun _ _ _ h => h) (by kernel_rfl) ?_
                      simp only [Act.put, List.setIfInBounds_toArray, List.set_cons_zero, List.set_cons_succ]
                      refine skip_held 6 R0 rfl (by kernel_rfl) (by kernel_rfl) (by kernel_rfl) (fun _ _ _ h => h) (by kernel_rfl) ?_
                      simp only [Act.put, List.setIfInBounds_toArray, List.set_cons_zero, List.set_cons_succ]
                      refine skip_held 7 R0 rfl (by kernel_rfl) (by kernel_rfl) (by kernel_rfl) (fun _ _ _ h => h) (by kernel_rfl) ?_
                      simp only [Act.put, List.setIfInBounds_toArray, List.set_cons_zero, List.set_cons_succ]
                      refine take_held 8 R0 rfl (by kernel_rfl) (by kernel_rfl) (by kernel_rfl) (fun _ _ _ h => h) (by kernel_rfl) (v := ?v101) ?y101 ?r101
                      case y101 => (intro u hu; go_simp; try rfl)
                      simp only [Act.put, List.setIfInBounds_toArray, List.set_cons_zero, List.set_cons_succ]
                      refine take_held 9 R0 rfl (by kernel_rfl) (by kernel_rfl) (by kernel_rfl) (fun _ _ _ h => h) (by kernel_rfl) (v := ?v102) ?y102 ?r102
                      case y102 => (intro u hu; go_simp; try rfl)
                      simp only [Act.put, List.setIfInBounds_toArray, List.set_cons_zero, List.set_cons_succ]
                      refine done_held (by kernel_rfl) ?_ _
                      go_wp2_with fail
                      go_roundw
                      case rel => exact ⟨j + 1, by omega, by go_num, by rw [HNx.out]; rfl, HBn⟩
                      case measure => simp only [intOf]; omega
                    | false =>
                      go_upto_region 17 with fail
                      refine start_held (S := fun u => Below wr.heap.size wr u) 10 rfl (by kernel_rfl) R0 ?_
                      simp only [Array.replicate_succ, Array.replicate_zero, List.push_toArray, List.nil_append, List.cons_append]
                      refine take_held 0 R0 rfl (by kernel_rfl) (by kernel_rfl) (by kernel_rfl) (fun _ _ _ h => h) (by kernel_rfl) (v := ?v103) ?y103 ?r103
                      case y103 => (intro u hu; go_simp; try rfl)
                      simp only [Act.put, List.setIfInBounds_toArray, List.set_cons_zero, List.set_cons_succ]
                      refine take_held 1 R0 rfl (by kernel_rfl) (by kernel_rfl) (by kernel_rfl) (fun _ _ _ h => h) (by kernel_rfl) (v := ?v104) ?y104 ?r104
                      case y104 => (intro u hu; go_simp; try rfl)
                      simp only [Act.put, List.setIfInBounds_toArray, List.set_cons_zero, List.set_cons_succ]
                      refine take_held 2 R0 rfl (by kernel_rfl) (by kernel_rfl) (by kernel_rfl) (fun _ _ _ h => h) (by kernel_rfl) (v := ?v105) ?y105 ?r105
                      case y105 => (intro u hu; go_simp; try rfl)
                      simp only [Act.put, List.setIfInBounds_toArray, List.set_cons_zero, List.set_cons_succ]
                      refine take_held 3 R0 rfl (by kernel_rfl) (by kernel_rfl) (by kernel_rfl) (fun _ _ _ h => h) (by kernel_rfl) (v := ?v106) ?y106 ?r106
                      case y106 => (intro u hu; go_simp; try rfl)
                      simp only [Act.put, List.setIfInBounds_toArray, List.set_cons_zero, List.set_cons_succ]
                      refine take_held 4 R0 rfl (by kernel_rfl) (by kernel_rfl) (by kernel_rfl) (fun _ _ _ h => h) (by kernel_rfl) (v := ?v107) ?y107 ?r107
                      case y107 => (intro u hu; go_simp; try rfl)
                      simp only [Act.put, List.setIfInBounds_toArray, List.set_cons_zero, List.set_cons_succ]
                      refine take_held 5 R0 rfl (by kernel_rfl) (by kernel_rfl) (by kernel_rfl) (fun _ _ _ h => h) (by kernel_rfl) (v := .agg #[.int .i64 tk.1, .int .i64 tk.2]) ?y108 ?r108
                      case y108 => (intro u hu; exact run_load_op 39 _ rfl (tp.add (j * 2)) _ rfl (HTk.out u hu) (aggCell u) infoCell2)
                      simp only [Act.put, List.setIfInBounds_toArray, List.set_cons_zero, List.set_cons_succ]
                      refine take_held 6 R0 rfl (by kernel_rfl) (by kernel_rfl) (by kernel_rfl) (fun _ _ _ h => h) (by kernel_rfl) (v := .agg #[.int .i64 x.1, .int .i64 x.2]) ?y109 ?r109
                      case y109 => (intro u hu; exact run_load_op 39 _ rfl ⟨xb, 0, none⟩ _ rfl (HXr.out u hu) (aggCell u) infoCell2)
                      simp only [Act.put, List.setIfInBounds_toArray, List.set_cons_zero, List.set_cons_succ]
                      refine take_held 7 R0 rfl (by kernel_rfl) (by kernel_rfl) (by kernel_rfl) (fun _ _ _ h => h) (by kernel_rfl) (v := .bool (decide (tk = x))) ?y110 ?r110
                      case y110 => (intro u hu; exact run_eql_cell (.tmp 95) (.tmp 96) rfl tk.1 tk.2 x.1 x.2 rfl rfl)
                      simp only [Act.put, List.setIfInBounds_toArray, List.set_cons_zero, List.set_cons_succ]
                      refine take_held 8 R0 rfl (by kernel_rfl) (by kernel_rfl) (by kernel_rfl) (fun _ _ _ h => h) (by kernel_rfl) (v := ?v111) ?y111 ?r111
                      case y111 => (intro u hu; go_simp; try rfl)
                      simp only [Act.put, List.setIfInBounds_toArray, List.set_cons_zero, List.set_cons_succ]
                      refine take_held 9 R0 rfl (by kernel_rfl) (by kernel_rfl) (by kernel_rfl) (fun _ _ _ h => h) (by kernel_rfl) (v := ?v112) ?y112 ?r112
                      case y112 => (intro u hu; go_simp; try rfl)
                      simp only [Act.put, List.setIfInBounds_toArray, List.set_cons_zero, List.set_cons_succ]
                      refine done_held (by kernel_rfl) ?_ _
                      go_wp2_with fail
                      go_roundw
                      case rel => exact ⟨j + 1, by omega, by go_num, by rw [HNx.out, Bool.false_or], HBn⟩
                      case measure => simp only [intOf]; omega
                  · obtain rfl : j = tn := by omega
                    have hd3 : decide ((j : Int) < (j : Int)) = false := decide_eq_false (by omega)
                    have HIn : Hid (inB c.stacks c.height tl f x = ib) := by show _ = _; rw [HI0.out, ← HIb.out, List.take_of_length_le (by rw [HTn.out]; exact Nat.le_refl _)]
                    have HBy : Hid (Below w7.heap.size w7 wr) := bcat HBx.out HBj.out (Nat.le_refl _)
                    have hpr := (HBy.out.block _ (lt_of_heap HK7.out.2.2)).trans HK7.out.2.2
                    have hfr := (HBy.out.block _ (lt_of_heap HK7.out.2.1)).trans HK7.out.2.1
                    have hkk : decide ((k : Int) < (n : Int)) = true := decide_eq_true (by omega)
                    cases ib with
                    | true =>
                      have HAny : Hid (((L.take (k + 1)).any fun x => !inB c.stacks c.height tl f x) = sm) := by show _ = _; rw [HTk1.out, List.any_append, HSv.out]; simp [HIn.out]
                      have hne : x ≠ p := fun e => by
                        have := (inB_may (HMm.out)).2 (by rw [e]; exact (places_cons HND.out HPs.out).1)
                        rw [HIn.out] at this
                        cases this
                      have hdn := decide_eq_false hne
                      go_wp2_with (first
                        | (refine wpList_load_want (by kernel_rfl) 39 (.tmp 14) rfl xb rfl 39 #[.int .i64 x.1, .int .i64 x.2] (0, 0) hxr Try.underlying39 infoCell2 ?_)
                        | (refine wpList_load_want (by kernel_rfl) 39 (.tmp 9) rfl pb rfl 39 #[.int .i64 p.1, .int .i64 p.2] (0, 0) hpr Try.underlying39 infoCell2 ?_)
                        | (refine wpList_val_wantN (by kernel_rfl) (.bool false) ((run_eql_cell (.tmp 103) (.tmp 104) rfl x.1 x.2 p.1 p.2 rfl rfl).trans (by rw [show decide ((x.1, x.2) = (p.1, p.2)) = false from hdn])) ?_))
                      go_roundw
                      case rel => exact ⟨k + 1, by omega, by go_num, by rw [HAny.out], HBy⟩
                      case measure => simp only [intOf]; omega
                    | false =>
                      have HAny : Hid (((L.take (k + 1)).any fun x => !inB c.stacks c.height tl f x) = true) := by show _ = _; rw [HTk1.out, List.any_append]; simp [HIn.out]
                      have Y0 : Below wr.heap.size wr wr.drew := (Below.refl _ _).drew
                      have HXy : Hid (∀ u, Below wr.heap.size wr u → ∀ q z, #[.int .i64 x.1, .int .i64 x.2][q]? = some z → u.cell? ((⟨xb, 0, none⟩ : Addr).add q) = some z) := fun u hu => row_below hxr hu
                      have HFy : Hid (∀ u, Below wr.heap.size wr u → ∀ q z, #[.int .i64 f.1, .int .i64 f.2][q]? = some z → u.cell? ((⟨w.heap.size + 1, 0, none⟩ : Addr).add q) = some z) := fun u hu => row_below hfr hu
                      have HPy : Hid (∀ u, Below wr.heap.size wr u → ∀ q z, #[.int .i64 p.1, .int .i64 p.2][q]? = some z → u.cell? ((⟨pb, 0, none⟩ : Addr).add q) = some z) := fun u hu => row_below hpr hu
                      have hle := (places_cons HND.out HPs.out).2 x ((inB_may HMm.out).1 HIn.out)
                      have hlt : decide (awayP f x < awayP f p) = false := decide_eq_false (by omega)
                      clear hxr hpr hfr
                      go_upto_region 22 with fail
                      refine start_held (S := fun u => Below wr.heap.size wr u) 11 rfl (by kernel_rfl) Y0 ?_
                      simp only [Array.replicate_succ, Array.replicate_zero, List.push_toArray, List.nil_append, List.cons_append]
                      refine take_held 0 Y0 rfl (by kernel_rfl) (by kernel_rfl) (by kernel_rfl) (fun _ _ _ h => h) (by kernel_rfl) (v := ?v113) ?y113 ?r113
                      case y113 => (intro u hu; go_simp; try rfl)
                      simp only [Act.put, List.setIfInBounds_toArray, List.set_cons_zero, List.set_cons_succ]
                      refine take_held 1 Y0 rfl (by kernel_rfl) (by kernel_rfl) (by kernel_rfl) (fun _ _ _ h => h) (by kernel_rfl) (v := .bool true) ?y114 ?r114
                      case y114 => (intro u hu; go_simp; try rfl)
                      simp only [Act.put, List.setIfInBounds_toArray, List.set_cons_zero, List.set_cons_succ]
                      refine take_held 2 Y0 rfl (by kernel_rfl) (by kernel_rfl) (by kernel_rfl) (fun _ _ _ h => h) (by kernel_rfl) (v := ?v115) ?y115 ?r115
                      case y115 => (intro u hu; go_simp; try rfl)
                      simp only [Act.put, List.setIfInBounds_toArray, List.set_cons_zero, List.set_cons_succ]
                      refine take_held 3 Y0 rfl (by kernel_rfl) (by kernel_rfl) (by kernel_rfl) (fun _ _ _ h => h) (by kernel_rfl) (v := .agg #[.int .i64 f.1, .int .i64 f.2]) ?y116 ?r116
                      case y116 => (intro u hu; exact run_load_op 39 _ rfl ⟨w.heap.size + 1, 0, none⟩ _ rfl (HFy.out u hu) (aggCell u) infoCell2)
                      simp only [Act.put, List.setIfInBounds_toArray, List.set_cons_zero, List.set_cons_succ]
                      refine take_held 4 Y0 rfl (by kernel_rfl) (by kernel_rfl) (by kernel_rfl) (fun _ _ _ h => h) (by kernel_rfl) (v := .agg #[.int .i64 x.1, .int .i64 x.2]) ?y117 ?r117
                      case y117 => (intro u hu; exact run_load_op 39 _ rfl ⟨xb, 0, none⟩ _ rfl (HXy.out u hu) (aggCell u) infoCell2)
                      simp only [Act.put, List.setIfInBounds_toArray, List.set_cons_zero, List.set_cons_succ]
                      refine take_held 6 Y0 rfl (by kernel_rfl) (by kernel_rfl) (by kernel_rfl) (fun _ _ _ h => h) (by kernel_rfl) (v := .agg #[.int .i64 f.1, .int .i64 f.2]) ?y118 ?r118
                      case y118 => (intro u hu; exact run_load_op 39 _ rfl ⟨w.heap.size + 1, 0, none⟩ _ rfl (HFy.out u hu) (aggCell u) infoCell2)
                      simp only [Act.put, List.setIfInBounds_toArray, List.set_cons_zero, List.set_cons_succ]
                      refine take_held 7 Y0 rfl (by kernel_rfl) (by kernel_rfl) (by kernel_rfl) (fun _ _ _ h => h) (by kernel_rfl) (v := .agg #[.int .i64 p.1, .int .i64 p.2]) ?y119 ?r119
                      case y119 => (intro u hu; exact run_load_op 39 _ rfl ⟨pb, 0, none⟩ _ rfl (HPy.out u hu) (aggCell u) infoCell2)
                      simp only [Act.put, List.setIfInBounds_toArray, List.set_cons_zero, List.set_cons_succ]
                      refine wpAnyH_ready (rs := [5]) (by kernel_rfl) (by simp) (AllReadyH.cons ((nth_eq _ 5).trans rfl) ?_ AllReadyH.nil)
                      intro K' hK
                      refine call_in hK (by kernel_rfl) 50 #[.agg #[.int .i64 f.1, .int .i64 f.2], .agg #[.int .i64 x.1, .int .i64 x.2]] (by go_simp) _ (away_any f.1 f.2 x.1 x.2 _) ?_
                      rintro v1_ y1 ⟨rfl, b1⟩
                      have Y1 : Below wr.heap.size wr y1 := bcat Y0 b1 (Nat.le_refl _)
                      refine ⟨Y1, ?_⟩
                      simp only [Act.put, List.setIfInBounds_toArray, List.set_cons_zero, List.set_cons_succ]
                      refine wpAnyH_ready (rs := [8]) (by kernel_rfl) (by simp) (AllReadyH.cons ((nth_eq _ 8).trans rfl) ?_ AllReadyH.nil)
                      intro K' hK
                      refine call_in hK (by kernel_rfl) 50 #[.agg #[.int .i64 f.1, .int .i64 f.2], .agg #[.int .i64 p.1, .int .i64 p.2]] (by go_simp) _ (away_any f.1 f.2 p.1 p.2 _) ?_
                      rintro v2_ y2 ⟨rfl, b2⟩
                      have Y2 : Below wr.heap.size wr y2 := bcat Y1 b2 (Nat.le_refl _)
                      refine ⟨Y2, ?_⟩
                      simp only [Act.put, List.setIfInBounds_toArray, List.set_cons_zero, List.set_cons_succ]
                      refine take_held 9 Y2 rfl (by kernel_rfl) (by kernel_rfl) (by kernel_rfl) (fun _ _ _ h => h) (by kernel_rfl) (v := .bool false) ?y120 ?r120
                      case y120 => (intro u hu; have zz : decide (awayP (f.1, f.2) (x.1, x.2) < awayP (f.1, f.2) (p.1, p.2)) = false := hlt; go_simp; try rfl)
                      simp only [Act.put, List.setIfInBounds_toArray, List.set_cons_zero, List.set_cons_succ]
                      refine take_held 10 Y2 rfl (by kernel_rfl) (by kernel_rfl) (by kernel_rfl) (fun _ _ _ h => h) (by kernel_rfl) (v := ?v121) ?y121 ?r121
                      case y121 => (intro u hu; go_simp; try rfl)
                      simp only [Act.put, List.setIfInBounds_toArray, List.set_cons_zero, List.set_cons_succ]
                      refine done_held (by kernel_rfl) ?_ _
                      go_wp2_with fail
                      go_roundw
                      case rel => exact ⟨k + 1, by omega, by go_num, by rw [HAny.out], bcat HBy.out Y2 (Nat.le_refl _)⟩
                      case measure => simp only [intOf]; omega
              · have hxf := decide_eq_false hxf0
                have HI0 : Hid (inB c.stacks c.height tl f x = (decide (c.height ≤ (ln : Int)) || decide (x ∈ tl))) := by show _ = _; unfold inB; rw [hxf, Bool.false_or, HLen.out]
                clear hxf0
                refine start_held (S := fun u => Below wx.heap.size wx u) 14 rfl (by kernel_rfl) S0 ?_
                simp only [Array.replicate_succ, Array.replicate_zero, List.push_toArray, List.nil_append, List.cons_append]
                refine take_held 0 S0 rfl (by kernel_rfl) (by kernel_rfl) (by kernel_rfl) (fun _ _ _ h => h) (by kernel_rfl) (v := .agg #[.int .i64 x.1, .int .i64 x.2]) ?y86 ?r86
                case y86 => (intro u hu; exact run_load_op 39 _ rfl ⟨xb, 0, none⟩ _ rfl (HXc.out u hu) (aggCell u) infoCell2)
                simp only [Act.put, List.setIfInBounds_toArray, List.set_cons_zero, List.set_cons_succ]
                refine take_held 1 S0 rfl (by kernel_rfl) (by kernel_rfl) (by kernel_rfl) (fun _ _ _ h => h) (by kernel_rfl) (v := .agg #[.int .i64 f.1, .int .i64 f.2]) ?y87 ?r87
                case y87 => (intro u hu; exact run_load_op 39 _ rfl ⟨w.heap.size + 1, 0, none⟩ _ rfl (HFc.out u hu) (aggCell u) infoCell2)
                simp only [Act.put, List.setIfInBounds_toArray, List.set_cons_zero, List.set_cons_succ]
                refine take_held 2 S0 rfl (by kernel_rfl) (by kernel_rfl) (by kernel_rfl) (fun _ _ _ h => h) (by kernel_rfl) (v := .bool false) ?y88 ?r88
                case y88 => (intro u hu; exact (run_eql_cell (.tmp 71) (.tmp 72) rfl x.1 x.2 f.1 f.2 rfl rfl).trans (by rw [show decide ((x.1, x.2) = (f.1, f.2)) = false from hxf]))
                simp only [Act.put, List.setIfInBounds_toArray, List.set_cons_zero, List.set_cons_succ]
                refine take_held 3 S0 rfl (by kernel_rfl) (by kernel_rfl) (by kernel_rfl) (fun _ _ _ h => h) (by kernel_rfl) (v := ?v89) ?y89 ?r89
                case y89 => (intro u hu; go_simp; try rfl)
                simp only [Act.put, List.setIfInBounds_toArray, List.set_cons_zero, List.set_cons_succ]
                refine take_held 4 S0 rfl (by kernel_rfl) (by kernel_rfl) (by kernel_rfl) (fun _ _ _ h => h) (by kernel_rfl) (v := ?v90) ?y90 ?r90
                case y90 => (intro u hu; go_simp; try rfl)
                simp only [Act.put, List.setIfInBounds_toArray, List.set_cons_zero, List.set_cons_succ]
                refine take_held 5 S0 rfl (by kernel_rfl) (by kernel_rfl) (by kernel_rfl) (fun _ _ _ h => h) (by kernel_rfl) (v := v4) ?y91 ?r91
                case y91 => (intro u hu; have zz := HC6.out u hu; go_simp; try rfl)
                simp only [Act.put, List.setIfInBounds_toArray, List.set_cons_zero, List.set_cons_succ]
                refine take_held 6 S0 rfl (by kernel_rfl) (by kernel_rfl) (by kernel_rfl) (fun _ _ _ h => h) (by kernel_rfl) (v := .agg #[.int .i64 x.1, .int .i64 x.2]) ?y92 ?r92
                case y92 => (intro u hu; exact run_load_op 39 _ rfl ⟨xb, 0, none⟩ _ rfl (HXc.out u hu) (aggCell u) infoCell2)
                simp only [Act.put, List.setIfInBounds_toArray, List.set_cons_zero, List.set_cons_succ]
                refine take_held 9 S0 rfl (by kernel_rfl) (by kernel_rfl) (by kernel_rfl) (fun _ _ _ h => h) (by kernel_rfl) (v := ?v93) ?y93 ?r93
                case y93 => (intro u hu; go_simp; try rfl)
                simp only [Act.put, List.setIfInBounds_toArray, List.set_cons_zero, List.set_cons_succ]
                refine take_held 10 S0 rfl (by kernel_rfl) (by kernel_rfl) (by kernel_rfl) (fun _ _ _ h => h) (by kernel_rfl) (v := .int .i64 c.height) ?y94 ?r94
                case y94 => (intro u hu; have zz := HC2h.out u hu; go_simp; try rfl)
                simp only [Act.put, List.setIfInBounds_toArray, List.set_cons_zero, List.set_cons_succ]
                refine wpAnyH_ready (rs := [7]) (by kernel_rfl) (by simp) (AllReadyH.cons ((nth_eq _ 7).trans rfl) ?_ AllReadyH.nil)
                intro K' hK
                refine call_in hK (by kernel_rfl) 44 #[v4, .agg #[.int .i64 x.1, .int .i64 x.2]] (by go_simp) _ (HBi.out _ S0) ?_
                rintro vb x1 ⟨hLb, b1⟩
                have S1 : Below wx.heap.size wx x1 := bcat S0 b1 (Nat.le_refl _)
                obtain ⟨ba, bc, hvb, _⟩ := hLb.form
                rw [HLen.out] at hvb
                subst hvb
                refine ⟨S1, ?_⟩
                simp only [Act.put, List.setIfInBounds_toArray, List.set_cons_zero, List.set_cons_succ]
                refine take_held 8 S1 rfl (by kernel_rfl) (by kernel_rfl) (by kernel_rfl) (fun _ _ _ h => h) (by kernel_rfl) (v := ?v95) ?y95 ?r95
                case y95 => (intro u hu; go_simp; try rfl)
                simp only [Act.put, List.setIfInBounds_toArray, List.set_cons_zero, List.set_cons_succ]
                refine take_held 11 S1 rfl (by kernel_rfl) (by kernel_rfl) (by kernel_rfl) (fun _ _ _ h => h) (by kernel_rfl) (v := .bool (decide (c.height ≤ (ln : Int)))) ?y96 ?r96
                case y96 => (intro u hu; go_simp; try rfl)
                simp only [Act.put, List.setIfInBounds_toArray, List.set_cons_zero, List.set_cons_succ]
                refine take_held 12 S1 rfl (by kernel_rfl) (by kernel_rfl) (by kernel_rfl) (fun _ _ _ h => h) (by kernel_rfl) (v := ?v97) ?y97 ?r97
                case y97 => (intro u hu; go_simp; try rfl)
                simp only [Act.put, List.setIfInBounds_toArray, List.set_cons_zero, List.set_cons_succ]
                refine take_held 13 S1 rfl (by kernel_rfl) (by kernel_rfl) (by kernel_rfl) (fun _ _ _ h => h) (by kernel_rfl) (v := ?v98) ?y98 ?r98
                case y98 => (intro u hu; go_simp; try rfl)
                simp only [Act.put, List.setIfInBounds_toArray, List.set_cons_zero, List.set_cons_succ]
                refine done_held (by kernel_rfl) ?_ _
                have HBc : Hid (Below wx.heap.size wx x1) := S1
                clear S0 S1 b1 hLb HXc HFc HC6 HC2h HBi
                generalize hi0 : decide (c.height ≤ (ln : Int)) = i0 at *
                clear hi0
                generalize hwz : x1 = wz at *
                clear hwz
                go_wp2_with fail
                go_loopw [15, 16] (fun iv jv wq => ∃ j : Nat, j ≤ tn ∧ jv = .int .i64 j ∧ iv = .bool (i0 || decide (x ∈ tl.take j)) ∧ Hid (Below wx.heap.size wx wq)) (fun _ jv _ => tn - (intOf jv).toNat)
                case atStart => exact ⟨0, Nat.zero_le _, rfl, by simp, HBc⟩
                case round =>
                  clear HBc
                  obtain ⟨j, hj, rfl, rfl, HBj⟩ := hrel
                  generalize hib : (i0 || decide (x ∈ tl.take j)) = ib at *
                  have HIb : Hid ((i0 || decide (x ∈ tl.take j)) = ib) := hib
                  clear hib
                  have hxr := (HBj.out.block _ (lt_of_heap HXb.out)).trans HXb.out
                  by_cases hjt : j < tn
                  · have hd3 : decide ((j : Int) < (tn : Int)) = true := decide_eq_true (by omega)
                    have hjl : j < tl.length := by rw [HTn.out]; exact hjt
                    obtain ⟨tp, cs, cap3, hv3, htF, hcs, hrd3⟩ := (HT.out _ (bcat (bcat HB7.out HBx.out (Nat.le_refl _)) HBj.out (Nat.le_refl _))).item hjl
                    have e2 : cs = #[Value.int .i64 (tl[j]'hjl).1, .int .i64 (tl[j]'hjl).2] := hcs
                    subst e2
                    have HTj : Hid (tl.take (j + 1) = tl.take j ++ [tl[j]'hjl]) := by show _ = _; rw [List.take_add_one, List.getElem?_eq_getElem hjl]; rfl
                    generalize tl[j]'hjl = tk at *
                    obtain ⟨rfl, rfl⟩ : ta = some tp ∧ tc = cap3 := by injection hv3 with h1 h2 h3; exact ⟨h1, h3⟩
                    have hjn : (j : Int) < (tn : Int) := by omega
                    have ltp : tp.block < wr.heap.size := by have := hO _ htF; have := (bcat (bcat HB7.out HBx.out (Nat.le_refl _)) HBj.out (Nat.le_refl _)).size; omega
                    have HTk : Hid (∀ u, Below wr.heap.size wr u → ∀ q z, #[Value.int .i64 tk.1, .int .i64 tk.2][q]? = some z → u.cell? ((tp.add (j * 2)).add q) = some z) := fun u hu q z hq => (cell_same (by rw [block_add, block_add]; exact hu.block _ ltp)).trans (hrd3 q z hq)
                    have HXr : Hid (∀ u, Below wr.heap.size wr u → ∀ q z, #[.int .i64 x.1, .int .i64 x.2][q]? = some z → u.cell? ((⟨xb, 0, none⟩ : Addr).add q) = some z) := fun u hu => row_below hxr hu
                    have R0 : Below wr.heap.size wr wr.drew := (Below.refl _ _).drew
                    have HBn : Hid (Below wx.heap.size wx wr.drew) := bcat HBj.out R0 (Nat.le_refl _)
                    have HNx : Hid ((i0 || decide (x ∈ tl.take (j + 1))) = (ib || decide (tk = x))) := by
                      show _ = _
                      rw [HTj.out, ← HIb.out, Bool.or_assoc]
                      congr 1
                      by_cases q1 : x ∈ tl.take j <;> by_cases q2 : tk = x <;> simp [q1, q2, eq_comm]
                      exact fun e => q2 e.symm
                    clear hv3 hrd3 hcs htF hxr
                    cases ib with
                    | true =>
                      go_upto_region 17 with fail
                      refine start_held (S := fun u => Below wr.heap.size wr u) 10 rfl (by kernel_rfl) R0 ?_
                      simp only [Array.replicate_succ, Array.replicate_zero, List.push_toArray, List.nil_append, List.cons_append]
                      refine take_held 0 R0 rfl (by kernel_rfl) (by kernel_rfl) (by kernel_rfl) (fun _ _ _ h => h) (by kernel_rfl) (v := ?v122) ?y122 ?r122
                      case y122 => (intro u hu; go_simp; try rfl)
                      simp only [Act.put, List.setIfInBounds_toArray, List.set_cons_zero, List.set_cons_succ]
                      refine take_held 1 R0 rfl (by kernel_rfl) (by kernel_rfl) (by kernel_rfl) (fun _ _ _ h => h) (by kernel_rfl) (v := ?v123) ?y123 ?r123
                      case y123 => (intro u hu; go_simp; try rfl)
                      simp only [Act.put, List.setIfInBounds_toArray, List.set_cons_zero, List.set_cons_succ]
                      refine skip_held 2 R0 rfl (by kernel_rfl) (by kernel_rfl) (by kernel_rfl) (fun _ _ _ h => h) (by kernel_rfl) ?_
                      simp only [Act.put, List.setIfInBounds_toArray, List.set_cons_zero, List.set_cons_succ]
                      refine skip_held 3 R0 rfl (by kernel_rfl) (by kernel_rfl) (by kernel_rfl) (fun _ _ _ h => h) (by kernel_rfl) ?_
                      simp only [Act.put, List.setIfInBounds_toArray, List.set_cons_zero, List.set_cons_succ]
                      refine skip_held 4 R0 rfl (by kernel_rfl) (by kernel_rfl) (by kernel_rfl) (fun _ _ _ h => h) (by kernel_rfl) ?_
                      simp only [Act.put, List.setIfInBounds_toArray, List.set_cons_zero, List.set_cons_succ]
                      refine skip_held 5 R0 rfl (by kernel_rfl) (by kernel_rfl) (by kernel_rfl) (fun _ _ _ h => h) (by kernel_rfl) ?_
                      simp only [Act.put, List.setIfInBounds_toArray, List.set_cons_zero, List.set_cons_succ]
                      refine skip_held 6 R0 rfl (by kernel_rfl) (by kernel_rfl) (by kernel_rfl) (fun _ _ _ h => h) (by kernel_rfl) ?_
                      simp only [Act.put, List.setIfInBounds_toArray, List.set_cons_zero, List.set_cons_succ]
                      refine skip_held 7 R0 rfl (by kernel_rfl) (by kernel_rfl) (by kernel_rfl) (fun _ _ _ h => h) (by kernel_rfl) ?_
                      simp only [Act.put, List.setIfInBounds_toArray, List.set_cons_zero, List.set_cons_succ]
                      refine take_held 8 R0 rfl (by kernel_rfl) (by kernel_rfl) (by kernel_rfl) (fun _ _ _ h => h) (by kernel_rfl) (v := ?v124) ?y124 ?r124
                      case y124 => (intro u hu; go_simp; try rfl)
                      simp only [Act.put, List.setIfInBounds_toArray, List.set_cons_zero, List.set_cons_succ]
                      refine take_held 9 R0 rfl (by kernel_rfl) (by kernel_rfl) (by kernel_rfl) (fun _ _ _ h => h) (by kernel_rfl) (v := ?v125) ?y125 ?r125
                      case y125 => (intro u hu; go_simp; try rfl)
                      simp only [Act.put, List.setIfInBounds_toArray, List.set_cons_zero, List.set_cons_succ]
                      refine done_held (by kernel_rfl) ?_ _
                      go_wp2_with fail
                      go_roundw
                      case rel => exact ⟨j + 1, by omega, by go_num, by rw [HNx.out]; rfl, HBn⟩
                      case measure => simp only [intOf]; omega
                    | false =>
                      go_upto_region 17 with fail
                      refine start_held (S := fun u => Below wr.heap.size wr u) 10 rfl (by kernel_rfl) R0 ?_
                      simp only [Array.replicate_succ, Array.replicate_zero, List.push_toArray, List.nil_append, List.cons_append]
                      refine take_held 0 R0 rfl (by kernel_rfl) (by kernel_rfl) (by kernel_rfl) (fun _ _ _ h => h) (by kernel_rfl) (v := ?v126) ?y126 ?r126
                      case y126 => (intro u hu; go_simp; try rfl)
                      simp only [Act.put, List.setIfInBounds_toArray, List.set_cons_zero, List.set_cons_succ]
                      refine take_held 1 R0 rfl (by kernel_rfl) (by kernel_rfl) (by kernel_rfl) (fun _ _ _ h => h) (by kernel_rfl) (v := ?v127) ?y127 ?r127
                      case y127 => (intro u hu; go_simp; try rfl)
                      simp only [Act.put, List.setIfInBounds_toArray, List.set_cons_zero, List.set_cons_succ]
                      refine take_held 2 R0 rfl (by kernel_rfl) (by kernel_rfl) (by kernel_rfl) (fun _ _ _ h => h) (by kernel_rfl) (v := ?v128) ?y128 ?r128
                      case y128 => (intro u hu; go_simp; try rfl)
                      simp only [Act.put, List.setIfInBounds_toArray, List.set_cons_zero, List.set_cons_succ]
                      refine take_held 3 R0 rfl (by kernel_rfl) (by kernel_rfl) (by kernel_rfl) (fun _ _ _ h => h) (by kernel_rfl) (v := ?v129) ?y129 ?r129
                      case y129 => (intro u hu; go_simp; try rfl)
                      simp only [Act.put, List.setIfInBounds_toArray, List.set_cons_zero, List.set_cons_succ]
                      refine take_held 4 R0 rfl (by kernel_rfl) (by kernel_rfl) (by kernel_rfl) (fun _ _ _ h => h) (by kernel_rfl) (v := ?v130) ?y130 ?r130
                      case y130 => (intro u hu; go_simp; try rfl)
                      simp only [Act.put, List.setIfInBounds_toArray, List.set_cons_zero, List.set_cons_succ]
                      refine take_held 5 R0 rfl (by kernel_rfl) (by kernel_rfl) (by kernel_rfl) (fun _ _ _ h => h) (by kernel_rfl) (v := .agg #[.int .i64 tk.1, .int .i64 tk.2]) ?y131 ?r131
                      case y131 => (intro u hu; exact run_load_op 39 _ rfl (tp.add (j * 2)) _ rfl (HTk.out u hu) (aggCell u) infoCell2)
                      simp only [Act.put, List.setIfInBounds_toArray, List.set_cons_zero, List.set_cons_succ]
                      refine take_held 6 R0 rfl (by kernel_rfl) (by kernel_rfl) (by kernel_rfl) (fun _ _ _ h => h) (by kernel_rfl) (v := .agg #[.int .i64 x.1, .int .i64 x.2]) ?y132 ?r132
                      case y132 => (intro u hu; exact run_load_op 39 _ rfl ⟨xb, 0, none⟩ _ rfl (HXr.out u hu) (aggCell u) infoCell2)
                      simp only [Act.put, List.setIfInBounds_toArray, List.set_cons_zero, List.set_cons_succ]
                      refine take_held 7 R0 rfl (by kernel_rfl) (by kernel_rfl) (by kernel_rfl) (fun _ _ _ h => h) (by kernel_rfl) (v := .bool (decide (tk = x))) ?y133 ?r133
                      case y133 => (intro u hu; exact run_eql_cell (.tmp 95) (.tmp 96) rfl tk.1 tk.2 x.1 x.2 rfl rfl)
                      simp only [Act.put, List.setIfInBounds_toArray, List.set_cons_zero, List.set_cons_succ]
                      refine take_held 8 R0 rfl (by kernel_rfl) (by kernel_rfl) (by kernel_rfl) (fun _ _ _ h => h) (by kernel_rfl) (v := ?v134) ?y134 ?r134
                      case y134 => (intro u hu; go_simp; try rfl)
                      simp only [Act.put, List.setIfInBounds_toArray, List.set_cons_zero, List.set_cons_succ]
                      refine take_held 9 R0 rfl (by kernel_rfl) (by kernel_rfl) (by kernel_rfl) (fun _ _ _ h => h) (by kernel_rfl) (v := ?v135) ?y135 ?r135
                      case y135 => (intro u hu; go_simp; try rfl)
                      simp only [Act.put, List.setIfInBounds_toArray, List.set_cons_zero, List.set_cons_succ]
                      refine done_held (by kernel_rfl) ?_ _
                      go_wp2_with fail
                      go_roundw
                      case rel => exact ⟨j + 1, by omega, by go_num, by rw [HNx.out, Bool.false_or], HBn⟩
                      case measure => simp only [intOf]; omega
                  · obtain rfl : j = tn := by omega
                    have hd3 : decide ((j : Int) < (j : Int)) = false := decide_eq_false (by omega)
                    have HIn : Hid (inB c.stacks c.height tl f x = ib) := by show _ = _; rw [HI0.out, ← HIb.out, List.take_of_length_le (by rw [HTn.out]; exact Nat.le_refl _)]
                    have HBy : Hid (Below w7.heap.size w7 wr) := bcat HBx.out HBj.out (Nat.le_refl _)
                    have hpr := (HBy.out.block _ (lt_of_heap HK7.out.2.2)).trans HK7.out.2.2
                    have hfr := (HBy.out.block _ (lt_of_heap HK7.out.2.1)).trans HK7.out.2.1
                    have hkk : decide ((k : Int) < (n : Int)) = true := decide_eq_true (by omega)
                    cases ib with
                    | true =>
                      have HAny : Hid (((L.take (k + 1)).any fun x => !inB c.stacks c.height tl f x) = sm) := by show _ = _; rw [HTk1.out, List.any_append, HSv.out]; simp [HIn.out]
                      have hne : x ≠ p := fun e => by
                        have := (inB_may (HMm.out)).2 (by rw [e]; exact (places_cons HND.out HPs.out).1)
                        rw [HIn.out] at this
                        cases this
                      have hdn := decide_eq_false hne
                      go_wp2_with (first
                        | (refine wpList_load_want (by kernel_rfl) 39 (.tmp 14) rfl xb rfl 39 #[.int .i64 x.1, .int .i64 x.2] (0, 0) hxr Try.underlying39 infoCell2 ?_)
                        | (refine wpList_load_want (by kernel_rfl) 39 (.tmp 9) rfl pb rfl 39 #[.int .i64 p.1, .int .i64 p.2] (0, 0) hpr Try.underlying39 infoCell2 ?_)
                        | (refine wpList_val_wantN (by kernel_rfl) (.bool false) ((run_eql_cell (.tmp 103) (.tmp 104) rfl x.1 x.2 p.1 p.2 rfl rfl).trans (by rw [show decide ((x.1, x.2) = (p.1, p.2)) = false from hdn])) ?_))
                      go_roundw
                      case rel => exact ⟨k + 1, by omega, by go_num, by rw [HAny.out], HBy⟩
                      case measure => simp only [intOf]; omega
                    | false =>
                      have HAny : Hid (((L.take (k + 1)).any fun x => !inB c.stacks c.height tl f x) = true) := by show _ = _; rw [HTk1.out, List.any_append]; simp [HIn.out]
                      have Y0 : Below wr.heap.size wr wr.drew := (Below.refl _ _).drew
                      have HXy : Hid (∀ u, Below wr.heap.size wr u → ∀ q z, #[.int .i64 x.1, .int .i64 x.2][q]? = some z → u.cell? ((⟨xb, 0, none⟩ : Addr).add q) = some z) := fun u hu => row_below hxr hu
                      have HFy : Hid (∀ u, Below wr.heap.size wr u → ∀ q z, #[.int .i64 f.1, .int .i64 f.2][q]? = some z → u.cell? ((⟨w.heap.size + 1, 0, none⟩ : Addr).add q) = some z) := fun u hu => row_below hfr hu
                      have HPy : Hid (∀ u, Below wr.heap.size wr u → ∀ q z, #[.int .i64 p.1, .int .i64 p.2][q]? = some z → u.cell? ((⟨pb, 0, none⟩ : Addr).add q) = some z) := fun u hu => row_below hpr hu
                      have hle := (places_cons HND.out HPs.out).2 x ((inB_may HMm.out).1 HIn.out)
                      have hlt : decide (awayP f x < awayP f p) = false := decide_eq_false (by omega)
                      clear hxr hpr hfr
                      go_upto_region 22 with fail
                      refine start_held (S := fun u => Below wr.heap.size wr u) 11 rfl (by kernel_rfl) Y0 ?_
                      simp only [Array.replicate_succ, Array.replicate_zero, List.push_toArray, List.nil_append, List.cons_append]
                      refine take_held 0 Y0 rfl (by kernel_rfl) (by kernel_rfl) (by kernel_rfl) (fun _ _ _ h => h) (by kernel_rfl) (v := ?v136) ?y136 ?r136
                      case y136 => (intro u hu; go_simp; try rfl)
                      simp only [Act.put, List.setIfInBounds_toArray, List.set_cons_zero, List.set_cons_succ]
                      refine take_held 1 Y0 rfl (by kernel_rfl) (by kernel_rfl) (by kernel_rfl) (fun _ _ _ h => h) (by kernel_rfl) (v := .bool true) ?y137 ?r137
                      case y137 => (intro u hu; go_simp; try rfl)
                      simp only [Act.put, List.setIfInBounds_toArray, List.set_cons_zero, List.set_cons_succ]
                      refine take_held 2 Y0 rfl (by kernel_rfl) (by kernel_rfl) (by kernel_rfl) (fun _ _ _ h => h) (by kernel_rfl) (v := ?v138) ?y138 ?r138
                      case y138 => (intro u hu; go_simp; try rfl)
                      simp only [Act.put, List.setIfInBounds_toArray, List.set_cons_zero, List.set_cons_succ]
                      refine take_held 3 Y0 rfl (by kernel_rfl) (by kernel_rfl) (by kernel_rfl) (fun _ _ _ h => h) (by kernel_rfl) (v := .agg #[.int .i64 f.1, .int .i64 f.2]) ?y139 ?r139
                      case y139 => (intro u hu; exact run_load_op 39 _ rfl ⟨w.heap.size + 1, 0, none⟩ _ rfl (HFy.out u hu) (aggCell u) infoCell2)
                      simp only [Act.put, List.setIfInBounds_toArray, List.set_cons_zero, List.set_cons_succ]
                      refine take_held 4 Y0 rfl (by kernel_rfl) (by kernel_rfl) (by kernel_rfl) (fun _ _ _ h => h) (by kernel_rfl) (v := .agg #[.int .i64 x.1, .int .i64 x.2]) ?y140 ?r140
                      case y140 => (intro u hu; exact run_load_op 39 _ rfl ⟨xb, 0, none⟩ _ rfl (HXy.out u hu) (aggCell u) infoCell2)
                      simp only [Act.put, List.setIfInBounds_toArray, List.set_cons_zero, List.set_cons_succ]
                      refine take_held 6 Y0 rfl (by kernel_rfl) (by kernel_rfl) (by kernel_rfl) (fun _ _ _ h => h) (by kernel_rfl) (v := .agg #[.int .i64 f.1, .int .i64 f.2]) ?y141 ?r141
                      case y141 => (intro u hu; exact run_load_op 39 _ rfl ⟨w.heap.size + 1, 0, none⟩ _ rfl (HFy.out u hu) (aggCell u) infoCell2)
                      simp only [Act.put, List.setIfInBounds_toArray, List.set_cons_zero, List.set_cons_succ]
                      refine take_held 7 Y0 rfl (by kernel_rfl) (by kernel_rfl) (by kernel_rfl) (fun _ _ _ h => h) (by kernel_rfl) (v := .agg #[.int .i64 p.1, .int .i64 p.2]) ?y142 ?r142
                      case y142 => (intro u hu; exact run_load_op 39 _ rfl ⟨pb, 0, none⟩ _ rfl (HPy.out u hu) (aggCell u) infoCell2)
                      simp only [Act.put, List.setIfInBounds_toArray, List.set_cons_zero, List.set_cons_succ]
                      refine wpAnyH_ready (rs := [5]) (by kernel_rfl) (by simp) (AllReadyH.cons ((nth_eq _ 5).trans rfl) ?_ AllReadyH.nil)
                      intro K' hK
                      refine call_in hK (by kernel_rfl) 50 #[.agg #[.int .i64 f.1, .int .i64 f.2], .agg #[.int .i64 x.1, .int .i64 x.2]] (by go_simp) _ (away_any f.1 f.2 x.1 x.2 _) ?_
                      rintro v1_ y1 ⟨rfl, b1⟩
                      have Y1 : Below wr.heap.size wr y1 := bcat Y0 b1 (Nat.le_refl _)
                      refine ⟨Y1, ?_⟩
                      simp only [Act.put, List.setIfInBounds_toArray, List.set_cons_zero, List.set_cons_succ]
                      refine wpAnyH_ready (rs := [8]) (by kernel_rfl) (by simp) (AllReadyH.cons ((nth_eq _ 8).trans rfl) ?_ AllReadyH.nil)
                      intro K' hK
                      refine call_in hK (by kernel_rfl) 50 #[.agg #[.int .i64 f.1, .int .i64 f.2], .agg #[.int .i64 p.1, .int .i64 p.2]] (by go_simp) _ (away_any f.1 f.2 p.1 p.2 _) ?_
                      rintro v2_ y2 ⟨rfl, b2⟩
                      have Y2 : Below wr.heap.size wr y2 := bcat Y1 b2 (Nat.le_refl _)
                      refine ⟨Y2, ?_⟩
                      simp only [Act.put, List.setIfInBounds_toArray, List.set_cons_zero, List.set_cons_succ]
                      refine take_held 9 Y2 rfl (by kernel_rfl) (by kernel_rfl) (by kernel_rfl) (fun _ _ _ h => h) (by kernel_rfl) (v := .bool false) ?y143 ?r143
                      case y143 => (intro u hu; have zz : decide (awayP (f.1, f.2) (x.1, x.2) < awayP (f.1, f.2) (p.1, p.2)) = false := hlt; go_simp; try rfl)
                      simp only [Act.put, List.setIfInBounds_toArray, List.set_cons_zero, List.set_cons_succ]
                      refine take_held 10 Y2 rfl (by kernel_rfl) (by kernel_rfl) (by kernel_rfl) (fun _ _ _ h => h) (by kernel_rfl) (v := ?v144) ?y144 ?r144
                      case y144 => (intro u hu; go_simp; try rfl)
                      simp only [Act.put, List.setIfInBounds_toArray, List.set_cons_zero, List.set_cons_succ]
                      refine done_held (by kernel_rfl) ?_ _
                      go_wp2_with fail
                      go_roundw
                      case rel => exact ⟨k + 1, by omega, by go_num, by rw [HAny.out], bcat HBy.out Y2 (Nat.le_refl _)⟩
                      case measure => simp only [intOf]; omega
            · obtain rfl : k = n := by omega
              have hd : decide ((k : Int) < (k : Int)) = false := decide_eq_false (by omega)
              have hall : L.take k = L := List.take_of_length_le (by rw [HNn.out]; exact Nat.le_refl _)
              have hsm : sm = true := by
                rw [← HSv.out, hall]
                have h := (places_cons HND.out HPs.out).1
                rw [List.any_eq_true]
                exact ⟨p, h.1, by rw [(inB_may h.1).2 h]; rfl⟩
              subst hsm
              go_wp2_with (go_at_call 37; refine (awake14_any _).mono ?_; rintro e w9 ⟨rw9, rfl, rfl, b9⟩)
              go_ret
              exact ⟨rfl, bcat (bcat HB7.out HB.out (Nat.le_refl _)) b9 (Nat.le_refl _)⟩

end Go.Proofs.Ytnilbgmmcmjciaa.Dig
