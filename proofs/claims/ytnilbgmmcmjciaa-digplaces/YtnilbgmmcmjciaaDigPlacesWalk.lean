/-
  The place for a bin is what the chapter says.
-/
import Derived.Test.YtnilbgmmcmjciaaDigAwake
import Derived.Test.YtnilbgmmcmjciaaDigRefTop
namespace Go.Proofs.Ytnilbgmmcmjciaa.Dig
set_option linter.unusedVariables false
set_option linter.unusedSimpArgs false
open Go Go.RowKit Go.Shelf Go.Proofs Go.Proofs.Ytnilbgmmcmjciaa.Grid Go.Proofs.Ytnilbgmmcmjciaa.Srt
attribute [local go_sem] Oper.semAt_some

theorem piles_lenP {stks : List Stk} {m : Nat} (h : ∀ s ∈ stks, s.2.length ≤ m) (x : Cell) : (pileOf stks x).length ≤ m := by
  unfold pileOf
  split
  · rename_i s hs
    exact h s (List.mem_of_find?_eq_some hs)
  · exact Nat.zero_le _
theorem wpList_val_wantP {ops : Array Oper} {rest : List Oper} {o : Oper} {a : Act} {w : World} {Q : Exit → Act → World → Prop} (hw : Region.wanted o (yielded ops a.tmps) = true) (v : Value) (hr : (execOp a.eval o).run Try.prog w = .ok (.value v) w)
    (h : wpList Try.prog ops Q rest (a.put o.dst v) w) : wpList Try.prog ops Q (o :: rest) a w :=
  BigFrame.wpList_want hw fun _ hK => by
    unfold Oper.wp
    simp only [hr]
    exact hK _ _ h
set_option maxRecDepth 100000 in
set_option maxHeartbeats 4000000 in
theorem places_all_law (c : Conf) (v1 v2 v3 v4 : Value) (w : World) (hA : ConfAt (Old w) c v1 v2 v3 v4 w) (l1 : c.blocked.length ≤ 8796093022208) (l2 : c.ports.length ≤ 8796093022208) (l3 : c.robots.length ≤ 5864062014805) (l4 : c.stacks.length ≤ 3518437208880) (l5 : ∀ s ∈ c.stacks, s.2.length ≤ 17592186044416) (stks : List Stk) (sa : Option Addr) (sn sc : Nat) (hS : ListAt 3 stackEl (Old w) stks (.slice sa sn sc) w) (hSb : ∀ s ∈ stks, s.2.length ≤ 17592186044416) (hSl : stks.length ≤ 3518437208880) (tl : List Cell) (ta : Option Addr) (tn tc : Nat) (hT : ListAt 2 cellEl (Old w) tl (.slice ta tn tc) w) (fx fy : Int) :
    Calls Try.prog 7 #[.agg #[.int .i64 c.W, .int .i64 c.H, .int .i64 c.height, v1, v2, v3, v4, .int .i64 c.unit, .int .i64 c.accel, .int .i64 c.speed, .int .i64 c.turn, .int .i64 c.hoist, .int .i64 c.queue, .int .i64 c.resend, .int .i64 c.budget, .bool c.back], .slice sa sn sc, .slice ta tn tc, .agg #[.int .i64 fx, .int .i64 fy]] w fun e w' => e = .returned (.bool true) ∧ Below w.heap.size w w' := by
  obtain ⟨f, hf⟩ : ∃ f : Cell, f = (fx, fy) := ⟨_, rfl⟩
  rw [show fx = f.1 by rw [hf], show fy = f.2 by rw [hf]]
  clear hf
  obtain ⟨w2, hw2⟩ : ∃ w2, w2 = (w.alloc (.cells #[.int .i64 c.W, .int .i64 c.H, .int .i64 c.height, v1, v2, v3, v4, .int .i64 c.unit, .int .i64 c.accel, .int .i64 c.speed, .int .i64 c.turn, .int .i64 c.hoist, .int .i64 c.queue, .int .i64 c.resend, .int .i64 c.budget, .bool c.back] 26)).alloc (.cells #[.int .i64 f.1, .int .i64 f.2] 39) := ⟨_, rfl⟩
  have b2 : Below w.heap.size w w2 := by rw [hw2]; exact below_two _ _ _
  have hc2 : w2.heap[w.heap.size]? = some (.cells #[.int .i64 c.W, .int .i64 c.H, .int .i64 c.height, v1, v2, v3, v4, .int .i64 c.unit, .int .i64 c.accel, .int .i64 c.speed, .int .i64 c.turn, .int .i64 c.hoist, .int .i64 c.queue, .int .i64 c.resend, .int .i64 c.budget, .bool c.back] 26 (0, 0)) := by rw [hw2]; exact (alloc_old _ _ _ (by simp)).trans (heap_alloc_new w _)
  have hf2 : w2.heap[w.heap.size + 1]? = some (.cells #[.int .i64 f.1, .int .i64 f.2] 39 (0, 0)) := by rw [hw2]; exact heap_new2 _ _ _
  have hO : ∀ b, Old w b → b < w.heap.size := fun b h => h
  have HA : Hid (∀ u, Below w.heap.size w u → ConfAt (Old w) c v1 v2 v3 v4 u) := fun u b => hA.go hO b
  have HT : Hid (∀ u, Below w.heap.size w u → ListAt 2 cellEl (Old w) tl (.slice ta tn tc) u) := fun u b => hT.go heldCell hO b
  have HS : Hid (∀ u, Below w.heap.size w u → ListAt 3 stackEl (Old w) stks (.slice sa sn sc) u) := fun u b => hS.go heldStack hO b
  have HTn : Hid (tl.length = tn) := by obtain ⟨a, cap, e, _⟩ := hT.form; injection e with _ e2 _; exact e2.symm
  have HSn : Hid (stks.length = sn) := by obtain ⟨a, cap, e, _⟩ := hS.form; injection e with _ e2 _; exact e2.symm
  have HPl : Hid (∀ x, (pileOf stks x).length ≤ 17592186044416) := piles_lenP hSb
  have HSb : Hid (∀ s ∈ stks, s.2.length ≤ 17592186044416) := hSb
  have HL5 : Hid (∀ s ∈ c.stacks, s.2.length ≤ 17592186044416) := l5
  have HBw : Hid (Below w.heap.size w w2) := b2
  have HK2 : Hid (w2.heap[w.heap.size]? = some (.cells #[.int .i64 c.W, .int .i64 c.H, .int .i64 c.height, v1, v2, v3, v4, .int .i64 c.unit, .int .i64 c.accel, .int .i64 c.speed, .int .i64 c.turn, .int .i64 c.hoist, .int .i64 c.queue, .int .i64 c.resend, .int .i64 c.budget, .bool c.back] 26 (0, 0)) ∧ w2.heap[w.heap.size + 1]? = some (.cells #[.int .i64 f.1, .int .i64 f.2] 39 (0, 0))) := ⟨hc2, hf2⟩
  clear hA hT hS hSb l5
  go_enter Try.func7, Try.ntmps7
  go_upto_region 1 with fail
  rw [← hw2]
  clear hw2
  by_cases h1 : (100 : Int) < (sn : Int)
  · have hd1 := decide_eq_true h1
    go_wp2_with (go_at_call 37; refine (awake14_any _).mono ?_; rintro e w9 ⟨rw9, rfl, rfl, b9⟩)
    go_ret
    exact ⟨rfl, bcat HBw.out b9 (Nat.le_refl _)⟩
  · have hd1 := decide_eq_false h1
    by_cases h2 : (100 : Int) < (tn : Int)
    · have hd2 := decide_eq_true h2
      go_wp2_with (go_at_call 37; refine (awake14_any _).mono ?_; rintro e w9 ⟨rw9, rfl, rfl, b9⟩)
      go_ret
      exact ⟨rfl, bcat HBw.out b9 (Nat.le_refl _)⟩
    · have hd2 := decide_eq_false h2
      go_upto_region 3 with fail
      have HCr : Hid (∀ u, Below w2.heap.size w2 u → ∀ j z, #[.int .i64 c.W, .int .i64 c.H, .int .i64 c.height, v1, v2, v3, v4, .int .i64 c.unit, .int .i64 c.accel, .int .i64 c.speed, .int .i64 c.turn, .int .i64 c.hoist, .int .i64 c.queue, .int .i64 c.resend, .int .i64 c.budget, .bool c.back][j]? = some z → u.cell? ((⟨w.heap.size, 0, none⟩ : Addr).add j) = some z) := fun u hu => row_below hc2 hu
      have HFr : Hid (∀ u, Below w2.heap.size w2 u → ∀ j z, #[.int .i64 f.1, .int .i64 f.2][j]? = some z → u.cell? ((⟨w.heap.size + 1, 0, none⟩ : Addr).add j) = some z) := fun u hu => row_below hf2 hu
      have S0 : Below w2.heap.size w2 w2.drew := (Below.refl _ _).drew
      clear hd1 hd2 hc2 hf2 b2
      refine wp_via (fun a' w' => ∃ pb q ee z24 z26 z28, w'.heap[pb]? = some (.cells #[.int .i64 q.1, .int .i64 q.2] 39 (0, 0)) ∧ (newP c = none → q = (0, 0) ∧ ee = 5) ∧ (∀ G, newP c = some G → ∃ P, q = placeP P ∧ ee = placeE P ∧ Places stks c.height (stkUpTo c.W G.uses G.uses.length) tl f P) ∧ Below w2.heap.size w2 w' ∧ w2.heap.size ≤ pb ∧ a' = { tmps := #[.agg #[.int .i64 c.W, .int .i64 c.H, .int .i64 c.height, v1, v2, v3, v4, .int .i64 c.unit, .int .i64 c.accel, .int .i64 c.speed, .int .i64 c.turn, .int .i64 c.hoist, .int .i64 c.queue, .int .i64 c.resend, .int .i64 c.budget, .bool c.back], .slice sa sn sc, .slice ta tn tc, .agg #[.int .i64 f.1, .int .i64 f.2], .pointer (some ⟨w.heap.size, 0, none⟩), undef, undef, .pointer (some ⟨w.heap.size + 1, 0, none⟩), .bool false, .pointer (some ⟨pb, 0, none⟩), .int .i64 ee, undef, undef, .slice sa sn sc, .int .i64 sn, .bool false, .bool false, .slice ta tn tc, .int .i64 tn, .bool false, .bool false, undef, .tuple #[.agg #[.int .i64 q.1, .int .i64 q.2], .int .i64 ee], .agg #[.int .i64 c.W, .int .i64 c.H, .int .i64 c.height, v1, v2, v3, v4, .int .i64 c.unit, .int .i64 c.accel, .int .i64 c.speed, .int .i64 c.turn, .int .i64 c.hoist, .int .i64 c.queue, .int .i64 c.resend, .int .i64 c.budget, .bool c.back], z24, .slice sa sn sc, z26, .slice ta tn tc, z28, .agg #[.int .i64 f.1, .int .i64 f.2], .tuple #[.agg #[.int .i64 q.1, .int .i64 q.2], .int .i64 ee], .agg #[.int .i64 q.1, .int .i64 q.2], .int .i64 ee, undef, undef, undef, undef, undef, undef, undef, undef, undef, undef, undef, undef, undef, undef, undef, undef, undef, undef, undef, undef, undef, undef, undef, undef, undef, undef, undef, undef, undef, undef, undef, undef], defers := [] }) ?reg3 ?rest3
      case reg3 =>
        refine start_held (S := fun u => Below w2.heap.size w2 u) 14 rfl (by kernel_rfl) S0 ?_
        simp only [Array.replicate_succ, Array.replicate_zero, List.push_toArray, List.nil_append, List.cons_append]
        refine take_held 0 S0 rfl (by kernel_rfl) (by kernel_rfl) (by kernel_rfl) (fun _ _ _ h => h) (by kernel_rfl) (v := .agg #[.int .i64 c.W, .int .i64 c.H, .int .i64 c.height, v1, v2, v3, v4, .int .i64 c.unit, .int .i64 c.accel, .int .i64 c.speed, .int .i64 c.turn, .int .i64 c.hoist, .int .i64 c.queue, .int .i64 c.resend, .int .i64 c.budget, .bool c.back]) ?y0 ?r0
        case y0 => (intro u hu; exact run_load_op 26 _ rfl ⟨w.heap.size, 0, none⟩ _ rfl (HCr.out u hu) (aggConf u) info_conf)
        simp only [Act.put, List.setIfInBounds_toArray, List.set_cons_zero, List.set_cons_succ]
        refine take_held 2 S0 rfl (by kernel_rfl) (by kernel_rfl) (by kernel_rfl) (fun _ _ _ h => h) (by kernel_rfl) (v := ?v1) ?y1 ?r1
        case y1 => (intro u hu; go_simp; try rfl)
        simp only [Act.put, List.setIfInBounds_toArray, List.set_cons_zero, List.set_cons_succ]
        refine take_held 4 S0 rfl (by kernel_rfl) (by kernel_rfl) (by kernel_rfl) (fun _ _ _ h => h) (by kernel_rfl) (v := ?v2) ?y2 ?r2
        case y2 => (intro u hu; go_simp; try rfl)
        simp only [Act.put, List.setIfInBounds_toArray, List.set_cons_zero, List.set_cons_succ]
        refine take_held 6 S0 rfl (by kernel_rfl) (by kernel_rfl) (by kernel_rfl) (fun _ _ _ h => h) (by kernel_rfl) (v := .agg #[.int .i64 f.1, .int .i64 f.2]) ?y3 ?r3
        case y3 => (intro u hu; exact run_load_op 39 _ rfl ⟨w.heap.size + 1, 0, none⟩ _ rfl (HFr.out u hu) (aggCell u) infoCell2)
        simp only [Act.put, List.setIfInBounds_toArray, List.set_cons_zero, List.set_cons_succ]
        generalize w2.drew = x0 at *
        refine wpAnyH_ready (rs := [1, 11]) (by kernel_rfl) (by simp) (AllReadyH.cons ((nth_eq _ 1).trans rfl) ?_ (AllReadyH.cons ((nth_eq _ 11).trans rfl) ?_ AllReadyH.nil))
        · intro K1 hK1
          refine call_in hK1 (by kernel_rfl) 15 #[.agg #[.int .i64 c.W, .int .i64 c.H, .int .i64 c.height, v1, v2, v3, v4, .int .i64 c.unit, .int .i64 c.accel, .int .i64 c.speed, .int .i64 c.turn, .int .i64 c.hoist, .int .i64 c.queue, .int .i64 c.resend, .int .i64 c.budget, .bool c.back]] (by go_simp) _ (copyConf_any (Old w) c v1 v2 v3 v4 x0 (HA.out _ (bcat HBw.out S0 (Nat.le_refl _))) (fun b hb => Nat.lt_of_lt_of_le (hO b hb) (bcat HBw.out S0 (Nat.le_refl _)).size) l1 l2 l3 l4 HL5.out) ?_
          rintro rc x1 ⟨⟨k1, k2, k3, k4, rfl, hC1⟩, b1⟩
          have S1 : Below w2.heap.size w2 x1 := bcat S0 b1 (Nat.le_refl _)
          have HC1 : Hid (∀ u, Below x1.heap.size x1 u → ConfAt (Since x0.heap.size x1) c k1 k2 k3 k4 u) := fun u b => hC1.go (fun q h => h.2) b
          have HC1f : Hid (∀ u, Below x1.heap.size x1 u → ∀ b, Since x0.heap.size x1 b → b < u.heap.size) := fun u b q h => Nat.lt_of_lt_of_le h.2 b.size
          obtain ⟨FC1, hFC1⟩ : ∃ F, F = Since x0.heap.size x1 := ⟨_, rfl⟩
          rw [← hFC1] at HC1 HC1f
          clear hFC1 hC1
          refine ⟨S1, ?_⟩
          simp only [Act.put, List.setIfInBounds_toArray, List.set_cons_zero, List.set_cons_succ]
          have AC_1 : Below x1.heap.size x1 x1 := Below.refl _ _
          refine wpAnyH_ready (rs := [3, 11]) (by kernel_rfl) (by simp) (AllReadyH.cons ((nth_eq _ 3).trans rfl) ?_ (AllReadyH.cons ((nth_eq _ 11).trans rfl) ?_ AllReadyH.nil))
          · intro K2 hK2
            refine call_in hK2 (by kernel_rfl) 36 #[.slice sa sn sc] (by go_simp) _ (copyStacksC_any (Old w) stks (.slice sa sn sc) x1 (HS.out _ (bcat HBw.out S1 (Nat.le_refl _))) (fun b hb => Nat.lt_of_lt_of_le (hO b hb) (bcat HBw.out S1 (Nat.le_refl _)).size) hSl HSb.out) ?_
            rintro rs x2 ⟨hS1, b2⟩
            have S2 : Below w2.heap.size w2 x2 := bcat S1 b2 (Nat.le_refl _)
            have AC_2 := bcat AC_1 b2 (Nat.le_refl _)
            obtain ⟨ka, kc, hks, _⟩ := hS1.form
            rw [HSn.out] at hks
            subst hks
            have HS1 : Hid (∀ u, Below x2.heap.size x2 u → ListAt 3 stackElC (Since x1.heap.size x2) stks (.slice ka sn kc) u) := fun u b => hS1.go heldStackC (fun q h => h.2) b
            have HS1f : Hid (∀ u, Below x2.heap.size x2 u → ∀ b, Since x1.heap.size x2 b → b < u.heap.size) := fun u b q h => Nat.lt_of_lt_of_le h.2 b.size
            obtain ⟨FS1, hFS1⟩ : ∃ F, F = Since x1.heap.size x2 := ⟨_, rfl⟩
            rw [← hFS1] at HS1 HS1f
            clear hFS1 hS1
            refine ⟨S2, ?_⟩
            simp only [Act.put, List.setIfInBounds_toArray, List.set_cons_zero, List.set_cons_succ]
            have AS_2 : Below x2.heap.size x2 x2 := Below.refl _ _
            refine wpAnyH_ready (rs := [5, 11]) (by kernel_rfl) (by simp) (AllReadyH.cons ((nth_eq _ 5).trans rfl) ?_ (AllReadyH.cons ((nth_eq _ 11).trans rfl) ?_ AllReadyH.nil))
            · intro K3 hK3
              obtain ⟨vt, x3, hrun3, own3, grow3, at3⟩ := run_app (xs := ([] : List Cell)) kindCell (World.ownsRow_nil x2 x2.heap.size 39 2) (HT.out _ (bcat HBw.out S2 (Nat.le_refl _))) (by have := HTn.out; simp only [List.length_nil]; omega) (by have := HTn.out; unfold maxLen; simp only [List.length_nil]; omega) (Nat.le_refl _) 22
              have b3 : Below x2.heap.size x2 x3 := below_none grow3
              have S3 : Below w2.heap.size w2 x3 := bcat S2 b3 (Nat.le_refl _)
              have AC_3 := bcat AC_2 b3 (Nat.le_refl _)
              have AS_3 := bcat AS_2 b3 (Nat.le_refl _)
              rw [List.nil_append] at own3
              have HOvt : Hid (∀ u, Below x3.heap.size x3 u → u.ownsRow x2.heap.size 39 2 vt tl.length (rowL cellL tl)) := fun u b => owns_go own3 b
              have HOvtl : Hid (x2.heap.size ≤ x3.heap.size) := b3.size
              refine value_in hK3 (by kernel_rfl) vt x3 (run_app_op (t := 22) (.const (.slice none 0 0)) (.tmp 27) rfl (.slice none 0 0) (.slice ta tn tc) vt rfl rfl hrun3) S3 ?_
              simp only [Act.put, List.setIfInBounds_toArray, List.set_cons_zero, List.set_cons_succ]
              have AT_3 : Below x3.heap.size x3 x3 := Below.refl _ _
              refine wpAnyH_ready (rs := [7, 11]) (by kernel_rfl) (by simp) (AllReadyH.cons ((nth_eq _ 7).trans rfl) ?_ (AllReadyH.cons ((nth_eq _ 11).trans rfl) ?_ AllReadyH.nil))
              · intro K4 hK4
                have hLt := list_of_own kindCell.len (HOvt.out _ AT_3)
                obtain ⟨qa, qc, hq, _⟩ := hLt.form
                subst hq
                have hln : tl.length ≤ 1000000 := by have := HTn.out; omega
                refine call_in hK4 (by kernel_rfl) 42 #[.agg #[.int .i64 c.W, .int .i64 c.H, .int .i64 c.height, k1, k2, k3, k4, .int .i64 c.unit, .int .i64 c.accel, .int .i64 c.speed, .int .i64 c.turn, .int .i64 c.hoist, .int .i64 c.queue, .int .i64 c.resend, .int .i64 c.budget, .bool c.back], .slice ka sn kc, .slice qa tl.length qc, .agg #[.int .i64 f.1, .int .i64 f.2]] (by go_simp) _ (place_all (HC1.out _ AC_3) (HC1f.out _ AC_3) l1 l2 l3 l4 FS1 stks ka sn kc (HS1.out _ AS_3) (HS1f.out _ AS_3) (by omega) HPl.out _ tl _ _ _ hLt (fun q h => h.2) hln f) ?_
                rintro rp x4 ⟨⟨q, ee, rfl, hQ1, hQ2⟩, b4⟩
                have S4 : Below w2.heap.size w2 x4 := bcat S3 b4 (Nat.le_refl _)
                have AC_4 := bcat AC_3 b4 (Nat.le_refl _)
                have AS_4 := bcat AS_3 b4 (Nat.le_refl _)
                have AT_4 := bcat AT_3 b4 (Nat.le_refl _)
                refine ⟨S4, ?_⟩
                simp only [Act.put, List.setIfInBounds_toArray, List.set_cons_zero, List.set_cons_succ]
                refine take_held 8 S4 rfl (by kernel_rfl) (by kernel_rfl) (by kernel_rfl) (fun _ _ _ h => h) (by kernel_rfl) (v := ?v4) ?y4 ?r4
                case y4 => (intro u hu; go_simp; try rfl)
                simp only [Act.put, List.setIfInBounds_toArray, List.set_cons_zero, List.set_cons_succ]
                refine take_held 9 S4 rfl (by kernel_rfl) (by kernel_rfl) (by kernel_rfl) (fun _ _ _ h => h) (by kernel_rfl) (v := ?v5) ?y5 ?r5
                case y5 => (intro u hu; go_simp; try rfl)
                simp only [Act.put, List.setIfInBounds_toArray, List.set_cons_zero, List.set_cons_succ]
                refine take_held 10 S4 rfl (by kernel_rfl) (by kernel_rfl) (by kernel_rfl) (fun _ _ _ h => h) (by kernel_rfl) (v := ?v6) ?y6 ?r6
                case y6 => (intro u hu; go_simp; try rfl)
                simp only [Act.put, List.setIfInBounds_toArray, List.set_cons_zero, List.set_cons_succ]
                refine wpAnyH_ready (rs := [11]) (by kernel_rfl) (by simp) (AllReadyH.cons ((nth_eq _ 11).trans rfl) ?_ AllReadyH.nil)
                intro K5 hK5
                obtain ⟨x5, hx5⟩ : ∃ x, x = x4.alloc (.cells #[.int .i64 0, .int .i64 0] 39) := ⟨_, rfl⟩
                have b5 : Below x4.heap.size x4 x5 := by rw [hx5]; exact below_new (Below.refl _ _) _
                have hva : x5.heap[x4.heap.size]? = some (.cells #[.int .i64 0, .int .i64 0] 39 (0, 0)) := by rw [hx5]; exact heap_alloc_new _ _
                have lva : w2.heap.size ≤ x4.heap.size := S4.size
                have S5 : Below w2.heap.size w2 x5 := bcat S4 b5 (Nat.le_refl _)
                have AC_5 := bcat AC_4 b5 (Nat.le_refl _)
                have AS_5 := bcat AS_4 b5 (Nat.le_refl _)
                have AT_5 := bcat AT_4 b5 (Nat.le_refl _)
                refine value_in hK5 (by kernel_rfl) (.pointer (some ⟨x4.heap.size, 0, none⟩)) x5 (by rw [hx5]; go_simp; try rfl) S5 ?_
                simp only [Act.put, List.setIfInBounds_toArray, List.set_cons_zero, List.set_cons_succ]
                clear hx5
                obtain ⟨pb, hpb⟩ : ∃ pb, x4.heap.size = pb := ⟨_, rfl⟩
                rw [hpb] at hva lva
                try rw [hpb]
                have HPb : Hid (x4.heap.size = pb) := hpb
                clear hpb
                have AV_5 : Below x5.heap.size x5 x5 := Below.refl _ _
                have hv9 := (AV_5.block _ (lt_of_heap hva)).trans hva
                have S9 : Below w2.heap.size w2 (x5.setRow pb #[.int .i64 q.1, .int .i64 q.2]) := below_row S5 lva _
                have hst := run_storeVar_row (P := Try.prog) x5 pb 39 39 #[.int .i64 0, .int .i64 0] #[.int .i64 q.1, .int .i64 q.2] hv9 infoCell2 rfl (by simp [Value.oneCell'])
                refine store_held 12 rfl (by kernel_rfl) (by kernel_rfl) (x5.setRow pb #[.int .i64 q.1, .int .i64 q.2]) (run_store_op 39 (.tmp 9) (.tmp 31) rfl pb #[.int .i64 q.1, .int .i64 q.2] rfl rfl hst) S9 ?_
                simp only [Act.put, List.setIfInBounds_toArray, List.set_cons_zero, List.set_cons_succ]
                refine take_held 13 S9 rfl (by kernel_rfl) (by kernel_rfl) (by kernel_rfl) (fun _ _ _ h => h) (by kernel_rfl) (v := ?v7) ?y7 ?r7
                case y7 => (intro u hu; go_simp; try rfl)
                simp only [Act.put, List.setIfInBounds_toArray, List.set_cons_zero, List.set_cons_succ]
                refine done_held (by kernel_rfl) ?_ _
                exact ⟨pb, q, ee, _, _, _, setRow_heap _ _ _ _ _ _ hv9, hQ1, hQ2, S9, lva, rfl⟩
              · intro K4 hK4
                obtain ⟨x4, hx4⟩ : ∃ x, x = x3.alloc (.cells #[.int .i64 0, .int .i64 0] 39) := ⟨_, rfl⟩
                have b4 : Below x3.heap.size x3 x4 := by rw [hx4]; exact below_new (Below.refl _ _) _
                have hva : x4.heap[x3.heap.size]? = some (.cells #[.int .i64 0, .int .i64 0] 39 (0, 0)) := by rw [hx4]; exact heap_alloc_new _ _
                have lva : w2.heap.size ≤ x3.heap.size := S3.size
                have S4 : Below w2.heap.size w2 x4 := bcat S3 b4 (Nat.le_refl _)
                have AC_4 := bcat AC_3 b4 (Nat.le_refl _)
                have AS_4 := bcat AS_3 b4 (Nat.le_refl _)
                have AT_4 := bcat AT_3 b4 (Nat.le_refl _)
                refine value_in hK4 (by kernel_rfl) (.pointer (some ⟨x3.heap.size, 0, none⟩)) x4 (by rw [hx4]; go_simp; try rfl) S4 ?_
                simp only [Act.put, List.setIfInBounds_toArray, List.set_cons_zero, List.set_cons_succ]
                clear hx4
                obtain ⟨pb, hpb⟩ : ∃ pb, x3.heap.size = pb := ⟨_, rfl⟩
                rw [hpb] at hva lva
                try rw [hpb]
                have HPb : Hid (x3.heap.size = pb) := hpb
                clear hpb
                have AV_4 : Below x4.heap.size x4 x4 := Below.refl _ _
                refine wpAnyH_ready (rs := [7]) (by kernel_rfl) (by simp) (AllReadyH.cons ((nth_eq _ 7).trans rfl) ?_ AllReadyH.nil)
                intro K5 hK5
                have hLt := list_of_own kindCell.len (HOvt.out _ AT_4)
                obtain ⟨qa, qc, hq, _⟩ := hLt.form
                subst hq
                have hln : tl.length ≤ 1000000 := by have := HTn.out; omega
                refine call_in hK5 (by kernel_rfl) 42 #[.agg #[.int .i64 c.W, .int .i64 c.H, .int .i64 c.height, k1, k2, k3, k4, .int .i64 c.unit, .int .i64 c.accel, .int .i64 c.speed, .int .i64 c.turn, .int .i64 c.hoist, .int .i64 c.queue, .int .i64 c.resend, .int .i64 c.budget, .bool c.back], .slice ka sn kc, .slice qa tl.length qc, .agg #[.int .i64 f.1, .int .i64 f.2]] (by go_simp) _ (place_all (HC1.out _ AC_4) (HC1f.out _ AC_4) l1 l2 l3 l4 FS1 stks ka sn kc (HS1.out _ AS_4) (HS1f.out _ AS_4) (by omega) HPl.out _ tl _ _ _ hLt (fun q h => h.2) hln f) ?_
                rintro rp x5 ⟨⟨q, ee, rfl, hQ1, hQ2⟩, b5⟩
                have S5 : Below w2.heap.size w2 x5 := bcat S4 b5 (Nat.le_refl _)
                have AC_5 := bcat AC_4 b5 (Nat.le_refl _)
                have AS_5 := bcat AS_4 b5 (Nat.le_refl _)
                have AT_5 := bcat AT_4 b5 (Nat.le_refl _)
                have AV_5 := bcat AV_4 b5 (Nat.le_refl _)
                refine ⟨S5, ?_⟩
                simp only [Act.put, List.setIfInBounds_toArray, List.set_cons_zero, List.set_cons_succ]
                refine take_held 8 S5 rfl (by kernel_rfl) (by kernel_rfl) (by kernel_rfl) (fun _ _ _ h => h) (by kernel_rfl) (v := ?v8) ?y8 ?r8
                case y8 => (intro u hu; go_simp; try rfl)
                simp only [Act.put, List.setIfInBounds_toArray, List.set_cons_zero, List.set_cons_succ]
                refine take_held 9 S5 rfl (by kernel_rfl) (by kernel_rfl) (by kernel_rfl) (fun _ _ _ h => h) (by kernel_rfl) (v := ?v9) ?y9 ?r9
                case y9 => (intro u hu; go_simp; try rfl)
                simp only [Act.put, List.setIfInBounds_toArray, List.set_cons_zero, List.set_cons_succ]
                refine take_held 10 S5 rfl (by kernel_rfl) (by kernel_rfl) (by kernel_rfl) (fun _ _ _ h => h) (by kernel_rfl) (v := ?v10) ?y10 ?r10
                case y10 => (intro u hu; go_simp; try rfl)
                simp only [Act.put, List.setIfInBounds_toArray, List.set_cons_zero, List.set_cons_succ]
                have hv9 := (AV_5.block _ (lt_of_heap hva)).trans hva
                have S9 : Below w2.heap.size w2 (x5.setRow pb #[.int .i64 q.1, .int .i64 q.2]) := below_row S5 lva _
                have hst := run_storeVar_row (P := Try.prog) x5 pb 39 39 #[.int .i64 0, .int .i64 0] #[.int .i64 q.1, .int .i64 q.2] hv9 infoCell2 rfl (by simp [Value.oneCell'])
                refine store_held 12 rfl (by kernel_rfl) (by kernel_rfl) (x5.setRow pb #[.int .i64 q.1, .int .i64 q.2]) (run_store_op 39 (.tmp 9) (.tmp 31) rfl pb #[.int .i64 q.1, .int .i64 q.2] rfl rfl hst) S9 ?_
                simp only [Act.put, List.setIfInBounds_toArray, List.set_cons_zero, List.set_cons_succ]
                refine take_held 13 S9 rfl (by kernel_rfl) (by kernel_rfl) (by kernel_rfl) (fun _ _ _ h => h) (by kernel_rfl) (v := ?v11) ?y11 ?r11
                case y11 => (intro u hu; go_simp; try rfl)
                simp only [Act.put, List.setIfInBounds_toArray, List.set_cons_zero, List.set_cons_succ]
                refine done_held (by kernel_rfl) ?_ _
                exact ⟨pb, q, ee, _, _, _, setRow_heap _ _ _ _ _ _ hv9, hQ1, hQ2, S9, lva, rfl⟩
            · intro K3 hK3
              obtain ⟨x3, hx3⟩ : ∃ x, x = x2.alloc (.cells #[.int .i64 0, .int .i64 0] 39) := ⟨_, rfl⟩
              have b3 : Below x2.heap.size x2 x3 := by rw [hx3]; exact below_new (Below.refl _ _) _
              have hva : x3.heap[x2.heap.size]? = some (.cells #[.int .i64 0, .int .i64 0] 39 (0, 0)) := by rw [hx3]; exact heap_alloc_new _ _
              have lva : w2.heap.size ≤ x2.heap.size := S2.size
              have S3 : Below w2.heap.size w2 x3 := bcat S2 b3 (Nat.le_refl _)
              have AC_3 := bcat AC_2 b3 (Nat.le_refl _)
              have AS_3 := bcat AS_2 b3 (Nat.le_refl _)
              refine value_in hK3 (by kernel_rfl) (.pointer (some ⟨x2.heap.size, 0, none⟩)) x3 (by rw [hx3]; go_simp; try rfl) S3 ?_
              simp only [Act.put, List.setIfInBounds_toArray, List.set_cons_zero, List.set_cons_succ]
              clear hx3
              obtain ⟨pb, hpb⟩ : ∃ pb, x2.heap.size = pb := ⟨_, rfl⟩
              rw [hpb] at hva lva
              try rw [hpb]
              have HPb : Hid (x2.heap.size = pb) := hpb
              clear hpb
              have AV_3 : Below x3.heap.size x3 x3 := Below.refl _ _
              refine wpAnyH_ready (rs := [5]) (by kernel_rfl) (by simp) (AllReadyH.cons ((nth_eq _ 5).trans rfl) ?_ AllReadyH.nil)
              intro K4 hK4
              obtain ⟨vt, x4, hrun4, own4, grow4, at4⟩ := run_app (xs := ([] : List Cell)) kindCell (World.ownsRow_nil x3 x3.heap.size 39 2) (HT.out _ (bcat HBw.out S3 (Nat.le_refl _))) (by have := HTn.out; simp only [List.length_nil]; omega) (by have := HTn.out; unfold maxLen; simp only [List.length_nil]; omega) (Nat.le_refl _) 22
              have b4 : Below x3.heap.size x3 x4 := below_none grow4
              have S4 : Below w2.heap.size w2 x4 := bcat S3 b4 (Nat.le_refl _)
              have AC_4 := bcat AC_3 b4 (Nat.le_refl _)
              have AS_4 := bcat AS_3 b4 (Nat.le_refl _)
              have AV_4 := bcat AV_3 b4 (Nat.le_refl _)
              rw [List.nil_append] at own4
              have HOvt : Hid (∀ u, Below x4.heap.size x4 u → u.ownsRow x3.heap.size 39 2 vt tl.length (rowL cellL tl)) := fun u b => owns_go own4 b
              have HOvtl : Hid (x3.heap.size ≤ x4.heap.size) := b4.size
              refine value_in hK4 (by kernel_rfl) vt x4 (run_app_op (t := 22) (.const (.slice none 0 0)) (.tmp 27) rfl (.slice none 0 0) (.slice ta tn tc) vt rfl rfl hrun4) S4 ?_
              simp only [Act.put, List.setIfInBounds_toArray, List.set_cons_zero, List.set_cons_succ]
              have AT_4 : Below x4.heap.size x4 x4 := Below.refl _ _
              refine wpAnyH_ready (rs := [7]) (by kernel_rfl) (by simp) (AllReadyH.cons ((nth_eq _ 7).trans rfl) ?_ AllReadyH.nil)
              intro K5 hK5
              have hLt := list_of_own kindCell.len (HOvt.out _ AT_4)
              obtain ⟨qa, qc, hq, _⟩ := hLt.form
              subst hq
              have hln : tl.length ≤ 1000000 := by have := HTn.out; omega
              refine call_in hK5 (by kernel_rfl) 42 #[.agg #[.int .i64 c.W, .int .i64 c.H, .int .i64 c.height, k1, k2, k3, k4, .int .i64 c.unit, .int .i64 c.accel, .int .i64 c.speed, .int .i64 c.turn, .int .i64 c.hoist, .int .i64 c.queue, .int .i64 c.resend, .int .i64 c.budget, .bool c.back], .slice ka sn kc, .slice qa tl.length qc, .agg #[.int .i64 f.1, .int .i64 f.2]] (by go_simp) _ (place_all (HC1.out _ AC_4) (HC1f.out _ AC_4) l1 l2 l3 l4 FS1 stks ka sn kc (HS1.out _ AS_4) (HS1f.out _ AS_4) (by omega) HPl.out _ tl _ _ _ hLt (fun q h => h.2) hln f) ?_
              rintro rp x5 ⟨⟨q, ee, rfl, hQ1, hQ2⟩, b5⟩
              have S5 : Below w2.heap.size w2 x5 := bcat S4 b5 (Nat.le_refl _)
              have AC_5 := bcat AC_4 b5 (Nat.le_refl _)
              have AS_5 := bcat AS_4 b5 (Nat.le_refl _)
              have AV_5 := bcat AV_4 b5 (Nat.le_refl _)
              have AT_5 := bcat AT_4 b5 (Nat.le_refl _)
              refine ⟨S5, ?_⟩
              simp only [Act.put, List.setIfInBounds_toArray, List.set_cons_zero, List.set_cons_succ]
              refine take_held 8 S5 rfl (by kernel_rfl) (by kernel_rfl) (by kernel_rfl) (fun _ _ _ h => h) (by kernel_rfl) (v := ?v12) ?y12 ?r12
              case y12 => (intro u hu; go_simp; try rfl)
              simp only [Act.put, List.setIfInBounds_toArray, List.set_cons_zero, List.set_cons_succ]
              refine take_held 9 S5 rfl (by kernel_rfl) (by kernel_rfl) (by kernel_rfl) (fun _ _ _ h => h) (by kernel_rfl) (v := ?v13) ?y13 ?r13
              case y13 => (intro u hu; go_simp; try rfl)
              simp only [Act.put, List.setIfInBounds_toArray, List.set_cons_zero, List.set_cons_succ]
              refine take_held 10 S5 rfl (by kernel_rfl) (by kernel_rfl) (by kernel_rfl) (fun _ _ _ h => h) (by kernel_rfl) (v := ?v14) ?y14 ?r14
              case y14 => (intro u hu; go_simp; try rfl)
              simp only [Act.put, List.setIfInBounds_toArray, List.set_cons_zero, List.set_cons_succ]
              have hv9 := (AV_5.block _ (lt_of_heap hva)).trans hva
              have S9 : Below w2.heap.size w2 (x5.setRow pb #[.int .i64 q.1, .int .i64 q.2]) := below_row S5 lva _
              have hst := run_storeVar_row (P := Try.prog) x5 pb 39 39 #[.int .i64 0, .int .i64 0] #[.int .i64 q.1, .int .i64 q.2] hv9 infoCell2 rfl (by simp [Value.oneCell'])
              refine store_held 12 rfl (by kernel_rfl) (by kernel_rfl) (x5.setRow pb #[.int .i64 q.1, .int .i64 q.2]) (run_store_op 39 (.tmp 9) (.tmp 31) rfl pb #[.int .i64 q.1, .int .i64 q.2] rfl rfl hst) S9 ?_
              simp only [Act.put, List.setIfInBounds_toArray, List.set_cons_zero, List.set_cons_succ]
              refine take_held 13 S9 rfl (by kernel_rfl) (by kernel_rfl) (by kernel_rfl) (fun _ _ _ h => h) (by kernel_rfl) (v := ?v15) ?y15 ?r15
              case y15 => (intro u hu; go_simp; try rfl)
              simp only [Act.put, List.setIfInBounds_toArray, List.set_cons_zero, List.set_cons_succ]
              refine done_held (by kernel_rfl) ?_ _
              exact ⟨pb, q, ee, _, _, _, setRow_heap _ _ _ _ _ _ hv9, hQ1, hQ2, S9, lva, rfl⟩
          · intro K2 hK2
            obtain ⟨x2, hx2⟩ : ∃ x, x = x1.alloc (.cells #[.int .i64 0, .int .i64 0] 39) := ⟨_, rfl⟩
            have b2 : Below x1.heap.size x1 x2 := by rw [hx2]; exact below_new (Below.refl _ _) _
            have hva : x2.heap[x1.heap.size]? = some (.cells #[.int .i64 0, .int .i64 0] 39 (0, 0)) := by rw [hx2]; exact heap_alloc_new _ _
            have lva : w2.heap.size ≤ x1.heap.size := S1.size
            have S2 : Below w2.heap.size w2 x2 := bcat S1 b2 (Nat.le_refl _)
            have AC_2 := bcat AC_1 b2 (Nat.le_refl _)
            refine value_in hK2 (by kernel_rfl) (.pointer (some ⟨x1.heap.size, 0, none⟩)) x2 (by rw [hx2]; go_simp; try rfl) S2 ?_
            simp only [Act.put, List.setIfInBounds_toArray, List.set_cons_zero, List.set_cons_succ]
            clear hx2
            obtain ⟨pb, hpb⟩ : ∃ pb, x1.heap.size = pb := ⟨_, rfl⟩
            rw [hpb] at hva lva
            try rw [hpb]
            have HPb : Hid (x1.heap.size = pb) := hpb
            clear hpb
            have AV_2 : Below x2.heap.size x2 x2 := Below.refl _ _
            refine wpAnyH_ready (rs := [3]) (by kernel_rfl) (by simp) (AllReadyH.cons ((nth_eq _ 3).trans rfl) ?_ AllReadyH.nil)
            intro K3 hK3
            refine call_in hK3 (by kernel_rfl) 36 #[.slice sa sn sc] (by go_simp) _ (copyStacksC_any (Old w) stks (.slice sa sn sc) x2 (HS.out _ (bcat HBw.out S2 (Nat.le_refl _))) (fun b hb => Nat.lt_of_lt_of_le (hO b hb) (bcat HBw.out S2 (Nat.le_refl _)).size) hSl HSb.out) ?_
            rintro rs x3 ⟨hS1, b3⟩
            have S3 : Below w2.heap.size w2 x3 := bcat S2 b3 (Nat.le_refl _)
            have AC_3 := bcat AC_2 b3 (Nat.le_refl _)
            have AV_3 := bcat AV_2 b3 (Nat.le_refl _)
            obtain ⟨ka, kc, hks, _⟩ := hS1.form
            rw [HSn.out] at hks
            subst hks
            have HS1 : Hid (∀ u, Below x3.heap.size x3 u → ListAt 3 stackElC (Since x2.heap.size x3) stks (.slice ka sn kc) u) := fun u b => hS1.go heldStackC (fun q h => h.2) b
            have HS1f : Hid (∀ u, Below x3.heap.size x3 u → ∀ b, Since x2.heap.size x3 b → b < u.heap.size) := fun u b q h => Nat.lt_of_lt_of_le h.2 b.size
            obtain ⟨FS1, hFS1⟩ : ∃ F, F = Since x2.heap.size x3 := ⟨_, rfl⟩
            rw [← hFS1] at HS1 HS1f
            clear hFS1 hS1
            refine ⟨S3, ?_⟩
            simp only [Act.put, List.setIfInBounds_toArray, List.set_cons_zero, List.set_cons_succ]
            have AS_3 : Below x3.heap.size x3 x3 := Below.refl _ _
            refine wpAnyH_ready (rs := [5]) (by kernel_rfl) (by simp) (AllReadyH.cons ((nth_eq _ 5).trans rfl) ?_ AllReadyH.nil)
            intro K4 hK4
            obtain ⟨vt, x4, hrun4, own4, grow4, at4⟩ := run_app (xs := ([] : List Cell)) kindCell (World.ownsRow_nil x3 x3.heap.size 39 2) (HT.out _ (bcat HBw.out S3 (Nat.le_refl _))) (by have := HTn.out; simp only [List.length_nil]; omega) (by have := HTn.out; unfold maxLen; simp only [List.length_nil]; omega) (Nat.le_refl _) 22
            have b4 : Below x3.heap.size x3 x4 := below_none grow4
            have S4 : Below w2.heap.size w2 x4 := bcat S3 b4 (Nat.le_refl _)
            have AC_4 := bcat AC_3 b4 (Nat.le_refl _)
            have AV_4 := bcat AV_3 b4 (Nat.le_refl _)
            have AS_4 := bcat AS_3 b4 (Nat.le_refl _)
            rw [List.nil_append] at own4
            have HOvt : Hid (∀ u, Below x4.heap.size x4 u → u.ownsRow x3.heap.size 39 2 vt tl.length (rowL cellL tl)) := fun u b => owns_go own4 b
            have HOvtl : Hid (x3.heap.size ≤ x4.heap.size) := b4.size
            refine value_in hK4 (by kernel_rfl) vt x4 (run_app_op (t := 22) (.const (.slice none 0 0)) (.tmp 27) rfl (.slice none 0 0) (.slice ta tn tc) vt rfl rfl hrun4) S4 ?_
            simp only [Act.put, List.setIfInBounds_toArray, List.set_cons_zero, List.set_cons_succ]
            have AT_4 : Below x4.heap.size x4 x4 := Below.refl _ _
            refine wpAnyH_ready (rs := [7]) (by kernel_rfl) (by simp) (AllReadyH.cons ((nth_eq _ 7).trans rfl) ?_ AllReadyH.nil)
            intro K5 hK5
            have hLt := list_of_own kindCell.len (HOvt.out _ AT_4)
            obtain ⟨qa, qc, hq, _⟩ := hLt.form
            subst hq
            have hln : tl.length ≤ 1000000 := by have := HTn.out; omega
            refine call_in hK5 (by kernel_rfl) 42 #[.agg #[.int .i64 c.W, .int .i64 c.H, .int .i64 c.height, k1, k2, k3, k4, .int .i64 c.unit, .int .i64 c.accel, .int .i64 c.speed, .int .i64 c.turn, .int .i64 c.hoist, .int .i64 c.queue, .int .i64 c.resend, .int .i64 c.budget, .bool c.back], .slice ka sn kc, .slice qa tl.length qc, .agg #[.int .i64 f.1, .int .i64 f.2]] (by go_simp) _ (place_all (HC1.out _ AC_4) (HC1f.out _ AC_4) l1 l2 l3 l4 FS1 stks ka sn kc (HS1.out _ AS_4) (HS1f.out _ AS_4) (by omega) HPl.out _ tl _ _ _ hLt (fun q h => h.2) hln f) ?_
            rintro rp x5 ⟨⟨q, ee, rfl, hQ1, hQ2⟩, b5⟩
            have S5 : Below w2.heap.size w2 x5 := bcat S4 b5 (Nat.le_refl _)
            have AC_5 := bcat AC_4 b5 (Nat.le_refl _)
            have AV_5 := bcat AV_4 b5 (Nat.le_refl _)
            have AS_5 := bcat AS_4 b5 (Nat.le_refl _)
            have AT_5 := bcat AT_4 b5 (Nat.le_refl _)
            refine ⟨S5, ?_⟩
            simp only [Act.put, List.setIfInBounds_toArray, List.set_cons_zero, List.set_cons_succ]
            refine take_held 8 S5 rfl (by kernel_rfl) (by kernel_rfl) (by kernel_rfl) (fun _ _ _ h => h) (by kernel_rfl) (v := ?v16) ?y16 ?r16
            case y16 => (intro u hu; go_simp; try rfl)
            simp only [Act.put, List.setIfInBounds_toArray, List.set_cons_zero, List.set_cons_succ]
            refine take_held 9 S5 rfl (by kernel_rfl) (by kernel_rfl) (by kernel_rfl) (fun _ _ _ h => h) (by kernel_rfl) (v := ?v17) ?y17 ?r17
            case y17 => (intro u hu; go_simp; try rfl)
            simp only [Act.put, List.setIfInBounds_toArray, List.set_cons_zero, List.set_cons_succ]
            refine take_held 10 S5 rfl (by kernel_rfl) (by kernel_rfl) (by kernel_rfl) (fun _ _ _ h => h) (by kernel_rfl) (v := ?v18) ?y18 ?r18
            case y18 => (intro u hu; go_simp; try rfl)
            simp only [Act.put, List.setIfInBounds_toArray, List.set_cons_zero, List.set_cons_succ]
            have hv9 := (AV_5.block _ (lt_of_heap hva)).trans hva
            have S9 : Below w2.heap.size w2 (x5.setRow pb #[.int .i64 q.1, .int .i64 q.2]) := below_row S5 lva _
            have hst := run_storeVar_row (P := Try.prog) x5 pb 39 39 #[.int .i64 0, .int .i64 0] #[.int .i64 q.1, .int .i64 q.2] hv9 infoCell2 rfl (by simp [Value.oneCell'])
            refine store_held 12 rfl (by kernel_rfl) (by kernel_rfl) (x5.setRow pb #[.int .i64 q.1, .int .i64 q.2]) (run_store_op 39 (.tmp 9) (.tmp 31) rfl pb #[.int .i64 q.1, .int .i64 q.2] rfl rfl hst) S9 ?_
            simp only [Act.put, List.setIfInBounds_toArray, List.set_cons_zero, List.set_cons_succ]
            refine take_held 13 S9 rfl (by kernel_rfl) (by kernel_rfl) (by kernel_rfl) (fun _ _ _ h => h) (by kernel_rfl) (v := ?v19) ?y19 ?r19
            case y19 => (intro u hu; go_simp; try rfl)
            simp only [Act.put, List.setIfInBounds_toArray, List.set_cons_zero, List.set_cons_succ]
            refine done_held (by kernel_rfl) ?_ _
            exact ⟨pb, q, ee, _, _, _, setRow_heap _ _ _ _ _ _ hv9, hQ1, hQ2, S9, lva, rfl⟩
        · intro K1 hK1
          obtain ⟨x1, hx1⟩ : ∃ x, x = x0.alloc (.cells #[.int .i64 0, .int .i64 0] 39) := ⟨_, rfl⟩
          have b1 : Below x0.heap.size x0 x1 := by rw [hx1]; exact below_new (Below.refl _ _) _
          have hva : x1.heap[x0.heap.size]? = some (.cells #[.int .i64 0, .int .i64 0] 39 (0, 0)) := by rw [hx1]; exact heap_alloc_new _ _
          have lva : w2.heap.size ≤ x0.heap.size := S0.size
          have S1 : Below w2.heap.size w2 x1 := bcat S0 b1 (Nat.le_refl _)
          refine value_in hK1 (by kernel_rfl) (.pointer (some ⟨x0.heap.size, 0, none⟩)) x1 (by rw [hx1]; go_simp; try rfl) S1 ?_
          simp only [Act.put, List.setIfInBounds_toArray, List.set_cons_zero, List.set_cons_succ]
          clear hx1
          obtain ⟨pb, hpb⟩ : ∃ pb, x0.heap.size = pb := ⟨_, rfl⟩
          rw [hpb] at hva lva
          try rw [hpb]
          have HPb : Hid (x0.heap.size = pb) := hpb
          clear hpb
          have AV_1 : Below x1.heap.size x1 x1 := Below.refl _ _
          refine wpAnyH_ready (rs := [1]) (by kernel_rfl) (by simp) (AllReadyH.cons ((nth_eq _ 1).trans rfl) ?_ AllReadyH.nil)
          intro K2 hK2
          refine call_in hK2 (by kernel_rfl) 15 #[.agg #[.int .i64 c.W, .int .i64 c.H, .int .i64 c.height, v1, v2, v3, v4, .int .i64 c.unit, .int .i64 c.accel, .int .i64 c.speed, .int .i64 c.turn, .int .i64 c.hoist, .int .i64 c.queue, .int .i64 c.resend, .int .i64 c.budget, .bool c.back]] (by go_simp) _ (copyConf_any (Old w) c v1 v2 v3 v4 x1 (HA.out _ (bcat HBw.out S1 (Nat.le_refl _))) (fun b hb => Nat.lt_of_lt_of_le (hO b hb) (bcat HBw.out S1 (Nat.le_refl _)).size) l1 l2 l3 l4 HL5.out) ?_
          rintro rc x2 ⟨⟨k1, k2, k3, k4, rfl, hC1⟩, b2⟩
          have S2 : Below w2.heap.size w2 x2 := bcat S1 b2 (Nat.le_refl _)
          have AV_2 := bcat AV_1 b2 (Nat.le_refl _)
          have HC1 : Hid (∀ u, Below x2.heap.size x2 u → ConfAt (Since x1.heap.size x2) c k1 k2 k3 k4 u) := fun u b => hC1.go (fun q h => h.2) b
          have HC1f : Hid (∀ u, Below x2.heap.size x2 u → ∀ b, Since x1.heap.size x2 b → b < u.heap.size) := fun u b q h => Nat.lt_of_lt_of_le h.2 b.size
          obtain ⟨FC1, hFC1⟩ : ∃ F, F = Since x1.heap.size x2 := ⟨_, rfl⟩
          rw [← hFC1] at HC1 HC1f
          clear hFC1 hC1
          refine ⟨S2, ?_⟩
          simp only [Act.put, List.setIfInBounds_toArray, List.set_cons_zero, List.set_cons_succ]
          have AC_2 : Below x2.heap.size x2 x2 := Below.refl _ _
          refine wpAnyH_ready (rs := [3]) (by kernel_rfl) (by simp) (AllReadyH.cons ((nth_eq _ 3).trans rfl) ?_ AllReadyH.nil)
          intro K3 hK3
          refine call_in hK3 (by kernel_rfl) 36 #[.slice sa sn sc] (by go_simp) _ (copyStacksC_any (Old w) stks (.slice sa sn sc) x2 (HS.out _ (bcat HBw.out S2 (Nat.le_refl _))) (fun b hb => Nat.lt_of_lt_of_le (hO b hb) (bcat HBw.out S2 (Nat.le_refl _)).size) hSl HSb.out) ?_
          rintro rs x3 ⟨hS1, b3⟩
          have S3 : Below w2.heap.size w2 x3 := bcat S2 b3 (Nat.le_refl _)
          have AV_3 := bcat AV_2 b3 (Nat.le_refl _)
          have AC_3 := bcat AC_2 b3 (Nat.le_refl _)
          obtain ⟨ka, kc, hks, _⟩ := hS1.form
          rw [HSn.out] at hks
          subst hks
          have HS1 : Hid (∀ u, Below x3.heap.size x3 u → ListAt 3 stackElC (Since x2.heap.size x3) stks (.slice ka sn kc) u) := fun u b => hS1.go heldStackC (fun q h => h.2) b
          have HS1f : Hid (∀ u, Below x3.heap.size x3 u → ∀ b, Since x2.heap.size x3 b → b < u.heap.size) := fun u b q h => Nat.lt_of_lt_of_le h.2 b.size
          obtain ⟨FS1, hFS1⟩ : ∃ F, F = Since x2.heap.size x3 := ⟨_, rfl⟩
          rw [← hFS1] at HS1 HS1f
          clear hFS1 hS1
          refine ⟨S3, ?_⟩
          simp only [Act.put, List.setIfInBounds_toArray, List.set_cons_zero, List.set_cons_succ]
          have AS_3 : Below x3.heap.size x3 x3 := Below.refl _ _
          refine wpAnyH_ready (rs := [5]) (by kernel_rfl) (by simp) (AllReadyH.cons ((nth_eq _ 5).trans rfl) ?_ AllReadyH.nil)
          intro K4 hK4
          obtain ⟨vt, x4, hrun4, own4, grow4, at4⟩ := run_app (xs := ([] : List Cell)) kindCell (World.ownsRow_nil x3 x3.heap.size 39 2) (HT.out _ (bcat HBw.out S3 (Nat.le_refl _))) (by have := HTn.out; simp only [List.length_nil]; omega) (by have := HTn.out; unfold maxLen; simp only [List.length_nil]; omega) (Nat.le_refl _) 22
          have b4 : Below x3.heap.size x3 x4 := below_none grow4
          have S4 : Below w2.heap.size w2 x4 := bcat S3 b4 (Nat.le_refl _)
          have AV_4 := bcat AV_3 b4 (Nat.le_refl _)
          have AC_4 := bcat AC_3 b4 (Nat.le_refl _)
          have AS_4 := bcat AS_3 b4 (Nat.le_refl _)
          rw [List.nil_append] at own4
          have HOvt : Hid (∀ u, Below x4.heap.size x4 u → u.ownsRow x3.heap.size 39 2 vt tl.length (rowL cellL tl)) := fun u b => owns_go own4 b
          have HOvtl : Hid (x3.heap.size ≤ x4.heap.size) := b4.size
          refine value_in hK4 (by kernel_rfl) vt x4 (run_app_op (t := 22) (.const (.slice none 0 0)) (.tmp 27) rfl (.slice none 0 0) (.slice ta tn tc) vt rfl rfl hrun4) S4 ?_
          simp only [Act.put, List.setIfInBounds_toArray, List.set_cons_zero, List.set_cons_succ]
          have AT_4 : Below x4.heap.size x4 x4 := Below.refl _ _
          refine wpAnyH_ready (rs := [7]) (by kernel_rfl) (by simp) (AllReadyH.cons ((nth_eq _ 7).trans rfl) ?_ AllReadyH.nil)
          intro K5 hK5
          have hLt := list_of_own kindCell.len (HOvt.out _ AT_4)
          obtain ⟨qa, qc, hq, _⟩ := hLt.form
          subst hq
          have hln : tl.length ≤ 1000000 := by have := HTn.out; omega
          refine call_in hK5 (by kernel_rfl) 42 #[.agg #[.int .i64 c.W, .int .i64 c.H, .int .i64 c.height, k1, k2, k3, k4, .int .i64 c.unit, .int .i64 c.accel, .int .i64 c.speed, .int .i64 c.turn, .int .i64 c.hoist, .int .i64 c.queue, .int .i64 c.resend, .int .i64 c.budget, .bool c.back], .slice ka sn kc, .slice qa tl.length qc, .agg #[.int .i64 f.1, .int .i64 f.2]] (by go_simp) _ (place_all (HC1.out _ AC_4) (HC1f.out _ AC_4) l1 l2 l3 l4 FS1 stks ka sn kc (HS1.out _ AS_4) (HS1f.out _ AS_4) (by omega) HPl.out _ tl _ _ _ hLt (fun q h => h.2) hln f) ?_
          rintro rp x5 ⟨⟨q, ee, rfl, hQ1, hQ2⟩, b5⟩
          have S5 : Below w2.heap.size w2 x5 := bcat S4 b5 (Nat.le_refl _)
          have AV_5 := bcat AV_4 b5 (Nat.le_refl _)
          have AC_5 := bcat AC_4 b5 (Nat.le_refl _)
          have AS_5 := bcat AS_4 b5 (Nat.le_refl _)
          have AT_5 := bcat AT_4 b5 (Nat.le_refl _)
          refine ⟨S5, ?_⟩
          simp only [Act.put, List.setIfInBounds_toArray, List.set_cons_zero, List.set_cons_succ]
          refine take_held 8 S5 rfl (by kernel_rfl) (by kernel_rfl) (by kernel_rfl) (fun _ _ _ h => h) (by kernel_rfl) (v := ?v20) ?y20 ?r20
          case y20 => (intro u hu; go_simp; try rfl)
          simp only [Act.put, List.setIfInBounds_toArray, List.set_cons_zero, List.set_cons_succ]
          refine take_held 9 S5 rfl (by kernel_rfl) (by kernel_rfl) (by kernel_rfl) (fun _ _ _ h => h) (by kernel_rfl) (v := ?v21) ?y21 ?r21
          case y21 => (intro u hu; go_simp; try rfl)
          simp only [Act.put, List.setIfInBounds_toArray, List.set_cons_zero, List.set_cons_succ]
          refine take_held 10 S5 rfl (by kernel_rfl) (by kernel_rfl) (by kernel_rfl) (fun _ _ _ h => h) (by kernel_rfl) (v := ?v22) ?y22 ?r22
          case y22 => (intro u hu; go_simp; try rfl)
          simp only [Act.put, List.setIfInBounds_toArray, List.set_cons_zero, List.set_cons_succ]
          have hv9 := (AV_5.block _ (lt_of_heap hva)).trans hva
          have S9 : Below w2.heap.size w2 (x5.setRow pb #[.int .i64 q.1, .int .i64 q.2]) := below_row S5 lva _
          have hst := run_storeVar_row (P := Try.prog) x5 pb 39 39 #[.int .i64 0, .int .i64 0] #[.int .i64 q.1, .int .i64 q.2] hv9 infoCell2 rfl (by simp [Value.oneCell'])
          refine store_held 12 rfl (by kernel_rfl) (by kernel_rfl) (x5.setRow pb #[.int .i64 q.1, .int .i64 q.2]) (run_store_op 39 (.tmp 9) (.tmp 31) rfl pb #[.int .i64 q.1, .int .i64 q.2] rfl rfl hst) S9 ?_
          simp only [Act.put, List.setIfInBounds_toArray, List.set_cons_zero, List.set_cons_succ]
          refine take_held 13 S9 rfl (by kernel_rfl) (by kernel_rfl) (by kernel_rfl) (fun _ _ _ h => h) (by kernel_rfl) (v := ?v23) ?y23 ?r23
          case y23 => (intro u hu; go_simp; try rfl)
          simp only [Act.put, List.setIfInBounds_toArray, List.set_cons_zero, List.set_cons_succ]
          refine done_held (by kernel_rfl) ?_ _
          exact ⟨pb, q, ee, _, _, _, setRow_heap _ _ _ _ _ _ hv9, hQ1, hQ2, S9, lva, rfl⟩
      case rest3 =>
        rintro _ w3 ⟨pb, q, ee, z24, z26, z28, hq3, hQ1, hQ2, b3, lpb, rfl⟩
        dsimp only
        have B3 := bcat HBw.out b3 (Nat.le_refl _)
        have hc3 := (b3.block _ (lt_of_heap HK2.out.1)).trans HK2.out.1
        have hf3 := (b3.block _ (lt_of_heap HK2.out.2)).trans HK2.out.2
        have cM := mayR_call (HA.out _ B3) (fun b hb => Nat.lt_of_lt_of_le (hO b hb) B3.size) l1 l2 l3 l4 HL5.out
        clear HCr HFr S0
        cases hN : newP c with
        | none =>
          obtain ⟨rfl, rfl⟩ := hQ1 hN
          rw [hN] at cM
          simp only [Option.isSome_none] at cM
          clear hQ1 hQ2
          go_wp2_with (first
            | (refine wpList_load_row rfl 26 (.tmp 4) rfl w.heap.size rfl 26 _ (0, 0) _ hc3 Try.underlying26 rfl info_conf ?_)
            | (go_at_call 16; refine cM.mono ?_; rintro e w4 ⟨rm, rfl, rfl, b4⟩; have hq4 := (b4.block _ (lt_of_heap hq3)).trans hq3)
            | (refine wpList_load_row rfl 39 (.tmp 9) rfl pb rfl 39 #[.int .i64 0, .int .i64 0] (0, 0) _ hq4 Try.underlying39 rfl infoCell2 ?_)
            | (refine wpList_val_wantP (by kernel_rfl) (.bool true) ((run_eql_cell (.tmp 36) (.tmp 37) rfl 0 0 0 0 rfl rfl).trans (by simp)) ?_)
            | (go_at_call 37; refine (awake14_any _).mono ?_; rintro e w9 ⟨rw9, rfl, rfl, b9⟩))
          go_ret
          exact ⟨rfl, bcat (bcat B3 b4 (Nat.le_refl _)) b9 (Nat.le_refl _)⟩
        | some G =>
          obtain ⟨P, rfl, rfl, hPl⟩ := hQ2 G hN
          have HPs : Hid (Places stks c.height (stkUpTo c.W G.uses G.uses.length) tl f P) := hPl
          rw [hN] at cM
          simp only [Option.isSome_some] at cM
          have hnd := stk_nodup c.W G.uses G.uses.length
          have HND : Hid (stkUpTo c.W G.uses G.uses.length).Nodup := hnd
          clear hQ1 hQ2 hPl hnd
          go_upto_region 6 with (first
            | (refine wpList_load_row rfl 26 (.tmp 4) rfl w.heap.size rfl 26 _ (0, 0) _ hc3 Try.underlying26 rfl info_conf ?_)
            | (go_at_call 16; refine cM.mono ?_; rintro e w4 ⟨rm, rfl, rfl, b4⟩; have hq4 := (b4.block _ (lt_of_heap hq3)).trans hq3))
          have B4 := bcat B3 b4 (Nat.le_refl _)
          have hc4 := (b4.block _ (lt_of_heap hc3)).trans hc3
          have hf4 := (b4.block _ (lt_of_heap hf3)).trans hf3
          have cT := refTop_any (HA.out _ B4) (fun b hb => Nat.lt_of_lt_of_le (hO b hb) B4.size) l1 l2 l3 l4 HL5.out hN (Old w) stks sa sn sc (HS.out _ B4) (fun b hb => Nat.lt_of_lt_of_le (hO b hb) B4.size) (by omega) HPl.out (Old w) tl ta tn tc (HT.out _ B4) (fun b hb => Nat.lt_of_lt_of_le (hO b hb) B4.size) (by omega) f
          clear cM hc3 hf3 hq3
          go_upto_region 7 with (first
            | (refine wpList_load_row rfl 26 (.tmp 4) rfl w.heap.size rfl 26 _ (0, 0) _ hc4 Try.underlying26 rfl info_conf ?_)
            | (refine wpList_load_row rfl 39 (.tmp 7) rfl (w.heap.size + 1) rfl 39 #[.int .i64 f.1, .int .i64 f.2] (0, 0) _ hf4 Try.underlying39 rfl infoCell2 ?_)
            | (go_at_call 43; refine cT.mono ?_; rintro e w5 ⟨rt, rfl, ⟨o, rfl, hR⟩, b5⟩; obtain ⟨e1, e2⟩ := places_same HND.out HPs.out hR; rw [e1, e2]; clear e1 e2 hR))
          obtain ⟨w6, hw6⟩ : ∃ w6, w6 = w5.alloc (.cells #[.int .i64 (placeP P).1, .int .i64 (placeP P).2] 39) := ⟨_, rfl⟩
          have b6 : Below w5.heap.size w5 w6 := by rw [hw6]; exact below_new (Below.refl _ _) _
          have ho6 : w6.heap[w5.heap.size]? = some (.cells #[.int .i64 (placeP P).1, .int .i64 (placeP P).2] 39 (0, 0)) := by rw [hw6]; exact heap_alloc_new w5 _
          have b46 := bcat b5 b6 (Nat.le_refl _)
          have hq6 := (b46.block _ (lt_of_heap hq4)).trans hq4
          have B6 := bcat B4 b46 (Nat.le_refl _)
          rw [← hw6]
          generalize placeP P = q at *
          generalize placeE P = ee at *
          clear hw6 cT hq4 hc4 hf4
          go_wp2_with (first
            | (refine wpList_load_row rfl 39 (.tmp 9) rfl pb rfl 39 #[.int .i64 q.1, .int .i64 q.2] (0, 0) _ hq6 Try.underlying39 rfl infoCell2 ?_)
            | (refine wpList_load_row rfl 39 (.tmp 11) rfl w5.heap.size rfl 39 #[.int .i64 q.1, .int .i64 q.2] (0, 0) _ ho6 Try.underlying39 rfl infoCell2 ?_)
            | (refine wpList_val_wantP (by kernel_rfl) (.bool true) ((run_eql_cell (.tmp 54) (.tmp 55) rfl q.1 q.2 q.1 q.2 rfl rfl).trans (by simp)) ?_)
            | (go_at_call 37; refine (awake14_any _).mono ?_; rintro e w9 ⟨rw9, rfl, rfl, b9⟩))
          go_ret
          exact ⟨rfl, bcat B6 b9 (Nat.le_refl _)⟩
end Go.Proofs.Ytnilbgmmcmjciaa.Dig
