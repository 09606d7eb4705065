/-
  Jobs done one after the other: each lifts the bin that is highest, and has room for it.
-/
import Derived.Test.YtebfjldbhmmmlaaDigAwake
import Derived.Test.YtebfjldbhmmmlaaDigSmall
import Derived.Test.YtebfjldbhmmmlaaDigPut
import Derived.Test.YtebfjldbhmmmlaaDigDoneOf
import Derived.Test.YtebfjldbhmmmlaaDigDoneSum
import Derived.Test.YtebfjldbhmmmlaaDigJobsAll
import Derived.Test.YtebfjldbhmmmlaaDigSameStacks
import Derived.Deep.DeepCutAuto
import Derived.Deep.CutRange
namespace Go.Proofs.Ytebfjldbhmmmlaa.Dig
set_option linter.unusedVariables false
set_option linter.unusedSimpArgs false
open Go Go.RowKit Go.Shelf Go.Proofs Go.Proofs.Ytebfjldbhmmmlaa.Grid Go.Proofs.Ytebfjldbhmmmlaa.Srt
attribute [local go_sem] Oper.semAt_some

set_option maxRecDepth 100000 in
set_option maxHeartbeats 16000000 in
theorem done_all_law (c : Conf) (v1 v2 v3 v4 : Value) (w : World) (hA : ConfAt (Old w) c v1 v2 v3 v4 w) (l1 : c.blocked.length ≤ 8796093022208) (l2 : c.ports.length ≤ 8796093022208) (l3 : c.robots.length ≤ 5864062014805) (l4 : c.stacks.length ≤ 3518437208880) (l5 : ∀ s ∈ c.stacks, s.2.length ≤ 17592186044416) (tl : List Cell) (ta : Option Addr) (tn tc : Nat) (hT : ListAt 2 cellEl (Old w) tl (.slice ta tn tc) w) (bin port : Int) :
    Calls Try.prog 3 #[.agg #[.int .i64 c.W, .int .i64 c.H, .int .i64 c.height, v1, v2, v3, v4, .int .i64 c.unit, .int .i64 c.accel, .int .i64 c.speed, .int .i64 c.turn, .int .i64 c.hoist, .int .i64 c.queue, .int .i64 c.resend, .int .i64 c.budget, .bool c.back], .slice ta tn tc, .int .i64 bin, .int .i64 port] w fun e w' => e = .returned (.bool true) ∧ Below w.heap.size w w' := by
  obtain ⟨w1, hw1⟩ : ∃ w1, w1 = w.alloc (.cells #[.int .i64 c.W, .int .i64 c.H, .int .i64 c.height, v1, v2, v3, v4, .int .i64 c.unit, .int .i64 c.accel, .int .i64 c.speed, .int .i64 c.turn, .int .i64 c.hoist, .int .i64 c.queue, .int .i64 c.resend, .int .i64 c.budget, .bool c.back] 26) := ⟨_, rfl⟩
  have b1 : Below w.heap.size w w1 := by rw [hw1]; exact below_new (Below.refl _ _) _
  have hc1 : w1.heap[w.heap.size]? = some (.cells #[.int .i64 c.W, .int .i64 c.H, .int .i64 c.height, v1, v2, v3, v4, .int .i64 c.unit, .int .i64 c.accel, .int .i64 c.speed, .int .i64 c.turn, .int .i64 c.hoist, .int .i64 c.queue, .int .i64 c.resend, .int .i64 c.budget, .bool c.back] 26 (0, 0)) := by rw [hw1]; exact heap_alloc_new w _
  have hO : ∀ b, Old w b → b < w.heap.size := fun b h => h
  have cS := small_any (Old w) c v1 v2 v3 v4 w1 (hA.go hO b1) (fun b hb => Nat.lt_of_lt_of_le (hO b hb) b1.size) l1 l2 l3 l4 l5
  have HA : Hid (∀ u, Below w.heap.size w u → ConfAt (Old w) c v1 v2 v3 v4 u) := fun u b => hA.go hO b
  have HPl : Hid (∀ x, (pileOf c.stacks x).length ≤ 17592186044416) := piles_lenJ l5
  have HL5 : Hid (∀ s ∈ c.stacks, s.2.length ≤ 17592186044416) := l5
  have HT : Hid (∀ u, Below w.heap.size w u → ListAt 2 cellEl (Old w) tl (.slice ta tn tc) u) := fun u b => hT.go heldCell hO b
  have HTn : Hid (tl.length = tn) := by obtain ⟨a, cap, e, _⟩ := hT.form; injection e with _ e2 _; exact e2.symm
  have HB1 : Hid (Below w.heap.size w w1) := b1
  obtain ⟨pa, pk, hv2, hp0⟩ := hA.p.form
  obtain ⟨sa, sk, hv4, hs0⟩ := hA.s.form
  obtain ⟨pn, hpn⟩ : ∃ pn, c.ports.length = pn := ⟨_, rfl⟩
  obtain ⟨sn, hsn0⟩ : ∃ sn, c.stacks.length = sn := ⟨_, rfl⟩
  have HPn : Hid (c.ports.length = pn) := hpn
  have HSn : Hid (c.stacks.length = sn) := hsn0
  rw [hpn] at hv2
  rw [hsn0] at hv4
  have hl2 : pn ≤ 8796093022208 := by rw [← hpn]; exact l2
  have HC4 : Hid (∀ u, Below w1.heap.size w1 u → u.cell? ⟨w.heap.size, 4, none⟩ = some v2) := fun u hu => cell_below ((cell_of hc1 4).trans rfl) hu
  have HC6 : Hid (∀ u, Below w1.heap.size w1 u → u.cell? ⟨w.heap.size, 6, none⟩ = some v4) := fun u hu => cell_below ((cell_of hc1 6).trans rfl) hu
  have HPF : Hid (ListAt 2 cellEl (Old w) c.ports (.slice pa pn pk) w) := by rw [← hv2]; exact hA.p
  subst hv2 hv4
  have HK1 : Hid (w1.heap[w.heap.size]? = some (.cells #[.int .i64 c.W, .int .i64 c.H, .int .i64 c.height, v1, .slice pa pn pk, v3, .slice sa sn sk, .int .i64 c.unit, .int .i64 c.accel, .int .i64 c.speed, .int .i64 c.turn, .int .i64 c.hoist, .int .i64 c.queue, .int .i64 c.resend, .int .i64 c.budget, .bool c.back] 26 (0, 0))) := hc1
  clear hA l5 hp0 hs0 hpn hsn0 hT
  go_enter Try.func3, Try.ntmps3
  go_upto_region 1 with fail
  rw [← hw1]
  clear hw1
  cases hsm : (smallN c && (newP c).isSome) with
  | false =>
    rw [hsm] at cS
    go_wp2_with (first
      | (refine wpList_load_row rfl 26 (.tmp 4) rfl w.heap.size rfl 26 _ (0, 0) _ hc1 Try.underlying26 rfl info_conf ?_)
      | (go_at_call 4; refine cS.mono ?_; rintro e w2 ⟨rs, rfl, rfl, b2⟩; have h24 := HC4.out _ b2)
      | (go_at_call 5; refine (awake14_any _).mono ?_; rintro e w9 ⟨rw9, rfl, rfl, b9⟩))
    go_ret
    exact ⟨rfl, bcat (bcat HB1.out b2 (Nat.le_refl _)) b9 (Nat.le_refl _)⟩
  | true =>
    rw [hsm] at cS
    obtain ⟨G, hN⟩ : ∃ G, newP c = some G := by
      cases h : newP c with
      | none => rw [h] at hsm; simp at hsm
      | some G => exact ⟨G, rfl⟩
    have HNw : Hid (newP c = some G) := hN
    clear hsm hN
    by_cases hp : pn = 0
    · subst hp
      go_wp2_with (first
        | (refine wpList_load_row rfl 26 (.tmp 4) rfl w.heap.size rfl 26 _ (0, 0) _ hc1 Try.underlying26 rfl info_conf ?_)
        | (go_at_call 4; refine cS.mono ?_; rintro e w2 ⟨rs, rfl, rfl, b2⟩; have h24 := HC4.out _ b2)
        | (go_at_call 5; refine (awake14_any _).mono ?_; rintro e w9 ⟨rw9, rfl, rfl, b9⟩))
      go_ret
      exact ⟨rfl, bcat (bcat HB1.out b2 (Nat.le_refl _)) b9 (Nat.le_refl _)⟩
    · have hd1 : ((pn : Int) == 0) = false := beq_eq_false_iff_ne.2 (by omega)
      by_cases ht : (40 : Int) < (tn : Int)
      · have hd2 := decide_eq_true ht
        clear hp
        go_wp2_with (first
          | (refine wpList_load_row rfl 26 (.tmp 4) rfl w.heap.size rfl 26 _ (0, 0) _ hc1 Try.underlying26 rfl info_conf ?_)
          | (go_at_call 4; refine cS.mono ?_; rintro e w2 ⟨rs, rfl, rfl, b2⟩; have h24 := HC4.out _ b2)
          | (go_at_call 5; refine (awake14_any _).mono ?_; rintro e w9 ⟨rw9, rfl, rfl, b9⟩))
        go_ret
        exact ⟨rfl, bcat (bcat HB1.out b2 (Nat.le_refl _)) b9 (Nat.le_refl _)⟩
      · have hd2 := decide_eq_false ht
        obtain ⟨qk, hqk⟩ : ∃ qk : Nat, placeG port pn = (qk : Int) := ⟨(placeG port pn).toNat, by have := (placeG_bd port pn (by omega)).1; omega⟩
        have hql : qk < pn := by have := (placeG_bd port pn (by omega)).2; omega
        have HQc : Hid (∀ u : World, Calls Try.prog 6 #[.int .i64 port, .int .i64 pn] u fun e w' => ∃ v, e = .returned v ∧ (v = .int .i64 qk ∧ Below u.heap.size u w')) := fun u => (placeG_any port pn u (by omega) (by omega)).mono fun e w' ⟨q1, q2⟩ => ⟨_, q1, by rw [hqk], by rw [q2]; exact Below.refl _ _⟩
        have hqp : qk < c.ports.length := by rw [HPn.out]; exact hql
        obtain ⟨pq, pcs, pcap, hpv, hpF, hpcs, hprd⟩ := HPF.out.item hqp
        have HPm : Hid (c.ports[qk]'hqp ∈ c.ports) := List.getElem_mem _
        have hpcs2 : pcs = #[Value.int .i64 (c.ports[qk]'hqp).1, .int .i64 (c.ports[qk]'hqp).2] := hpcs
        subst hpcs2
        generalize c.ports[qk]'hqp = p at *
        obtain ⟨rfl, rfl⟩ : pa = some pq ∧ pk = pcap := by injection hpv with h1 h2 h3; exact ⟨h1, h3⟩
        clear hp hqk hpv hpcs
        go_upto_region 3 with (first
          | (refine wpList_load_row rfl 26 (.tmp 4) rfl w.heap.size rfl 26 _ (0, 0) _ hc1 Try.underlying26 rfl info_conf ?_)
          | (go_at_call 4; refine cS.mono ?_; rintro e w2 ⟨rs, rfl, rfl, b2⟩; have h24 := HC4.out _ b2))
        clear hd1 hd2 cS h24
        have B2 := bcat HB1.out b2 (Nat.le_refl _)
        have HPr : Hid (∀ u, Below w2.heap.size w2 u → ∀ j z, #[.int .i64 p.1, .int .i64 p.2][j]? = some z → u.cell? ((pq.add (qk * 2)).add j) = some z) := fun u hu j z hj => (cell_same (by rw [block_add, block_add]; exact (bcat B2 hu (Nat.le_refl _)).block _ hpF)).trans (hprd j z hj)
        have hqi : (qk : Int) < (pn : Int) := by omega
        have S0 : Below w2.heap.size w2 w2.drew := (Below.refl _ _).drew
        have HBw : Hid (Below w.heap.size w w2) := B2
        have Hb2 : Hid (Below w1.heap.size w1 w2) := b2
        clear hprd B2
        refine wp_via (fun a' w' => ∃ pb, w'.heap[pb]? = some (.cells #[.int .i64 p.1, .int .i64 p.2] 30 (0, 0)) ∧ Below w2.heap.size w2 w' ∧ w2.heap.size ≤ pb ∧ a' = { tmps := #[.agg #[.int .i64 c.W, .int .i64 c.H, .int .i64 c.height, v1, .slice (some pq) pn pk, v3, .slice sa sn sk, .int .i64 c.unit, .int .i64 c.accel, .int .i64 c.speed, .int .i64 c.turn, .int .i64 c.hoist, .int .i64 c.queue, .int .i64 c.resend, .int .i64 c.budget, .bool c.back], .slice ta tn tc, .int .i64 bin, .int .i64 port, .pointer (some ⟨w.heap.size, 0, none⟩), undef, undef, undef, .bool false, .pointer (some ⟨pb, 0, none⟩), undef, undef, undef, undef, undef, undef, undef, undef, undef, undef, undef, undef, undef, undef, .agg #[.int .i64 c.W, .int .i64 c.H, .int .i64 c.height, v1, .slice (some pq) pn pk, v3, .slice sa sn sk, .int .i64 c.unit, .int .i64 c.accel, .int .i64 c.speed, .int .i64 c.turn, .int .i64 c.hoist, .int .i64 c.queue, .int .i64 c.resend, .int .i64 c.budget, .bool c.back], .bool true, .bool false, .bool false, .pointer (some ⟨w.heap.size, 4, none⟩), .slice (some pq) pn pk, .int .i64 pn, .bool false, .bool false, .bool false, .slice ta tn tc, .int .i64 tn, .bool false, .bool false, undef, .pointer (some ⟨w.heap.size, 4, none⟩), .slice (some pq) pn pk, .int .i64 port, .pointer (some ⟨w.heap.size, 4, none⟩), .slice (some pq) pn pk, .int .i64 pn, .int .i64 qk, .pointer (some (pq.add (qk * 2))), .agg #[.int .i64 p.1, .int .i64 p.2], undef, undef, undef, undef, undef, undef, undef, undef, undef, undef, undef, undef, undef, undef, undef, undef, undef, undef, undef, undef, undef, undef, undef, undef, undef, undef, undef, undef, undef, undef, undef, undef, undef, undef, undef, undef, undef, undef, undef, undef, undef, undef, undef, undef, undef, undef, undef, undef, undef, undef, undef, undef, undef, undef, undef, undef, undef, undef, undef, undef, undef, undef, undef, undef, undef, undef, undef, undef, undef, undef, undef, undef, undef, undef, undef, undef, undef, undef, undef, undef, undef, undef, undef, undef, undef, undef, undef, undef, undef, undef, undef, undef, undef, undef, undef, undef, undef, undef, undef, undef, undef, undef, undef, undef, undef, undef, undef, undef, undef, undef, undef, undef, undef, undef, undef, undef, undef, undef, undef, undef, undef, undef, undef, undef, undef, undef, undef, undef, undef, undef, undef, undef, undef, undef, undef, undef, undef, undef, undef, undef, undef, undef, undef, undef, undef, undef, undef, undef, undef, undef, undef, undef, undef, undef, undef, undef, undef, undef, undef, undef, undef, undef, undef, undef, undef, undef, undef, undef, undef, undef, undef, undef, undef, undef, undef, undef, undef, undef, undef, undef, undef, undef, undef, undef, undef, undef, undef, undef, undef, undef, undef, undef, undef, undef, undef, undef, undef, undef, undef, undef, undef, undef, undef, undef, undef, undef, undef, undef, undef, undef, undef, undef, undef, undef, undef, undef, undef, undef, undef, undef, undef, undef, undef, undef, undef, undef, undef, undef, undef, undef, undef, undef, undef, undef, undef, undef, undef, undef, undef, undef, undef, undef, undef, undef, undef, undef, undef, undef, undef, undef, undef, undef, undef, undef], defers := [] }) ?reg3 ?rest3
        case reg3 =>
          refine start_held (S := fun u => Below w2.heap.size w2 u) 11 rfl (by kernel_rfl) S0 ?_
          simp only [Array.replicate_succ, Array.replicate_zero, List.push_toArray, List.nil_append, List.cons_append]
          refine take_held 0 S0 rfl (by kernel_rfl) (by kernel_rfl) (by kernel_rfl) (fun _ _ _ h => h) (by kernel_rfl) (v := ?v0) ?y0 ?r0
          case y0 => (intro u hu; go_simp; try rfl)
          simp only [Act.put, List.setIfInBounds_toArray, List.set_cons_zero, List.set_cons_succ]
          refine take_held 1 S0 rfl (by kernel_rfl) (by kernel_rfl) (by kernel_rfl) (fun _ _ _ h => h) (by kernel_rfl) (v := .slice (some pq) pn pk) ?y1 ?r1
          case y1 => (intro u hu; have zz := HC4.out u (bcat b2 hu (Nat.le_refl _)); go_simp; try rfl)
          simp only [Act.put, List.setIfInBounds_toArray, List.set_cons_zero, List.set_cons_succ]
          refine take_held 2 S0 rfl (by kernel_rfl) (by kernel_rfl) (by kernel_rfl) (fun _ _ _ h => h) (by kernel_rfl) (v := ?v2) ?y2 ?r2
          case y2 => (intro u hu; go_simp; try rfl)
          simp only [Act.put, List.setIfInBounds_toArray, List.set_cons_zero, List.set_cons_succ]
          refine take_held 3 S0 rfl (by kernel_rfl) (by kernel_rfl) (by kernel_rfl) (fun _ _ _ h => h) (by kernel_rfl) (v := ?v3) ?y3 ?r3
          case y3 => (intro u hu; go_simp; try rfl)
          simp only [Act.put, List.setIfInBounds_toArray, List.set_cons_zero, List.set_cons_succ]
          refine take_held 4 S0 rfl (by kernel_rfl) (by kernel_rfl) (by kernel_rfl) (fun _ _ _ h => h) (by kernel_rfl) (v := .slice (some pq) pn pk) ?y4 ?r4
          case y4 => (intro u hu; have zz := HC4.out u (bcat b2 hu (Nat.le_refl _)); go_simp; try rfl)
          simp only [Act.put, List.setIfInBounds_toArray, List.set_cons_zero, List.set_cons_succ]
          refine take_held 5 S0 rfl (by kernel_rfl) (by kernel_rfl) (by kernel_rfl) (fun _ _ _ h => h) (by kernel_rfl) (v := ?v5) ?y5 ?r5
          case y5 => (intro u hu; go_simp; try rfl)
          simp only [Act.put, List.setIfInBounds_toArray, List.set_cons_zero, List.set_cons_succ]
          generalize w2.drew = x0 at *
          refine wpAnyH_ready (rs := [6, 9]) (by kernel_rfl) (by simp) (AllReadyH.cons ((nth_eq _ 6).trans rfl) ?_ (AllReadyH.cons ((nth_eq _ 9).trans rfl) ?_ AllReadyH.nil))
          · intro K1 hK1
            refine call_in hK1 (by kernel_rfl) 6 #[.int .i64 port, .int .i64 pn] (by go_simp) _ (HQc.out x0) ?_
            rintro vq x1 ⟨rfl, b1⟩
            have S1 : Below w2.heap.size w2 x1 := bcat S0 b1 (Nat.le_refl _)
            refine ⟨S1, ?_⟩
            simp only [Act.put, List.setIfInBounds_toArray, List.set_cons_zero, List.set_cons_succ]
            have AQ_1 : Below x1.heap.size x1 x1 := Below.refl _ _
            refine take_held 7 S1 rfl (by kernel_rfl) (by kernel_rfl) (by kernel_rfl) (fun _ _ _ h => h) (by kernel_rfl) (v := .pointer (some (pq.add (qk * 2)))) ?y6 ?r6
            case y6 => (intro u hu; go_simp; try rfl)
            simp only [Act.put, List.setIfInBounds_toArray, List.set_cons_zero, List.set_cons_succ]
            refine take_held 8 S1 rfl (by kernel_rfl) (by kernel_rfl) (by kernel_rfl) (fun _ _ _ h => h) (by kernel_rfl) (v := .agg #[.int .i64 p.1, .int .i64 p.2]) ?y7 ?r7
            case y7 => (intro u hu; exact run_load_op 30 _ rfl (pq.add (qk * 2)) _ rfl (HPr.out u hu) (aggCell u) infoCell2)
            simp only [Act.put, List.setIfInBounds_toArray, List.set_cons_zero, List.set_cons_succ]
            refine wpAnyH_ready (rs := [9]) (by kernel_rfl) (by simp) (AllReadyH.cons ((nth_eq _ 9).trans rfl) ?_ AllReadyH.nil)
            intro K2 hK2
            obtain ⟨x2, hx2⟩ : ∃ x, x = x1.alloc (.cells #[.int .i64 0, .int .i64 0] 30) := ⟨_, rfl⟩
            have b2 : Below x1.heap.size x1 x2 := by rw [hx2]; exact below_new (Below.refl _ _) _
            have hva : x2.heap[x1.heap.size]? = some (.cells #[.int .i64 0, .int .i64 0] 30 (0, 0)) := by rw [hx2]; exact heap_alloc_new _ _
            have lva : w2.heap.size ≤ x1.heap.size := S1.size
            have S2 : Below w2.heap.size w2 x2 := bcat S1 b2 (Nat.le_refl _)
            have AQ_2 := bcat AQ_1 b2 (Nat.le_refl _)
            refine value_in hK2 (by kernel_rfl) (.pointer (some ⟨x1.heap.size, 0, none⟩)) x2 (by rw [hx2]; go_simp; try rfl) S2 ?_
            simp only [Act.put, List.setIfInBounds_toArray, List.set_cons_zero, List.set_cons_succ]
            clear hx2
            obtain ⟨pb, hpb⟩ : ∃ pb, x1.heap.size = pb := ⟨_, rfl⟩
            rw [hpb] at hva lva
            try rw [hpb]
            have HPb : Hid (x1.heap.size = pb) := hpb
            clear hpb
            have AV_2 : Below x2.heap.size x2 x2 := Below.refl _ _
            have hv9 := (AV_2.block _ (lt_of_heap hva)).trans hva
            have S9 : Below w2.heap.size w2 (x2.setRow pb #[.int .i64 p.1, .int .i64 p.2]) := below_row S2 lva _
            have hst := run_storeVar_row (P := Try.prog) x2 pb 30 30 #[.int .i64 0, .int .i64 0] #[.int .i64 p.1, .int .i64 p.2] hv9 infoCell2 rfl (by simp [Value.oneCell'])
            refine store_held 10 rfl (by kernel_rfl) (by kernel_rfl) (x2.setRow pb #[.int .i64 p.1, .int .i64 p.2]) (run_store_op 30 (.tmp 9) (.tmp 47) rfl pb #[.int .i64 p.1, .int .i64 p.2] rfl rfl hst) S9 ?_
            simp only [Act.put, List.setIfInBounds_toArray, List.set_cons_zero, List.set_cons_succ]
            refine done_held (by kernel_rfl) ?_ _
            exact ⟨pb, setRow_heap _ _ _ _ _ _ hv9, S9, lva, rfl⟩
          · intro K1 hK1
            obtain ⟨x1, hx1⟩ : ∃ x, x = x0.alloc (.cells #[.int .i64 0, .int .i64 0] 30) := ⟨_, rfl⟩
            have b1 : Below x0.heap.size x0 x1 := by rw [hx1]; exact below_new (Below.refl _ _) _
            have hva : x1.heap[x0.heap.size]? = some (.cells #[.int .i64 0, .int .i64 0] 30 (0, 0)) := by rw [hx1]; exact heap_alloc_new _ _
            have lva : w2.heap.size ≤ x0.heap.size := S0.size
            have S1 : Below w2.heap.size w2 x1 := bcat S0 b1 (Nat.le_refl _)
            refine value_in hK1 (by kernel_rfl) (.pointer (some ⟨x0.heap.size, 0, none⟩)) x1 (by rw [hx1]; go_simp; try rfl) S1 ?_
            simp only [Act.put, List.setIfInBounds_toArray, List.set_cons_zero, List.set_cons_succ]
            clear hx1
            obtain ⟨pb, hpb⟩ : ∃ pb, x0.heap.size = pb := ⟨_, rfl⟩
            rw [hpb] at hva lva
            try rw [hpb]
            have HPb : Hid (x0.heap.size = pb) := hpb
            clear hpb
            have AV_1 : Below x1.heap.size x1 x1 := Below.refl _ _
            refine wpAnyH_ready (rs := [6]) (by kernel_rfl) (by simp) (AllReadyH.cons ((nth_eq _ 6).trans rfl) ?_ AllReadyH.nil)
            intro K2 hK2
            refine call_in hK2 (by kernel_rfl) 6 #[.int .i64 port, .int .i64 pn] (by go_simp) _ (HQc.out x1) ?_
            rintro vq x2 ⟨rfl, b2⟩
            have S2 : Below w2.heap.size w2 x2 := bcat S1 b2 (Nat.le_refl _)
            have AV_2 := bcat AV_1 b2 (Nat.le_refl _)
            refine ⟨S2, ?_⟩
            simp only [Act.put, List.setIfInBounds_toArray, List.set_cons_zero, List.set_cons_succ]
            have AQ_2 : Below x2.heap.size x2 x2 := Below.refl _ _
            refine take_held 7 S2 rfl (by kernel_rfl) (by kernel_rfl) (by kernel_rfl) (fun _ _ _ h => h) (by kernel_rfl) (v := .pointer (some (pq.add (qk * 2)))) ?y8 ?r8
            case y8 => (intro u hu; go_simp; try rfl)
            simp only [Act.put, List.setIfInBounds_toArray, List.set_cons_zero, List.set_cons_succ]
            refine take_held 8 S2 rfl (by kernel_rfl) (by kernel_rfl) (by kernel_rfl) (fun _ _ _ h => h) (by kernel_rfl) (v := .agg #[.int .i64 p.1, .int .i64 p.2]) ?y9 ?r9
            case y9 => (intro u hu; exact run_load_op 30 _ rfl (pq.add (qk * 2)) _ rfl (HPr.out u hu) (aggCell u) infoCell2)
            simp only [Act.put, List.setIfInBounds_toArray, List.set_cons_zero, List.set_cons_succ]
            have hv9 := (AV_2.block _ (lt_of_heap hva)).trans hva
            have S9 : Below w2.heap.size w2 (x2.setRow pb #[.int .i64 p.1, .int .i64 p.2]) := below_row S2 lva _
            have hst := run_storeVar_row (P := Try.prog) x2 pb 30 30 #[.int .i64 0, .int .i64 0] #[.int .i64 p.1, .int .i64 p.2] hv9 infoCell2 rfl (by simp [Value.oneCell'])
            refine store_held 10 rfl (by kernel_rfl) (by kernel_rfl) (x2.setRow pb #[.int .i64 p.1, .int .i64 p.2]) (run_store_op 30 (.tmp 9) (.tmp 47) rfl pb #[.int .i64 p.1, .int .i64 p.2] rfl rfl hst) S9 ?_
            simp only [Act.put, List.setIfInBounds_toArray, List.set_cons_zero, List.set_cons_succ]
            refine done_held (by kernel_rfl) ?_ _
            exact ⟨pb, setRow_heap _ _ _ _ _ _ hv9, S9, lva, rfl⟩
        case rest3 =>
          rintro _ w3 ⟨pb, hp3, b3, lpb, rfl⟩
          dsimp only
          have HB3 : Hid (Below w.heap.size w w3) := bcat HBw.out b3 (Nat.le_refl _)
          have hc3 := ((bcat Hb2.out b3 (Nat.le_refl _)).block _ (lt_of_heap HK1.out)).trans HK1.out
          have HCr : Hid (∀ u, Below w3.heap.size w3 u → ∀ j z, #[.int .i64 c.W, .int .i64 c.H, .int .i64 c.height, v1, .slice (some pq) pn pk, v3, .slice sa sn sk, .int .i64 c.unit, .int .i64 c.accel, .int .i64 c.speed, .int .i64 c.turn, .int .i64 c.hoist, .int .i64 c.queue, .int .i64 c.resend, .int .i64 c.budget, .bool c.back][j]? = some z → u.cell? ((⟨w.heap.size, 0, none⟩ : Addr).add j) = some z) := fun u hu => row_below hc3 hu
          have HC6b : Hid (∀ u, Below w3.heap.size w3 u → u.cell? ⟨w.heap.size, 6, none⟩ = some (.slice sa sn sk)) := fun u hu => cell_below ((cell_of hc3 6).trans rfl) hu
          have HFr : Hid (∀ u, Below w3.heap.size w3 u → ∀ j z, #[.int .i64 p.1, .int .i64 p.2][j]? = some z → u.cell? ((⟨pb, 0, none⟩ : Addr).add j) = some z) := fun u hu => row_below hp3 hu
          have HK3 : Hid (w3.heap[w.heap.size]? = some (.cells #[.int .i64 c.W, .int .i64 c.H, .int .i64 c.height, v1, .slice (some pq) pn pk, v3, .slice sa sn sk, .int .i64 c.unit, .int .i64 c.accel, .int .i64 c.speed, .int .i64 c.turn, .int .i64 c.hoist, .int .i64 c.queue, .int .i64 c.resend, .int .i64 c.budget, .bool c.back] 26 (0, 0)) ∧ w3.heap[pb]? = some (.cells #[.int .i64 p.1, .int .i64 p.2] 30 (0, 0))) := ⟨hc3, hp3⟩
          have hsn : sn ≤ 1000000 := by have := (new_few (new_some HNw.out).1).2; have := HSn.out; omega
          clear S0 HPr HQc hqi HBw Hb2 HK1 HC4 HC6 b3 hc3 hp3 lpb hpF b2 hc1 HB1 b1
          have S0 : Below w3.heap.size w3 w3.drew := (Below.refl _ _).drew
          go_upto_region 4 with fail
          refine start_held (S := fun u => Below w3.heap.size w3 u) 15 rfl (by kernel_rfl) S0 ?_
          simp only [Array.replicate_succ, Array.replicate_zero, List.push_toArray, List.nil_append, List.cons_append]
          refine take_held 0 S0 rfl (by kernel_rfl) (by kernel_rfl) (by kernel_rfl) (fun _ _ _ h => h) (by kernel_rfl) (v := .agg #[.int .i64 c.W, .int .i64 c.H, .int .i64 c.height, v1, .slice (some pq) pn pk, v3, .slice sa sn sk, .int .i64 c.unit, .int .i64 c.accel, .int .i64 c.speed, .int .i64 c.turn, .int .i64 c.hoist, .int .i64 c.queue, .int .i64 c.resend, .int .i64 c.budget, .bool c.back]) ?y10 ?r10
          case y10 => (intro u hu; exact run_load_op 26 _ rfl ⟨w.heap.size, 0, none⟩ _ rfl (HCr.out u hu) (aggConf u) info_conf)
          simp only [Act.put, List.setIfInBounds_toArray, List.set_cons_zero, List.set_cons_succ]
          refine take_held 2 S0 rfl (by kernel_rfl) (by kernel_rfl) (by kernel_rfl) (fun _ _ _ h => h) (by kernel_rfl) (v := ?v11) ?y11 ?r11
          case y11 => (intro u hu; go_simp; try rfl)
          simp only [Act.put, List.setIfInBounds_toArray, List.set_cons_zero, List.set_cons_succ]
          refine take_held 3 S0 rfl (by kernel_rfl) (by kernel_rfl) (by kernel_rfl) (fun _ _ _ h => h) (by kernel_rfl) (v := .slice sa sn sk) ?y12 ?r12
          case y12 => (intro u hu; have zz := HC6b.out u hu; go_simp; try rfl)
          simp only [Act.put, List.setIfInBounds_toArray, List.set_cons_zero, List.set_cons_succ]
          refine take_held 5 S0 rfl (by kernel_rfl) (by kernel_rfl) (by kernel_rfl) (fun _ _ _ h => h) (by kernel_rfl) (v := ?v13) ?y13 ?r13
          case y13 => (intro u hu; go_simp; try rfl)
          simp only [Act.put, List.setIfInBounds_toArray, List.set_cons_zero, List.set_cons_succ]
          refine take_held 7 S0 rfl (by kernel_rfl) (by kernel_rfl) (by kernel_rfl) (fun _ _ _ h => h) (by kernel_rfl) (v := ?v14) ?y14 ?r14
          case y14 => (intro u hu; go_simp; try rfl)
          simp only [Act.put, List.setIfInBounds_toArray, List.set_cons_zero, List.set_cons_succ]
          refine take_held 8 S0 rfl (by kernel_rfl) (by kernel_rfl) (by kernel_rfl) (fun _ _ _ h => h) (by kernel_rfl) (v := .agg #[.int .i64 p.1, .int .i64 p.2]) ?y15 ?r15
          case y15 => (intro u hu; exact run_load_op 30 _ rfl ⟨pb, 0, none⟩ _ rfl (HFr.out u hu) (aggCell u) infoCell2)
          simp only [Act.put, List.setIfInBounds_toArray, List.set_cons_zero, List.set_cons_succ]
          refine wpAnyH_ready (rs := [1]) (by kernel_rfl) (by simp) (AllReadyH.cons ((nth_eq _ 1).trans rfl) ?_ AllReadyH.nil)
          intro K1 hK1
          have A0 := bcat HB3.out S0 (Nat.le_refl _)
          refine call_in hK1 (by kernel_rfl) 8 #[.agg #[.int .i64 c.W, .int .i64 c.H, .int .i64 c.height, v1, .slice (some pq) pn pk, v3, .slice sa sn sk, .int .i64 c.unit, .int .i64 c.accel, .int .i64 c.speed, .int .i64 c.turn, .int .i64 c.hoist, .int .i64 c.queue, .int .i64 c.resend, .int .i64 c.budget, .bool c.back]] (by go_simp) _ (copyConf_any (Old w) c v1 (.slice (some pq) pn pk) v3 (.slice sa sn sk) w3.drew (HA.out _ A0) (fun b hb => Nat.lt_of_lt_of_le (hO b hb) A0.size) l1 l2 l3 l4 HL5.out) ?_
          rintro rc x1 ⟨⟨k1, k2, k3, k4, rfl, hC1⟩, b1⟩
          have S1 : Below w3.heap.size w3 x1 := bcat S0 b1 (Nat.le_refl _)
          have A1 := bcat HB3.out S1 (Nat.le_refl _)
          refine ⟨S1, ?_⟩
          simp only [Act.put, List.setIfInBounds_toArray, List.set_cons_zero, List.set_cons_succ]
          refine wpAnyH_ready (rs := [4]) (by kernel_rfl) (by simp) (AllReadyH.cons ((nth_eq _ 4).trans rfl) ?_ AllReadyH.nil)
          intro K2 hK2
          refine call_in hK2 (by kernel_rfl) 9 #[.slice sa sn sk] (by go_simp) _ (copyStacksC_any (Old w) c.stacks (.slice sa sn sk) x1 (HA.out _ A1).s (fun b hb => Nat.lt_of_lt_of_le (hO b hb) A1.size) l4 HL5.out) ?_
          rintro rs x2 ⟨hS1, b2'⟩
          obtain ⟨ka, kc, hks, _⟩ := hS1.form
          rw [HSn.out] at hks
          subst hks
          have S2 : Below w3.heap.size w3 x2 := bcat S1 b2' (Nat.le_refl _)
          have A2 := bcat HB3.out S2 (Nat.le_refl _)
          refine ⟨S2, ?_⟩
          simp only [Act.put, List.setIfInBounds_toArray, List.set_cons_zero, List.set_cons_succ]
          refine wpAnyH_ready (rs := [6]) (by kernel_rfl) (by simp) (AllReadyH.cons ((nth_eq _ 6).trans rfl) ?_ AllReadyH.nil)
          intro K3 hK3
          obtain ⟨vt, x3, hrun3, own3, g3, at3⟩ := run_app (xs := ([] : List Cell)) kindCell (World.ownsRow_nil x2 x2.heap.size 30 2) (HT.out _ A2) (by have := HTn.out; simp only [List.length_nil]; omega) (by have := HTn.out; unfold maxLen; simp only [List.length_nil]; omega) (Nat.le_refl _) 22
          have b3' : Below x2.heap.size x2 x3 := below_none g3
          have S3 : Below w3.heap.size w3 x3 := bcat S2 b3' (Nat.le_refl _)
          refine value_in hK3 (by kernel_rfl) vt x3 (run_app_op (t := 22) (.const (.slice none 0 0)) (.tmp 54) rfl (.slice none 0 0) (.slice ta tn tc) vt rfl rfl hrun3) S3 ?_
          rw [List.nil_append] at own3
          obtain ⟨qa, qc, hvt, _⟩ := own_form own3
          rw [HTn.out] at hvt
          have hLt := list_of_own kindCell.len own3
          subst hvt
          simp only [Act.put, List.setIfInBounds_toArray, List.set_cons_zero, List.set_cons_succ]
          refine wpAnyH_ready (rs := [9]) (by kernel_rfl) (by simp) (AllReadyH.cons ((nth_eq _ 9).trans rfl) ?_ AllReadyH.nil)
          intro K4 hK4
          have b13 := bcat b2' b3' (Nat.le_refl _)
          refine call_in hK4 (by kernel_rfl) 7 #[.agg #[.int .i64 c.W, .int .i64 c.H, .int .i64 c.height, k1, k2, k3, k4, .int .i64 c.unit, .int .i64 c.accel, .int .i64 c.speed, .int .i64 c.turn, .int .i64 c.hoist, .int .i64 c.queue, .int .i64 c.resend, .int .i64 c.budget, .bool c.back], .slice ka sn kc, .slice qa tn qc, .int .i64 bin, .agg #[.int .i64 p.1, .int .i64 p.2]] (by go_simp) _ (jobs_all (hC1.go (fun q h => h.2) b13) (fun q h => Nat.lt_of_lt_of_le h.2 b13.size) l1 l2 l3 l4 _ c.stacks ka sn kc (hS1.go heldStackC (fun q h => h.2) b3') (fun q h => Nat.lt_of_lt_of_le h.2 b3'.size) hsn HPl.out _ tl qa tn qc hLt (fun q h => h.2) (by omega) bin p) ?_
          rintro rj x4 ⟨⟨r, ja, jc, ee, rfl, _, hQ2, own4⟩, b4⟩
          have S4 : Below w3.heap.size w3 x4 := bcat S3 b4 (Nat.le_refl _)
          refine ⟨S4, ?_⟩
          simp only [Act.put, List.setIfInBounds_toArray, List.set_cons_zero, List.set_cons_succ]
          refine take_held 10 S4 rfl (by kernel_rfl) (by kernel_rfl) (by kernel_rfl) (fun _ _ _ h => h) (by kernel_rfl) (v := ?v16) ?y16 ?r16
          case y16 => (intro u hu; go_simp; try rfl)
          simp only [Act.put, List.setIfInBounds_toArray, List.set_cons_zero, List.set_cons_succ]
          refine take_held 11 S4 rfl (by kernel_rfl) (by kernel_rfl) (by kernel_rfl) (fun _ _ _ h => h) (by kernel_rfl) (v := ?v17) ?y17 ?r17
          case y17 => (intro u hu; go_simp; try rfl)
          simp only [Act.put, List.setIfInBounds_toArray, List.set_cons_zero, List.set_cons_succ]
          refine take_held 12 S4 rfl (by kernel_rfl) (by kernel_rfl) (by kernel_rfl) (fun _ _ _ h => h) (by kernel_rfl) (v := ?v18) ?y18 ?r18
          case y18 => (intro u hu; go_simp; try rfl)
          simp only [Act.put, List.setIfInBounds_toArray, List.set_cons_zero, List.set_cons_succ]
          refine take_held 13 S4 rfl (by kernel_rfl) (by kernel_rfl) (by kernel_rfl) (fun _ _ _ h => h) (by kernel_rfl) (v := ?v19) ?y19 ?r19
          case y19 => (intro u hu; go_simp; try rfl)
          simp only [Act.put, List.setIfInBounds_toArray, List.set_cons_zero, List.set_cons_succ]
          refine take_held 14 S4 rfl (by kernel_rfl) (by kernel_rfl) (by kernel_rfl) (fun _ _ _ h => h) (by kernel_rfl) (v := ?v20) ?y20 ?r20
          case y20 => (intro u hu; go_simp; try rfl)
          simp only [Act.put, List.setIfInBounds_toArray, List.set_cons_zero, List.set_cons_succ]
          refine done_held (by kernel_rfl) ?_ _
          have HD := done_of HNw.out (hQ2 G HNw.out)
          have hrl := jobs_few (hQ2 G HNw.out)
          have HO4 : Hid (x4.ownsRow x3.heap.size 41 9 (.slice ja r.length jc) r.length (rowL jobL r)) := own4
          have HB4 : Hid (Below w.heap.size w x4) := bcat HB3.out S4 (Nat.le_refl _)
          have HS4 : Hid (Below w3.heap.size w3 x4) := S4
          clear hQ2 own4 hK1 hK2 hK3 hK4 K1 K2 K3 K4 S0 S1 S2 S3 S4 A0 A1 A2 hC1 hS1 hLt own3 g3 at3 hrun3 b1 b2' b3' b13 b4 HCr HFr
          obtain ⟨rn, hrn⟩ : ∃ rn, r.length = rn := ⟨_, rfl⟩
          have HRn : Hid (r.length = rn) := hrn
          rw [hrn] at HO4 hrl ⊢
          clear hrn
          rcases HD with ⟨he, hr⟩ | ⟨rfl, en, hRun, hFet, hBack⟩
          · have hr0 : rn = 0 := by rw [← HRn.out, hr]; rfl
            subst hr0
            have hde : (ee == 0) = false := beq_eq_false_iff_ne.2 he
            clear hr he
            go_wp2_with (go_at_call 5; refine (awake14_any _).mono ?_; rintro e w9 ⟨rw9, rfl, rfl, b9⟩)
            go_ret
            exact ⟨rfl, bcat HB4.out b9 (Nat.le_refl _)⟩
          · have HRun : Hid (Runs c.height (stkUpTo c.W G.uses G.uses.length) bin p c.stacks r en) := hRun
            have HFet : Hid ((r.filter fun q => decide (q.1 = 2)).length = 1) := hFet
            have HBack : Hid (c.back = true → ∀ s ∈ c.stacks, pileOf en s.1 = s.2.filter fun b => decide (b ≠ bin)) := hBack
            have h46 := HC6b.out _ HS4.out
            have cO := copyStacksO_any (Old w) c.stacks (.slice sa sn sk) x4 (HA.out _ HB4.out).s (fun b hb => Nat.lt_of_lt_of_le (hO b hb) HB4.out.size) l4 HL5.out
            clear hRun hFet hBack
            go_upto_region 8 with (go_at_call 9; refine cO.mono ?_; rintro e x5 ⟨nv, rfl, ⟨ys, hNw⟩, b5⟩)
            have HNow : Hid (NwY x4.heap.size c.stacks nv x5 ys) := hNw
            have HB5 : Hid (Below x4.heap.size x4 x5) := b5
            clear cO hNw b5 h46
            have HZ5 : Hid (Below x4.heap.size x4 x5) := HB5.out
            have HR0 : Hid (Runs c.height (stkUpTo c.W G.uses G.uses.length) bin p c.stacks (r.drop 0) en) := HRun.out
            have HTot : Hid (total en + 1 = total c.stacks) := by have := Runs.total HRun.out; have h2 := HFet.out; rw [h2] at this; exact this
            have hN0 : Hid (c.stacks.length ≤ sn + 2 * 0) := by show _ ≤ _; rw [HSn.out]; omega
            have HT0 : Hid (total c.stacks ≤ 8000000) := by
              show _ ≤ _
              obtain ⟨hlim, _, _, _, _, _, _, _, _, h1, _, _⟩ := (new_some HNw.out).1
              have hh := limited_sides hlim
              have h8 : ∀ s ∈ c.stacks, s.2.length ≤ 8 := fun s hs => by have := (h1 s hs).2; omega
              have := total_le h8
              rw [HSn.out] at this
              omega
            go_wp2_with fail
            go_loopw [12, 13, 14] (fun nv fv iv wq => ∃ (i f : Nat) (now : List Stk) (ys : List SV), i ≤ rn ∧ iv = .int .i64 i ∧ fv = .int .i64 f ∧ f ≤ i ∧ Hid (((r.take i).filter fun q => decide (q.1 = 2)).length = f) ∧ Hid (NwY x4.heap.size now nv wq ys) ∧ Hid (now.length ≤ sn + 2 * i) ∧ Hid (total now ≤ 8000000) ∧ Hid (Runs c.height (stkUpTo c.W G.uses G.uses.length) bin p now (r.drop i) en) ∧ Hid (Below x4.heap.size x4 wq)) (fun _ _ iv _ => rn - (intOf iv).toNat)
            case atStart => exact ⟨0, 0, c.stacks, ys, Nat.zero_le _, rfl, rfl, Nat.le_refl _, rfl, HNow, hN0, HT0, HR0, HZ5⟩
            case round =>
              clear HZ5 HR0 hN0 HT0 HNow HB5 HRun
              obtain ⟨i, f, now, ys, hi, rfl, rfl, hfi, HFi, HNw2, HNl, HTo, HRi, HBi⟩ := hrel
              by_cases hlt : i < rn
              · have hd : decide ((i : Int) < (rn : Int)) = true := decide_eq_true (by omega)
                have hir : i < r.length := by rw [HRn.out]; exact hlt
                obtain ⟨jp, jcap, hjv, hjr⟩ := own_itemJ (l := r) (by have := HO4.out; rw [← HRn.out] at this; exact this) hir
                have hjl := (HO4.out.lt jp.block (by rw [← HRn.out, hjv]; rfl)).2
                have HJq : Hid (∀ u, Below x4.heap.size x4 u → ∀ j z, (jobL (r[i]'hir)).toArray[j]? = some z → u.cell? ((jp.add (i * 9)).add j) = some z) := fun u hu j z hz => (cell_same (by rw [block_add, block_add]; exact hu.block _ hjl)).trans (hjr j z hz)
                have HDr : Hid (r.drop i = r[i]'hir :: r.drop (i + 1)) := List.drop_eq_getElem_cons hir
                have HTk : Hid (((r.take (i + 1)).filter fun q => decide (q.1 = 2)).length = f + if (r[i]'hir).1 = 2 then 1 else 0) := by
                  show _ = _
                  rw [List.take_add_one, List.getElem?_eq_getElem hir, List.filter_append, List.length_append, HFi.out]
                  congr 1
                  by_cases h : (r[i]'hir).1 = 2 <;> simp [h]
                rw [HRn.out] at hjv
                obtain ⟨rfl, rfl⟩ : ja = some jp ∧ jc = jcap := by injection hjv with h1 h2 h3; exact ⟨h1, h3⟩
                generalize r[i]'hir = q at *
                obtain ⟨kd, bq, qf, qt⟩ := q
                have hR1 := HRi.out
                rw [HDr.out] at hR1
                obtain ⟨hok, hR2⟩ := hR1
                have HOk : Hid (OkJ c.height (stkUpTo c.W G.uses G.uses.length) bin p now (kd, bq, qf, qt)) := hok
                have HR2 : Hid (Runs c.height (stkUpTo c.W G.uses G.uses.length) bin p (stepJ now (kd, bq, qf, qt)) (r.drop (i + 1)) en) := hR2
                clear hjv hjr hR2 hok
                have HQf : Hid (∀ u, Below x4.heap.size x4 u → ∀ j z, #[Value.int .i64 qf.1, .int .i64 qf.2][j]? = some z → u.cell? (((jp.add (i * 9)).add 4).add j) = some z) := fun u hu j z hz => by
                  rw [add_add]
                  refine HJq.out u hu (4 + j) z ?_
                  match j, hz with
                  | 0, hz => exact hz
                  | 1, hz => exact hz
                  | j + 2, hz => simp at hz
                have hqf := HQf.out _ HBi.out
                have cB := nowBins_any x4.heap.size now u12 qf wr ys HNw2.out (by have := HNl.out; omega)
                have hin : (i : Int) < (rn : Int) := by omega
                go_upto_region 13 with (first
                  | (refine wpList_load_at rfl 30 (.tmp 82) rfl ((jp.add (i * 9)).add 4) rfl #[.int .i64 qf.1, .int .i64 qf.2] hqf (aggCell _) infoCell2 ?_)
                  | (go_at_call 10; refine cB.mono ?_; rintro e y1 ⟨rb, rfl, ⟨fa, fc, hfv, hfc, hfl⟩, c1⟩; subst hfv))
                have HD1 : Hid (Below x4.heap.size x4 y1) := bcat HBi.out c1 (Nat.le_refl _)
                have HN1 : Hid (NwY x4.heap.size now u12 y1 ys) := HNw2.out.go c1
                obtain ⟨fn, hfn⟩ : ∃ fn, (pileOf now qf).length = fn := ⟨_, rfl⟩
                have HFn : Hid ((pileOf now qf).length = fn) := hfn
                have hfb : fn ≤ 8000000 := by have h1 := pile_total now qf; have h2 := HTo.out; rw [hfn] at h1; omega
                rw [hfn] at hfc hfl ⊢
                have htop : (pileOf now qf).getLast? = some bq := HOk.out.top
                have hpos : 0 < fn := by rw [← hfn]; exact List.length_pos_iff.2 (fun h => by rw [h] at htop; simp at htop)
                obtain ⟨f1, hf1⟩ : ∃ f1, fn - 1 = f1 := ⟨_, rfl⟩
                have hf1l : f1 < (pileOf now qf).length := by rw [hfn]; omega
                obtain ⟨fp, fcs, fcap, hfv2, hfF, hfcs, hfrd⟩ := hfl.item hf1l
                have hlast : (pileOf now qf)[f1]'hf1l = bq := by
                  rw [List.getLast?_eq_getElem?, hfn, hf1, List.getElem?_eq_getElem hf1l] at htop
                  injection htop
                have e1 : fcs = #[Value.int .i64 ((pileOf now qf)[f1]'hf1l)] := hfcs
                subst e1
                rw [hlast] at hfrd
                rw [hfn] at hfv2
                obtain ⟨rfl, rfl⟩ : fa = some fp ∧ fc = fcap := by injection hfv2 with h1 h2 h3; exact ⟨h1, h3⟩
                have HLs : Hid (∀ u, Below y1.heap.size y1 u → u.cell? (fp.add f1) = some (.int .i64 bq)) := fun u hu => by
                  have := hfrd 0 (.int .i64 bq) rfl
                  rw [Nat.mul_one, add_add, Nat.add_zero] at this
                  exact (cell_same (by rw [block_add]; exact hu.block _ hfF.2.1)).trans this
                have HFl : Hid (ListAt 1 intEl (Gd x4.heap.size u12 y1) (pileOf now qf) (.slice (some fp) fn fc) y1) := hfl
                have HFc : Hid (fn ≤ fc) := hfc
                have HF1 : Hid (fn - 1 = f1) := hf1
                have w1 : (fn : Int) - 1 = (f1 : Int) := by omega
                have w2 : IntKind.i64.wrap (f1 : Int) = (f1 : Int) := by rw [IntKind.wrap_i64]; omega
                have hf1n : (f1 : Int) < (fn : Int) := by omega
                have hfn0 : ((fn : Int) == 0) = false := beq_eq_false_iff_ne.2 (by omega)
                have T0 : Below y1.heap.size y1 y1.drew := (Below.refl _ _).drew
                clear hfl hfc hfv2 hfrd hfcs hlast htop hfn cB hqf c1 hd hfF hf1
                refine start_held (S := fun u => Below y1.heap.size y1 u) 41 rfl (by kernel_rfl) (T0) ?_
                simp only [Array.replicate_succ, Array.replicate_zero, List.push_toArray, List.nil_append, List.cons_append]
                refine take_held 0 T0 rfl (by kernel_rfl) (by kernel_rfl) (by kernel_rfl) (fun _ _ _ h => h) (by kernel_rfl) (v := ?v5000) ?y5000 ?r5000
                case y5000 => (intro u hu; go_simp; try rfl)
                simp only [Act.put, List.setIfInBounds_toArray, List.set_cons_zero, List.set_cons_succ]
                refine take_held 1 T0 rfl (by kernel_rfl) (by kernel_rfl) (by kernel_rfl) (fun _ _ _ h => h) (by kernel_rfl) (v := ?v5001) ?y5001 ?r5001
                case y5001 => (intro u hu; go_simp; try rfl)
                simp only [Act.put, List.setIfInBounds_toArray, List.set_cons_zero, List.set_cons_succ]
                refine take_held 2 T0 rfl (by kernel_rfl) (by kernel_rfl) (by kernel_rfl) (fun _ _ _ h => h) (by kernel_rfl) (v := ?v5002) ?y5002 ?r5002
                case y5002 => (intro u hu; go_simp; try rfl)
                simp only [Act.put, List.setIfInBounds_toArray, List.set_cons_zero, List.set_cons_succ]
                refine take_held 3 T0 rfl (by kernel_rfl) (by kernel_rfl) (by kernel_rfl) (fun _ _ _ h => h) (by kernel_rfl) (v := ?v5003) ?y5003 ?r5003
                case y5003 => (intro u hu; go_simp; try rfl)
                simp only [Act.put, List.setIfInBounds_toArray, List.set_cons_zero, List.set_cons_succ]
                refine take_held 4 T0 rfl (by kernel_rfl) (by kernel_rfl) (by kernel_rfl) (fun _ _ _ h => h) (by kernel_rfl) (v := ?v5004) ?y5004 ?r5004
                case y5004 => (intro u hu; go_simp; try rfl)
                simp only [Act.put, List.setIfInBounds_toArray, List.set_cons_zero, List.set_cons_succ]
                refine take_held 5 T0 rfl (by kernel_rfl) (by kernel_rfl) (by kernel_rfl) (fun _ _ _ h => h) (by kernel_rfl) (v := ?v5005) ?y5005 ?r5005
                case y5005 => (intro u hu; go_simp; try rfl)
                simp only [Act.put, List.setIfInBounds_toArray, List.set_cons_zero, List.set_cons_succ]
                refine take_held 6 T0 rfl (by kernel_rfl) (by kernel_rfl) (by kernel_rfl) (fun _ _ _ h => h) (by kernel_rfl) (v := ?v5006) ?y5006 ?r5006
                case y5006 => (intro u hu; go_simp; try rfl)
                simp only [Act.put, List.setIfInBounds_toArray, List.set_cons_zero, List.set_cons_succ]
                refine take_held 7 T0 rfl (by kernel_rfl) (by kernel_rfl) (by kernel_rfl) (fun _ _ _ h => h) (by kernel_rfl) (v := ?v5007) ?y5007 ?r5007
                case y5007 => (intro u hu; go_simp; try rfl)
                simp only [Act.put, List.setIfInBounds_toArray, List.set_cons_zero, List.set_cons_succ]
                refine take_held 8 T0 rfl (by kernel_rfl) (by kernel_rfl) (by kernel_rfl) (fun _ _ _ h => h) (by kernel_rfl) (v := ?v5008) ?y5008 ?r5008
                case y5008 => (intro u hu; go_simp; try rfl)
                simp only [Act.put, List.setIfInBounds_toArray, List.set_cons_zero, List.set_cons_succ]
                refine take_held 9 T0 rfl (by kernel_rfl) (by kernel_rfl) (by kernel_rfl) (fun _ _ _ h => h) (by kernel_rfl) (v := ?v5009) ?y5009 ?r5009
                case y5009 => (intro u hu; have zz0 := HLs.out u hu; go_simp; try rfl)
                simp only [Act.put, List.setIfInBounds_toArray, List.set_cons_zero, List.set_cons_succ]
                refine take_held 10 T0 rfl (by kernel_rfl) (by kernel_rfl) (by kernel_rfl) (fun _ _ _ h => h) (by kernel_rfl) (v := ?v5010) ?y5010 ?r5010
                case y5010 => (intro u hu; go_simp; try rfl)
                simp only [Act.put, List.setIfInBounds_toArray, List.set_cons_zero, List.set_cons_succ]
                refine take_held 11 T0 rfl (by kernel_rfl) (by kernel_rfl) (by kernel_rfl) (fun _ _ _ h => h) (by kernel_rfl) (v := ?v5011) ?y5011 ?r5011
                case y5011 => (intro u hu; go_simp; try rfl)
                simp only [Act.put, List.setIfInBounds_toArray, List.set_cons_zero, List.set_cons_succ]
                refine take_held 12 T0 rfl (by kernel_rfl) (by kernel_rfl) (by kernel_rfl) (fun _ _ _ h => h) (by kernel_rfl) (v := ?v5012) ?y5012 ?r5012
                case y5012 => (intro u hu; go_simp; try rfl)
                simp only [Act.put, List.setIfInBounds_toArray, List.set_cons_zero, List.set_cons_succ]
                refine take_held 13 T0 rfl (by kernel_rfl) (by kernel_rfl) (by kernel_rfl) (fun _ _ _ h => h) (by kernel_rfl) (v := ?v5013) ?y5013 ?r5013
                case y5013 => (intro u hu; go_simp; try rfl)
                simp only [Act.put, List.setIfInBounds_toArray, List.set_cons_zero, List.set_cons_succ]
                refine take_held 14 T0 rfl (by kernel_rfl) (by kernel_rfl) (by kernel_rfl) (fun _ _ _ h => h) (by kernel_rfl) (v := ?v5014) ?y5014 ?r5014
                case y5014 => (intro u hu; have zz0 := (show u.cell? ⟨(jp.add (i * 9)).block, (jp.add (i * 9)).off + 3, none⟩ = some (.int .i64 bq) from HJq.out u (bcat HD1.out hu (Nat.le_refl _)) 3 _ rfl); go_simp; try rfl)
                simp only [Act.put, List.setIfInBounds_toArray, List.set_cons_zero, List.set_cons_succ]
                refine take_held 15 T0 rfl (by kernel_rfl) (by kernel_rfl) (by kernel_rfl) (fun _ _ _ h => h) (by kernel_rfl) (v := ?v5015) ?y5015 ?r5015
                case y5015 => (intro u hu; go_simp; try rfl)
                simp only [Act.put, List.setIfInBounds_toArray, List.set_cons_zero, List.set_cons_succ]
                refine take_held 16 T0 rfl (by kernel_rfl) (by kernel_rfl) (by kernel_rfl) (fun _ _ _ h => h) (by kernel_rfl) (v := ?v5016) ?y5016 ?r5016
                case y5016 => (intro u hu; go_simp; try rfl)
                simp only [Act.put, List.setIfInBounds_toArray, List.set_cons_zero, List.set_cons_succ]
                refine take_held 17 T0 rfl (by kernel_rfl) (by kernel_rfl) (by kernel_rfl) (fun _ _ _ h => h) (by kernel_rfl) (v := ?v5017) ?y5017 ?r5017
                case y5017 => (intro u hu; go_simp; try rfl)
                simp only [Act.put, List.setIfInBounds_toArray, List.set_cons_zero, List.set_cons_succ]
                refine take_held 18 T0 rfl (by kernel_rfl) (by kernel_rfl) (by kernel_rfl) (fun _ _ _ h => h) (by kernel_rfl) (v := ?v5018) ?y5018 ?r5018
                case y5018 => (intro u hu; go_simp; try rfl)
                simp only [Act.put, List.setIfInBounds_toArray, List.set_cons_zero, List.set_cons_succ]
                refine take_held 19 T0 rfl (by kernel_rfl) (by kernel_rfl) (by kernel_rfl) (fun _ _ _ h => h) (by kernel_rfl) (v := ?v5019) ?y5019 ?r5019
                case y5019 => (intro u hu; go_simp; try rfl)
                simp only [Act.put, List.setIfInBounds_toArray, List.set_cons_zero, List.set_cons_succ]
                refine take_held 20 T0 rfl (by kernel_rfl) (by kernel_rfl) (by kernel_rfl) (fun _ _ _ h => h) (by kernel_rfl) (v := ?v5020) ?y5020 ?r5020
                case y5020 => (intro u hu; go_simp; try rfl)
                simp only [Act.put, List.setIfInBounds_toArray, List.set_cons_zero, List.set_cons_succ]
                refine take_held 21 T0 rfl (by kernel_rfl) (by kernel_rfl) (by kernel_rfl) (fun _ _ _ h => h) (by kernel_rfl) (v := ?v5021) ?y5021 ?r5021
                case y5021 => (intro u hu; go_simp; try rfl)
                simp only [Act.put, List.setIfInBounds_toArray, List.set_cons_zero, List.set_cons_succ]
                refine take_held 22 T0 rfl (by kernel_rfl) (by kernel_rfl) (by kernel_rfl) (fun _ _ _ h => h) (by kernel_rfl) (v := ?v5022) ?y5022 ?r5022
                case y5022 => (intro u hu; have zz0 := (show u.cell? ⟨(jp.add (i * 9)).block, (jp.add (i * 9)).off + 8, none⟩ = some (.int .i64 (-1)) from HJq.out u (bcat HD1.out hu (Nat.le_refl _)) 8 _ rfl); go_simp; try rfl)
                simp only [Act.put, List.setIfInBounds_toArray, List.set_cons_zero, List.set_cons_succ]
                refine take_held 23 T0 rfl (by kernel_rfl) (by kernel_rfl) (by kernel_rfl) (fun _ _ _ h => h) (by kernel_rfl) (v := ?v5023) ?y5023 ?r5023
                case y5023 => (intro u hu; go_simp; try rfl)
                simp only [Act.put, List.setIfInBounds_toArray, List.set_cons_zero, List.set_cons_succ]
                refine take_held 24 T0 rfl (by kernel_rfl) (by kernel_rfl) (by kernel_rfl) (fun _ _ _ h => h) (by kernel_rfl) (v := ?v5024) ?y5024 ?r5024
                case y5024 => (intro u hu; go_simp; try rfl)
                simp only [Act.put, List.setIfInBounds_toArray, List.set_cons_zero, List.set_cons_succ]
                refine take_held 25 T0 rfl (by kernel_rfl) (by kernel_rfl) (by kernel_rfl) (fun _ _ _ h => h) (by kernel_rfl) (v := ?v5025) ?y5025 ?r5025
                case y5025 => (intro u hu; go_simp; try rfl)
                simp only [Act.put, List.setIfInBounds_toArray, List.set_cons_zero, List.set_cons_succ]
                refine take_held 26 T0 rfl (by kernel_rfl) (by kernel_rfl) (by kernel_rfl) (fun _ _ _ h => h) (by kernel_rfl) (v := ?v5026) ?y5026 ?r5026
                case y5026 => (intro u hu; go_simp; try rfl)
                simp only [Act.put, List.setIfInBounds_toArray, List.set_cons_zero, List.set_cons_succ]
                refine take_held 27 T0 rfl (by kernel_rfl) (by kernel_rfl) (by kernel_rfl) (fun _ _ _ h => h) (by kernel_rfl) (v := ?v5027) ?y5027 ?r5027
                case y5027 => (intro u hu; go_simp; try rfl)
                simp only [Act.put, List.setIfInBounds_toArray, List.set_cons_zero, List.set_cons_succ]
                refine take_held 28 T0 rfl (by kernel_rfl) (by kernel_rfl) (by kernel_rfl) (fun _ _ _ h => h) (by kernel_rfl) (v := ?v5028) ?y5028 ?r5028
                case y5028 => (intro u hu; go_simp; try rfl)
                simp only [Act.put, List.setIfInBounds_toArray, List.set_cons_zero, List.set_cons_succ]
                refine take_held 29 T0 rfl (by kernel_rfl) (by kernel_rfl) (by kernel_rfl) (fun _ _ _ h => h) (by kernel_rfl) (v := ?v5029) ?y5029 ?r5029
                case y5029 => (intro u hu; go_simp; try rfl)
                simp only [Act.put, List.setIfInBounds_toArray, List.set_cons_zero, List.set_cons_succ]
                refine take_held 30 T0 rfl (by kernel_rfl) (by kernel_rfl) (by kernel_rfl) (fun _ _ _ h => h) (by kernel_rfl) (v := ?v5030) ?y5030 ?r5030
                case y5030 => (intro u hu; have zz0 := (show u.cell? (jp.add (i * 9)) = some (.int .i64 0) from HJq.out u (bcat HD1.out hu (Nat.le_refl _)) 0 _ rfl); go_simp; try rfl)
                simp only [Act.put, List.setIfInBounds_toArray, List.set_cons_zero, List.set_cons_succ]
                refine take_held 31 T0 rfl (by kernel_rfl) (by kernel_rfl) (by kernel_rfl) (fun _ _ _ h => h) (by kernel_rfl) (v := ?v5031) ?y5031 ?r5031
                case y5031 => (intro u hu; go_simp; try rfl)
                simp only [Act.put, List.setIfInBounds_toArray, List.set_cons_zero, List.set_cons_succ]
                refine take_held 32 T0 rfl (by kernel_rfl) (by kernel_rfl) (by kernel_rfl) (fun _ _ _ h => h) (by kernel_rfl) (v := ?v5032) ?y5032 ?r5032
                case y5032 => (intro u hu; go_simp; try rfl)
                simp only [Act.put, List.setIfInBounds_toArray, List.set_cons_zero, List.set_cons_succ]
                refine take_held 33 T0 rfl (by kernel_rfl) (by kernel_rfl) (by kernel_rfl) (fun _ _ _ h => h) (by kernel_rfl) (v := ?v5033) ?y5033 ?r5033
                case y5033 => (intro u hu; go_simp; try rfl)
                simp only [Act.put, List.setIfInBounds_toArray, List.set_cons_zero, List.set_cons_succ]
                refine take_held 34 T0 rfl (by kernel_rfl) (by kernel_rfl) (by kernel_rfl) (fun _ _ _ h => h) (by kernel_rfl) (v := ?v5034) ?y5034 ?r5034
                case y5034 => (intro u hu; go_simp; try rfl)
                simp only [Act.put, List.setIfInBounds_toArray, List.set_cons_zero, List.set_cons_succ]
                refine take_held 35 T0 rfl (by kernel_rfl) (by kernel_rfl) (by kernel_rfl) (fun _ _ _ h => h) (by kernel_rfl) (v := ?v5035) ?y5035 ?r5035
                case y5035 => (intro u hu; go_simp; try rfl)
                simp only [Act.put, List.setIfInBounds_toArray, List.set_cons_zero, List.set_cons_succ]
                refine take_held 36 T0 rfl (by kernel_rfl) (by kernel_rfl) (by kernel_rfl) (fun _ _ _ h => h) (by kernel_rfl) (v := ?v5036) ?y5036 ?r5036
                case y5036 => (intro u hu; go_simp; try rfl)
                simp only [Act.put, List.setIfInBounds_toArray, List.set_cons_zero, List.set_cons_succ]
                refine take_held 37 T0 rfl (by kernel_rfl) (by kernel_rfl) (by kernel_rfl) (fun _ _ _ h => h) (by kernel_rfl) (v := ?v5037) ?y5037 ?r5037
                case y5037 => (intro u hu; go_simp; try rfl)
                simp only [Act.put, List.setIfInBounds_toArray, List.set_cons_zero, List.set_cons_succ]
                refine take_held 38 T0 rfl (by kernel_rfl) (by kernel_rfl) (by kernel_rfl) (fun _ _ _ h => h) (by kernel_rfl) (v := ?v5038) ?y5038 ?r5038
                case y5038 => (intro u hu; have zz0 := (show u.cell? ⟨(jp.add (i * 9)).block, (jp.add (i * 9)).off + 2, none⟩ = some (.int .i64 0) from HJq.out u (bcat HD1.out hu (Nat.le_refl _)) 2 _ rfl); go_simp; try rfl)
                simp only [Act.put, List.setIfInBounds_toArray, List.set_cons_zero, List.set_cons_succ]
                refine take_held 39 T0 rfl (by kernel_rfl) (by kernel_rfl) (by kernel_rfl) (fun _ _ _ h => h) (by kernel_rfl) (v := ?v5039) ?y5039 ?r5039
                case y5039 => (intro u hu; go_simp; try rfl)
                simp only [Act.put, List.setIfInBounds_toArray, List.set_cons_zero, List.set_cons_succ]
                refine take_held 40 T0 rfl (by kernel_rfl) (by kernel_rfl) (by kernel_rfl) (fun _ _ _ h => h) (by kernel_rfl) (v := ?v5040) ?y5040 ?r5040
                case y5040 => (intro u hu; go_simp; try rfl)
                simp only [Act.put, List.setIfInBounds_toArray, List.set_cons_zero, List.set_cons_succ]
                refine done_held (by kernel_rfl) ?_ _
                obtain ⟨y2, hy2⟩ : ∃ y2, y1.drew = y2 := ⟨_, rfl⟩
                rw [hy2] at T0 ⊢
                clear hy2
                have hdl : (pileOf now qf).dropLast = (pileOf now qf).take f1 := by rw [List.dropLast_eq_take, HFn.out, HF1.out]
                have HPut : Hid (∀ u, Below y1.heap.size y1 u → Calls Try.prog 11 #[u12, .agg #[.int .i64 qf.1, .int .i64 qf.2], .slice (some fp) f1 f1] u fun e w' => ∃ r, e = .returned r ∧ ((∃ ys', NwY x4.heap.size (lifted now (kd, bq, qf, qt)) r w' ys') ∧ Below x4.heap.size u w')) := fun u hu => by
                  have hb1 := list_takeI HFl.out f1 f1 (by rw [HFn.out]; omega) (fun h => by cases h)
                  rw [← hdl] at hb1
                  have hb2 := (hb1.go heldInt (fun q hq => hq.2.1) hu).mono heldInt (F' := Gd x4.heap.size u12 u) fun q hq => ⟨hq.1, Nat.lt_of_lt_of_le hq.2.1 hu.size, hq.2.2⟩
                  exact put_any x4.heap.size now u12 qf (pileOf now qf).dropLast (some fp) f1 f1 u ys (HN1.out.go hu) (Nat.le_trans HD1.out.size hu.size) hb2 (Nat.le_refl _) (by have := HNl.out; omega)
                clear hdl
                go_upto_region 15 with fail
                clear hfn0
                obtain ⟨y3, hy3⟩ : ∃ y3, y2.drew = y3 := ⟨_, rfl⟩
                have T3 : Below y1.heap.size y1 y3 := by rw [← hy3]; exact bcat T0 (Below.refl _ _).drew (Nat.le_refl _)
                have U3 : Below x4.heap.size x4 y3 := bcat HD1.out T3 (Nat.le_refl _)
                refine start_held (S := fun u => Below x4.heap.size x4 u) 16 rfl (by kernel_rfl) (by rw [hy3]; exact U3) ?_
                rw [hy3]
                clear hy3
                simp only [Array.replicate_succ, Array.replicate_zero, List.push_toArray, List.nil_append, List.cons_append]
                refine take_held 0 U3 rfl (by kernel_rfl) (by kernel_rfl) (by kernel_rfl) (fun _ _ _ h => h) (by kernel_rfl) (v := ?v5041) ?y5041 ?r5041
                case y5041 => (intro u hu; go_simp; try rfl)
                simp only [Act.put, List.setIfInBounds_toArray, List.set_cons_zero, List.set_cons_succ]
                refine take_held 1 U3 rfl (by kernel_rfl) (by kernel_rfl) (by kernel_rfl) (fun _ _ _ h => h) (by kernel_rfl) (v := ?v5042) ?y5042 ?r5042
                case y5042 => (intro u hu; go_simp; try rfl)
                simp only [Act.put, List.setIfInBounds_toArray, List.set_cons_zero, List.set_cons_succ]
                refine take_held 2 U3 rfl (by kernel_rfl) (by kernel_rfl) (by kernel_rfl) (fun _ _ _ h => h) (by kernel_rfl) (v := ?v5043) ?y5043 ?r5043
                case y5043 => (intro u hu; go_simp; try rfl)
                simp only [Act.put, List.setIfInBounds_toArray, List.set_cons_zero, List.set_cons_succ]
                refine take_held 3 U3 rfl (by kernel_rfl) (by kernel_rfl) (by kernel_rfl) (fun _ _ _ h => h) (by kernel_rfl) (v := ?v5044) ?y5044 ?r5044
                case y5044 => (intro u hu; go_simp; try rfl)
                simp only [Act.put, List.setIfInBounds_toArray, List.set_cons_zero, List.set_cons_succ]
                refine take_held 4 U3 rfl (by kernel_rfl) (by kernel_rfl) (by kernel_rfl) (fun _ _ _ h => h) (by kernel_rfl) (v := ?v5045) ?y5045 ?r5045
                case y5045 => (intro u hu; go_simp; try rfl)
                simp only [Act.put, List.setIfInBounds_toArray, List.set_cons_zero, List.set_cons_succ]
                refine take_held 5 U3 rfl (by kernel_rfl) (by kernel_rfl) (by kernel_rfl) (fun _ _ _ h => h) (by kernel_rfl) (v := .agg #[.int .i64 qf.1, .int .i64 qf.2]) ?y5046 ?r5046
                case y5046 => (intro u hu; exact run_load_op 30 _ rfl ((jp.add (i * 9)).add 4) _ rfl (HQf.out u hu) (aggCell u) infoCell2)
                simp only [Act.put, List.setIfInBounds_toArray, List.set_cons_zero, List.set_cons_succ]
                refine take_held 6 U3 rfl (by kernel_rfl) (by kernel_rfl) (by kernel_rfl) (fun _ _ _ h => h) (by kernel_rfl) (v := ?v5047) ?y5047 ?r5047
                case y5047 => (intro u hu; go_simp; try rfl)
                simp only [Act.put, List.setIfInBounds_toArray, List.set_cons_zero, List.set_cons_succ]
                refine take_held 7 U3 rfl (by kernel_rfl) (by kernel_rfl) (by kernel_rfl) (fun _ _ _ h => h) (by kernel_rfl) (v := ?v5048) ?y5048 ?r5048
                case y5048 => (intro u hu; go_simp; try rfl)
                simp only [Act.put, List.setIfInBounds_toArray, List.set_cons_zero, List.set_cons_succ]
                refine take_held 8 U3 rfl (by kernel_rfl) (by kernel_rfl) (by kernel_rfl) (fun _ _ _ h => h) (by kernel_rfl) (v := ?v5049) ?y5049 ?r5049
                case y5049 => (intro u hu; go_simp; try rfl)
                simp only [Act.put, List.setIfInBounds_toArray, List.set_cons_zero, List.set_cons_succ]
                refine take_held 9 U3 rfl (by kernel_rfl) (by kernel_rfl) (by kernel_rfl) (fun _ _ _ h => h) (by kernel_rfl) (v := ?v5050) ?y5050 ?r5050
                case y5050 => (intro u hu; go_simp; try rfl)
                simp only [Act.put, List.setIfInBounds_toArray, List.set_cons_zero, List.set_cons_succ]
                refine take_held 10 U3 rfl (by kernel_rfl) (by kernel_rfl) (by kernel_rfl) (fun _ _ _ h => h) (by kernel_rfl) (v := ?v5051) ?y5051 ?r5051
                case y5051 => (intro u hu; go_simp; try rfl)
                simp only [Act.put, List.setIfInBounds_toArray, List.set_cons_zero, List.set_cons_succ]
                refine take_held 11 U3 rfl (by kernel_rfl) (by kernel_rfl) (by kernel_rfl) (fun _ _ _ h => h) (by kernel_rfl) (v := ?v5052) ?y5052 ?r5052
                case y5052 => (intro u hu; go_simp; try rfl)
                simp only [Act.put, List.setIfInBounds_toArray, List.set_cons_zero, List.set_cons_succ]
                refine take_held 12 U3 rfl (by kernel_rfl) (by kernel_rfl) (by kernel_rfl) (fun _ _ _ h => h) (by kernel_rfl) (v := ?v5053) ?y5053 ?r5053
                case y5053 => (intro u hu; go_simp; try rfl)
                simp only [Act.put, List.setIfInBounds_toArray, List.set_cons_zero, List.set_cons_succ]
                refine take_held 13 U3 rfl (by kernel_rfl) (by kernel_rfl) (by kernel_rfl) (fun _ _ _ h => h) (by kernel_rfl) (v := .slice (some fp) f1 f1) ?y5054 ?r5054
                case y5054 => (intro u hu; exact run_take3_op (.tmp 132) (.tmp 135) (.tmp 138) rfl _ _ _ _ rfl rfl rfl (run_take3 (some fp) fn fc f1 (by have := HF1.out; omega) HFc.out (fun h => by cases h) u))
                simp only [Act.put, List.setIfInBounds_toArray, List.set_cons_zero, List.set_cons_succ]
                refine wpAnyH_ready (rs := [14]) (by kernel_rfl) (by simp) (AllReadyH.cons ((nth_eq _ 14).trans rfl) ?_ AllReadyH.nil)
                intro K' hK
                refine call_in hK (by kernel_rfl) 11 #[u12, .agg #[.int .i64 qf.1, .int .i64 qf.2], .slice (some fp) f1 f1] (by go_simp) _ (HPut.out _ T3) ?_
                rintro nv2 z2 ⟨⟨ys2, hn2⟩, c2⟩
                have U4 : Below x4.heap.size x4 z2 := U3.trans c2
                refine ⟨U4, ?_⟩
                simp only [Act.put, List.setIfInBounds_toArray, List.set_cons_zero, List.set_cons_succ]
                refine take_held 15 U4 rfl (by kernel_rfl) (by kernel_rfl) (by kernel_rfl) (fun _ _ _ h => h) (by kernel_rfl) (v := ?v5055) ?y5055 ?r5055
                case y5055 => (intro u hu; go_simp; try rfl)
                simp only [Act.put, List.setIfInBounds_toArray, List.set_cons_zero, List.set_cons_succ]
                refine done_held (by kernel_rfl) ?_ _
                obtain ⟨lv, ly, lcp, hlv⟩ : ∃ (lv : Option Addr) (ly lcp : Nat), nv2 = .slice lv ly lcp := by obtain ⟨a, cp, h, _⟩ := own_form hn2.own; exact ⟨a, _, cp, h⟩
                have HN2 : Hid (NwY x4.heap.size (lifted now (kd, bq, qf, qt)) nv2 z2 ys2) := hn2
                have HU2 : Hid (Below x4.heap.size x4 z2) := U4
                have hkd : z2.cell? ⟨(jp.add (i * 9)).block, (jp.add (i * 9)).off + 1, none⟩ = some (.int .i64 kd) := HJq.out _ U4 1 _ rfl
                clear hlv hn2 T0 T3 U3 U4 HPut HFl HLs HFc w1 w2 hf1n HN1 HD1 HNw2
                have HPb : Hid (∀ u, Below x4.heap.size x4 u → ∀ j z, #[.int .i64 p.1, .int .i64 p.2][j]? = some z → u.cell? ((⟨pb, 0, none⟩ : Addr).add j) = some z) := fun u hu => row_below (((bcat HS4.out hu (Nat.le_refl _)).block _ (lt_of_heap HK3.out.2)).trans HK3.out.2) (Below.refl _ _)
                have HQt : Hid (∀ u, Below x4.heap.size x4 u → ∀ j z, #[Value.int .i64 qt.1, .int .i64 qt.2][j]? = some z → u.cell? (((jp.add (i * 9)).add 6).add j) = some z) := fun u hu j z hz => by
                  rw [add_add]
                  refine HJq.out u hu (6 + j) z ?_
                  match j, hz with
                  | 0, hz => exact hz
                  | 1, hz => exact hz
                  | j + 2, hz => simp at hz
                have HTs : Hid (total (stepJ now (kd, bq, qf, qt)) ≤ 8000000) := by have h1 := total_step HOk.out; have h2 := HTo.out; show _ ≤ _; omega
                have HNs : Hid ((stepJ now (kd, bq, qf, qt)).length ≤ sn + 2 * (i + 1)) := by have h1 := step_len now (kd, bq, qf, qt); have h2 := HNl.out; show _ ≤ _; omega
                by_cases hk2 : kd = 2
                · obtain ⟨hbq, hqt⟩ := HOk.out.fetch hk2
                  have hbq : bq = bin := hbq
                  have hqt : qt = p := hqt
                  have hst : stepJ now (kd, bq, qf, qt) = lifted now (kd, bq, qf, qt) := by unfold stepJ; rw [if_pos hk2]
                  have HN3 : Hid (NwY x4.heap.size (stepJ now (kd, bq, qf, qt)) nv2 z2.drew ys2) := by show NwY _ _ _ _ _; rw [hst]; exact HN2.out.go (Below.refl _ _).drew
                  have HTk2 : Hid (((r.take (i + 1)).filter fun q => decide (q.1 = 2)).length = f + 1) := by have := HTk.out; rw [if_pos hk2] at this; exact this
                  clear hst HN2 HOk HTk
                  generalize stepJ now (kd, bq, qf, qt) = now2 at *
                  subst hbq hqt hk2
                  go_upto_region 18 with fail
                  have T4 : Below z2.heap.size z2 z2.drew := (Below.refl _ _).drew
                  clear hkd
                  refine start_held (S := fun u => Below z2.heap.size z2 u) 16 rfl (by kernel_rfl) (T4) ?_
                  simp only [Array.replicate_succ, Array.replicate_zero, List.push_toArray, List.nil_append, List.cons_append]
                  refine take_held 0 T4 rfl (by kernel_rfl) (by kernel_rfl) (by kernel_rfl) (fun _ _ _ h => h) (by kernel_rfl) (v := ?v5056) ?y5056 ?r5056
                  case y5056 => (intro u hu; go_simp; try rfl)
                  simp only [Act.put, List.setIfInBounds_toArray, List.set_cons_zero, List.set_cons_succ]
                  refine take_held 1 T4 rfl (by kernel_rfl) (by kernel_rfl) (by kernel_rfl) (fun _ _ _ h => h) (by kernel_rfl) (v := ?v5057) ?y5057 ?r5057
                  case y5057 => (intro u hu; go_simp; try rfl)
                  simp only [Act.put, List.setIfInBounds_toArray, List.set_cons_zero, List.set_cons_succ]
                  refine take_held 2 T4 rfl (by kernel_rfl) (by kernel_rfl) (by kernel_rfl) (fun _ _ _ h => h) (by kernel_rfl) (v := ?v5058) ?y5058 ?r5058
                  case y5058 => (intro u hu; go_simp; try rfl)
                  simp only [Act.put, List.setIfInBounds_toArray, List.set_cons_zero, List.set_cons_succ]
                  refine take_held 3 T4 rfl (by kernel_rfl) (by kernel_rfl) (by kernel_rfl) (fun _ _ _ h => h) (by kernel_rfl) (v := ?v5059) ?y5059 ?r5059
                  case y5059 => (intro u hu; go_simp; try rfl)
                  simp only [Act.put, List.setIfInBounds_toArray, List.set_cons_zero, List.set_cons_succ]
                  refine take_held 4 T4 rfl (by kernel_rfl) (by kernel_rfl) (by kernel_rfl) (fun _ _ _ h => h) (by kernel_rfl) (v := ?v5060) ?y5060 ?r5060
                  case y5060 => (intro u hu; have zz0 := (show u.cell? ⟨(jp.add (i * 9)).block, (jp.add (i * 9)).off + 3, none⟩ = some (.int .i64 bq) from HJq.out u (bcat HU2.out hu (Nat.le_refl _)) 3 _ rfl); go_simp; try rfl)
                  simp only [Act.put, List.setIfInBounds_toArray, List.set_cons_zero, List.set_cons_succ]
                  refine take_held 5 T4 rfl (by kernel_rfl) (by kernel_rfl) (by kernel_rfl) (fun _ _ _ h => h) (by kernel_rfl) (v := ?v5061) ?y5061 ?r5061
                  case y5061 => (intro u hu; go_simp; try rfl)
                  simp only [Act.put, List.setIfInBounds_toArray, List.set_cons_zero, List.set_cons_succ]
                  refine take_held 6 T4 rfl (by kernel_rfl) (by kernel_rfl) (by kernel_rfl) (fun _ _ _ h => h) (by kernel_rfl) (v := ?v5062) ?y5062 ?r5062
                  case y5062 => (intro u hu; go_simp; try rfl)
                  simp only [Act.put, List.setIfInBounds_toArray, List.set_cons_zero, List.set_cons_succ]
                  refine take_held 7 T4 rfl (by kernel_rfl) (by kernel_rfl) (by kernel_rfl) (fun _ _ _ h => h) (by kernel_rfl) (v := ?v5063) ?y5063 ?r5063
                  case y5063 => (intro u hu; go_simp; try rfl)
                  simp only [Act.put, List.setIfInBounds_toArray, List.set_cons_zero, List.set_cons_succ]
                  refine take_held 8 T4 rfl (by kernel_rfl) (by kernel_rfl) (by kernel_rfl) (fun _ _ _ h => h) (by kernel_rfl) (v := ?v5064) ?y5064 ?r5064
                  case y5064 => (intro u hu; go_simp; try rfl)
                  simp only [Act.put, List.setIfInBounds_toArray, List.set_cons_zero, List.set_cons_succ]
                  refine take_held 9 T4 rfl (by kernel_rfl) (by kernel_rfl) (by kernel_rfl) (fun _ _ _ h => h) (by kernel_rfl) (v := ?v5065) ?y5065 ?r5065
                  case y5065 => (intro u hu; go_simp; try rfl)
                  simp only [Act.put, List.setIfInBounds_toArray, List.set_cons_zero, List.set_cons_succ]
                  refine take_held 10 T4 rfl (by kernel_rfl) (by kernel_rfl) (by kernel_rfl) (fun _ _ _ h => h) (by kernel_rfl) (v := ?v5066) ?y5066 ?r5066
                  case y5066 => (intro u hu; go_simp; try rfl)
                  simp only [Act.put, List.setIfInBounds_toArray, List.set_cons_zero, List.set_cons_succ]
                  refine take_held 11 T4 rfl (by kernel_rfl) (by kernel_rfl) (by kernel_rfl) (fun _ _ _ h => h) (by kernel_rfl) (v := ?v5067) ?y5067 ?r5067
                  case y5067 => (intro u hu; go_simp; try rfl)
                  simp only [Act.put, List.setIfInBounds_toArray, List.set_cons_zero, List.set_cons_succ]
                  refine take_held 12 T4 rfl (by kernel_rfl) (by kernel_rfl) (by kernel_rfl) (fun _ _ _ h => h) (by kernel_rfl) (v := .agg #[.int .i64 qt.1, .int .i64 qt.2]) ?y5068 ?r5068
                  case y5068 => (intro u hu; exact run_load_op 30 _ rfl ((jp.add (i * 9)).add 6) _ rfl (HQt.out u (bcat HU2.out hu (Nat.le_refl _))) (aggCell u) infoCell2)
                  simp only [Act.put, List.setIfInBounds_toArray, List.set_cons_zero, List.set_cons_succ]
                  refine take_held 13 T4 rfl (by kernel_rfl) (by kernel_rfl) (by kernel_rfl) (fun _ _ _ h => h) (by kernel_rfl) (v := .agg #[.int .i64 qt.1, .int .i64 qt.2]) ?y5069 ?r5069
                  case y5069 => (intro u hu; exact run_load_op 30 _ rfl ⟨pb, 0, none⟩ _ rfl (HPb.out u (bcat HU2.out hu (Nat.le_refl _))) (aggCell u) infoCell2)
                  simp only [Act.put, List.setIfInBounds_toArray, List.set_cons_zero, List.set_cons_succ]
                  refine take_held 14 T4 rfl (by kernel_rfl) (by kernel_rfl) (by kernel_rfl) (fun _ _ _ h => h) (by kernel_rfl) (v := .bool false) ?y5070 ?r5070
                  case y5070 => (intro u hu; exact (run_neq_cell (.tmp 161) (.tmp 162) rfl qt.1 qt.2 qt.1 qt.2 rfl rfl).trans (by simp))
                  simp only [Act.put, List.setIfInBounds_toArray, List.set_cons_zero, List.set_cons_succ]
                  refine take_held 15 T4 rfl (by kernel_rfl) (by kernel_rfl) (by kernel_rfl) (fun _ _ _ h => h) (by kernel_rfl) (v := ?v5071) ?y5071 ?r5071
                  case y5071 => (intro u hu; go_simp; try rfl)
                  simp only [Act.put, List.setIfInBounds_toArray, List.set_cons_zero, List.set_cons_succ]
                  refine done_held (by kernel_rfl) ?_ _
                  go_wp2_with fail
                  go_roundw
                  case rel => exact ⟨i + 1, f + 1, now2, ys2, by omega, by go_num, by go_num, by omega, HTk2, HN3, HNs, HTs, HR2, bcat HU2.out (Below.refl _ _).drew (Nat.le_refl _)⟩
                  case measure => simp only [intOf]; omega
                · have hdk : (kd == 2) = false := beq_eq_false_iff_ne.2 hk2
                  obtain ⟨hqL, hqh⟩ := HOk.out.room hk2
                  have hqh : ((pileOf (lifted now (kd, bq, qf, qt)) qt).length : Int) < c.height := hqh
                  have HSt : Hid (stackedR c qt) := (mem_cells HNw.out qt).1 hqL
                  have HSt2 : Hid (stepJ now (kd, bq, qf, qt) = putP (lifted now (kd, bq, qf, qt)) qt (pileOf (lifted now (kd, bq, qf, qt)) qt ++ [bq])) := by show _ = _; unfold stepJ; rw [if_neg hk2]
                  have HTk2 : Hid (((r.take (i + 1)).filter fun q => decide (q.1 = 2)).length = f) := by have := HTk.out; rw [if_neg hk2] at this; exact this
                  have hl1 : (lifted now (kd, bq, qf, qt)).length ≤ 9000000 := by have h1 := put_len now qf (pileOf now qf).dropLast; have h2 := HNl.out; show (putP now qf (pileOf now qf).dropLast).length ≤ _; omega
                  generalize stepJ now (kd, bq, qf, qt) = now2 at *
                  generalize lifted now (kd, bq, qf, qt) = now1 at *
                  obtain ⟨on, hon⟩ : ∃ on, (pileOf now1 qt).length = on := ⟨_, rfl⟩
                  have HOn : Hid ((pileOf now1 qt).length = on) := hon
                  rw [hon] at hqh
                  have hhb : c.height ≤ 8 := by have := limited_sides (new_some HNw.out).1.1; omega
                  have hdh : decide (c.height ≤ (on : Int)) = false := decide_eq_false (by omega)
                  have hqt2 := HQt.out _ HU2.out
                  have cB2 := nowBins_any x4.heap.size now1 nv2 qt z2 ys2 HN2.out (by omega)
                  clear hon hqL HOk HTk hk2
                  go_upto_region 21 with (first
                    | (refine wpList_load_at rfl 30 (.tmp 169) rfl ((jp.add (i * 9)).add 6) rfl #[.int .i64 qt.1, .int .i64 qt.2] hqt2 (aggCell _) infoCell2 ?_)
                    | (go_at_call 10; refine cB2.mono ?_; rintro e z3 ⟨rb2, rfl, ⟨oa, oc, hov, hoc, hol⟩, c3⟩; subst hov))
                  have HN3 : Hid (NwY x4.heap.size now1 nv2 z3 ys2) := HN2.out.go c3
                  have HU3 : Hid (Below x4.heap.size x4 z3) := bcat HU2.out c3 (Nat.le_refl _)
                  rw [HOn.out] at hoc hol ⊢
                  have HOl : Hid (ListAt 1 intEl (Gd x4.heap.size nv2 z3) (pileOf now1 qt) (.slice oa on oc) z3) := hol
                  have HOc : Hid (on ≤ oc) := hoc
                  have HCx : Hid (∀ u, Below x4.heap.size x4 u → ∀ j z, #[.int .i64 c.W, .int .i64 c.H, .int .i64 c.height, v1, .slice (some pq) pn pk, v3, .slice sa sn sk, .int .i64 c.unit, .int .i64 c.accel, .int .i64 c.speed, .int .i64 c.turn, .int .i64 c.hoist, .int .i64 c.queue, .int .i64 c.resend, .int .i64 c.budget, .bool c.back][j]? = some z → u.cell? ((⟨w.heap.size, 0, none⟩ : Addr).add j) = some z) := fun u hu => row_below (((bcat HS4.out hu (Nat.le_refl _)).block _ (lt_of_heap HK3.out.1)).trans HK3.out.1) (Below.refl _ _)
                  have HC2 : Hid (∀ u, Below x4.heap.size x4 u → u.cell? ⟨w.heap.size, 2, none⟩ = some (.int .i64 c.height)) := fun u hu => (cell_of (((bcat HS4.out hu (Nat.le_refl _)).block _ (lt_of_heap HK3.out.1)).trans HK3.out.1) 2).trans rfl
                  have HSk : Hid (∀ u, Below z3.heap.size z3 u → Calls Try.prog 12 #[.agg #[.int .i64 c.W, .int .i64 c.H, .int .i64 c.height, v1, .slice (some pq) pn pk, v3, .slice sa sn sk, .int .i64 c.unit, .int .i64 c.accel, .int .i64 c.speed, .int .i64 c.turn, .int .i64 c.hoist, .int .i64 c.queue, .int .i64 c.resend, .int .i64 c.budget, .bool c.back], .agg #[.int .i64 qt.1, .int .i64 qt.2]] u fun e w' => ∃ v, e = .returned v ∧ (v = .bool true ∧ Below u.heap.size u w')) := fun u hu => by
                    have bu := bcat HB4.out (bcat HU3.out hu (Nat.le_refl _)) (Nat.le_refl _)
                    refine (stackedR_any (Old w) c v1 (.slice (some pq) pn pk) v3 (.slice sa sn sk) qt.1 qt.2 u (HA.out _ bu) (fun b hb => Nat.lt_of_lt_of_le (hO b hb) bu.size) (by omega) (by omega) (by omega)).mono ?_
                    rintro e w' ⟨rv, rfl, rfl, b⟩
                    exact ⟨_, rfl, by rw [decide_eq_true (show stackedR c (qt.1, qt.2) from HSt.out)], b⟩
                  have T4 : Below z3.heap.size z3 z3.drew := (Below.refl _ _).drew
                  clear hkd hqt2 cB2 hol hoc c3 HN2
                  refine start_held (S := fun u => Below z3.heap.size z3 u) 15 rfl (by kernel_rfl) (T4) ?_
                  simp only [Array.replicate_succ, Array.replicate_zero, List.push_toArray, List.nil_append, List.cons_append]
                  refine take_held 0 T4 rfl (by kernel_rfl) (by kernel_rfl) (by kernel_rfl) (fun _ _ _ h => h) (by kernel_rfl) (v := .agg #[.int .i64 c.W, .int .i64 c.H, .int .i64 c.height, v1, .slice (some pq) pn pk, v3, .slice sa sn sk, .int .i64 c.unit, .int .i64 c.accel, .int .i64 c.speed, .int .i64 c.turn, .int .i64 c.hoist, .int .i64 c.queue, .int .i64 c.resend, .int .i64 c.budget, .bool c.back]) ?y5072 ?r5072
                  case y5072 => (intro u hu; exact run_load_op 26 _ rfl ⟨w.heap.size, 0, none⟩ _ rfl (HCx.out u (bcat HU3.out hu (Nat.le_refl _))) (aggConf u) info_conf)
                  simp only [Act.put, List.setIfInBounds_toArray, List.set_cons_zero, List.set_cons_succ]
                  refine take_held 1 T4 rfl (by kernel_rfl) (by kernel_rfl) (by kernel_rfl) (fun _ _ _ h => h) (by kernel_rfl) (v := ?v5073) ?y5073 ?r5073
                  case y5073 => (intro u hu; go_simp; try rfl)
                  simp only [Act.put, List.setIfInBounds_toArray, List.set_cons_zero, List.set_cons_succ]
                  refine take_held 2 T4 rfl (by kernel_rfl) (by kernel_rfl) (by kernel_rfl) (fun _ _ _ h => h) (by kernel_rfl) (v := ?v5074) ?y5074 ?r5074
                  case y5074 => (intro u hu; go_simp; try rfl)
                  simp only [Act.put, List.setIfInBounds_toArray, List.set_cons_zero, List.set_cons_succ]
                  refine take_held 3 T4 rfl (by kernel_rfl) (by kernel_rfl) (by kernel_rfl) (fun _ _ _ h => h) (by kernel_rfl) (v := ?v5075) ?y5075 ?r5075
                  case y5075 => (intro u hu; go_simp; try rfl)
                  simp only [Act.put, List.setIfInBounds_toArray, List.set_cons_zero, List.set_cons_succ]
                  refine take_held 4 T4 rfl (by kernel_rfl) (by kernel_rfl) (by kernel_rfl) (fun _ _ _ h => h) (by kernel_rfl) (v := ?v5076) ?y5076 ?r5076
                  case y5076 => (intro u hu; go_simp; try rfl)
                  simp only [Act.put, List.setIfInBounds_toArray, List.set_cons_zero, List.set_cons_succ]
                  refine take_held 5 T4 rfl (by kernel_rfl) (by kernel_rfl) (by kernel_rfl) (fun _ _ _ h => h) (by kernel_rfl) (v := .agg #[.int .i64 qt.1, .int .i64 qt.2]) ?y5077 ?r5077
                  case y5077 => (intro u hu; exact run_load_op 30 _ rfl ((jp.add (i * 9)).add 6) _ rfl (HQt.out u (bcat HU3.out hu (Nat.le_refl _))) (aggCell u) infoCell2)
                  simp only [Act.put, List.setIfInBounds_toArray, List.set_cons_zero, List.set_cons_succ]
                  refine wpAnyH_ready (rs := [6]) (by kernel_rfl) (by simp) (AllReadyH.cons ((nth_eq _ 6).trans rfl) ?_ AllReadyH.nil)
                  intro K' hK
                  refine call_in hK (by kernel_rfl) 12 #[.agg #[.int .i64 c.W, .int .i64 c.H, .int .i64 c.height, v1, .slice (some pq) pn pk, v3, .slice sa sn sk, .int .i64 c.unit, .int .i64 c.accel, .int .i64 c.speed, .int .i64 c.turn, .int .i64 c.hoist, .int .i64 c.queue, .int .i64 c.resend, .int .i64 c.budget, .bool c.back], .agg #[.int .i64 qt.1, .int .i64 qt.2]] (by go_simp) _ (HSk.out _ T4) ?_
                  rintro sv z4 ⟨rfl, c4⟩
                  have T5 : Below z3.heap.size z3 z4 := bcat T4 c4 (Nat.le_refl _)
                  refine ⟨T5, ?_⟩
                  simp only [Act.put, List.setIfInBounds_toArray, List.set_cons_zero, List.set_cons_succ]
                  refine take_held 7 T5 rfl (by kernel_rfl) (by kernel_rfl) (by kernel_rfl) (fun _ _ _ h => h) (by kernel_rfl) (v := ?v5078) ?y5078 ?r5078
                  case y5078 => (intro u hu; go_simp; try rfl)
                  simp only [Act.put, List.setIfInBounds_toArray, List.set_cons_zero, List.set_cons_succ]
                  refine take_held 8 T5 rfl (by kernel_rfl) (by kernel_rfl) (by kernel_rfl) (fun _ _ _ h => h) (by kernel_rfl) (v := ?v5079) ?y5079 ?r5079
                  case y5079 => (intro u hu; go_simp; try rfl)
                  simp only [Act.put, List.setIfInBounds_toArray, List.set_cons_zero, List.set_cons_succ]
                  refine take_held 9 T5 rfl (by kernel_rfl) (by kernel_rfl) (by kernel_rfl) (fun _ _ _ h => h) (by kernel_rfl) (v := ?v5080) ?y5080 ?r5080
                  case y5080 => (intro u hu; go_simp; try rfl)
                  simp only [Act.put, List.setIfInBounds_toArray, List.set_cons_zero, List.set_cons_succ]
                  refine take_held 10 T5 rfl (by kernel_rfl) (by kernel_rfl) (by kernel_rfl) (fun _ _ _ h => h) (by kernel_rfl) (v := ?v5081) ?y5081 ?r5081
                  case y5081 => (intro u hu; go_simp; try rfl)
                  simp only [Act.put, List.setIfInBounds_toArray, List.set_cons_zero, List.set_cons_succ]
                  refine take_held 11 T5 rfl (by kernel_rfl) (by kernel_rfl) (by kernel_rfl) (fun _ _ _ h => h) (by kernel_rfl) (v := ?v5082) ?y5082 ?r5082
                  case y5082 => (intro u hu; go_simp; try rfl)
                  simp only [Act.put, List.setIfInBounds_toArray, List.set_cons_zero, List.set_cons_succ]
                  refine take_held 12 T5 rfl (by kernel_rfl) (by kernel_rfl) (by kernel_rfl) (fun _ _ _ h => h) (by kernel_rfl) (v := ?v5083) ?y5083 ?r5083
                  case y5083 => (intro u hu; have zz0 := HC2.out u (bcat HU3.out hu (Nat.le_refl _)); go_simp; try rfl)
                  simp only [Act.put, List.setIfInBounds_toArray, List.set_cons_zero, List.set_cons_succ]
                  refine take_held 13 T5 rfl (by kernel_rfl) (by kernel_rfl) (by kernel_rfl) (fun _ _ _ h => h) (by kernel_rfl) (v := ?v5084) ?y5084 ?r5084
                  case y5084 => (intro u hu; go_simp; try rfl)
                  simp only [Act.put, List.setIfInBounds_toArray, List.set_cons_zero, List.set_cons_succ]
                  refine take_held 14 T5 rfl (by kernel_rfl) (by kernel_rfl) (by kernel_rfl) (fun _ _ _ h => h) (by kernel_rfl) (v := ?v5085) ?y5085 ?r5085
                  case y5085 => (intro u hu; go_simp; try rfl)
                  simp only [Act.put, List.setIfInBounds_toArray, List.set_cons_zero, List.set_cons_succ]
                  refine done_held (by kernel_rfl) ?_ _
                  obtain ⟨z5, hz5⟩ : ∃ z5, z4.drew = z5 := ⟨_, rfl⟩
                  have T5b : Below z3.heap.size z3 z5 := by rw [← hz5]; exact bcat T5 (Below.refl _ _).drew (Nat.le_refl _)
                  have U5 : Below x4.heap.size x4 z5 := bcat HU3.out T5b (Nat.le_refl _)
                  go_upto_region 23 with fail
                  clear hdh hdk
                  have HOz : Hid (oa = none → on = 0 ∧ oc = 0) := by obtain ⟨a1, c1, hv, h0⟩ := HOl.out.form; injection hv with q1 q2 q3; subst q1 q3; exact fun h => ⟨by rw [q2]; exact (h0 h).1, (h0 h).2⟩
                  refine start_held (S := fun u => Below x4.heap.size x4 u) 21 rfl (by kernel_rfl) (by rw [hz5]; exact U5) ?_
                  rw [hz5]
                  clear hz5
                  simp only [Array.replicate_succ, Array.replicate_zero, List.push_toArray, List.nil_append, List.cons_append]
                  refine take_held 0 U5 rfl (by kernel_rfl) (by kernel_rfl) (by kernel_rfl) (fun _ _ _ h => h) (by kernel_rfl) (v := ?v5086) ?y5086 ?r5086
                  case y5086 => (intro u hu; go_simp; try rfl)
                  simp only [Act.put, List.setIfInBounds_toArray, List.set_cons_zero, List.set_cons_succ]
                  refine take_held 1 U5 rfl (by kernel_rfl) (by kernel_rfl) (by kernel_rfl) (fun _ _ _ h => h) (by kernel_rfl) (v := ?v5087) ?y5087 ?r5087
                  case y5087 => (intro u hu; go_simp; try rfl)
                  simp only [Act.put, List.setIfInBounds_toArray, List.set_cons_zero, List.set_cons_succ]
                  refine take_held 2 U5 rfl (by kernel_rfl) (by kernel_rfl) (by kernel_rfl) (fun _ _ _ h => h) (by kernel_rfl) (v := ?v5088) ?y5088 ?r5088
                  case y5088 => (intro u hu; go_simp; try rfl)
                  simp only [Act.put, List.setIfInBounds_toArray, List.set_cons_zero, List.set_cons_succ]
                  refine take_held 3 U5 rfl (by kernel_rfl) (by kernel_rfl) (by kernel_rfl) (fun _ _ _ h => h) (by kernel_rfl) (v := ?v5089) ?y5089 ?r5089
                  case y5089 => (intro u hu; go_simp; try rfl)
                  simp only [Act.put, List.setIfInBounds_toArray, List.set_cons_zero, List.set_cons_succ]
                  refine take_held 4 U5 rfl (by kernel_rfl) (by kernel_rfl) (by kernel_rfl) (fun _ _ _ h => h) (by kernel_rfl) (v := ?v5090) ?y5090 ?r5090
                  case y5090 => (intro u hu; go_simp; try rfl)
                  simp only [Act.put, List.setIfInBounds_toArray, List.set_cons_zero, List.set_cons_succ]
                  refine take_held 5 U5 rfl (by kernel_rfl) (by kernel_rfl) (by kernel_rfl) (fun _ _ _ h => h) (by kernel_rfl) (v := .agg #[.int .i64 qt.1, .int .i64 qt.2]) ?y5091 ?r5091
                  case y5091 => (intro u hu; exact run_load_op 30 _ rfl ((jp.add (i * 9)).add 6) _ rfl (HQt.out u hu) (aggCell u) infoCell2)
                  simp only [Act.put, List.setIfInBounds_toArray, List.set_cons_zero, List.set_cons_succ]
                  refine take_held 6 U5 rfl (by kernel_rfl) (by kernel_rfl) (by kernel_rfl) (fun _ _ _ h => h) (by kernel_rfl) (v := ?v5092) ?y5092 ?r5092
                  case y5092 => (intro u hu; go_simp; try rfl)
                  simp only [Act.put, List.setIfInBounds_toArray, List.set_cons_zero, List.set_cons_succ]
                  refine take_held 7 U5 rfl (by kernel_rfl) (by kernel_rfl) (by kernel_rfl) (fun _ _ _ h => h) (by kernel_rfl) (v := ?v5093) ?y5093 ?r5093
                  case y5093 => (intro u hu; go_simp; try rfl)
                  simp only [Act.put, List.setIfInBounds_toArray, List.set_cons_zero, List.set_cons_succ]
                  refine take_held 8 U5 rfl (by kernel_rfl) (by kernel_rfl) (by kernel_rfl) (fun _ _ _ h => h) (by kernel_rfl) (v := ?v5094) ?y5094 ?r5094
                  case y5094 => (intro u hu; go_simp; try rfl)
                  simp only [Act.put, List.setIfInBounds_toArray, List.set_cons_zero, List.set_cons_succ]
                  refine take_held 9 U5 rfl (by kernel_rfl) (by kernel_rfl) (by kernel_rfl) (fun _ _ _ h => h) (by kernel_rfl) (v := ?v5095) ?y5095 ?r5095
                  case y5095 => (intro u hu; go_simp; try rfl)
                  simp only [Act.put, List.setIfInBounds_toArray, List.set_cons_zero, List.set_cons_succ]
                  refine take_held 10 U5 rfl (by kernel_rfl) (by kernel_rfl) (by kernel_rfl) (fun _ _ _ h => h) (by kernel_rfl) (v := ?v5096) ?y5096 ?r5096
                  case y5096 => (intro u hu; go_simp; try rfl)
                  simp only [Act.put, List.setIfInBounds_toArray, List.set_cons_zero, List.set_cons_succ]
                  refine take_held 11 U5 rfl (by kernel_rfl) (by kernel_rfl) (by kernel_rfl) (fun _ _ _ h => h) (by kernel_rfl) (v := .slice oa on on) ?y5097 ?r5097
                  case y5097 => (intro u hu; exact run_take3_op (.tmp 193) (.tmp 195) (.tmp 197) rfl _ _ _ _ rfl rfl rfl (run_take3 oa on oc on (Nat.le_refl _) HOc.out HOz.out u))
                  simp only [Act.put, List.setIfInBounds_toArray, List.set_cons_zero, List.set_cons_succ]
                  refine take_held 12 U5 rfl (by kernel_rfl) (by kernel_rfl) (by kernel_rfl) (fun _ _ _ h => h) (by kernel_rfl) (v := ?v5098) ?y5098 ?r5098
                  case y5098 => (intro u hu; go_simp; try rfl)
                  simp only [Act.put, List.setIfInBounds_toArray, List.set_cons_zero, List.set_cons_succ]
                  refine take_held 13 U5 rfl (by kernel_rfl) (by kernel_rfl) (by kernel_rfl) (fun _ _ _ h => h) (by kernel_rfl) (v := ?v5099) ?y5099 ?r5099
                  case y5099 => (intro u hu; go_simp; try rfl)
                  simp only [Act.put, List.setIfInBounds_toArray, List.set_cons_zero, List.set_cons_succ]
                  refine take_held 14 U5 rfl (by kernel_rfl) (by kernel_rfl) (by kernel_rfl) (fun _ _ _ h => h) (by kernel_rfl) (v := ?v5100) ?y5100 ?r5100
                  case y5100 => (intro u hu; go_simp; try rfl)
                  simp only [Act.put, List.setIfInBounds_toArray, List.set_cons_zero, List.set_cons_succ]
                  refine take_held 15 U5 rfl (by kernel_rfl) (by kernel_rfl) (by kernel_rfl) (fun _ _ _ h => h) (by kernel_rfl) (v := ?v5101) ?y5101 ?r5101
                  case y5101 => (intro u hu; go_simp; try rfl)
                  simp only [Act.put, List.setIfInBounds_toArray, List.set_cons_zero, List.set_cons_succ]
                  refine take_held 16 U5 rfl (by kernel_rfl) (by kernel_rfl) (by kernel_rfl) (fun _ _ _ h => h) (by kernel_rfl) (v := .int .i64 bq) ?y5102 ?r5102
                  case y5102 => (intro u hu; have zz : u.cell? ⟨(jp.add (i * 9)).block, (jp.add (i * 9)).off + 3, none⟩ = some (.int .i64 bq) := HJq.out u hu 3 _ rfl; go_simp; try rfl)
                  simp only [Act.put, List.setIfInBounds_toArray, List.set_cons_zero, List.set_cons_succ]
                  refine wpAnyH_ready (rs := [17]) (by kernel_rfl) (by simp) (AllReadyH.cons ((nth_eq _ 17).trans rfl) ?_ AllReadyH.nil)
                  intro K1 hK1
                  obtain ⟨z6, hz6⟩ : ∃ z6, z6 = z5.alloc (.cells #[.int .i64 bq] 3) := ⟨_, rfl⟩
                  have c6 : Below z5.heap.size z5 z6 := by rw [hz6]; exact below_new (Below.refl _ _) _
                  have L6 := list_one (f := intL) (S := 1) z5 bq 3 rfl
                  change ListAt 1 (ElL intL) (fun b => b = z5.heap.size) [bq] (.slice (some ⟨z5.heap.size, 0, none⟩) 1 1) (z5.alloc (.cells #[.int .i64 bq] 3)) at L6
                  have U6 : Below x4.heap.size x4 z6 := bcat U5 c6 (Nat.le_refl _)
                  refine value_in hK1 (by kernel_rfl) (.slice (some ⟨z5.heap.size, 0, none⟩) 1 1) z6 (by rw [hz6]; go_simp; try rfl) U6 ?_
                  rw [← hz6] at L6
                  clear hz6
                  simp only [Act.put, List.setIfInBounds_toArray, List.set_cons_zero, List.set_cons_succ]
                  refine wpAnyH_ready (rs := [18]) (by kernel_rfl) (by simp) (AllReadyH.cons ((nth_eq _ 18).trans rfl) ?_ AllReadyH.nil)
                  intro K2 hK2
                  have T6 : Below z3.heap.size z3 z6 := bcat T5b c6 (Nat.le_refl _)
                  have hl6 := (list_takeI HOl.out on on (by rw [HOn.out]; exact Nat.le_refl _) (fun h => (HOz.out h).1)).go heldInt (fun q hq => hq.2.1) T6
                  rw [List.take_of_length_le (by rw [HOn.out]; exact Nat.le_refl _)] at hl6
                  obtain ⟨v7, z7, hrun7, own7, c7⟩ := run_app_full hl6 L6 (by omega) 38
                  have U7 : Below x4.heap.size x4 z7 := bcat U6 c7 (Nat.le_refl _)
                  have T7 : Below z3.heap.size z3 z7 := bcat T6 c7 (Nat.le_refl _)
                  refine value_in hK2 (by kernel_rfl) v7 z7 (run_app_op (t := 38) (.tmp 198) (.tmp 204) rfl (.slice oa on on) (.slice (some ⟨z5.heap.size, 0, none⟩) 1 1) v7 rfl rfl hrun7) U7 ?_
                  obtain ⟨a7, c7p, hv7, _, hcp7, _⟩ := own_form own7
                  have hL7 := list_of_own kindInt.len own7
                  subst hv7
                  have hN7 := HN3.out.go T7
                  have hG7 : ListAt 1 intEl (Gd x4.heap.size nv2 z7) (pileOf now1 qt ++ [bq]) (.slice a7 (pileOf now1 qt ++ [bq]).length c7p) z7 := hL7.mono heldInt fun g hg => ⟨Nat.le_trans U6.size hg.1, hg.2, fun e => by have h1 := (HN3.out.own.lt g e).2; have h2 := T6.size; have h3 := hg.1; omega⟩
                  have hle : (pileOf now1 qt ++ [bq]).length = on + 1 := by rw [List.length_append, HOn.out]; rfl
                  rw [hle] at hG7 hcp7 ⊢
                  clear hrun7 own7 hL7 hl6 L6
                  simp only [Act.put, List.setIfInBounds_toArray, List.set_cons_zero, List.set_cons_succ]
                  refine wpAnyH_ready (rs := [19]) (by kernel_rfl) (by simp) (AllReadyH.cons ((nth_eq _ 19).trans rfl) ?_ AllReadyH.nil)
                  intro K3 hK3
                  refine call_in hK3 (by kernel_rfl) 11 #[nv2, .agg #[.int .i64 qt.1, .int .i64 qt.2], .slice a7 (on + 1) c7p] (by go_simp) _ (put_any x4.heap.size now1 nv2 qt (pileOf now1 qt ++ [bq]) a7 (on + 1) c7p z7 ys2 hN7 U7.size hG7 hcp7 (by omega)) ?_
                  rintro nv3 z8 ⟨⟨ys3, hn3⟩, c8⟩
                  have U8 : Below x4.heap.size x4 z8 := U7.trans c8
                  refine ⟨U8, ?_⟩
                  have HN8 : Hid (NwY x4.heap.size now2 nv3 z8 ys3) := by show NwY _ _ _ _ _; rw [HSt2.out]; exact hn3
                  have HU8 : Hid (Below x4.heap.size x4 z8) := U8
                  clear hn3 hN7 hG7 c8 hK1 hK2 hK3
                  simp only [Act.put, List.setIfInBounds_toArray, List.set_cons_zero, List.set_cons_succ]
                  refine take_held 20 U8 rfl (by kernel_rfl) (by kernel_rfl) (by kernel_rfl) (fun _ _ _ h => h) (by kernel_rfl) (v := ?v5103) ?y5103 ?r5103
                  case y5103 => (intro u hu; go_simp; try rfl)
                  simp only [Act.put, List.setIfInBounds_toArray, List.set_cons_zero, List.set_cons_succ]
                  refine done_held (by kernel_rfl) ?_ _
                  go_wp2_with fail
                  go_roundw
                  case rel => exact ⟨i + 1, f, now2, ys3, by omega, by go_num, rfl, by omega, HTk2, HN8, HNs, HTs, HR2, HU8⟩
                  case measure => simp only [intOf]; omega
              · have hie : i = rn := by omega
                have hd : decide ((i : Int) < (rn : Int)) = false := decide_eq_false (by omega)
                have hdr : r.drop i = [] := List.drop_eq_nil_of_le (by rw [HRn.out]; omega)
                have hnow : now = en := by have := HRi.out; rw [hdr] at this; exact this
                have hf1 : f = 1 := by
                  have h1 := HFi.out
                  rw [List.take_of_length_le (by rw [HRn.out]; omega), HFet.out] at h1
                  exact h1.symm
                subst hnow
                subst hf1
                obtain ⟨we, hwe⟩ : ∃ we, wr = we := ⟨_, rfl⟩
                have HEb : Hid (Below x4.heap.size x4 we) := by rw [← hwe]; exact HBi.out
                have HNe : Hid (∀ u, Below we.heap.size we u → NwY x4.heap.size now u12 u ys) := fun u hu => by rw [← hwe] at hu; exact HNw2.out.go hu
                have HC6e : Hid (∀ u, Below we.heap.size we u → u.cell? ⟨w.heap.size, 6, none⟩ = some (.slice sa sn sk)) := fun u hu => HC6b.out u (bcat HS4.out (bcat HEb.out hu (Nat.le_refl _)) (Nat.le_refl _))
                have HC15 : Hid (∀ u, Below we.heap.size we u → u.cell? ⟨w.heap.size, 15, none⟩ = some (.bool c.back)) := fun u hu => cell_below ((cell_of HK3.out.1 15).trans rfl) (bcat HS4.out (bcat HEb.out hu (Nat.le_refl _)) (Nat.le_refl _))
                have HSe : Hid (∀ u, Below we.heap.size we u → ListAt 3 stackEl (Old w) c.stacks (.slice sa sn sk) u) := fun u hu => (HA.out u (bcat HB4.out (bcat HEb.out hu (Nat.le_refl _)) (Nat.le_refl _))).s
                have HNl2 : Hid (now.length ≤ 9223372036854775807) := by have := HNl.out; show _ ≤ _; omega
                rw [hwe]
                clear hwe HRi HFi HNw2 HBi hdr hd HNl
                have hlt' : ¬ (i : Int) < (rn : Int) := by omega
                have hii : ¬ i < rn := hlt
                clear hie hlt
                go_wp2_with fail
                go_loopw [17] (fun ck wq => ∃ (k : Nat), ck = .int .i64 k ∧ k ≤ sn ∧ Below we.heap.size we wq) (fun ck _ => sn - (intOf ck).toNat)
                case atStart => exact ⟨0, rfl, Nat.zero_le _, Below.refl _ _⟩
                case round =>
                  obtain ⟨k, rfl, hk, bk⟩ := hrel
                  have c6 := HC6e.out wr bk
                  have c15 := HC15.out wr bk
                  by_cases hgo : k < sn ∧ c.back = true
                  · obtain ⟨hks, hbk⟩ := hgo
                    have v1 : (k : Int) < (sn : Int) := by omega
                    have hkl : k < c.stacks.length := by rw [HSn.out]; exact hks
                    rw [hbk] at c15
                    obtain ⟨sp, scs, scap, hsv, hsF, ⟨bv, hbv, hbl⟩, hsr⟩ := (HSe.out we (Below.refl _ _)).item hkl
                    rw [HSn.out] at hsv
                    obtain ⟨rfl, rfl⟩ : sa = some sp ∧ sk = scap := by injection hsv with h1 h2 h3; exact ⟨h1, h3⟩
                    subst hbv
                    have hBk := HBack.out hbk (c.stacks[k]'hkl) (List.getElem_mem hkl)
                    have hbig := HL5.out (c.stacks[k]'hkl) (List.getElem_mem hkl)
                    clear hbk
                    generalize c.stacks[k]'hkl = s at *
                    obtain ⟨sc, sb⟩ := s
                    simp only at hbl hsr hBk hbig
                    obtain ⟨bn, hbn⟩ : ∃ bn, sb.length = bn := ⟨_, rfl⟩
                    have HBn : Hid (sb.length = bn) := hbn
                    obtain ⟨ba, bc, hbv2, _⟩ := hbl.form
                    rw [hbn] at hbv2 hbig
                    subst hbv2
                    have lwe : w.heap.size ≤ we.heap.size := Nat.le_trans HB4.out.size HEb.out.size
                    have HSr : Hid (∀ u, Below we.heap.size we u → ∀ j z, #[Value.int .i64 sc.1, .int .i64 sc.2, .slice ba bn bc][j]? = some z → u.cell? ((sp.add (k * 3)).add j) = some z) := fun u hu j z hz => (cell_same (by rw [block_add, block_add]; exact hu.block _ (Nat.lt_of_lt_of_le hsF lwe))).trans (hsr j z hz)
                    have HBl : Hid (∀ u, Below we.heap.size we u → ListAt 1 intEl (Old w) sb (.slice ba bn bc) u) := fun u hu => hbl.go heldInt (fun b hb => Nat.lt_of_lt_of_le hb lwe) hu
                    have HBq : Hid (pileOf now sc = sb.filter (fun b => decide (b ≠ bin))) := hBk
                    have HBk : Hid (Below we.heap.size we wr) := bk
                    have c2 : wr.cell? ⟨(sp.add (k * 3)).block, (sp.add (k * 3)).off + 2, none⟩ = some (.slice ba bn bc) := HSr.out wr bk 2 _ rfl
                    clear hbl hsr hBk hbn hsv bk hsF
                    go_wp2_with fail
                    go_loopw [19, 18] (fun cj vw wq => ∃ (j : Nat), cj = .int .i64 j ∧ j ≤ bn ∧ wq.ownsRow we.heap.size 3 1 vw ((sb.take j).filter (fun b => decide (b ≠ bin))).length (rowL intL ((sb.take j).filter (fun b => decide (b ≠ bin)))) ∧ Below we.heap.size we wq) (fun cj _ _ => bn - (intOf cj).toNat)
                    case atStart => exact ⟨0, rfl, Nat.zero_le _, World.ownsRow_nil _ _ _ _, HBk.out⟩
                    case round =>
                      obtain ⟨j, rfl, hj, hO, bj⟩ := hrel
                      have d6 := HC6e.out wr bj
                      have d2 : wr.cell? ⟨(sp.add (k * 3)).block, (sp.add (k * 3)).off + 2, none⟩ = some (.slice ba bn bc) := HSr.out wr bj 2 _ rfl
                      by_cases hjn : j < bn
                      · have v2 : (j : Int) < (bn : Int) := by omega
                        have hjl : j < sb.length := by rw [HBn.out]; exact hjn
                        obtain ⟨bp, bcs, bcap, hbv3, hbF, hbE, hbr⟩ := (HBl.out wr bj).item hjl
                        rw [HBn.out] at hbv3
                        obtain ⟨rfl, rfl⟩ : ba = some bp ∧ bc = bcap := by injection hbv3 with h1 h2 h3; exact ⟨h1, h3⟩
                        have hbE2 : bcs = #[Value.int .i64 (sb[j]'hjl)] := hbE
                        subst hbE2
                        have hx := hbr 0 (.int .i64 (sb[j]'hjl)) rfl
                        rw [Nat.mul_one, add_add, Nat.add_zero] at hx
                        have htk : sb.take (j + 1) = sb.take j ++ [sb[j]'hjl] := by rw [List.take_add_one, List.getElem?_eq_getElem hjl]; rfl
                        have HTk : Hid (sb.take (j + 1) = sb.take j ++ [sb[j]'hjl]) := htk
                        generalize sb[j]'hjl = x at *
                        have HO : Hid (wr.ownsRow we.heap.size 3 1 u18 ((sb.take j).filter (fun b => decide (b ≠ bin))).length (rowL intL ((sb.take j).filter (fun b => decide (b ≠ bin))))) := hO
                        have HBj : Hid (Below we.heap.size we wr) := bj
                        have HLn : Hid (((sb.take j).filter (fun b => decide (b ≠ bin))).length ≤ j) := Nat.le_trans (List.length_filter_le _ _) (by rw [List.length_take]; omega)
                        clear hO bj hbr hbE htk hbv3
                        by_cases hxb : x = bin
                        · have v3 : (x != bin) = false := by simp [hxb]
                          have HF2 : Hid ((sb.take (j + 1)).filter (fun b => decide (b ≠ bin)) = (sb.take j).filter (fun b => decide (b ≠ bin))) := by show _ = _; rw [HTk.out, List.filter_append]; simp [hxb]
                          clear hxb
                          go_wp2
                          go_roundw
                          case rel => exact ⟨j + 1, by go_num, by omega, by rw [HF2.out]; exact HO.out, HBj.out⟩
                          case measure => simp [intOf]; omega
                        · have v3 : (x != bin) = true := by simp [hxb]
                          have HF2 : Hid ((sb.take (j + 1)).filter (fun b => decide (b ≠ bin)) = (sb.take j).filter (fun b => decide (b ≠ bin)) ++ [x]) := by show _ = _; rw [HTk.out, List.filter_append]; simp [hxb]
                          clear hxb
                          go_wp2_with (at_builtin; have bA := (Below.refl wr.heap.size wr).alloc (Nat.le_refl _) (.cells #[.int .i64 x] 3); have O10 := owns_go HO.out bA; have L10 := list_one (f := intL) (S := 1) wr x 3 rfl; have e1 : (((sb.take j).filter (fun b => decide (b ≠ bin))).length + [x].length) * 8 ≤ 140737488355328 := (by have := HLn.out; simp only [List.length_cons, List.length_nil]; omega); have e2 : ((sb.take j).filter (fun b => decide (b ≠ bin))).length + [x].length ≤ maxLen := (by have := HLn.out; unfold maxLen; simp only [List.length_cons, List.length_nil]; omega); have e3 := Nat.le_trans HBj.out.size bA.size; refine wpList_app kindInt rfl (.tmp 242) (.tmp 252) rfl _ _ _ rfl O10 _ _ [x] rfl L10 e1 e2 e3 ?_; intro v11 w11 own11 g11 at11)
                          go_roundw
                          case rel =>
                            refine ⟨j + 1, by go_num, by omega, ?_, ?_⟩
                            · rw [HF2.out]; exact own11
                            · exact (bcat HBj.out bA (Nat.le_refl _)).grown g11 (bcat HBj.out bA (Nat.le_refl _)).size (fun q e => (O10.lt q e).1)
                          case measure => simp [intOf]; omega
                      · obtain rfl : j = bn := by omega
                        have v2 : ¬ (j : Int) < (j : Int) := by omega
                        have hcl : ∀ q z, #[Value.int .i64 sc.1, .int .i64 sc.2][q]? = some z → wr.cell? ((sp.add (k * 3)).add q) = some z := fun q z hz => by
                          match q, hz with
                          | 0, hz => exact HSr.out wr bj 0 z hz
                          | 1, hz => exact HSr.out wr bj 1 z hz
                          | q + 2, hz => simp at hz
                        rw [List.take_of_length_le (by rw [HBn.out]; exact Nat.le_refl _)] at hO
                        have cB := nowBins_any x4.heap.size now u12 sc wr ys (HNe.out wr bj) HNl2.out
                        have HO : Hid (wr.ownsRow we.heap.size 3 1 u18 (sb.filter (fun b => decide (b ≠ bin))).length (rowL intL (sb.filter (fun b => decide (b ≠ bin))))) := hO
                        have HBj : Hid (Below we.heap.size we wr) := bj
                        have HFl : Hid ((sb.filter (fun b => decide (b ≠ bin))).length ≤ 9223372036854775807) := Nat.le_trans (List.length_filter_le _ _) (by rw [HBn.out]; omega)
                        clear hO bj
                        go_wp2_with (first
                          | (refine wpList_load_at rfl 30 (.tmp 259) rfl (sp.add (k * 3)) rfl #[.int .i64 sc.1, .int .i64 sc.2] hcl (aggCell _) infoCell2 ?_)
                          | (go_at_call 10; refine cB.mono ?_; rintro e y1 ⟨rb, rfl, ⟨fa, fc, hfv, hfc, hfl⟩, c1⟩; subst hfv; have cSI := sameInts_any (Gd x4.heap.size u12 y1) _ (pileOf now sc) (sb.filter (fun b => decide (b ≠ bin))) _ u18 y1 hfl ((list_of_own kindInt.len HO.out).go heldInt (fun q hq => hq.2) c1) (fun q hq => hq.2.1) (fun q hq => Nat.lt_of_lt_of_le hq.2 c1.size) (by rw [HBq.out]; exact HFl.out) HFl.out; rw [decide_eq_true HBq.out] at cSI)
                          | (go_at_call 13; refine cSI.mono ?_; rintro e y2 ⟨rz, rfl, rfl, c2'⟩))
                        go_roundw
                        case rel => exact ⟨k + 1, by go_num, by omega, bcat (bcat HBj.out c1 (Nat.le_refl _)) c2' (Nat.le_refl _)⟩
                        case measure => simp [intOf]; omega
                  · go_upto_region 27 with fail
                    go_cut [217] from 209 to 217 (fun v wx => v = .bool false ∧ wx = wr)
                    case first =>
                      by_cases hks : k < sn
                      · have v1 : (k : Int) < (sn : Int) := by omega
                        have hbk : c.back = false := by
                          cases h : c.back with
                          | false => rfl
                          | true => exact absurd ⟨hks, h⟩ hgo
                        rw [hbk] at c15
                        clear hbk hgo
                        go_wp2_with fail
                        go_meet
                        exact ⟨rfl, rfl⟩
                      · have v1 : ¬ (k : Int) < (sn : Int) := by omega
                        clear hgo
                        go_wp2_with fail
                        go_meet
                        exact ⟨rfl, rfl⟩
                    case rest =>
                    obtain ⟨rfl, hwx⟩ := hcut
                    rename World => wz0
                    subst hwx
                    have HBz : Hid (Below we.heap.size we wz0) := bk
                    clear bk c6 c15 hgo
                    obtain ⟨na, ncap, hnv, _⟩ := own_form (HNe.out we (Below.refl _ _)).own
                    rw [(HNe.out we (Below.refl _ _)).len] at hnv
                    obtain ⟨nl, hnl⟩ : ∃ nl, now.length = nl := ⟨_, rfl⟩
                    have HNL : Hid (now.length = nl) := hnl
                    have hnl2 : nl ≤ 9223372036854775807 := by rw [← hnl]; exact HNl2.out
                    rw [hnl] at hnv
                    subst hnv
                    clear hnl
                    go_wp2_with fail
                    go_loopw [22, 20] (fun cj cn wq => ∃ (j : Nat) (t : Int), cj = .int .i64 j ∧ j ≤ nl ∧ cn = .int .i64 t ∧ Hid (t = ((total (now.take j) : Nat) : Int)) ∧ 0 ≤ t ∧ t ≤ 8000000 ∧ Below we.heap.size we wq) (fun cj _ _ => nl - (intOf cj).toNat)
                    case atStart => exact ⟨0, 0, rfl, Nat.zero_le _, rfl, rfl, by omega, by omega, HBz.out⟩
                    case round =>
                      obtain ⟨j, t, rfl, hj, rfl, HT, t0, t8, bj⟩ := hrel
                      by_cases hjn : j < nl
                      · have q1 : (j : Int) < (nl : Int) := by omega
                        have hjl : j < now.length := by rw [HNL.out]; exact hjn
                        obtain ⟨pp, ba, bn, bc, cap, hv, _, hbn, _, _, hrd⟩ := (HNe.out wr bj).item hjl
                        rw [HNL.out] at hv
                        obtain ⟨rfl, rfl⟩ : na = some pp ∧ ncap = cap := by injection hv with h1 h2 h3; exact ⟨h1, h3⟩
                        have d2 : wr.cell? ⟨(pp.add (j * 3)).block, (pp.add (j * 3)).off + 2, none⟩ = some (.slice ba bn bc) := hrd 2 _ rfl
                        have HT2 : Hid (t + (bn : Int) = ((total (now.take (j + 1)) : Nat) : Int)) := by show _ = _; rw [total_take now hjl, HT.out, hbn]; omega
                        have t9 : t + (bn : Int) ≤ 8000000 := by have h1 := total_take_le now (j + 1); have h2 := HTo.out; rw [HT2.out]; omega
                        have HBj : Hid (Below we.heap.size we wr) := bj
                        clear hbn hrd hv bj
                        go_wp2
                        go_roundw
                        case rel => exact ⟨j + 1, t + (bn : Int), by go_num, by omega, by go_num, HT2, by omega, t9, HBj.out⟩
                        case measure => simp [intOf]; omega
                      · have q1 : ¬ (j : Int) < (nl : Int) := by omega
                        have HTn : Hid (t = ((total now : Nat) : Int)) := by have := HT.out; rw [List.take_of_length_le (by rw [HNL.out]; omega)] at this; exact this
                        have HBj : Hid (Below we.heap.size we wr) := bj
                        clear HT bj
                        go_wp2_with fail
                        go_loopw [23, 21] (fun cj cn wq => ∃ (j : Nat) (t : Int), cj = .int .i64 j ∧ j ≤ sn ∧ cn = .int .i64 t ∧ Hid (t = ((total (c.stacks.take j) : Nat) : Int)) ∧ 0 ≤ t ∧ t ≤ 8000001 ∧ Below we.heap.size we wq) (fun cj _ _ => sn - (intOf cj).toNat)
                        case atStart => exact ⟨0, 0, rfl, Nat.zero_le _, rfl, rfl, by omega, by omega, HBj.out⟩
                        case round =>
                          obtain ⟨j2, t2, rfl, hj2, rfl, HT2, t20, t28, bj⟩ := hrel
                          have d6 := HC6e.out wr bj
                          by_cases hjn2 : j2 < sn
                          · have q2 : (j2 : Int) < (sn : Int) := by omega
                            have hjl : j2 < c.stacks.length := by rw [HSn.out]; exact hjn2
                            obtain ⟨sp, scs, scap, hsv, hsF, ⟨bv, hbv, hbl⟩, hsr⟩ := (HSe.out wr bj).item hjl
                            rw [HSn.out] at hsv
                            obtain ⟨rfl, rfl⟩ : sa = some sp ∧ sk = scap := by injection hsv with h1 h2 h3; exact ⟨h1, h3⟩
                            subst hbv
                            obtain ⟨ba, bc, hbv2, _⟩ := hbl.form
                            subst hbv2
                            have hT3 := total_take c.stacks hjl
                            generalize c.stacks[j2]'hjl = s at *
                            obtain ⟨bn, hbn⟩ : ∃ bn, s.2.length = bn := ⟨_, rfl⟩
                            rw [hbn] at hsr hT3
                            have d2 : wr.cell? ⟨(sp.add (j2 * 3)).block, (sp.add (j2 * 3)).off + 2, none⟩ = some (.slice ba bn bc) := hsr 2 _ rfl
                            have HT3 : Hid (t2 + (bn : Int) = ((total (c.stacks.take (j2 + 1)) : Nat) : Int)) := by show _ = _; rw [hT3, HT2.out]; omega
                            have t9 : t2 + (bn : Int) ≤ 8000001 := by have h1 := total_take_le c.stacks (j2 + 1); have h2 := HTo.out; have h3 := HTot.out; rw [HT3.out]; omega
                            have HBj2 : Hid (Below we.heap.size we wr) := bj
                            clear hbn hsr hsv hbl hT3 bj hsF
                            go_wp2
                            go_roundw
                            case rel => exact ⟨j2 + 1, t2 + (bn : Int), by go_num, by omega, by go_num, HT3, by omega, t9, HBj2.out⟩
                            case measure => simp [intOf]; omega
                          · have q2 : ¬ (j2 : Int) < (sn : Int) := by omega
                            have HTm : Hid (t2 = ((total c.stacks : Nat) : Int)) := by have := HT2.out; rw [List.take_of_length_le (by rw [HSn.out]; omega)] at this; exact this
                            have q3 : t2 - 1 = t := by rw [HTm.out, HTn.out]; have := HTot.out; omega
                            have HBj2 : Hid (Below we.heap.size we wr) := bj
                            clear HT2 bj
                            go_wp2_with (go_at_call 5; refine (awake14_any _).mono ?_; rintro e w9 ⟨rw9, rfl, rfl, b9⟩)
                            go_ret
                            exact ⟨rfl, bcat (bcat (bcat HB4.out HEb.out (Nat.le_refl _)) HBj2.out (Nat.le_refl _)) b9 (Nat.le_refl _)⟩
end Go.Proofs.Ytebfjldbhmmmlaa.Dig
