/-
  A bin that is nowhere, at a cell that is touched, a port that is none: refused.
-/
import Derived.Test.YtnilbgmmcmjciaaDigAwake
import Derived.Test.YtnilbgmmcmjciaaDigSmall
import Derived.Test.YtnilbgmmcmjciaaDigPlain3
namespace Go.Proofs.Ytnilbgmmcmjciaa.Dig
set_option linter.unusedVariables false
set_option linter.unusedSimpArgs false
open Go Go.RowKit Go.Shelf Go.Proofs Go.Proofs.Ytnilbgmmcmjciaa.Grid Go.Proofs.Ytnilbgmmcmjciaa.Srt
attribute [local go_sem] Oper.semAt_some

theorem piles_lenR {stks : List Stk} {m : Nat} (h : ∀ s ∈ stks, s.2.length ≤ m) (x : Cell) : (pileOf stks x).length ≤ m := by
  unfold pileOf
  split
  · rename_i s hs
    exact h s (List.mem_of_find?_eq_some hs)
  · exact Nat.zero_le _
set_option maxRecDepth 100000 in
set_option maxHeartbeats 4000000 in
theorem refuses_all_law (c : Conf) (v1 v2 v3 v4 : Value) (w : World) (hA : ConfAt (Old w) c v1 v2 v3 v4 w) (l1 : c.blocked.length ≤ 8796093022208) (l2 : c.ports.length ≤ 8796093022208) (l3 : c.robots.length ≤ 5864062014805) (l4 : c.stacks.length ≤ 3518437208880) (l5 : ∀ s ∈ c.stacks, s.2.length ≤ 17592186044416) (bin which : Int) :
    Calls Try.prog 10 #[.agg #[.int .i64 c.W, .int .i64 c.H, .int .i64 c.height, v1, v2, v3, v4, .int .i64 c.unit, .int .i64 c.accel, .int .i64 c.speed, .int .i64 c.turn, .int .i64 c.hoist, .int .i64 c.queue, .int .i64 c.resend, .int .i64 c.budget, .bool c.back], .int .i64 bin, .int .i64 which] w fun e w' => e = .returned (.bool true) ∧ Below w.heap.size w w' := by
  obtain ⟨w1, hw1⟩ : ∃ w1, w1 = w.alloc (.cells #[.int .i64 c.W, .int .i64 c.H, .int .i64 c.height, v1, v2, v3, v4, .int .i64 c.unit, .int .i64 c.accel, .int .i64 c.speed, .int .i64 c.turn, .int .i64 c.hoist, .int .i64 c.queue, .int .i64 c.resend, .int .i64 c.budget, .bool c.back] 26) := ⟨_, rfl⟩
  have b1 : Below w.heap.size w w1 := by rw [hw1]; exact below_new (Below.refl _ _) _
  have hc1 : w1.heap[w.heap.size]? = some (.cells #[.int .i64 c.W, .int .i64 c.H, .int .i64 c.height, v1, v2, v3, v4, .int .i64 c.unit, .int .i64 c.accel, .int .i64 c.speed, .int .i64 c.turn, .int .i64 c.hoist, .int .i64 c.queue, .int .i64 c.resend, .int .i64 c.budget, .bool c.back] 26 (0, 0)) := by rw [hw1]; exact heap_alloc_new w _
  have hO : ∀ b, Old w b → b < w.heap.size := fun b h => h
  have cS := small_any (Old w) c v1 v2 v3 v4 w1 (hA.go hO b1) (fun b hb => Nat.lt_of_lt_of_le (hO b hb) b1.size) l1 l2 l3 l4 l5
  have HA : Hid (∀ u, Below w.heap.size w u → ConfAt (Old w) c v1 v2 v3 v4 u) := fun u b => hA.go hO b
  have HPl : Hid (∀ x, (pileOf c.stacks x).length ≤ 17592186044416) := piles_lenR l5
  have HL5 : Hid (∀ s ∈ c.stacks, s.2.length ≤ 17592186044416) := l5
  have HB1 : Hid (Below w.heap.size w w1) := b1
  obtain ⟨pa, pk, hv2, hp0⟩ := hA.p.form
  obtain ⟨sa, sk, hv4, hs0⟩ := hA.s.form
  obtain ⟨pn, hpn⟩ : ∃ pn, c.ports.length = pn := ⟨_, rfl⟩
  obtain ⟨sn, hsn0⟩ : ∃ sn, c.stacks.length = sn := ⟨_, rfl⟩
  have HPn : Hid (c.ports.length = pn) := hpn
  have HSn : Hid (c.stacks.length = sn) := hsn0
  rw [hpn] at hv2
  rw [hsn0] at hv4
  have HC4 : Hid (∀ u, Below w1.heap.size w1 u → u.cell? ⟨w.heap.size, 4, none⟩ = some v2) := fun u hu => cell_below ((cell_of hc1 4).trans rfl) hu
  have HC6 : Hid (∀ u, Below w1.heap.size w1 u → u.cell? ⟨w.heap.size, 6, none⟩ = some v4) := fun u hu => cell_below ((cell_of hc1 6).trans rfl) hu
  have HK1 : Hid (w1.heap[w.heap.size]? = some (.cells #[.int .i64 c.W, .int .i64 c.H, .int .i64 c.height, v1, v2, v3, v4, .int .i64 c.unit, .int .i64 c.accel, .int .i64 c.speed, .int .i64 c.turn, .int .i64 c.hoist, .int .i64 c.queue, .int .i64 c.resend, .int .i64 c.budget, .bool c.back] 26 (0, 0))) := hc1
  -- the first stack, if there is one
  obtain ⟨s0, sp, ba, bk, hS0⟩ : ∃ (s0 : Stk) (sp : Addr) (ba : Option Addr) (bk : Nat), 0 < sn → sa = some sp ∧ s0 ∈ c.stacks ∧ ListAt 1 intEl (Old w) s0.2 (.slice ba s0.2.length bk) w ∧ sp.block < w.heap.size ∧ ∀ j z, #[Value.int .i64 s0.1.1, .int .i64 s0.1.2, .slice ba s0.2.length bk][j]? = some z → w.cell? ((sp.add (0 * 3)).add j) = some z := by
    by_cases h : 0 < sn
    · obtain ⟨sp, cs, cap, hv, hF, ⟨v, hcs, hL⟩, hrd⟩ := hA.s.item (k := 0) (by omega)
      obtain ⟨ba, bk, hvb, _⟩ := hL.form
      subst hvb
      subst hcs
      rw [hv4] at hv
      injection hv with q1 _ _
      exact ⟨c.stacks[0], sp, ba, bk, fun _ => ⟨q1, List.getElem_mem _, hL, hF, hrd⟩⟩
    · exact ⟨((0, 0), []), ⟨0, 0, none⟩, none, 0, fun q => absurd q h⟩
  obtain ⟨bn, hbn⟩ : ∃ bn, s0.2.length = bn := ⟨_, rfl⟩
  have HBn : Hid (s0.2.length = bn) := hbn
  rw [hbn] at hS0
  have HS0 : Hid (0 < sn → sa = some sp ∧ s0 ∈ c.stacks ∧ ListAt 1 intEl (Old w) s0.2 (.slice ba bn bk) w ∧ sp.block < w.heap.size ∧ ∀ j z, #[Value.int .i64 s0.1.1, .int .i64 s0.1.2, .slice ba bn bk][j]? = some z → w.cell? ((sp.add (0 * 3)).add j) = some z) := hS0
  have HS2 : Hid (∀ u, Below w1.heap.size w1 u → 0 < sn → u.cell? ⟨sp.block, sp.off + 2, none⟩ = some (.slice ba bn bk)) := fun u hu q => by
    obtain ⟨_, _, _, q4, q5⟩ := hS0 q
    exact (cell_same (p := ⟨sp.block, sp.off + 2, none⟩) ((bcat b1 hu (Nat.le_refl _)).block _ q4)).trans (q5 2 _ rfl)
  have HPF : Hid (ListAt 2 cellEl (Old w) c.ports (.slice pa pn pk) w) := by rw [← hv2]; exact hA.p
  subst hv2 hv4
  clear hA l5 hS0 hbn hp0 hs0 hpn hsn0
  have HOne : Hid (∀ {F : Nat → Prop} {k1 k2 k3 k4 : Value} {u : World}, ConfAt F c k1 k2 k3 k4 u → (#[.int .i64 c.W, .int .i64 c.H, .int .i64 c.height, k1, k2, k3, k4, .int .i64 c.unit, .int .i64 c.accel, .int .i64 c.speed, .int .i64 c.turn, .int .i64 c.hoist, .int .i64 c.queue, .int .i64 c.resend, .int .i64 c.budget, .bool c.back].all fun x => x.oneCell') = true) := fun h => by
    obtain ⟨_, _, e1, _⟩ := h.b.form
    obtain ⟨_, _, e2, _⟩ := h.p.form
    obtain ⟨_, _, e3, _⟩ := h.r.form
    obtain ⟨_, _, e4, _⟩ := h.s.form
    subst e1 e2 e3 e4
    simp [Value.oneCell']
  go_enter Try.func10, Try.ntmps10
  go_upto_region 1 with fail
  rw [← hw1]
  clear hw1
  cases hsm : (smallN c && (newP c).isSome) with
  | false =>
    rw [hsm] at cS
    go_wp2_with (first
      | (refine wpList_load_row rfl 26 (.tmp 3) rfl w.heap.size rfl 26 _ (0, 0) _ hc1 Try.underlying26 rfl info_conf ?_)
      | (go_at_call 13; refine cS.mono ?_; rintro e w2 ⟨rs, rfl, rfl, b2⟩; have h24 := HC4.out _ b2; have h26 := HC6.out _ b2; have h2s := HS2.out _ b2)
      | (go_at_call 37; refine (awake14_any _).mono ?_; rintro e w9 ⟨rw9, rfl, rfl, b9⟩))
    go_ret
    exact ⟨rfl, bcat (bcat HB1.out b2 (Nat.le_refl _)) b9 (Nat.le_refl _)⟩
  | true =>
    rw [hsm] at cS
    obtain ⟨G, hN⟩ : ∃ G, newP c = some G := by
      cases h : newP c with
      | none => rw [h] at hsm; simp at hsm
      | some G => exact ⟨G, rfl⟩
    clear hsm
    by_cases hp : pn = 0
    · subst hp
      go_wp2_with (first
        | (refine wpList_load_row rfl 26 (.tmp 3) rfl w.heap.size rfl 26 _ (0, 0) _ hc1 Try.underlying26 rfl info_conf ?_)
        | (go_at_call 13; refine cS.mono ?_; rintro e w2 ⟨rs, rfl, rfl, b2⟩; have h24 := HC4.out _ b2; have h26 := HC6.out _ b2; have h2s := HS2.out _ b2)
        | (go_at_call 37; refine (awake14_any _).mono ?_; rintro e w9 ⟨rw9, rfl, rfl, b9⟩))
      go_ret
      exact ⟨rfl, bcat (bcat HB1.out b2 (Nat.le_refl _)) b9 (Nat.le_refl _)⟩
    · have hd1 : ((pn : Int) == 0) = false := beq_eq_false_iff_ne.2 (by omega)
      have hpp : (0 : Int) < (pn : Int) := by omega
      clear hp
      by_cases hs : sn = 0
      · subst hs
        go_wp2_with (first
          | (refine wpList_load_row rfl 26 (.tmp 3) rfl w.heap.size rfl 26 _ (0, 0) _ hc1 Try.underlying26 rfl info_conf ?_)
          | (go_at_call 13; refine cS.mono ?_; rintro e w2 ⟨rs, rfl, rfl, b2⟩; have h24 := HC4.out _ b2; have h26 := HC6.out _ b2; have h2s := HS2.out _ b2)
          | (go_at_call 37; refine (awake14_any _).mono ?_; rintro e w9 ⟨rw9, rfl, rfl, b9⟩))
        go_ret
        exact ⟨rfl, bcat (bcat HB1.out b2 (Nat.le_refl _)) b9 (Nat.le_refl _)⟩
      · have hd2 : ((sn : Int) == 0) = false := beq_eq_false_iff_ne.2 (by omega)
        obtain ⟨rfl, hs0m, hbl, lsp, hsr⟩ := HS0.out (by omega)
        have HBl : Hid (ListAt 1 intEl (Old w) s0.2 (.slice ba bn bk) w) := hbl
        have HSm : Hid (s0 ∈ c.stacks) := hs0m
        have hsp : (0 : Int) < (sn : Int) := by omega
        have hsn9 : 0 < sn := by omega
        clear hs
        clear hbl hs0m
        by_cases hb : bn = 0
        · subst hb
          go_wp2_with (first
            | (refine wpList_load_row rfl 26 (.tmp 3) rfl w.heap.size rfl 26 _ (0, 0) _ hc1 Try.underlying26 rfl info_conf ?_)
            | (go_at_call 13; refine cS.mono ?_; rintro e w2 ⟨rs, rfl, rfl, b2⟩; have h24 := HC4.out _ b2; have h26 := HC6.out _ b2; have h2s := HS2.out _ b2 hsn9)
            | (go_at_call 37; refine (awake14_any _).mono ?_; rintro e w9 ⟨rw9, rfl, rfl, b9⟩))
          go_ret
          exact ⟨rfl, bcat (bcat HB1.out b2 (Nat.le_refl _)) b9 (Nat.le_refl _)⟩
        · have hd3 : ((bn : Int) == 0) = false := beq_eq_false_iff_ne.2 (by omega)
          have hbp : (0 : Int) < (bn : Int) := by omega
          have hbn9 : 0 < bn := by omega
          clear hb
          go_upto_region 3 with (first
            | (refine wpList_load_row rfl 26 (.tmp 3) rfl w.heap.size rfl 26 _ (0, 0) _ hc1 Try.underlying26 rfl info_conf ?_)
            | (go_at_call 13; refine cS.mono ?_; rintro e w2 ⟨rs, rfl, rfl, b2⟩; have h24 := HC4.out _ b2; have h26 := HC6.out _ b2; have h2s := HS2.out _ b2 hsn9))
          clear hd1 hd2 hd3 cS
          have B2 := bcat HB1.out b2 (Nat.le_refl _)
          have hc2 := (b2.block _ (lt_of_heap hc1)).trans hc1
          have cC := copyConf_any (Old w) c v1 (.slice pa pn pk) v3 (.slice (some sp) sn sk) w2 (HA.out _ B2) (fun b hb => Nat.lt_of_lt_of_le (hO b hb) B2.size) l1 l2 l3 l4 HL5.out
          go_upto_region 4 with (first
            | (refine wpList_load_row rfl 26 (.tmp 3) rfl w.heap.size rfl 26 _ (0, 0) _ hc2 Try.underlying26 rfl info_conf ?_)
            | (go_at_call 15; refine cC.mono ?_; rintro e w3 ⟨rc, rfl, ⟨k1, k2, k3, k4, rfl, hC1⟩, b3⟩; have hz3 := heap_alloc_new w3 (.cells #[.int .i64 0, .int .i64 0, .int .i64 0, .slice none 0 0, .slice none 0 0, .slice none 0 0, .slice none 0 0, .int .i64 0, .int .i64 0, .int .i64 0, .int .i64 0, .int .i64 0, .int .i64 0, .int .i64 0, .int .i64 0, .bool false] 26))
            | (refine wpList_store_row rfl 26 (.tmp 7) (.tmp 42) rfl w3.heap.size #[.int .i64 c.W, .int .i64 c.H, .int .i64 c.height, k1, k2, k3, k4, .int .i64 c.unit, .int .i64 c.accel, .int .i64 c.speed, .int .i64 c.turn, .int .i64 c.hoist, .int .i64 c.queue, .int .i64 c.resend, .int .i64 c.budget, .bool c.back] rfl rfl 26 #[.int .i64 0, .int .i64 0, .int .i64 0, .slice none 0 0, .slice none 0 0, .slice none 0 0, .slice none 0 0, .int .i64 0, .int .i64 0, .int .i64 0, .int .i64 0, .int .i64 0, .int .i64 0, .int .i64 0, .int .i64 0, .bool false] hz3 info_conf rfl (HOne.out hC1) ?_))
          obtain ⟨w4, hw4⟩ : ∃ w4, w4 = (w3.alloc (.cells #[.int .i64 0, .int .i64 0, .int .i64 0, .slice none 0 0, .slice none 0 0, .slice none 0 0, .slice none 0 0, .int .i64 0, .int .i64 0, .int .i64 0, .int .i64 0, .int .i64 0, .int .i64 0, .int .i64 0, .int .i64 0, .bool false] 26)).setRow w3.heap.size #[.int .i64 c.W, .int .i64 c.H, .int .i64 c.height, k1, k2, k3, k4, .int .i64 c.unit, .int .i64 c.accel, .int .i64 c.speed, .int .i64 c.turn, .int .i64 c.hoist, .int .i64 c.queue, .int .i64 c.resend, .int .i64 c.budget, .bool c.back] := ⟨_, rfl⟩
          have hd4 : w4.heap[w3.heap.size]? = some (.cells #[.int .i64 c.W, .int .i64 c.H, .int .i64 c.height, k1, k2, k3, k4, .int .i64 c.unit, .int .i64 c.accel, .int .i64 c.speed, .int .i64 c.turn, .int .i64 c.hoist, .int .i64 c.queue, .int .i64 c.resend, .int .i64 c.budget, .bool c.back] 26 (0, 0)) := by rw [hw4]; exact setRow_heap _ _ _ _ _ _ hz3
          have b4 : Below w3.heap.size w3 w4 := by rw [hw4]; exact below_row (below_new (Below.refl _ _) _) (Nat.le_refl _) _
          have b24 := bcat b3 b4 (Nat.le_refl _)
          have B4 := bcat B2 b24 (Nat.le_refl _)
          have hc4 := (b24.block _ (lt_of_heap hc2)).trans hc2
          have HC1 : Hid (∀ u, Below w4.heap.size w4 u → ConfAt (Since w2.heap.size w3) c k1 k2 k3 k4 u) := fun u b => hC1.go (fun q h => h.2) (bcat b4 b (Nat.le_refl _))
          have HC1f : Hid (∀ u, Below w4.heap.size w4 u → ∀ b, Since w2.heap.size w3 b → b < u.heap.size) := fun u b q h => Nat.lt_of_lt_of_le h.2 (bcat b4 b (Nat.le_refl _)).size
          rw [← hw4]
          clear hw4 hz3 cC hC1
          simp only [Act.put]
          obtain ⟨db, hdb⟩ : ∃ db, w3.heap.size = db := ⟨_, rfl⟩
          rw [hdb] at hd4 ⊢
          clear hdb
          -- the first bin, the first port
          obtain ⟨bp, bcs, bcap, hbv, hbF, hbc, hbrd⟩ := HBl.out.item (k := 0) (by rw [HBn.out]; exact hbn9)
          obtain ⟨b0, hb0⟩ : ∃ b0, s0.2[0]'(by rw [HBn.out]; exact hbn9) = b0 := ⟨_, rfl⟩
          have HB0 : Hid (b0 ∈ s0.2) := by rw [← hb0]; exact List.getElem_mem _
          rw [hb0] at hbc
          have hbc2 : bcs = #[Value.int .i64 b0] := hbc
          subst hbc2
          obtain ⟨rfl, rfl⟩ : ba = some bp ∧ bk = bcap := by injection hbv with h1 h2 h3; exact ⟨h1, h3⟩
          have hbcell : w.cell? bp = some (.int .i64 b0) := hbrd 0 _ rfl
          obtain ⟨pp, pcs, pcap, hpv, hpF, hpc, hprd⟩ := HPF.out.item (k := 0) (by rw [HPn.out]; omega)
          obtain ⟨p, hp⟩ : ∃ p, c.ports[0]'(by rw [HPn.out]; omega) = p := ⟨_, rfl⟩
          have HPm : Hid (p ∈ c.ports) := by rw [← hp]; exact List.getElem_mem _
          rw [hp] at hpc
          have hpc2 : pcs = #[.int .i64 p.1, .int .i64 p.2] := hpc
          subst hpc2
          obtain ⟨rfl, rfl⟩ : pa = some pp ∧ pk = pcap := by injection hpv with h1 h2 h3; exact ⟨h1, h3⟩
          have hprd2 : ∀ j z, #[.int .i64 p.1, .int .i64 p.2][j]? = some z → w.cell? (pp.add j) = some z := hprd
          have y6 : w4.cell? ⟨w.heap.size, 6, none⟩ = some (.slice (some sp) sn sk) := (cell_of hc4 6).trans rfl
          have y4 : w4.cell? ⟨w.heap.size, 4, none⟩ = some (.slice (some pp) pn pk) := (cell_of hc4 4).trans rfl
          have ys : w4.cell? ⟨sp.block, sp.off + 2, none⟩ = some (.slice (some bp) bn bk) := HS2.out _ (bcat b2 b24 (Nat.le_refl _)) hsn9
          have yb : w4.cell? bp = some (.int .i64 b0) := (cell_same (B4.block _ (hO _ hbF))).trans hbcell
          have yp : ∀ j z, #[.int .i64 p.1, .int .i64 p.2][j]? = some z → w4.cell? (pp.add j) = some z := fun j z hj => (cell_same (by rw [block_add]; exact B4.block _ (hO _ hpF))).trans (hprd2 j z hj)
          clear hbv hbc hbrd hpv hpc hprd hprd2 hb0 hp
          go_upto_region 6 with (refine wpList_load_at rfl 39 (.tmp 52) rfl pp rfl #[.int .i64 p.1, .int .i64 p.2] yp (aggCell _) infoCell2 ?_)
          obtain ⟨w5, hw5⟩ : ∃ w5, w5 = w4.alloc (.cells #[.int .i64 p.1, .int .i64 p.2] 39) := ⟨_, rfl⟩
          have b5 : Below w4.heap.size w4 w5 := by rw [hw5]; exact below_new (Below.refl _ _) _
          have hp5 : w5.heap[w4.heap.size]? = some (.cells #[.int .i64 p.1, .int .i64 p.2] 39 (0, 0)) := by rw [hw5]; exact heap_alloc_new w4 _
          have hd5 := (b5.block _ (lt_of_heap hd4)).trans hd4
          have hc5 := (b5.block _ (lt_of_heap hc4)).trans hc4
          have HBw : Hid (Below w.heap.size w w5) := bcat B4 b5 (Nat.le_refl _)
          rw [← hw5]
          obtain ⟨pb, hpb⟩ : ∃ pb, w4.heap.size = pb := ⟨_, rfl⟩
          rw [hpb] at hp5 ⊢
          have HC15 : Hid (∀ u, Below w5.heap.size w5 u → ConfAt (Since w2.heap.size w3) c k1 k2 k3 k4 u) := fun u b => HC1.out u (bcat b5 b (Nat.le_refl _))
          have HC15f : Hid (∀ u, Below w5.heap.size w5 u → ∀ b, Since w2.heap.size w3 b → b < u.heap.size) := fun u b => HC1f.out u (bcat b5 b (Nat.le_refl _))
          have HDr : Hid (∀ u, Below w5.heap.size w5 u → ∀ j z, #[.int .i64 c.W, .int .i64 c.H, .int .i64 c.height, k1, k2, k3, k4, .int .i64 c.unit, .int .i64 c.accel, .int .i64 c.speed, .int .i64 c.turn, .int .i64 c.hoist, .int .i64 c.queue, .int .i64 c.resend, .int .i64 c.budget, .bool c.back][j]? = some z → u.cell? ((⟨db, 0, none⟩ : Addr).add j) = some z) := fun u hu => row_below hd5 hu
          have HC6' : Hid (∀ u, Below w5.heap.size w5 u → u.cell? ⟨w.heap.size, 6, none⟩ = some (.slice (some sp) sn sk)) := fun u hu => cell_below ((cell_of hc5 6).trans rfl) hu
          have HPr : Hid (∀ u, Below w5.heap.size w5 u → ∀ j z, #[.int .i64 p.1, .int .i64 p.2][j]? = some z → u.cell? ((⟨pb, 0, none⟩ : Addr).add j) = some z) := fun u hu => row_below hp5 hu
          have HSr : Hid (∀ u, Below w5.heap.size w5 u → ∀ j z, #[.int .i64 s0.1.1, .int .i64 s0.1.2][j]? = some z → u.cell? (sp.add j) = some z) := fun u hu j z hj => (cell_same (by rw [block_add]; exact (bcat HBw.out hu (Nat.le_refl _)).block _ lsp)).trans (hsr j z (by
            match j, hj with
            | 0, h => exact h
            | 1, h => exact h
            | k + 2, h => simp at h))
          have S0 : Below w5.heap.size w5 w5.drew := (Below.refl _ _).drew
          have hsn : sn ≤ 1000000 := by have := (new_few (new_some hN).1).2; have := HSn.out; omega
          have HS1c : Hid (∀ u, Below w5.heap.size w5 u → Calls Try.prog 36 #[.slice (some sp) sn sk] u fun e w' => ∃ r, e = .returned r ∧ (∃ ka kc, r = .slice ka sn kc ∧ ListAt 3 stackElC (Since u.heap.size w') c.stacks (.slice ka sn kc) w') ∧ Below u.heap.size u w') := fun u hu => (copyStacksC_any (Old w) c.stacks (.slice (some sp) sn sk) u (HA.out _ (bcat HBw.out hu (Nat.le_refl _))).s (fun b hb => Nat.lt_of_lt_of_le (hO b hb) (bcat HBw.out hu (Nat.le_refl _)).size) l4 HL5.out).mono fun e w' ⟨r, q1, q2, q3⟩ => by
            obtain ⟨ka, kc, hk, _⟩ := q2.form
            rw [HSn.out] at hk
            subst hk
            exact ⟨_, q1, ⟨ka, kc, rfl, q2⟩, q3⟩
          obtain ⟨pq, hpq⟩ : ∃ pq, placeG which 3 = pq := ⟨_, rfl⟩
          have hpqb := placeG_bd which 3 (by decide)
          rw [hpq] at hpqb
          have cP := placeG_any which 3 w5 (by decide) (by decide)
          rw [hpq] at cP
          clear hw5 hpb hp5 hd5 hc5 hc4 hd4 y6 y4 ys yb yp HC1 HC1f b4 b24 b5 hpq hc2 hc1 b3
          go_upto_region 7 with (go_at_call 19; refine cP.mono ?_; rintro e w6 ⟨rfl, hw6⟩; have hw6' := hw6.symm; subst hw6')
          clear cP
          rcases (show pq = 0 ∨ pq = 1 ∨ pq = 2 by omega) with rfl | rfl | rfl
          · have hqb := placeG_bd bin 1000 (by decide)
            obtain ⟨qb, hqe⟩ : ∃ qb, placeG bin 1000 = qb := ⟨_, rfl⟩
            rw [hqe] at hqb
            have HQw : Hid (IntKind.i64.wrap (-1 - qb) = -1 - qb) := by show _ = _; rw [IntKind.wrap_i64]; omega
            have HQc : Hid (∀ u : World, Calls Try.prog 19 #[.int .i64 bin, .int .i64 1000] u fun e w' => ∃ v, e = .returned v ∧ (v = .int .i64 qb ∧ Below u.heap.size u w')) := fun u => (placeG_any bin 1000 u (by decide) (by decide)).mono fun e w' ⟨q1, q2⟩ => ⟨_, q1, by rw [hqe], by rw [q2]; exact Below.refl _ _⟩
            clear hqe
            go_upto_region 8 with fail
            refine start_held (S := fun u => Below w5.heap.size w5 u) 14 rfl (by kernel_rfl) S0 ?_
            simp only [Array.replicate_succ, Array.replicate_zero, List.push_toArray, List.nil_append, List.cons_append]
            refine take_held 0 S0 rfl (by kernel_rfl) (by kernel_rfl) (by kernel_rfl) (fun _ _ _ h => h) (by kernel_rfl) (v := .agg #[.int .i64 c.W, .int .i64 c.H, .int .i64 c.height, k1, k2, k3, k4, .int .i64 c.unit, .int .i64 c.accel, .int .i64 c.speed, .int .i64 c.turn, .int .i64 c.hoist, .int .i64 c.queue, .int .i64 c.resend, .int .i64 c.budget, .bool c.back]) ?y0 ?r0
            case y0 => (intro u hu; exact run_load_op 26 _ rfl ⟨db, 0, none⟩ _ rfl (HDr.out u hu) (aggConf u) info_conf)
            simp only [Act.put, List.setIfInBounds_toArray, List.set_cons_zero, List.set_cons_succ]
            refine take_held 1 S0 rfl (by kernel_rfl) (by kernel_rfl) (by kernel_rfl) (fun _ _ _ h => h) (by kernel_rfl) (v := ?v1) ?y1 ?r1
            case y1 => (intro u hu; go_simp; try rfl)
            simp only [Act.put, List.setIfInBounds_toArray, List.set_cons_zero, List.set_cons_succ]
            refine take_held 2 S0 rfl (by kernel_rfl) (by kernel_rfl) (by kernel_rfl) (fun _ _ _ h => h) (by kernel_rfl) (v := .slice (some sp) sn sk) ?y2 ?r2
            case y2 => (intro u hu; have zz := HC6'.out u hu; go_simp; try rfl)
            simp only [Act.put, List.setIfInBounds_toArray, List.set_cons_zero, List.set_cons_succ]
            refine take_held 4 S0 rfl (by kernel_rfl) (by kernel_rfl) (by kernel_rfl) (fun _ _ _ h => h) (by kernel_rfl) (v := ?v3) ?y3 ?r3
            case y3 => (intro u hu; go_simp; try rfl)
            simp only [Act.put, List.setIfInBounds_toArray, List.set_cons_zero, List.set_cons_succ]
            refine take_held 7 S0 rfl (by kernel_rfl) (by kernel_rfl) (by kernel_rfl) (fun _ _ _ h => h) (by kernel_rfl) (v := .agg #[.int .i64 p.1, .int .i64 p.2]) ?y4 ?r4
            case y4 => (intro u hu; exact run_load_op 39 _ rfl ⟨pb, 0, none⟩ _ rfl (HPr.out u hu) (aggCell u) infoCell2)
            simp only [Act.put, List.setIfInBounds_toArray, List.set_cons_zero, List.set_cons_succ]
            refine wpAnyH_ready (rs := [3]) (by kernel_rfl) (by simp) (AllReadyH.cons ((nth_eq _ 3).trans rfl) ?_ AllReadyH.nil)
            intro K' hK
            refine call_in hK (by kernel_rfl) 36 #[.slice (some sp) sn sk] (by go_simp) _ (HS1c.out _ S0) ?_
            rintro rs x1 ⟨⟨ka, kc, rfl, hSt⟩, b1⟩
            have S1 : Below w5.heap.size w5 x1 := bcat S0 b1 (Nat.le_refl _)
            have HSt : Hid (∀ u, Below x1.heap.size x1 u → ListAt 3 stackElC (Since w5.drew.heap.size x1) c.stacks (.slice ka sn kc) u) := fun u b => hSt.go heldStackC (fun q h => h.2) b
            have HStf : Hid (∀ u, Below x1.heap.size x1 u → ∀ b, Since w5.drew.heap.size x1 b → b < u.heap.size) := fun u b q h => Nat.lt_of_lt_of_le h.2 b.size
            clear hSt
            refine ⟨S1, ?_⟩
            simp only [Act.put, List.setIfInBounds_toArray, List.set_cons_zero, List.set_cons_succ]
            refine wpAnyH_ready (rs := [5]) (by kernel_rfl) (by simp) (AllReadyH.cons ((nth_eq _ 5).trans rfl) ?_ AllReadyH.nil)
            intro K' hK
            refine call_in hK (by kernel_rfl) 19 #[.int .i64 bin, .int .i64 1000] (by go_simp) _ (HQc.out _) ?_
            rintro vq x2 ⟨rfl, b2'⟩
            have S2 : Below w5.heap.size w5 x2 := bcat S1 b2' (Nat.le_refl _)
            refine ⟨S2, ?_⟩
            simp only [Act.put, List.setIfInBounds_toArray, List.set_cons_zero, List.set_cons_succ]
            refine take_held 6 S2 rfl (by kernel_rfl) (by kernel_rfl) (by kernel_rfl) (fun _ _ _ h => h) (by kernel_rfl) (v := .int .i64 (-1 - qb)) ?y5 ?r5
            case y5 => (intro u hu; have zz := HQw.out; go_simp; try rfl)
            simp only [Act.put, List.setIfInBounds_toArray, List.set_cons_zero, List.set_cons_succ]
            refine wpAnyH_ready (rs := [8]) (by kernel_rfl) (by simp) (AllReadyH.cons ((nth_eq _ 8).trans rfl) ?_ AllReadyH.nil)
            intro K' hK
            refine call_in hK (by kernel_rfl) 38 #[.agg #[.int .i64 c.W, .int .i64 c.H, .int .i64 c.height, k1, k2, k3, k4, .int .i64 c.unit, .int .i64 c.accel, .int .i64 c.speed, .int .i64 c.turn, .int .i64 c.hoist, .int .i64 c.queue, .int .i64 c.resend, .int .i64 c.budget, .bool c.back], .slice ka sn kc, .slice none 0 0, .int .i64 (-1 - qb), .agg #[.int .i64 p.1, .int .i64 p.2]] (by go_simp) _ (jobs_some (HC15.out _ S2) (HC15f.out _ S2) l1 l2 l3 l4 hN _ c.stacks ka sn kc (HSt.out _ b2') (HStf.out _ b2') hsn HPl.out (fun _ => False) [] none 0 0 (ListAt.nil _ _ _ _) (fun _ h => h.elim) (by omega) (-1 - qb) p) ?_
            rintro rj x3 ⟨⟨r, v, ee, rfl, hR, _⟩, b3⟩
            have S3 : Below w5.heap.size w5 x3 := bcat S2 b3 (Nat.le_refl _)
            refine ⟨S3, ?_⟩
            simp only [Act.put, List.setIfInBounds_toArray, List.set_cons_zero, List.set_cons_succ]
            refine take_held 9 S3 rfl (by kernel_rfl) (by kernel_rfl) (by kernel_rfl) (fun _ _ _ h => h) (by kernel_rfl) (v := ?v6) ?y6 ?r6
            case y6 => (intro u hu; go_simp; try rfl)
            simp only [Act.put, List.setIfInBounds_toArray, List.set_cons_zero, List.set_cons_succ]
            refine take_held 10 S3 rfl (by kernel_rfl) (by kernel_rfl) (by kernel_rfl) (fun _ _ _ h => h) (by kernel_rfl) (v := ?v7) ?y7 ?r7
            case y7 => (intro u hu; go_simp; try rfl)
            simp only [Act.put, List.setIfInBounds_toArray, List.set_cons_zero, List.set_cons_succ]
            refine take_held 11 S3 rfl (by kernel_rfl) (by kernel_rfl) (by kernel_rfl) (fun _ _ _ h => h) (by kernel_rfl) (v := ?v8) ?y8 ?r8
            case y8 => (intro u hu; go_simp; try rfl)
            simp only [Act.put, List.setIfInBounds_toArray, List.set_cons_zero, List.set_cons_succ]
            refine take_held 12 S3 rfl (by kernel_rfl) (by kernel_rfl) (by kernel_rfl) (fun _ _ _ h => h) (by kernel_rfl) (v := ?v9) ?y9 ?r9
            case y9 => (intro u hu; go_simp; try rfl)
            simp only [Act.put, List.setIfInBounds_toArray, List.set_cons_zero, List.set_cons_succ]
            refine take_held 13 S3 rfl (by kernel_rfl) (by kernel_rfl) (by kernel_rfl) (fun _ _ _ h => h) (by kernel_rfl) (v := ?v10) ?y10 ?r10
            case y10 => (intro u hu; go_simp; try rfl)
            simp only [Act.put, List.setIfInBounds_toArray, List.set_cons_zero, List.set_cons_succ]
            refine done_held (by kernel_rfl) ?_ _
            have hee := jobs_nobin hN HPm.out (by omega) hR
            subst hee
            clear hR
            go_wp2_with (go_at_call 37; refine (awake14_any _).mono ?_; rintro e w9 ⟨rw9, rfl, rfl, b9⟩)
            go_ret
            exact ⟨rfl, bcat (bcat HBw.out S3 (Nat.le_refl _)) b9 (Nat.le_refl _)⟩
          · go_upto_region 11 with fail
            refine start_held (S := fun u => Below w5.heap.size w5 u) 18 rfl (by kernel_rfl) S0 ?_
            simp only [Array.replicate_succ, Array.replicate_zero, List.push_toArray, List.nil_append, List.cons_append]
            refine take_held 0 S0 rfl (by kernel_rfl) (by kernel_rfl) (by kernel_rfl) (fun _ _ _ h => h) (by kernel_rfl) (v := .agg #[.int .i64 c.W, .int .i64 c.H, .int .i64 c.height, k1, k2, k3, k4, .int .i64 c.unit, .int .i64 c.accel, .int .i64 c.speed, .int .i64 c.turn, .int .i64 c.hoist, .int .i64 c.queue, .int .i64 c.resend, .int .i64 c.budget, .bool c.back]) ?y11 ?r11
            case y11 => (intro u hu; exact run_load_op 26 _ rfl ⟨db, 0, none⟩ _ rfl (HDr.out u hu) (aggConf u) info_conf)
            simp only [Act.put, List.setIfInBounds_toArray, List.set_cons_zero, List.set_cons_succ]
            refine take_held 1 S0 rfl (by kernel_rfl) (by kernel_rfl) (by kernel_rfl) (fun _ _ _ h => h) (by kernel_rfl) (v := ?v12) ?y12 ?r12
            case y12 => (intro u hu; go_simp; try rfl)
            simp only [Act.put, List.setIfInBounds_toArray, List.set_cons_zero, List.set_cons_succ]
            refine take_held 2 S0 rfl (by kernel_rfl) (by kernel_rfl) (by kernel_rfl) (fun _ _ _ h => h) (by kernel_rfl) (v := .slice (some sp) sn sk) ?y13 ?r13
            case y13 => (intro u hu; have zz := HC6'.out u hu; go_simp; try rfl)
            simp only [Act.put, List.setIfInBounds_toArray, List.set_cons_zero, List.set_cons_succ]
            refine take_held 4 S0 rfl (by kernel_rfl) (by kernel_rfl) (by kernel_rfl) (fun _ _ _ h => h) (by kernel_rfl) (v := ?v14) ?y14 ?r14
            case y14 => (intro u hu; go_simp; try rfl)
            simp only [Act.put, List.setIfInBounds_toArray, List.set_cons_zero, List.set_cons_succ]
            refine take_held 5 S0 rfl (by kernel_rfl) (by kernel_rfl) (by kernel_rfl) (fun _ _ _ h => h) (by kernel_rfl) (v := .slice (some sp) sn sk) ?y15 ?r15
            case y15 => (intro u hu; have zz := HC6'.out u hu; go_simp; try rfl)
            simp only [Act.put, List.setIfInBounds_toArray, List.set_cons_zero, List.set_cons_succ]
            refine take_held 6 S0 rfl (by kernel_rfl) (by kernel_rfl) (by kernel_rfl) (fun _ _ _ h => h) (by kernel_rfl) (v := .pointer (some sp)) ?y16 ?r16
            case y16 => (intro u hu; go_simp; try rfl)
            simp only [Act.put, List.setIfInBounds_toArray, List.set_cons_zero, List.set_cons_succ]
            refine take_held 7 S0 rfl (by kernel_rfl) (by kernel_rfl) (by kernel_rfl) (fun _ _ _ h => h) (by kernel_rfl) (v := .pointer (some sp)) ?y17 ?r17
            case y17 => (intro u hu; go_simp; try rfl)
            simp only [Act.put, List.setIfInBounds_toArray, List.set_cons_zero, List.set_cons_succ]
            refine take_held 8 S0 rfl (by kernel_rfl) (by kernel_rfl) (by kernel_rfl) (fun _ _ _ h => h) (by kernel_rfl) (v := .agg #[.int .i64 s0.1.1, .int .i64 s0.1.2]) ?y18 ?r18
            case y18 => (intro u hu; exact run_load_op 39 _ rfl sp _ rfl (HSr.out u hu) (aggCell u) infoCell2)
            simp only [Act.put, List.setIfInBounds_toArray, List.set_cons_zero, List.set_cons_succ]
            refine take_held 10 S0 rfl (by kernel_rfl) (by kernel_rfl) (by kernel_rfl) (fun _ _ _ h => h) (by kernel_rfl) (v := ?v19) ?y19 ?r19
            case y19 => (intro u hu; go_simp; try rfl)
            simp only [Act.put, List.setIfInBounds_toArray, List.set_cons_zero, List.set_cons_succ]
            refine take_held 11 S0 rfl (by kernel_rfl) (by kernel_rfl) (by kernel_rfl) (fun _ _ _ h => h) (by kernel_rfl) (v := .agg #[.int .i64 p.1, .int .i64 p.2]) ?y20 ?r20
            case y20 => (intro u hu; exact run_load_op 39 _ rfl ⟨pb, 0, none⟩ _ rfl (HPr.out u hu) (aggCell u) infoCell2)
            simp only [Act.put, List.setIfInBounds_toArray, List.set_cons_zero, List.set_cons_succ]
            refine wpAnyH_ready (rs := [3, 9]) (by kernel_rfl) (by simp) (AllReadyH.cons ((nth_eq _ 3).trans rfl) ?_ (AllReadyH.cons ((nth_eq _ 9).trans rfl) ?_ AllReadyH.nil))
            · intro K' hK
              refine call_in hK (by kernel_rfl) 36 #[.slice (some sp) sn sk] (by go_simp) _ (HS1c.out _ S0) ?_
              rintro rs x1 ⟨⟨ka, kc, rfl, hSt⟩, b1⟩
              have S1 : Below w5.heap.size w5 x1 := bcat S0 b1 (Nat.le_refl _)
              have HSt : Hid (∀ u, Below x1.heap.size x1 u → ListAt 3 stackElC (Since w5.drew.heap.size x1) c.stacks (.slice ka sn kc) u) := fun u b => hSt.go heldStackC (fun q h => h.2) b
              have HStf : Hid (∀ u, Below x1.heap.size x1 u → ∀ b, Since w5.drew.heap.size x1 b → b < u.heap.size) := fun u b q h => Nat.lt_of_lt_of_le h.2 b.size
              clear hSt
              refine ⟨S1, ?_⟩
              simp only [Act.put, List.setIfInBounds_toArray, List.set_cons_zero, List.set_cons_succ]
              refine wpAnyH_ready (rs := [9]) (by kernel_rfl) (by simp) (AllReadyH.cons ((nth_eq _ 9).trans rfl) ?_ AllReadyH.nil)
              intro K2' hK2'
              obtain ⟨x2, hx2⟩ : ∃ x, x = x1.alloc (.cells #[.int .i64 s0.1.1, .int .i64 s0.1.2] 39) := ⟨_, rfl⟩
              have b2 : Below x1.heap.size x1 x2 := by rw [hx2]; exact below_new (Below.refl _ _) _
              have hts : x2.heap[x1.heap.size]? = some (.cells #[.int .i64 s0.1.1, .int .i64 s0.1.2] 39 (0, 0)) := by rw [hx2]; exact heap_alloc_new _ _
              have S2 : Below w5.heap.size w5 x2 := bcat S1 b2 (Nat.le_refl _)
              refine value_in hK2' (by kernel_rfl) (.slice (some ⟨x1.heap.size, 0, none⟩) 1 1) x2 (by rw [hx2]; go_simp; try rfl) S2 ?_
              simp only [Act.put, List.setIfInBounds_toArray, List.set_cons_zero, List.set_cons_succ]
              clear hx2
              obtain ⟨tb, htb⟩ : ∃ tb, x1.heap.size = tb := ⟨_, rfl⟩
              rw [htb] at hts
              try rw [htb]
              clear htb
              refine wpAnyH_ready (rs := [12]) (by kernel_rfl) (by simp) (AllReadyH.cons ((nth_eq _ 12).trans rfl) ?_ AllReadyH.nil)
              intro K' hK
              refine call_in hK (by kernel_rfl) 38 #[.agg #[.int .i64 c.W, .int .i64 c.H, .int .i64 c.height, k1, k2, k3, k4, .int .i64 c.unit, .int .i64 c.accel, .int .i64 c.speed, .int .i64 c.turn, .int .i64 c.hoist, .int .i64 c.queue, .int .i64 c.resend, .int .i64 c.budget, .bool c.back], .slice ka sn kc, .slice (some ⟨tb, 0, none⟩) 1 1, .int .i64 b0, .agg #[.int .i64 p.1, .int .i64 p.2]] (by go_simp) _ (jobs_some (HC15.out _ S2) (HC15f.out _ S2) l1 l2 l3 l4 hN _ c.stacks ka sn kc (HSt.out _ b2) (HStf.out _ b2) hsn HPl.out (fun q => q = tb) [s0.1] (some ⟨tb, 0, none⟩) 1 1 (list_cell1 (x := s0.1) hts (fun q => q = tb) rfl) (fun q h => by rw [h]; exact lt_of_heap hts) (by omega) b0 p) ?_
              rintro rj x3 ⟨⟨r, v, ee, rfl, hR, _⟩, b3⟩
              have S3 : Below w5.heap.size w5 x3 := bcat S2 b3 (Nat.le_refl _)
              refine ⟨S3, ?_⟩
              simp only [Act.put, List.setIfInBounds_toArray, List.set_cons_zero, List.set_cons_succ]
              refine take_held 13 S3 rfl (by kernel_rfl) (by kernel_rfl) (by kernel_rfl) (fun _ _ _ h => h) (by kernel_rfl) (v := ?v26) ?y26 ?r26
              case y26 => (intro u hu; go_simp; try rfl)
              simp only [Act.put, List.setIfInBounds_toArray, List.set_cons_zero, List.set_cons_succ]
              refine take_held 14 S3 rfl (by kernel_rfl) (by kernel_rfl) (by kernel_rfl) (fun _ _ _ h => h) (by kernel_rfl) (v := ?v27) ?y27 ?r27
              case y27 => (intro u hu; go_simp; try rfl)
              simp only [Act.put, List.setIfInBounds_toArray, List.set_cons_zero, List.set_cons_succ]
              refine take_held 15 S3 rfl (by kernel_rfl) (by kernel_rfl) (by kernel_rfl) (fun _ _ _ h => h) (by kernel_rfl) (v := ?v28) ?y28 ?r28
              case y28 => (intro u hu; go_simp; try rfl)
              simp only [Act.put, List.setIfInBounds_toArray, List.set_cons_zero, List.set_cons_succ]
              refine take_held 16 S3 rfl (by kernel_rfl) (by kernel_rfl) (by kernel_rfl) (fun _ _ _ h => h) (by kernel_rfl) (v := ?v29) ?y29 ?r29
              case y29 => (intro u hu; go_simp; try rfl)
              simp only [Act.put, List.setIfInBounds_toArray, List.set_cons_zero, List.set_cons_succ]
              refine take_held 17 S3 rfl (by kernel_rfl) (by kernel_rfl) (by kernel_rfl) (fun _ _ _ h => h) (by kernel_rfl) (v := ?v30) ?y30 ?r30
              case y30 => (intro u hu; go_simp; try rfl)
              simp only [Act.put, List.setIfInBounds_toArray, List.set_cons_zero, List.set_cons_succ]
              refine done_held (by kernel_rfl) ?_ _
              have hee := jobs_touched hN HPm.out HSm.out HB0.out hR
              subst hee
              clear hR
              go_wp2_with (go_at_call 37; refine (awake14_any _).mono ?_; rintro e w9 ⟨rw9, rfl, rfl, b9⟩)
              go_ret
              exact ⟨rfl, bcat (bcat HBw.out S3 (Nat.le_refl _)) b9 (Nat.le_refl _)⟩
            · intro K1' hK1'
              obtain ⟨x1, hx1⟩ : ∃ x, x = w5.drew.alloc (.cells #[.int .i64 s0.1.1, .int .i64 s0.1.2] 39) := ⟨_, rfl⟩
              have b1 : Below w5.drew.heap.size w5.drew x1 := by rw [hx1]; exact below_new (Below.refl _ _) _
              have hts : x1.heap[w5.drew.heap.size]? = some (.cells #[.int .i64 s0.1.1, .int .i64 s0.1.2] 39 (0, 0)) := by rw [hx1]; exact heap_alloc_new _ _
              have S1 : Below w5.heap.size w5 x1 := bcat S0 b1 (Nat.le_refl _)
              refine value_in hK1' (by kernel_rfl) (.slice (some ⟨w5.drew.heap.size, 0, none⟩) 1 1) x1 (by rw [hx1]; go_simp; try rfl) S1 ?_
              simp only [Act.put, List.setIfInBounds_toArray, List.set_cons_zero, List.set_cons_succ]
              clear hx1
              obtain ⟨tb, htb⟩ : ∃ tb, w5.drew.heap.size = tb := ⟨_, rfl⟩
              rw [htb] at hts
              try rw [htb]
              clear htb
              refine wpAnyH_ready (rs := [3]) (by kernel_rfl) (by simp) (AllReadyH.cons ((nth_eq _ 3).trans rfl) ?_ AllReadyH.nil)
              intro K' hK
              refine call_in hK (by kernel_rfl) 36 #[.slice (some sp) sn sk] (by go_simp) _ (HS1c.out _ S1) ?_
              rintro rs x2 ⟨⟨ka, kc, rfl, hSt⟩, b2⟩
              have S2 : Below w5.heap.size w5 x2 := bcat S1 b2 (Nat.le_refl _)
              have HSt : Hid (∀ u, Below x2.heap.size x2 u → ListAt 3 stackElC (Since x1.heap.size x2) c.stacks (.slice ka sn kc) u) := fun u b => hSt.go heldStackC (fun q h => h.2) b
              have HStf : Hid (∀ u, Below x2.heap.size x2 u → ∀ b, Since x1.heap.size x2 b → b < u.heap.size) := fun u b q h => Nat.lt_of_lt_of_le h.2 b.size
              clear hSt
              refine ⟨S2, ?_⟩
              simp only [Act.put, List.setIfInBounds_toArray, List.set_cons_zero, List.set_cons_succ]
              have hts2 := (b2.block _ (lt_of_heap hts)).trans hts
              refine wpAnyH_ready (rs := [12]) (by kernel_rfl) (by simp) (AllReadyH.cons ((nth_eq _ 12).trans rfl) ?_ AllReadyH.nil)
              intro K' hK
              refine call_in hK (by kernel_rfl) 38 #[.agg #[.int .i64 c.W, .int .i64 c.H, .int .i64 c.height, k1, k2, k3, k4, .int .i64 c.unit, .int .i64 c.accel, .int .i64 c.speed, .int .i64 c.turn, .int .i64 c.hoist, .int .i64 c.queue, .int .i64 c.resend, .int .i64 c.budget, .bool c.back], .slice ka sn kc, .slice (some ⟨tb, 0, none⟩) 1 1, .int .i64 b0, .agg #[.int .i64 p.1, .int .i64 p.2]] (by go_simp) _ (jobs_some (HC15.out _ S2) (HC15f.out _ S2) l1 l2 l3 l4 hN _ c.stacks ka sn kc (HSt.out _ (Below.refl _ _)) (HStf.out _ (Below.refl _ _)) hsn HPl.out (fun q => q = tb) [s0.1] (some ⟨tb, 0, none⟩) 1 1 (list_cell1 (x := s0.1) hts2 (fun q => q = tb) rfl) (fun q h => by rw [h]; exact lt_of_heap hts2) (by omega) b0 p) ?_
              rintro rj x3 ⟨⟨r, v, ee, rfl, hR, _⟩, b3⟩
              have S3 : Below w5.heap.size w5 x3 := bcat S2 b3 (Nat.le_refl _)
              refine ⟨S3, ?_⟩
              simp only [Act.put, List.setIfInBounds_toArray, List.set_cons_zero, List.set_cons_succ]
              refine take_held 13 S3 rfl (by kernel_rfl) (by kernel_rfl) (by kernel_rfl) (fun _ _ _ h => h) (by kernel_rfl) (v := ?v31) ?y31 ?r31
              case y31 => (intro u hu; go_simp; try rfl)
              simp only [Act.put, List.setIfInBounds_toArray, List.set_cons_zero, List.set_cons_succ]
              refine take_held 14 S3 rfl (by kernel_rfl) (by kernel_rfl) (by kernel_rfl) (fun _ _ _ h => h) (by kernel_rfl) (v := ?v32) ?y32 ?r32
              case y32 => (intro u hu; go_simp; try rfl)
              simp only [Act.put, List.setIfInBounds_toArray, List.set_cons_zero, List.set_cons_succ]
              refine take_held 15 S3 rfl (by kernel_rfl) (by kernel_rfl) (by kernel_rfl) (fun _ _ _ h => h) (by kernel_rfl) (v := ?v33) ?y33 ?r33
              case y33 => (intro u hu; go_simp; try rfl)
              simp only [Act.put, List.setIfInBounds_toArray, List.set_cons_zero, List.set_cons_succ]
              refine take_held 16 S3 rfl (by kernel_rfl) (by kernel_rfl) (by kernel_rfl) (fun _ _ _ h => h) (by kernel_rfl) (v := ?v34) ?y34 ?r34
              case y34 => (intro u hu; go_simp; try rfl)
              simp only [Act.put, List.setIfInBounds_toArray, List.set_cons_zero, List.set_cons_succ]
              refine take_held 17 S3 rfl (by kernel_rfl) (by kernel_rfl) (by kernel_rfl) (fun _ _ _ h => h) (by kernel_rfl) (v := ?v35) ?y35 ?r35
              case y35 => (intro u hu; go_simp; try rfl)
              simp only [Act.put, List.setIfInBounds_toArray, List.set_cons_zero, List.set_cons_succ]
              refine done_held (by kernel_rfl) ?_ _
              have hee := jobs_touched hN HPm.out HSm.out HB0.out hR
              subst hee
              clear hR
              go_wp2_with (go_at_call 37; refine (awake14_any _).mono ?_; rintro e w9 ⟨rw9, rfl, rfl, b9⟩)
              go_ret
              exact ⟨rfl, bcat (bcat HBw.out S3 (Nat.le_refl _)) b9 (Nat.le_refl _)⟩
          · go_upto_region 13 with fail
            refine start_held (S := fun u => Below w5.heap.size w5 u) 16 rfl (by kernel_rfl) S0 ?_
            simp only [Array.replicate_succ, Array.replicate_zero, List.push_toArray, List.nil_append, List.cons_append]
            refine take_held 0 S0 rfl (by kernel_rfl) (by kernel_rfl) (by kernel_rfl) (fun _ _ _ h => h) (by kernel_rfl) (v := .agg #[.int .i64 c.W, .int .i64 c.H, .int .i64 c.height, k1, k2, k3, k4, .int .i64 c.unit, .int .i64 c.accel, .int .i64 c.speed, .int .i64 c.turn, .int .i64 c.hoist, .int .i64 c.queue, .int .i64 c.resend, .int .i64 c.budget, .bool c.back]) ?y36 ?r36
            case y36 => (intro u hu; exact run_load_op 26 _ rfl ⟨db, 0, none⟩ _ rfl (HDr.out u hu) (aggConf u) info_conf)
            simp only [Act.put, List.setIfInBounds_toArray, List.set_cons_zero, List.set_cons_succ]
            refine take_held 1 S0 rfl (by kernel_rfl) (by kernel_rfl) (by kernel_rfl) (fun _ _ _ h => h) (by kernel_rfl) (v := ?v37) ?y37 ?r37
            case y37 => (intro u hu; go_simp; try rfl)
            simp only [Act.put, List.setIfInBounds_toArray, List.set_cons_zero, List.set_cons_succ]
            refine take_held 2 S0 rfl (by kernel_rfl) (by kernel_rfl) (by kernel_rfl) (fun _ _ _ h => h) (by kernel_rfl) (v := .slice (some sp) sn sk) ?y38 ?r38
            case y38 => (intro u hu; have zz := HC6'.out u hu; go_simp; try rfl)
            simp only [Act.put, List.setIfInBounds_toArray, List.set_cons_zero, List.set_cons_succ]
            refine take_held 4 S0 rfl (by kernel_rfl) (by kernel_rfl) (by kernel_rfl) (fun _ _ _ h => h) (by kernel_rfl) (v := ?v39) ?y39 ?r39
            case y39 => (intro u hu; go_simp; try rfl)
            simp only [Act.put, List.setIfInBounds_toArray, List.set_cons_zero, List.set_cons_succ]
            refine take_held 5 S0 rfl (by kernel_rfl) (by kernel_rfl) (by kernel_rfl) (fun _ _ _ h => h) (by kernel_rfl) (v := ?v40) ?y40 ?r40
            case y40 => (intro u hu; go_simp; try rfl)
            simp only [Act.put, List.setIfInBounds_toArray, List.set_cons_zero, List.set_cons_succ]
            refine take_held 6 S0 rfl (by kernel_rfl) (by kernel_rfl) (by kernel_rfl) (fun _ _ _ h => h) (by kernel_rfl) (v := .slice (some sp) sn sk) ?y41 ?r41
            case y41 => (intro u hu; have zz := HC6'.out u hu; go_simp; try rfl)
            simp only [Act.put, List.setIfInBounds_toArray, List.set_cons_zero, List.set_cons_succ]
            refine take_held 7 S0 rfl (by kernel_rfl) (by kernel_rfl) (by kernel_rfl) (fun _ _ _ h => h) (by kernel_rfl) (v := .pointer (some sp)) ?y42 ?r42
            case y42 => (intro u hu; go_simp; try rfl)
            simp only [Act.put, List.setIfInBounds_toArray, List.set_cons_zero, List.set_cons_succ]
            refine take_held 8 S0 rfl (by kernel_rfl) (by kernel_rfl) (by kernel_rfl) (fun _ _ _ h => h) (by kernel_rfl) (v := .pointer (some sp)) ?y43 ?r43
            case y43 => (intro u hu; go_simp; try rfl)
            simp only [Act.put, List.setIfInBounds_toArray, List.set_cons_zero, List.set_cons_succ]
            refine take_held 9 S0 rfl (by kernel_rfl) (by kernel_rfl) (by kernel_rfl) (fun _ _ _ h => h) (by kernel_rfl) (v := .agg #[.int .i64 s0.1.1, .int .i64 s0.1.2]) ?y44 ?r44
            case y44 => (intro u hu; exact run_load_op 39 _ rfl sp _ rfl (HSr.out u hu) (aggCell u) infoCell2)
            simp only [Act.put, List.setIfInBounds_toArray, List.set_cons_zero, List.set_cons_succ]
            refine wpAnyH_ready (rs := [3]) (by kernel_rfl) (by simp) (AllReadyH.cons ((nth_eq _ 3).trans rfl) ?_ AllReadyH.nil)
            intro K' hK
            refine call_in hK (by kernel_rfl) 36 #[.slice (some sp) sn sk] (by go_simp) _ (HS1c.out _ S0) ?_
            rintro rs x1 ⟨⟨ka, kc, rfl, hSt⟩, b1⟩
            have S1 : Below w5.heap.size w5 x1 := bcat S0 b1 (Nat.le_refl _)
            have HSt : Hid (∀ u, Below x1.heap.size x1 u → ListAt 3 stackElC (Since w5.drew.heap.size x1) c.stacks (.slice ka sn kc) u) := fun u b => hSt.go heldStackC (fun q h => h.2) b
            have HStf : Hid (∀ u, Below x1.heap.size x1 u → ∀ b, Since w5.drew.heap.size x1 b → b < u.heap.size) := fun u b q h => Nat.lt_of_lt_of_le h.2 b.size
            clear hSt
            refine ⟨S1, ?_⟩
            simp only [Act.put, List.setIfInBounds_toArray, List.set_cons_zero, List.set_cons_succ]
            refine wpAnyH_ready (rs := [10]) (by kernel_rfl) (by simp) (AllReadyH.cons ((nth_eq _ 10).trans rfl) ?_ AllReadyH.nil)
            intro K' hK
            refine call_in hK (by kernel_rfl) 38 #[.agg #[.int .i64 c.W, .int .i64 c.H, .int .i64 c.height, k1, k2, k3, k4, .int .i64 c.unit, .int .i64 c.accel, .int .i64 c.speed, .int .i64 c.turn, .int .i64 c.hoist, .int .i64 c.queue, .int .i64 c.resend, .int .i64 c.budget, .bool c.back], .slice ka sn kc, .slice none 0 0, .int .i64 b0, .agg #[.int .i64 s0.1.1, .int .i64 s0.1.2]] (by go_simp) _ (jobs_some (HC15.out _ S1) (HC15f.out _ S1) l1 l2 l3 l4 hN _ c.stacks ka sn kc (HSt.out _ (Below.refl _ _)) (HStf.out _ (Below.refl _ _)) hsn HPl.out (fun _ => False) [] none 0 0 (ListAt.nil _ _ _ _) (fun _ h => h.elim) (by omega) b0 s0.1) ?_
            rintro rj x2 ⟨⟨r, v, ee, rfl, hR, _⟩, b2⟩
            have S2 : Below w5.heap.size w5 x2 := bcat S1 b2 (Nat.le_refl _)
            refine ⟨S2, ?_⟩
            simp only [Act.put, List.setIfInBounds_toArray, List.set_cons_zero, List.set_cons_succ]
            refine take_held 11 S2 rfl (by kernel_rfl) (by kernel_rfl) (by kernel_rfl) (fun _ _ _ h => h) (by kernel_rfl) (v := ?v45) ?y45 ?r45
            case y45 => (intro u hu; go_simp; try rfl)
            simp only [Act.put, List.setIfInBounds_toArray, List.set_cons_zero, List.set_cons_succ]
            refine take_held 12 S2 rfl (by kernel_rfl) (by kernel_rfl) (by kernel_rfl) (fun _ _ _ h => h) (by kernel_rfl) (v := ?v46) ?y46 ?r46
            case y46 => (intro u hu; go_simp; try rfl)
            simp only [Act.put, List.setIfInBounds_toArray, List.set_cons_zero, List.set_cons_succ]
            refine take_held 13 S2 rfl (by kernel_rfl) (by kernel_rfl) (by kernel_rfl) (fun _ _ _ h => h) (by kernel_rfl) (v := ?v47) ?y47 ?r47
            case y47 => (intro u hu; go_simp; try rfl)
            simp only [Act.put, List.setIfInBounds_toArray, List.set_cons_zero, List.set_cons_succ]
            refine take_held 14 S2 rfl (by kernel_rfl) (by kernel_rfl) (by kernel_rfl) (fun _ _ _ h => h) (by kernel_rfl) (v := ?v48) ?y48 ?r48
            case y48 => (intro u hu; go_simp; try rfl)
            simp only [Act.put, List.setIfInBounds_toArray, List.set_cons_zero, List.set_cons_succ]
            refine take_held 15 S2 rfl (by kernel_rfl) (by kernel_rfl) (by kernel_rfl) (fun _ _ _ h => h) (by kernel_rfl) (v := ?v49) ?y49 ?r49
            case y49 => (intro u hu; go_simp; try rfl)
            simp only [Act.put, List.setIfInBounds_toArray, List.set_cons_zero, List.set_cons_succ]
            refine done_held (by kernel_rfl) ?_ _
            have hee := jobs_noport hN HSm.out hR
            subst hee
            clear hR
            go_wp2_with (go_at_call 37; refine (awake14_any _).mono ?_; rintro e w9 ⟨rw9, rfl, rfl, b9⟩)
            go_ret
            exact ⟨rfl, bcat (bcat HBw.out S2 (Nat.le_refl _)) b9 (Nat.le_refl _)⟩
end Go.Proofs.Ytnilbgmmcmjciaa.Dig
