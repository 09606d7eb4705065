/-
  Where bins may be put: the free cells, the nearest first, each as often as it has room.
-/
import Derived.Test.YtebfjldbhmmmlaaDigFree
import Derived.Test.YtebfjldbhmmmlaaDgT
import Derived.Test.YtebfjldbhmmmlaaDgL
import Derived.Deep.DeepCutAuto
import Derived.Deep.CutRange
namespace Go.Proofs.Ytebfjldbhmmmlaa.Dig
set_option linter.unusedVariables false
set_option linter.unusedSimpArgs false
open Go Go.RowKit Go.Shelf Go.Proofs Go.Proofs.Ytebfjldbhmmmlaa.Grid Go.Proofs.Ytebfjldbhmmmlaa.Srt
attribute [local go_sem] Oper.semAt_some

def roomOf (stks : List Stk) (height : Int) (c : Cell) : Nat := (height - ((pileOf stks c).length : Int)).toNat
theorem spots_take {room : Cell → Nat} {S : List Cell} {k : Nat} (hk : k < S.length) : spots room (S.take (k + 1)) = spots room (S.take k) ++ List.replicate (room (S[k]'hk)) (S[k]'hk) := by
  unfold spots
  rw [List.take_add_one, List.getElem?_eq_getElem hk, List.flatMap_append]
  simp
theorem spots_len {room : Cell → Nat} {m : Nat} : ∀ (S : List Cell), (∀ c ∈ S, room c ≤ m) → (spots room S).length ≤ S.length * m
  | [], _ => by simp [spots]
  | a :: S, h => by
    rw [spots_cons, List.length_append, List.length_replicate, List.length_cons, Nat.succ_mul]
    have h1 := spots_len S (fun c hc => h c (by simp [hc]))
    have h2 := h a (by simp)
    omega
theorem room_le {stks : List Stk} {height : Int} (hh : height ≤ 1000) (c : Cell) : roomOf stks height c ≤ 1000 := by unfold roomOf; omega
theorem own_item {w : World} {b : Nat} {v : Value} {l : List Cell} (h : w.ownsRow b 30 2 v l.length (rowL cellL l)) {k : Nat} (hk : k < l.length) : ∃ p cap, v = .slice (some p) l.length cap ∧ ∀ j z, #[Value.int .i64 (l[k]'hk).1, .int .i64 (l[k]'hk).2][j]? = some z → w.cell? ((p.add (k * 2)).add j) = some z := by
  obtain ⟨p, cs, cap2, hv, _, hcs, hrd⟩ := (list_of_own kindCell.len h).item hk
  have hcs2 : cs = #[Value.int .i64 (l[k]'hk).1, .int .i64 (l[k]'hk).2] := hcs
  subst hcs2
  exact ⟨p, cap2, hv, hrd⟩
set_option maxRecDepth 100000 in
set_option maxHeartbeats 4000000 in
theorem places_any (yb pb g u : Nat) (W H height : Int) (us : List Int) (vp : Value) (F : Nat → Prop) (stks : List Stk) (tl : List Cell) (ta : Option Addr) (tn tc : Nat) (Ft : Nat → Prop) (f : Cell) (w : World) (hY : YardAt w yb pb g u W H height us vp F stks) (hT : ListAt 2 cellEl Ft tl (.slice ta tn tc) w) (hFt : ∀ b, Ft b → b < w.heap.size) (htn : tn ≤ 1000000) (h0 : 0 ≤ height) (hh : height ≤ 1000) (hp : ∀ x, (pileOf stks x).length ≤ 17592186044416) :
    Calls Try.prog 20 #[.pointer (some ⟨yb, 0, none⟩), .slice ta tn tc, .agg #[.int .i64 f.1, .int .i64 f.2]] w fun e w' => ∃ v, e = .returned v ∧ ∃ Ss, Sorted (fun x => awayP f x) (flt f tl (stkUpTo W us us.length)) Ss ∧ w'.ownsRow w.heap.size 30 2 v (spots (roomOf stks height) Ss).length (rowL cellL (spots (roomOf stks height) Ss)) ∧ Below w.heap.size w w' := by
  obtain ⟨w0, hw0⟩ : ∃ w0, w0 = w.alloc (.cells #[.int .i64 f.1, .int .i64 f.2] 30) := ⟨_, rfl⟩
  have b0 : Below w.heap.size w w0 := by rw [hw0]; exact below_new (Below.refl _ _) _
  have s0 : w0.heap.size = w.heap.size + 1 := by rw [hw0]; simp
  have hf0 : w0.heap[w.heap.size]? = some (.cells #[.int .i64 f.1, .int .i64 f.2] 30 (0, 0)) := by rw [hw0]; exact heap_alloc_new w _
  have hY0 := hY.go b0
  have cF := callsIn_wide.1 (free_in yb pb g u W H height us vp F stks tl ta tn tc Ft f w0 hY0 (hT.go heldCell hFt b0) (fun b hb => Nat.lt_of_lt_of_le (hFt b hb) b0.size) htn)
  have HY0 : Hid (YardAt w0 yb pb g u W H height us vp F stks) := hY0
  have HF0 : Hid (w0.heap[w.heap.size]? = some (.cells #[.int .i64 f.1, .int .i64 f.2] 30 (0, 0))) := hf0
  have HB0 : Hid (Below w.heap.size w w0) := b0
  have hlf := flt_len f tl (stkUpTo W us us.length)
  have hls := stkUpTo_len W us us.length
  have hlu := hY.grid.le
  have hIn : Hid (∀ x ∈ flt f tl (stkUpTo W us us.length), In W H x) := fun x hx => by
    have h1 : x ∈ stkUpTo W us us.length := (List.mem_filter.1 hx).1
    obtain ⟨i, i1, i2, rfl⟩ := mem_stk.1 h1
    exact cellAt_in (by have := hY.grid.w1; omega) (by have := hY.grid.len; omega)
  generalize flt f tl (stkUpTo W us us.length) = Fl at *
  clear hY hT hY0 b0
  go_enter Try.func20, Try.ntmps20
  go_upto_region 1 with fail
  rw [← hw0]
  clear hw0
  go_upto_region 2 with (first
    | (refine wpList_load_row rfl 30 (.tmp 5) rfl w.heap.size rfl 30 #[.int .i64 f.1, .int .i64 f.2] (0, 0) _ hf0 Try.underlying30 rfl infoCell2 ?_)
    | (go_at_call 42; refine cF.mono ?_; rintro e w1 ⟨v1, rfl, own1, b1⟩))
  have hf1 : w1.heap[w.heap.size]? = some (.cells #[.int .i64 f.1, .int .i64 f.2] 30 (0, 0)) := (b1.block _ (lt_of_heap hf0)).trans hf0
  have cS := sort_any w.heap.size f w0.heap.size v1 Fl w1 own1 hf1 (by omega) (by omega)
  have hob := fun b (e : v1.ownBlock = some b) => (own_since own1 b e).1
  go_upto_region 3 with (go_at_call 43; refine cS.mono ?_; rintro e w2 ⟨rfl, Ss, hSo, own2, hkp, ho, ht, hp2, hsz⟩)
  have B2 : Below w0.heap.size w0 w2 := b1.trans ⟨ho, ht, hp2, hsz, fun b hb => hkp b (Nat.lt_of_lt_of_le hb b1.size) (fun e => by have := hob b e; omega)⟩
  have HSo : Hid (Sorted (fun x => awayP f x) Fl Ss) := hSo
  have HY2 : Hid (YardAt w2 yb pb g u W H height us vp F stks) := HY0.out.go B2
  have HB2 : Hid (Below w.heap.size w w2) := bcat HB0.out B2 (Nat.le_refl _)
  have hSl : Ss.length ≤ 256 := by have := hSo.len; omega
  have HSi : Hid (∀ x ∈ Ss, In W H x) := fun x hx => by
    obtain ⟨k, hk, e⟩ := List.getElem_of_mem hx
    obtain ⟨q, sg, hq⟩ := hSo.ord
    have hk2 : k < Fl.length := by rw [← hSo.len]; exact hk
    have := hq k hk2
    rw [getD_at hk, e, getD_at (sg.own k (Nat.zero_le _) hk2).2] at this
    rw [this]
    exact hIn.out _ (List.getElem_mem _)
  obtain ⟨va, vc, hvv, _⟩ := own_form own2
  obtain ⟨n, hn⟩ : ∃ n, Ss.length = n := ⟨_, rfl⟩
  have HNn : Hid (Ss.length = n) := hn
  rw [hn] at hvv hSl
  subst hvv
  have HO2 : Hid (w2.ownsRow w0.heap.size 30 2 (.slice va n vc) Ss.length (rowL cellL Ss)) := own2
  clear own1 own2 hkp hob B2 hf1 hf0 cF cS hSo hn b1 hlf hls hlu ho ht hp2 hsz
  go_wp2_with fail
  have own0 : Hid (w2.ownsRow w2.heap.size 30 2 (.slice none 0 0) ((spots (roomOf stks height) (Ss.take 0))).length (rowL cellL ((spots (roomOf stks height) (Ss.take 0))))) := ⟨rfl, .inl ⟨rfl, rfl⟩⟩
  have HBz : Hid (Below w2.heap.size w2 w2) := Below.refl _ _
  go_loopw [8, 20] (fun v i wq => ∃ k : Nat, k ≤ n ∧ i = .int .i64 k ∧ Hid (wq.ownsRow w2.heap.size 30 2 v ((spots (roomOf stks height) (Ss.take k))).length (rowL cellL ((spots (roomOf stks height) (Ss.take k))))) ∧ Hid (Below w2.heap.size w2 wq)) (fun _ i _ => n - (intOf i).toNat)
  case atStart => exact ⟨0, Nat.zero_le _, rfl, own0, HBz⟩
  case round =>
    clear own0 HBz
    obtain ⟨k, hk, rfl, HO, HB⟩ := hrel
    by_cases hlt : k < n
    · have hd : decide ((k : Int) < (n : Int)) = true := decide_eq_true (by omega)
      have hkS : k < Ss.length := by rw [HNn.out]; exact hlt
      obtain ⟨pp, cap2, hv, hrd⟩ := own_item (own_go HO2.out HB.out) hkS
      obtain ⟨rfl, rfl⟩ : va = some pp ∧ vc = cap2 := by injection hv with h1 h2 h3; exact ⟨h1, h3⟩
      have HSt : Hid ((spots (roomOf stks height) (Ss.take (k + 1))) = (spots (roomOf stks height) (Ss.take k)) ++ List.replicate (roomOf stks height (Ss[k]'hkS)) (Ss[k]'hkS)) := spots_take hkS
      have hin := HSi.out (Ss[k]'hkS) (List.getElem_mem hkS)
      have hll : (spots (roomOf stks height) (Ss.take k)).length ≤ 256000 := by
        have a1 := spots_len (m := 1000) (Ss.take k) (fun c _ => room_le (stks := stks) hh c)
        have a2 : (Ss.take k).length ≤ k := by rw [List.length_take]; omega
        have a3 : (Ss.take k).length * 1000 ≤ 256 * 1000 := Nat.mul_le_mul_right _ (by omega)
        omega
      have hrm := room_le (stks := stks) hh (Ss[k]'hkS)
      generalize Ss[k]'hkS = c at *
      obtain ⟨wa, hwa⟩ : ∃ wa, wa = wr.alloc (.cells #[.int .i64 c.1, .int .i64 c.2] 30) := ⟨_, rfl⟩
      have ba : Below wr.heap.size wr wa := by rw [hwa]; exact below_new (Below.refl _ _) _
      have hcb : wa.heap[wr.heap.size]? = some (.cells #[.int .i64 c.1, .int .i64 c.2] 30 (0, 0)) := by rw [hwa]; exact heap_alloc_new wr _
      obtain ⟨cb, hcbe⟩ : ∃ cb, wr.heap.size = cb := ⟨_, rfl⟩
      have HCbe : Hid (wr.heap.size = cb) := hcbe
      have HBa : Hid (Below w2.heap.size w2 wa) := bcat HB.out ba (Nat.le_refl _)
      have hYa := HY2.out.go HBa.out
      obtain ⟨L, hL⟩ : ∃ L, (pileOf stks c).length = L := ⟨_, rfl⟩
      have HLen : Hid ((pileOf stks c).length = L) := hL
      have hLb := hp c
      rw [hL] at hLb
      have HPi : Hid (∀ uu, Below wa.heap.size wa uu → Calls Try.prog 41 #[.pointer (some ⟨yb, 0, none⟩), .agg #[.int .i64 c.1, .int .i64 c.2]] uu fun e w' => ∃ v, e = .returned v ∧ (ListAt 1 intEl F (pileOf stks c) v w' ∧ Below uu.heap.size uu w')) := fun uu b => pile_any yb pb g u W H height us vp F stks c.1 c.2 uu (hYa.go b) hin
      have HH : Hid (∀ uu, Below wa.heap.size wa uu → uu.cell? ⟨yb, 1, none⟩ = some (.int .i64 height)) := fun uu b => cell_below ((cell_of hYa.hd 1).trans rfl) b
      rw [hcbe] at hcb
      have HCb : Hid (∀ uu, Below wa.heap.size wa uu → ∀ j z, #[Value.int .i64 c.1, .int .i64 c.2][j]? = some z → uu.cell? ((⟨cb, 0, none⟩ : Addr).add j) = some z) := fun uu b => row_below hcb b
      obtain ⟨hr, hhr⟩ : ∃ hr, height - (L : Int) = hr := ⟨_, rfl⟩
      have ehr : IntKind.i64.wrap hr = hr := by rw [IntKind.wrap_i64]; omega
      obtain ⟨rm, hrme⟩ : ∃ rm, roomOf stks height c = rm := ⟨_, rfl⟩
      rw [hrme] at hrm
      have HRm : Hid (roomOf stks height c = rm) := hrme
      have hrr : (rm : Int) = hr ∨ (hr ≤ 0 ∧ rm = 0) := by have e := hrme; unfold roomOf at e; rw [hL] at e; omega
      have hcbo : Hid (u8.ownBlock ≠ some cb) := fun e => by have := (own_since HO.out cb e).2; have := HCbe.out; omega
      have HO3 := own_go HO.out ba
      have HO4 : Hid (wa.ownsRow w2.heap.size 30 2 u8 ((spots (roomOf stks height) (Ss.take k))).length (rowL cellL ((spots (roomOf stks height) (Ss.take k))))) := HO3
      clear hv hYa hL hin hrme HO3
      go_upto_region 7 with (refine wpList_load_at rfl 30 (.tmp 22) rfl (pp.add (k * 2)) rfl #[.int .i64 c.1, .int .i64 c.2] hrd (aggCell _) infoCell2 ?_)
      rw [← hwa]
      clear hwa hrd
      try rw [hcbe]
      clear hcbe
      have S0 : Below wa.heap.size wa wa.drew := (Below.refl _ _).drew
      refine start_held (S := fun u => Below wa.heap.size wa u) 10 rfl (by kernel_rfl) (S0) ?_
      simp only [Array.replicate_succ, Array.replicate_zero, List.push_toArray, List.nil_append, List.cons_append]
      refine take_held 0 S0 rfl (by kernel_rfl) (by kernel_rfl) (by kernel_rfl) (fun _ _ _ h => h) (by kernel_rfl) (v := ?v0) ?y0 ?r0
      case y0 => (intro u hu; go_simp; try rfl)
      simp only [Act.put, List.setIfInBounds_toArray, List.set_cons_zero, List.set_cons_succ]
      refine take_held 1 S0 rfl (by kernel_rfl) (by kernel_rfl) (by kernel_rfl) (fun _ _ _ h => h) (by kernel_rfl) (v := ?v1) ?y1 ?r1
      case y1 => (intro u hu; go_simp; try rfl)
      simp only [Act.put, List.setIfInBounds_toArray, List.set_cons_zero, List.set_cons_succ]
      refine take_held 2 S0 rfl (by kernel_rfl) (by kernel_rfl) (by kernel_rfl) (fun _ _ _ h => h) (by kernel_rfl) (v := ?v2) ?y2 ?r2
      case y2 => (intro u hu; go_simp; try rfl)
      simp only [Act.put, List.setIfInBounds_toArray, List.set_cons_zero, List.set_cons_succ]
      refine take_held 3 S0 rfl (by kernel_rfl) (by kernel_rfl) (by kernel_rfl) (fun _ _ _ h => h) (by kernel_rfl) (v := .int .i64 height) ?y3 ?r3
      case y3 => (intro u hu; have zz := HH.out u hu; go_simp; try rfl)
      simp only [Act.put, List.setIfInBounds_toArray, List.set_cons_zero, List.set_cons_succ]
      refine take_held 4 S0 rfl (by kernel_rfl) (by kernel_rfl) (by kernel_rfl) (fun _ _ _ h => h) (by kernel_rfl) (v := ?v4) ?y4 ?r4
      case y4 => (intro u hu; go_simp; try rfl)
      simp only [Act.put, List.setIfInBounds_toArray, List.set_cons_zero, List.set_cons_succ]
      refine take_held 5 S0 rfl (by kernel_rfl) (by kernel_rfl) (by kernel_rfl) (fun _ _ _ h => h) (by kernel_rfl) (v := .agg #[.int .i64 c.1, .int .i64 c.2]) ?y5 ?r5
      case y5 => (intro u hu; exact run_load_op 30 _ rfl ⟨cb, 0, none⟩ _ rfl (HCb.out u hu) (aggCell u) infoCell2)
      simp only [Act.put, List.setIfInBounds_toArray, List.set_cons_zero, List.set_cons_succ]
      refine take_held 9 S0 rfl (by kernel_rfl) (by kernel_rfl) (by kernel_rfl) (fun _ _ _ h => h) (by kernel_rfl) (v := ?v6) ?y6 ?r6
      case y6 => (intro u hu; go_simp; try rfl)
      simp only [Act.put, List.setIfInBounds_toArray, List.set_cons_zero, List.set_cons_succ]
      refine wpAnyH_ready (rs := [6]) (by kernel_rfl) (by simp) (AllReadyH.cons ((nth_eq _ 6).trans rfl) ?_ AllReadyH.nil)
      intro K' hK
      refine call_in hK (by kernel_rfl) 41 #[.pointer (some ⟨yb, 0, none⟩), .agg #[.int .i64 c.1, .int .i64 c.2]] (by go_simp) _ (HPi.out _ S0) ?_
      rintro v1 x1 ⟨hL1, b1⟩
      have S1 : Below wa.heap.size wa x1 := bcat S0 b1 (Nat.le_refl _)
      obtain ⟨la, lc, hv1, _⟩ := hL1.form
      rw [HLen.out] at hv1
      subst hv1
      refine ⟨S1, ?_⟩
      simp only [Act.put, List.setIfInBounds_toArray, List.set_cons_zero, List.set_cons_succ]
      refine take_held 7 S1 rfl (by kernel_rfl) (by kernel_rfl) (by kernel_rfl) (fun _ _ _ h => h) (by kernel_rfl) (v := ?v7) ?y7 ?r7
      case y7 => (intro u hu; go_simp; try rfl)
      simp only [Act.put, List.setIfInBounds_toArray, List.set_cons_zero, List.set_cons_succ]
      refine take_held 8 S1 rfl (by kernel_rfl) (by kernel_rfl) (by kernel_rfl) (fun _ _ _ h => h) (by kernel_rfl) (v := ?v8) ?y8 ?r8
      case y8 => (intro u hu; go_simp; try rfl)
      simp only [Act.put, List.setIfInBounds_toArray, List.set_cons_zero, List.set_cons_succ]
      refine done_held (by kernel_rfl) ?_ _
      go_wp2_with fail
      have hcx : x1.heap[cb]? = some (.cells #[.int .i64 c.1, .int .i64 c.2] 30 (0, 0)) := (S1.block _ (lt_of_heap hcb)).trans hcb
      have HO5 : Hid (x1.ownsRow w2.heap.size 30 2 u8 ((spots (roomOf stks height) (Ss.take k)) ++ List.replicate 0 c).length (rowL cellL ((spots (roomOf stks height) (Ss.take k)) ++ List.replicate 0 c))) := by
        show x1.ownsRow w2.heap.size 30 2 u8 ((spots (roomOf stks height) (Ss.take k)) ++ List.replicate 0 c).length (rowL cellL ((spots (roomOf stks height) (Ss.take k)) ++ List.replicate 0 c))
        rw [List.replicate_zero, List.append_nil]
        exact own_go HO4.out S1
      have HB5 : Hid (Below w2.heap.size w2 x1) := bcat HBa.out S1 (Nat.le_refl _)
      have HCx : Hid (x1.heap[cb]? = some (.cells #[.int .i64 c.1, .int .i64 c.2] 30 (0, 0))) := hcx
      clear hcx hcb S0 S1 HO4 hL1 b1
      go_loopw [8, 33] (fun v i wq => ∃ j : Nat, j ≤ rm ∧ i = .int .i64 j ∧ Hid (wq.ownsRow w2.heap.size 30 2 v ((spots (roomOf stks height) (Ss.take k)) ++ List.replicate j c).length (rowL cellL ((spots (roomOf stks height) (Ss.take k)) ++ List.replicate j c))) ∧ Hid (Below w2.heap.size w2 wq) ∧ Hid (wq.heap[cb]? = some (.cells #[.int .i64 c.1, .int .i64 c.2] 30 (0, 0))) ∧ Hid (v.ownBlock ≠ some cb)) (fun _ i _ => rm - (intOf i).toNat)
      case atStart => exact ⟨0, Nat.zero_le _, rfl, HO5, HB5, HCx, hcbo⟩
      case round =>
        clear HO5 HB5 HCx hcbo
        obtain ⟨j, hj, rfl, HOj, HBj, HCj, HNj⟩ := hrel
        by_cases hjr : j < rm
        · have hd2 : decide ((j : Int) < hr) = true := decide_eq_true (by omega)
          have hcj := HCj.out
          have HRp : Hid (List.replicate (j + 1) c = List.replicate j c ++ [c]) := List.replicate_succ'
          have hlj : ((spots (roomOf stks height) (Ss.take k)) ++ List.replicate j c).length ≤ 300000 := by rw [List.length_append, List.length_replicate]; omega
          have HLj : Hid (((spots (roomOf stks height) (Ss.take k)) ++ List.replicate j c).length ≤ 300000) := hlj
          clear hlj
          go_wp2_with (first
            | (refine wpList_load_row rfl 30 (.tmp 10) rfl cb rfl 30 #[.int .i64 c.1, .int .i64 c.2] (0, 0) _ hcj Try.underlying30 rfl infoCell2 ?_)
            | (at_builtin; have bA := (Below.refl wr.heap.size wr).alloc (Nat.le_refl _) (.cells #[.int .i64 c.1, .int .i64 c.2] 30); have HO6 := own_go HOj.out bA; have L6 := list_lone (heap_alloc_new wr (.cells #[.int .i64 c.1, .int .i64 c.2] 30)); have e1 : (((spots (roomOf stks height) (Ss.take k)) ++ List.replicate j c).length + [((c.1, c.2) : Cell)].length) * 16 ≤ 140737488355328 := (by have := HLj.out; simp only [List.length_cons, List.length_nil]; omega); have e2 : ((spots (roomOf stks height) (Ss.take k)) ++ List.replicate j c).length + [((c.1, c.2) : Cell)].length ≤ maxLen := (by have := HLj.out; unfold maxLen; simp only [List.length_cons, List.length_nil]; omega); have e3 := Nat.le_trans HBj.out.size bA.size; refine wpList_app kindCell rfl (.tmp 35) (.tmp 37) rfl _ _ _ rfl HO6 _ _ [((c.1, c.2) : Cell)] rfl L6 e1 e2 e3 ?_; intro v7 w7 own7 g7 at7; have HB7 := below_row2 (bcat HBj.out bA (Nat.le_refl _)) (Nat.le_refl _) HO6 g7))
          have lcb := lt_of_heap HCj.out
          have hc7 : w7.heap[cb]? = some (.cells #[.int .i64 c.1, .int .i64 c.2] 30 (0, 0)) := (g7.block _ (by simp; omega) (fun e => HNj.out e.symm)).trans ((bA.block _ lcb).trans HCj.out)
          have hn7 : v7.ownBlock ≠ some cb := fun e => by
            rcases at7 with q | q
            · exact HNj.out (q.symm.trans e)
            · rw [q] at e
              simp only [Option.some.injEq, World.size_alloc] at e
              omega
          go_roundw
          case rel =>
            refine ⟨j + 1, by omega, by go_num, ?_, HB7, hc7, hn7⟩
            show w7.ownsRow w2.heap.size 30 2 v7 ((spots (roomOf stks height) (Ss.take k)) ++ List.replicate (j + 1) c).length (rowL cellL ((spots (roomOf stks height) (Ss.take k)) ++ List.replicate (j + 1) c))
            rw [HRp.out, ← List.append_assoc]
            exact own7
          case measure => simp only [intOf]; omega
        · have hd2 : decide ((j : Int) < hr) = false := decide_eq_false (by omega)
          have hje : j = rm := by omega
          have HO9 : Hid (wr.ownsRow w2.heap.size 30 2 u8 ((spots (roomOf stks height) (Ss.take (k + 1)))).length (rowL cellL ((spots (roomOf stks height) (Ss.take (k + 1)))))) := by
            show wr.ownsRow w2.heap.size 30 2 u8 ((spots (roomOf stks height) (Ss.take (k + 1)))).length (rowL cellL ((spots (roomOf stks height) (Ss.take (k + 1)))))
            rw [HSt.out, HRm.out, ← hje]
            exact HOj.out
          clear hje
          go_wp2_with fail
          go_roundw
          case rel => exact ⟨k + 1, by omega, by go_num, HO9, HBj⟩
          case measure => simp only [intOf]; omega
    · obtain rfl : k = n := by omega
      have HO9 := own_lower HO.out HB2.out.size
      rw [List.take_of_length_le (by rw [HNn.out]; exact Nat.le_refl _)] at HO9
      go_wp2
      go_ret
      exact ⟨_, rfl, Ss, HSo.out, HO9, bcat HB2.out HB.out (Nat.le_refl _)⟩
end Go.Proofs.Ytebfjldbhmmmlaa.Dig
