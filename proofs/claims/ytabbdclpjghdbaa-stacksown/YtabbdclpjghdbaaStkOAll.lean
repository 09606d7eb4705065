/-
  What goes through all cells: told.
-/
import Derived.Test.YtabbdclpjghdbaaStkOTold
namespace Go.Proofs.Ytabbdclpjghdbaa.Stk
set_option linter.unusedVariables false
set_option linter.unusedSimpArgs false
open Go Go.RowKit Go.Shelf Go.Proofs Go.Proofs.Ytabbdclpjghdbaa.Grid
attribute [local go_sem] Oper.semAt_some

/- While all are told: told's three boxes, what was gathered. -/
structure Tw (ws : World) (K : Sk) (most : Int) (l : List Stk) (m : Value) (ys : List SV) (wq : World) : Prop where
  below : Below ws.heap.size ws wq
  bm : wq.heap[ws.heap.size]? = some (.cells #[.int .i64 most] 3 (0, 0))
  bs : wq.heap[ws.heap.size + 1]? = some (.cells #[.pointer (some ⟨K.s, 0, none⟩)] 29 (0, 0))
  bl : wq.heap[ws.heap.size + 2]? = some (.cells #[m] 24 (0, 0))
  td : Told (ws.heap.size + 3) l m wq ys
theorem Tw.go {ws : World} {K : Sk} {most : Int} {l : List Stk} {m : Value} {ys : List SV} {wq u : World} (h : Tw ws K most l m ys wq) (hb : Below wq.heap.size wq u) : Tw ws K most l m ys u :=
  ⟨bcat h.below hb (Nat.le_refl _), (hb.block _ (lt_of_heap h.bm)).trans h.bm, (hb.block _ (lt_of_heap h.bs)).trans h.bs, (hb.block _ (lt_of_heap h.bl)).trans h.bl, h.td.go hb⟩
set_option maxRecDepth 100000 in
set_option maxHeartbeats 4000000 in
theorem told1_any {ws : World} {K : Sk} {most : Int} {l : List Stk} {m : Value} {ys : List SV} {wq w0 w : World} (h : Tw ws K most l m ys wq) (b0 : Below wq.heap.size wq w0) (b1 : Below w0.heap.size w0 w) (x y : Int) (bs : List Int) (sa : Option Addr) (sn sc : Nat)
    (ho : w.ownsRow w0.heap.size 3 1 (.slice sa sn sc) bs.length (rowL intL bs)) (hl : l.length ≤ 300) :
    Calls Try.prog 52 #[.agg #[.int .i64 x, .int .i64 y], .slice sa sn sc, .pointer (some ⟨ws.heap.size + 2, 0, none⟩), .pointer (some ⟨ws.heap.size, 0, none⟩)] w fun e w' => ∃ v, e = .returned v ∧ v = .bool (decide ((l.length : Int) + 1 < most)) ∧ (∃ m' ys', Tw ws K most (l ++ [((x, y), bs)]) m' ys' w') ∧ w.heap.size ≤ w'.heap.size ∧ (∀ b, wq.heap.size ≤ b → b < w.heap.size → w'.heap[b]? = w.heap[b]?) := by
  have h1 := (h.go b0).go b1
  obtain ⟨a, cap, hm, _⟩ := own_form h1.td.own
  subst hm
  have hk : ys.length = l.length := h.td.len
  obtain ⟨k, hkk⟩ : ∃ k, ys.length = k := ⟨_, rfl⟩
  have HK : Hid (ys.length = k) := hkk
  have HKl : Hid (l.length = k) := hk ▸ hkk
  rw [show l.length = k from HKl.out] at hl ⊢
  have hbig := h1.td.big
  have ylt : ∀ g, (Value.slice a ys.length cap).ownBlock = some g → ws.heap.size + 3 ≤ g ∧ g < wq.heap.size := fun g hg => h.td.own.lt g hg
  have W2 : Below w.heap.size w ((w.alloc (.cells #[.int .i64 x, .int .i64 y] 39)).alloc (.cells #[.int .i64 x, .int .i64 y, .slice sa sn sc] 59)) := below_two _ _ _
  have own2 := owns_go h1.td.own W2
  have hg2 : ((w.alloc (.cells #[.int .i64 x, .int .i64 y] 39)).alloc (.cells #[.int .i64 x, .int .i64 y, .slice sa sn sc] 59)).heap[w.heap.size + 1]? = some (.cells (stkL ((x, y), sa, sn, sc)).toArray 59 (0, 0)) := heap_new2 _ _ _
  have hl2 := list_stk hg2
  have cb : ((w.alloc (.cells #[.int .i64 x, .int .i64 y] 39))).cell? ⟨ws.heap.size + 2, 0, none⟩ = some (.slice a k cap) := cell_below (by rw [cell_of h1.bl, hkk]; rfl) (below_new (Below.refl _ _) _)
  have s2 : ((w.alloc (.cells #[.int .i64 x, .int .i64 y] 39)).alloc (.cells #[.int .i64 x, .int .i64 y, .slice sa sn sc] 59)).heap.size = w.heap.size + 2 := by simp
  have HNx : Hid (∀ {w3 : World} {v' : Value}, w3.ownsRow (ws.heap.size + 3) 59 3 v' (ys ++ [((x, y), sa, sn, sc)]).length (rowL stkL (ys ++ [((x, y), sa, sn, sc)])) → ((w.alloc (.cells #[.int .i64 x, .int .i64 y] 39)).alloc (.cells #[.int .i64 x, .int .i64 y, .slice sa sn sc] 59)).grownBy w3 (Value.slice a ys.length cap).ownBlock → (v'.ownBlock = (Value.slice a ys.length cap).ownBlock ∨ v'.ownBlock = some ((w.alloc (.cells #[.int .i64 x, .int .i64 y] 39)).alloc (.cells #[.int .i64 x, .int .i64 y, .slice sa sn sc] 59)).heap.size) → Told (ws.heap.size + 3) (l ++ [((x, y), bs)]) v' w3 (ys ++ [((x, y), sa, sn, sc)])) := fun o g at_ => h.td.next ((x, y), bs) b0 ho b1 W2 o g at_
  have HB2 : Hid (Tw ws K most l (.slice a ys.length cap) ys ((w.alloc (.cells #[.int .i64 x, .int .i64 y] 39)).alloc (.cells #[.int .i64 x, .int .i64 y, .slice sa sn sc] 59))) := h1.go W2
  have HYL : Hid (∀ g, (Value.slice a ys.length cap).ownBlock = some g → ws.heap.size + 3 ≤ g ∧ g < wq.heap.size) := ylt
  have hwq : wq.heap.size ≤ w.heap.size := Nat.le_trans b0.size b1.size
  have hws : ws.heap.size + 3 ≤ wq.heap.size := h.td.big
  rw [hkk] at own2
  clear hkk hk h h1 ylt ho
  go_enter Try.func52, Try.ntmps52
  go_wp2_with (first
    | (at_builtin; refine wpList_app kindStack rfl _ _ rfl (ws.heap.size + 3) (.slice a k cap) ys rfl (by rw [HK.out]; exact own2) (fun b => b = w.heap.size + 1) _ [((x, y), sa, sn, sc)] rfl hl2 (by rw [HK.out]; simp; omega) (by rw [HK.out]; unfold maxLen; simp; omega) (by rw [s2]; omega) ?_; intro v4 w4 own4 gr4 at4; have T4 := HNx.out own4 (by rw [HK.out]; exact gr4) (by rw [HK.out]; exact at4); obtain ⟨a4, cap4, hv4, _⟩ := own_form own4; rw [show (ys ++ [((x, y), sa, sn, sc)]).length = k + 1 by rw [List.length_append, HK.out]; rfl] at hv4; subst hv4; have hB := HB2.out; have nb : ∀ b, b < ws.heap.size + 3 → w4.heap[b]? = ((w.alloc (.cells #[.int .i64 x, .int .i64 y] 39)).alloc (.cells #[.int .i64 x, .int .i64 y, .slice sa sn sc] 59)).heap[b]? := (fun b hb => gr4.block b (by rw [s2]; omega) (fun e => by have := (HYL.out b (by rw [HK.out]; exact e.symm)).1; omega)); have L1 := (nb (ws.heap.size + 2) (by omega)).trans hB.bl; have c4 : w4.cell? ⟨ws.heap.size + 2, 0, none⟩ = some (.slice a ys.length cap) := (by rw [cell_of L1]; rfl); have f4 := frozen_of L1 0; have L2 := (nb ws.heap.size (by omega)).trans hB.bm; have c5 : (w4.setCell ⟨ws.heap.size + 2, 0, none⟩ (.slice a4 (k + 1) cap4)).cell? ⟨ws.heap.size, 0, none⟩ = some (.int .i64 most) := (cell_same (p := ⟨ws.heap.size, 0, none⟩) (heap_setCell_other _ _ _ _ (by simp))).trans (by rw [cell_of L2]; rfl); have c6 : (w4.setCell ⟨ws.heap.size + 2, 0, none⟩ (.slice a4 (k + 1) cap4)).cell? ⟨ws.heap.size + 2, 0, none⟩ = some (.slice a4 (k + 1) cap4) := (by rw [cell_of (heap_setCell_same _ _ _ _ _ _ L1)]; rfl)))
  go_ret
  have hB := HB2.out
  have s4 := gr4.size
  rw [s2] at s4
  refine ⟨_, rfl, congrArg Value.bool (by first | rfl | (congr 1)), ⟨.slice a4 (k + 1) cap4, _, ⟨?_, (heap_setCell_other _ _ _ _ (by simp)).trans L2, (heap_setCell_other _ _ _ _ (by simp)).trans ((nb (ws.heap.size + 1) (by omega)).trans hB.bs), (heap_setCell_same _ _ _ _ _ _ L1).trans rfl, T4.keep (by simp) fun b hb _ => heap_setCell_other _ _ _ _ (by simp only; omega)⟩⟩, ?_, fun b hb1 hb2 => ?_⟩
  · exact below_set (hB.below.grown gr4 (by rw [s2]; omega) (fun g hg => by have := (HYL.out g (by rw [HK.out]; exact hg)).1; omega)) (by omega) _ _
  · simp; omega
  · rw [heap_setCell_other _ _ _ _ (by simp only; omega), gr4.block b (by rw [s2]; omega) (fun e => by have := (HYL.out b (by rw [HK.out]; exact e.symm)).2; omega)]
    exact W2.block b hb2
def tellT (c : Conf) (us : List Int) (ps : List Pile) (k : Nat) : List Stk := ((ps.take k).filter (fun p => openU c.W c.H us p.1)).map (fun p => (p.1, p.2.2))
theorem tell_next (c : Conf) (us : List Int) {ps : List Pile} {k : Nat} {p : Pile} (h : ps[k]? = some p) : tellT c us ps (k + 1) = tellT c us ps k ++ if openU c.W c.H us p.1 then [(p.1, p.2.2)] else [] := by
  unfold tellT
  rw [List.take_add_one, h, List.filter_append, List.map_append]
  congr 1
  simp only [Option.toList_some, List.filter_cons, List.filter_nil]
  split <;> rfl
theorem tell_len (c : Conf) (us : List Int) (ps : List Pile) (k : Nat) : (tellT c us ps k).length ≤ k := by
  unfold tellT
  rw [List.length_map]
  exact Nat.le_trans (List.length_filter_le _ _) (by rw [List.length_take]; omega)
theorem tell_pre (c : Conf) (us : List Int) (ps : List Pile) {k N : Nat} (h : k ≤ N) : ∃ r, tellT c us ps N = tellT c us ps k ++ r := by
  obtain ⟨d, rfl⟩ : ∃ d, N = k + d := ⟨N - k, by omega⟩
  unfold tellT
  rw [List.take_add, List.filter_append, List.map_append]
  exact ⟨_, rfl⟩
theorem tell_take (c : Conf) (us : List Int) (ps : List Pile) {k N : Nat} {n : Nat} (h : k ≤ N) (e : (tellT c us ps k).length = n) : (tellT c us ps N).take n = tellT c us ps k := by
  obtain ⟨r, hr⟩ := tell_pre c us ps h
  rw [hr, List.take_append_of_le_length (by omega), List.take_of_length_le (by omega)]
set_option maxRecDepth 100000 in
set_option maxHeartbeats 4000000 in
theorem all1_any {K : Sk} {c : Conf} {us : List Int} {ps : List Pile} {ls : List Int} {ws w : World} (S0 : StAt K c us ps ls ws) (most : Nat) (hmost : 1 ≤ most) (hT0 : ∃ m ys, Tw ws K (most : Int) [] m ys w) :
    Calls Try.prog 67 #[.func (.func 52) #[] #[.pointer (some ⟨ws.heap.size + 2, 0, none⟩), .pointer (some ⟨ws.heap.size, 0, none⟩)], .pointer (some ⟨ws.heap.size + 1, 0, none⟩)] w fun e w' => ∃ v, e = .returned v ∧ v = .tuple #[] ∧ ∃ m ys, Tw ws K (most : Int) ((tellT c us ps ps.length).take most) m ys w' := by
  have hN := S0.lens
  obtain ⟨N, hNN⟩ : ∃ N, ps.length = N := ⟨_, rfl⟩
  have HN : Hid (ps.length = N) := hNN
  rw [hNN] at hN ⊢
  have HS : Hid (StAt K c us ps ls ws) := S0
  have HT : Hid (∃ m ys, Tw ws K (most : Int) (tellT c us ps 0) m ys w) := hT0
  have HLT : Hid ((tellT c us ps 0).length < most) := hmost
  obtain ⟨m0, ys0, T0⟩ := hT0
  have y0 := cell_of T0.bs 0
  have y2 := (S0.go T0.below).c2
  rw [hNN] at y2
  have y0' : w.cell? ⟨ws.heap.size + 1, 0, none⟩ = some (.pointer (some ⟨K.s, 0, none⟩)) := y0
  clear hNN S0 T0 y0
  go_enter Try.func67, Try.ntmps67
  go_wp2
  clear y0' y2
  go_loopw [10] (fun i wq => ∃ k : Nat, k ≤ N ∧ i = .int .i64 k ∧ Hid (∃ m ys, Tw ws K (most : Int) (tellT c us ps k) m ys wq) ∧ Hid ((tellT c us ps k).length < most)) (fun i _ => N - (intOf i).toNat)
  case atStart => exact ⟨0, Nat.zero_le _, rfl, HT, HLT⟩
  case round =>
    clear HT HLT
    obtain ⟨k, hk, rfl, HT, HLT⟩ := hrel
    by_cases hlt : k < N
    · obtain ⟨p, hp⟩ : ∃ p, ps[k]? = some p := ⟨_, List.getElem?_eq_getElem (by rw [HN.out]; exact hlt)⟩
      obtain ⟨m, ys, T1⟩ := HT.out
      have S1 := HS.out.go T1.below
      obtain ⟨pa, pcap, ev, _, _, _⟩ := S1.form hp
      have hsm := S1.small _ _ hp
      have hrd : ∀ j z, #[Value.int .i64 p.1.1, .int .i64 p.1.2, .slice pa p.2.2.length pcap][j]? = some z → wr.cell? ((⟨K.pb, k * 3, none⟩ : Addr).add j) = some z := fun j z hj => by
        rw [Addr.add_lit]
        exact S1.pc hp j z (by rw [← ev] at hj; simpa [pileL] using hj)
      have L1 : ListAt 1 intEl (Since K.b1 wr) p.2.2 (.slice pa p.2.2.length pcap) wr := by
        have := list_of_own kindInt.len (S1.own _ _ hp)
        rw [ev] at this
        exact this
      have HL : Hid (ListAt 1 intEl (Since K.b1 wr) p.2.2 (.slice pa p.2.2.length pcap) wr) := L1
      have HNx : Hid (tellT c us ps (k + 1) = tellT c us ps k ++ if openU c.W c.H us p.1 then [(p.1, p.2.2)] else []) := tell_next c us hp
      have htl := tell_len c us ps k
      obtain ⟨⟨x, y⟩, pv, bs⟩ := p
      simp only at hrd HL HNx hsm
      obtain ⟨n, hn⟩ : ∃ n, bs.length = n := ⟨_, rfl⟩
      have Hn : Hid (bs.length = n) := hn
      rw [hn] at hrd HL hsm
      have HT1 : Hid (Tw ws K (most : Int) (tellT c us ps k) m ys wr) := T1
      clear hn ev hp L1 T1 S1 HT
      obtain ⟨wb, hwb⟩ : ∃ wb, wb = wr.alloc (.cells #[.int .i64 x, .int .i64 y, .slice pa n pcap] 59) := ⟨_, rfl⟩
      have HWB : Hid (wb = wr.alloc (.cells #[.int .i64 x, .int .i64 y, .slice pa n pcap] 59)) := hwb
      have bb : Below wr.heap.size wr wb := by rw [hwb]; exact below_new (Below.refl _ _) _
      have eb : wb.heap[wr.heap.size]? = some (.cells #[.int .i64 x, .int .i64 y, .slice pa n pcap] 59 (0, 0)) := by rw [hwb]; exact heap_alloc_new wr _
      obtain ⟨bx, hbx⟩ : ∃ bx, wr.heap.size = bx := ⟨_, rfl⟩
      have HBX : Hid (wr.heap.size = bx) := hbx
      rw [hbx] at eb
      clear hwb
      go_wp2_with (first
        | (refine wpList_load_at rfl 59 (.tmp 12) rfl ⟨K.pb, k * 3, none⟩ rfl #[.int .i64 x, .int .i64 y, .slice pa n pcap] hrd (aggStack _) info_stack ?_))
      rw [← HWB.out]
      clear HWB hrd hbx
      have bd : Below wr.heap.size wr wb.drew := bcat bb (Below.refl _ _).drew (Nat.le_refl _)
      have HBD : Hid (Below wr.heap.size wr wb.drew) := bd
      have ed : wb.drew.heap[bx]? = some (.cells #[.int .i64 x, .int .i64 y, .slice pa n pcap] 59 (0, 0)) := eb
      obtain ⟨IV, hIV⟩ : ∃ I : World → Prop, I = fun u => u.cell? ⟨ws.heap.size + 1, 0, none⟩ = some (.pointer (some ⟨K.s, 0, none⟩)) ∧ u.cell? ⟨K.s, 0, none⟩ = some (.pointer (some ⟨K.g, 0, none⟩)) ∧ u.heap[bx]? = some (.cells #[.int .i64 x, .int .i64 y, .slice pa n pcap] 59 (0, 0)) := ⟨_, rfl⟩
      have q1 : ∀ u, IV u → u.cell? ⟨ws.heap.size + 1, 0, none⟩ = some (.pointer (some ⟨K.s, 0, none⟩)) := fun u hu => by rw [hIV] at hu; exact hu.1
      have q2 : ∀ u, IV u → u.cell? ⟨K.s, 0, none⟩ = some (.pointer (some ⟨K.g, 0, none⟩)) := fun u hu => by rw [hIV] at hu; exact hu.2.1
      have q4 : ∀ u, IV u → u.cell? ⟨bx, 2, none⟩ = some (.slice pa n pcap) := fun u hu => by rw [hIV] at hu; exact cell_of hu.2.2 2
      have q3 : ∀ u, IV u → ∀ jj zz, #[Value.int .i64 x, .int .i64 y][jj]? = some zz → u.cell? ((⟨bx, 0, none⟩ : Addr).add jj) = some zz := fun u hu jj zz hjj => by
        rw [hIV] at hu
        rw [Addr.add_lit, cell_of hu.2.2]
        match jj with
        | 0 => simpa using hjj
        | 1 => simpa using hjj
        | jj + 2 => simp at hjj
      have mkIV : Hid (∀ (l : List Stk) (m : Value) (ys : List SV) (u : World), Tw ws K (most : Int) l m ys u → u.heap[bx]? = some (.cells #[.int .i64 x, .int .i64 y, .slice pa n pcap] 59 (0, 0)) → IV u) := fun l m ys u tw e => by
        rw [hIV]
        exact ⟨cell_of tw.bs 0, (HS.out.go tw.below).c0, e⟩
      have hV : IV wb.drew := mkIV.out _ _ _ _ (HT1.out.go bd) ed
      have cO := fun u (b : Below wr.heap.size wr u) => ret_of (open_any K.g K.u c.W c.H us K.vp x y u (HS.out.go (bcat HT1.out.below b (Nat.le_refl _))).grid)
      cases ho : openU c.W c.H us (x, y)
      · rw [ho] at cO HNx
        simp only [Bool.false_eq_true, if_false] at HNx
        refine start_held (S := IV) 17 rfl (by kernel_rfl) (hV) ?_
        simp only [Array.replicate_succ, Array.replicate_zero, List.push_toArray, List.nil_append, List.cons_append]
        generalize wb.drew = wd at *
        refine take_held 0 (by assumption) rfl (by kernel_rfl) (by kernel_rfl) (by kernel_rfl) (fun _ _ _ h => h) (by kernel_rfl) (v := ?v0) ?y0 ?r0
        case y0 => (intro u hu; have zz0 := q1 u hu; go_simp; try rfl)
        simp only [Act.put, List.setIfInBounds_toArray, List.set_cons_zero, List.set_cons_succ]
        refine take_held 1 (by assumption) rfl (by kernel_rfl) (by kernel_rfl) (by kernel_rfl) (fun _ _ _ h => h) (by kernel_rfl) (v := ?v1) ?y1 ?r1
        case y1 => (intro u hu; go_simp; try rfl)
        simp only [Act.put, List.setIfInBounds_toArray, List.set_cons_zero, List.set_cons_succ]
        refine take_held 2 (by assumption) rfl (by kernel_rfl) (by kernel_rfl) (by kernel_rfl) (fun _ _ _ h => h) (by kernel_rfl) (v := ?v2) ?y2 ?r2
        case y2 => (intro u hu; go_simp; try rfl)
        simp only [Act.put, List.setIfInBounds_toArray, List.set_cons_zero, List.set_cons_succ]
        refine take_held 3 (by assumption) rfl (by kernel_rfl) (by kernel_rfl) (by kernel_rfl) (fun _ _ _ h => h) (by kernel_rfl) (v := ?v3) ?y3 ?r3
        case y3 => (intro u hu; have zz0 := q2 u hu; go_simp; try rfl)
        simp only [Act.put, List.setIfInBounds_toArray, List.set_cons_zero, List.set_cons_succ]
        refine take_held 4 (by assumption) rfl (by kernel_rfl) (by kernel_rfl) (by kernel_rfl) (fun _ _ _ h => h) (by kernel_rfl) (v := ?v4) ?y4 ?r4
        case y4 => (intro u hu; go_simp; try rfl)
        simp only [Act.put, List.setIfInBounds_toArray, List.set_cons_zero, List.set_cons_succ]
        refine take_held 5 (by assumption) rfl (by kernel_rfl) (by kernel_rfl) (by kernel_rfl) (fun _ _ _ h => h) (by kernel_rfl) (v := .agg #[.int .i64 x, .int .i64 y]) ?y5 ?r5
        case y5 => (intro u hu; exact run_load_op 39 _ rfl ⟨bx, 0, none⟩ _ rfl (q3 u hu) (aggCell u) infoCell2)
        simp only [Act.put, List.setIfInBounds_toArray, List.set_cons_zero, List.set_cons_succ]
        refine wpAnyH_ready (rs := [6]) (by kernel_rfl) (by simp) (AllReadyH.cons ((nth_eq _ 6).trans rfl) ?_ AllReadyH.nil)
        intro K' hK
        refine call_in hK (by kernel_rfl) 43 #[.pointer (some ⟨K.g, 0, none⟩), .agg #[.int .i64 x, .int .i64 y]] (by go_simp) _ (cO _ bd) ?_
        rintro v w6 ⟨rfl, b6⟩
        have D6 := bcat bd b6 (Nat.le_refl _)
        have e6 := (b6.block _ (lt_of_heap ed)).trans ed
        have hV6 : IV w6 := mkIV.out _ _ _ _ (HT1.out.go D6) e6
        refine ⟨hV6, ?_⟩
        simp only [Act.put, List.setIfInBounds_toArray, List.set_cons_zero, List.set_cons_succ]
        refine take_held 7 (by assumption) rfl (by kernel_rfl) (by kernel_rfl) (by kernel_rfl) (fun _ _ _ h => h) (by kernel_rfl) (v := ?v6) ?y6 ?r6
        case y6 => (intro u hu; go_simp; try rfl)
        simp only [Act.put, List.setIfInBounds_toArray, List.set_cons_zero, List.set_cons_succ]
        refine skip_held 8 (by assumption) rfl (by kernel_rfl) (by kernel_rfl) (by kernel_rfl) (fun _ _ _ h => h) (by kernel_rfl) ?_
        simp only [Act.put, List.setIfInBounds_toArray, List.set_cons_zero, List.set_cons_succ]
        refine skip_held 9 (by assumption) rfl (by kernel_rfl) (by kernel_rfl) (by kernel_rfl) (fun _ _ _ h => h) (by kernel_rfl) ?_
        simp only [Act.put, List.setIfInBounds_toArray, List.set_cons_zero, List.set_cons_succ]
        refine skip_held 10 (by assumption) rfl (by kernel_rfl) (by kernel_rfl) (by kernel_rfl) (fun _ _ _ h => h) (by kernel_rfl) ?_
        simp only [Act.put, List.setIfInBounds_toArray, List.set_cons_zero, List.set_cons_succ]
        refine skip_held 11 (by assumption) rfl (by kernel_rfl) (by kernel_rfl) (by kernel_rfl) (fun _ _ _ h => h) (by kernel_rfl) ?_
        simp only [Act.put, List.setIfInBounds_toArray, List.set_cons_zero, List.set_cons_succ]
        refine skip_held 12 (by assumption) rfl (by kernel_rfl) (by kernel_rfl) (by kernel_rfl) (fun _ _ _ h => h) (by kernel_rfl) ?_
        simp only [Act.put, List.setIfInBounds_toArray, List.set_cons_zero, List.set_cons_succ]
        refine skip_held 13 (by assumption) rfl (by kernel_rfl) (by kernel_rfl) (by kernel_rfl) (fun _ _ _ h => h) (by kernel_rfl) ?_
        simp only [Act.put, List.setIfInBounds_toArray, List.set_cons_zero, List.set_cons_succ]
        refine skip_held 14 (by assumption) rfl (by kernel_rfl) (by kernel_rfl) (by kernel_rfl) (fun _ _ _ h => h) (by kernel_rfl) ?_
        simp only [Act.put, List.setIfInBounds_toArray, List.set_cons_zero, List.set_cons_succ]
        refine skip_held 15 (by assumption) rfl (by kernel_rfl) (by kernel_rfl) (by kernel_rfl) (fun _ _ _ h => h) (by kernel_rfl) ?_
        simp only [Act.put, List.setIfInBounds_toArray, List.set_cons_zero, List.set_cons_succ]
        refine take_held 16 (by assumption) rfl (by kernel_rfl) (by kernel_rfl) (by kernel_rfl) (fun _ _ _ h => h) (by kernel_rfl) (v := ?v7) ?y7 ?r7
        case y7 => (intro u hu; go_simp; try rfl)
        simp only [Act.put, List.setIfInBounds_toArray, List.set_cons_zero, List.set_cons_succ]
        refine done_held (by kernel_rfl) ?_ _
        have HT9 : Hid (∃ m ys, Tw ws K (most : Int) (tellT c us ps (k + 1)) m ys w6) := by
          refine ⟨m, ys, ?_⟩
          rw [HNx.out, List.append_nil]
          exact HT1.out.go D6
        have HL9 : Hid ((tellT c us ps (k + 1)).length < most) := by rw [HNx.out, List.append_nil]; exact HLT.out
        clear hV6 hV
        go_wp2
        go_roundw
        case rel => exact ⟨k + 1, by omega, by go_num, HT9, HL9⟩
        case measure => simp [intOf]; omega
      · rw [ho] at cO HNx
        simp only [if_true] at HNx
        refine start_held (S := IV) 17 rfl (by kernel_rfl) (hV) ?_
        simp only [Array.replicate_succ, Array.replicate_zero, List.push_toArray, List.nil_append, List.cons_append]
        generalize wb.drew = wd at *
        refine take_held 0 (by assumption) rfl (by kernel_rfl) (by kernel_rfl) (by kernel_rfl) (fun _ _ _ h => h) (by kernel_rfl) (v := ?v8) ?y8 ?r8
        case y8 => (intro u hu; have zz0 := q1 u hu; go_simp; try rfl)
        simp only [Act.put, List.setIfInBounds_toArray, List.set_cons_zero, List.set_cons_succ]
        refine take_held 1 (by assumption) rfl (by kernel_rfl) (by kernel_rfl) (by kernel_rfl) (fun _ _ _ h => h) (by kernel_rfl) (v := ?v9) ?y9 ?r9
        case y9 => (intro u hu; go_simp; try rfl)
        simp only [Act.put, List.setIfInBounds_toArray, List.set_cons_zero, List.set_cons_succ]
        refine take_held 2 (by assumption) rfl (by kernel_rfl) (by kernel_rfl) (by kernel_rfl) (fun _ _ _ h => h) (by kernel_rfl) (v := ?v10) ?y10 ?r10
        case y10 => (intro u hu; go_simp; try rfl)
        simp only [Act.put, List.setIfInBounds_toArray, List.set_cons_zero, List.set_cons_succ]
        refine take_held 3 (by assumption) rfl (by kernel_rfl) (by kernel_rfl) (by kernel_rfl) (fun _ _ _ h => h) (by kernel_rfl) (v := ?v11) ?y11 ?r11
        case y11 => (intro u hu; have zz0 := q2 u hu; go_simp; try rfl)
        simp only [Act.put, List.setIfInBounds_toArray, List.set_cons_zero, List.set_cons_succ]
        refine take_held 4 (by assumption) rfl (by kernel_rfl) (by kernel_rfl) (by kernel_rfl) (fun _ _ _ h => h) (by kernel_rfl) (v := ?v12) ?y12 ?r12
        case y12 => (intro u hu; go_simp; try rfl)
        simp only [Act.put, List.setIfInBounds_toArray, List.set_cons_zero, List.set_cons_succ]
        refine take_held 5 (by assumption) rfl (by kernel_rfl) (by kernel_rfl) (by kernel_rfl) (fun _ _ _ h => h) (by kernel_rfl) (v := .agg #[.int .i64 x, .int .i64 y]) ?y13 ?r13
        case y13 => (intro u hu; exact run_load_op 39 _ rfl ⟨bx, 0, none⟩ _ rfl (q3 u hu) (aggCell u) infoCell2)
        simp only [Act.put, List.setIfInBounds_toArray, List.set_cons_zero, List.set_cons_succ]
        refine wpAnyH_ready (rs := [6]) (by kernel_rfl) (by simp) (AllReadyH.cons ((nth_eq _ 6).trans rfl) ?_ AllReadyH.nil)
        intro K' hK
        refine call_in hK (by kernel_rfl) 43 #[.pointer (some ⟨K.g, 0, none⟩), .agg #[.int .i64 x, .int .i64 y]] (by go_simp) _ (cO _ bd) ?_
        rintro v w6 ⟨rfl, b6⟩
        have D6 := bcat bd b6 (Nat.le_refl _)
        have e6 := (b6.block _ (lt_of_heap ed)).trans ed
        have hV6 : IV w6 := mkIV.out _ _ _ _ (HT1.out.go D6) e6
        refine ⟨hV6, ?_⟩
        simp only [Act.put, List.setIfInBounds_toArray, List.set_cons_zero, List.set_cons_succ]
        refine take_held 7 (by assumption) rfl (by kernel_rfl) (by kernel_rfl) (by kernel_rfl) (fun _ _ _ h => h) (by kernel_rfl) (v := ?v14) ?y14 ?r14
        case y14 => (intro u hu; go_simp; try rfl)
        simp only [Act.put, List.setIfInBounds_toArray, List.set_cons_zero, List.set_cons_succ]
        refine take_held 8 (by assumption) rfl (by kernel_rfl) (by kernel_rfl) (by kernel_rfl) (fun _ _ _ h => h) (by kernel_rfl) (v := ?v15) ?y15 ?r15
        case y15 => (intro u hu; go_simp; try rfl)
        simp only [Act.put, List.setIfInBounds_toArray, List.set_cons_zero, List.set_cons_succ]
        refine take_held 9 (by assumption) rfl (by kernel_rfl) (by kernel_rfl) (by kernel_rfl) (fun _ _ _ h => h) (by kernel_rfl) (v := ?v16) ?y16 ?r16
        case y16 => (intro u hu; go_simp; try rfl)
        simp only [Act.put, List.setIfInBounds_toArray, List.set_cons_zero, List.set_cons_succ]
        refine take_held 10 (by assumption) rfl (by kernel_rfl) (by kernel_rfl) (by kernel_rfl) (fun _ _ _ h => h) (by kernel_rfl) (v := .agg #[.int .i64 x, .int .i64 y]) ?y17 ?r17
        case y17 => (intro u hu; exact run_load_op 39 _ rfl ⟨bx, 0, none⟩ _ rfl (q3 u hu) (aggCell u) infoCell2)
        simp only [Act.put, List.setIfInBounds_toArray, List.set_cons_zero, List.set_cons_succ]
        refine take_held 11 (by assumption) rfl (by kernel_rfl) (by kernel_rfl) (by kernel_rfl) (fun _ _ _ h => h) (by kernel_rfl) (v := ?v18) ?y18 ?r18
        case y18 => (intro u hu; go_simp; try rfl)
        simp only [Act.put, List.setIfInBounds_toArray, List.set_cons_zero, List.set_cons_succ]
        refine take_held 12 (by assumption) rfl (by kernel_rfl) (by kernel_rfl) (by kernel_rfl) (fun _ _ _ h => h) (by kernel_rfl) (v := ?v19) ?y19 ?r19
        case y19 => (intro u hu; have zz0 := q4 u hu; go_simp; try rfl)
        simp only [Act.put, List.setIfInBounds_toArray, List.set_cons_zero, List.set_cons_succ]
        refine wpAnyH_ready (rs := [13]) (by kernel_rfl) (by simp) (AllReadyH.cons ((nth_eq _ 13).trans rfl) ?_ AllReadyH.nil)
        intro K' hK
        refine call_in hK (by kernel_rfl) 47 #[.slice pa n pcap] (by go_simp) _ (clone_ints _ bs _ w6 (HL.out.go heldInt since_lt D6) (fun q hq => Nat.lt_of_lt_of_le (since_lt q hq) D6.size) (by rw [Hn.out]; omega)) ?_
        rintro v w13 ⟨own13, b13⟩
        obtain ⟨sa, sc, hv13, _⟩ := own_form own13
        subst hv13
        have e13 := (b13.block _ (lt_of_heap e6)).trans e6
        have hV13 : IV w13 := mkIV.out _ _ _ _ ((HT1.out.go D6).go b13) e13
        have cY := told1_any HT1.out D6 b13 x y bs sa bs.length sc own13 (by omega)
        by_cases hgo : ((tellT c us ps k).length : Int) + 1 < most
        · rw [decide_eq_true hgo] at cY
          refine ⟨hV13, ?_⟩
          simp only [Act.put, List.setIfInBounds_toArray, List.set_cons_zero, List.set_cons_succ]
          refine wpAnyH_ready (rs := [14]) (by kernel_rfl) (by simp) (AllReadyH.cons ((nth_eq _ 14).trans rfl) ?_ AllReadyH.nil)
          intro K' hK
          refine call_in hK (by kernel_rfl) 52 #[.agg #[.int .i64 x, .int .i64 y], .slice sa bs.length sc, .pointer (some ⟨ws.heap.size + 2, 0, none⟩), .pointer (some ⟨ws.heap.size, 0, none⟩)] (by go_simp) _ (cY) ?_
          rintro v w14 ⟨rfl, ⟨m', ys', T14⟩, s14, k14⟩
          have hbx2 : wr.heap.size ≤ bx := by rw [HBX.out]; exact Nat.le_refl _
          have e14 := (k14 bx hbx2 (lt_of_heap e13)).trans e13
          have hV14 : IV w14 := mkIV.out _ _ _ _ T14 e14
          have HT9 : Hid (∃ m ys, Tw ws K (most : Int) (tellT c us ps (k + 1)) m ys w14) := ⟨m', ys', by rw [HNx.out]; exact T14⟩
          have HL9 : Hid ((tellT c us ps (k + 1)).length < most) := by have := HLT.out; rw [HNx.out, List.length_append]; show _ + 1 < most; omega
          refine ⟨hV14, ?_⟩
          simp only [Act.put, List.setIfInBounds_toArray, List.set_cons_zero, List.set_cons_succ]
          refine take_held 15 (by assumption) rfl (by kernel_rfl) (by kernel_rfl) (by kernel_rfl) (fun _ _ _ h => h) (by kernel_rfl) (v := ?v20) ?y20 ?r20
          case y20 => (intro u hu; go_simp; try rfl)
          simp only [Act.put, List.setIfInBounds_toArray, List.set_cons_zero, List.set_cons_succ]
          refine take_held 16 (by assumption) rfl (by kernel_rfl) (by kernel_rfl) (by kernel_rfl) (fun _ _ _ h => h) (by kernel_rfl) (v := ?v21) ?y21 ?r21
          case y21 => (intro u hu; go_simp; try rfl)
          simp only [Act.put, List.setIfInBounds_toArray, List.set_cons_zero, List.set_cons_succ]
          refine done_held (by kernel_rfl) ?_ _
          clear hV6 hV hV13 hV14
          go_wp2
          go_roundw
          case rel => exact ⟨k + 1, by omega, by go_num, HT9, HL9⟩
          case measure => simp [intOf]; omega
        · rw [decide_eq_false hgo] at cY
          refine ⟨hV13, ?_⟩
          simp only [Act.put, List.setIfInBounds_toArray, List.set_cons_zero, List.set_cons_succ]
          refine wpAnyH_ready (rs := [14]) (by kernel_rfl) (by simp) (AllReadyH.cons ((nth_eq _ 14).trans rfl) ?_ AllReadyH.nil)
          intro K' hK
          refine call_in hK (by kernel_rfl) 52 #[.agg #[.int .i64 x, .int .i64 y], .slice sa bs.length sc, .pointer (some ⟨ws.heap.size + 2, 0, none⟩), .pointer (some ⟨ws.heap.size, 0, none⟩)] (by go_simp) _ (cY) ?_
          rintro v w14 ⟨rfl, ⟨m', ys', T14⟩, s14, k14⟩
          have hbx2 : wr.heap.size ≤ bx := by rw [HBX.out]; exact Nat.le_refl _
          have e14 := (k14 bx hbx2 (lt_of_heap e13)).trans e13
          have hV14 : IV w14 := mkIV.out _ _ _ _ T14 e14
          have HT9 : Hid (∃ m ys, Tw ws K (most : Int) (tellT c us ps (k + 1)) m ys w14) := ⟨m', ys', by rw [HNx.out]; exact T14⟩
          have HL9 : Hid ((tellT c us ps (k + 1)).length = most) := by have := HLT.out; rw [HNx.out, List.length_append]; show _ + 1 = most; omega
          refine ⟨hV14, ?_⟩
          simp only [Act.put, List.setIfInBounds_toArray, List.set_cons_zero, List.set_cons_succ]
          refine take_held 15 (by assumption) rfl (by kernel_rfl) (by kernel_rfl) (by kernel_rfl) (fun _ _ _ h => h) (by kernel_rfl) (v := ?v30) ?y30 ?r30
          case y30 => (intro u hu; go_simp; try rfl)
          simp only [Act.put, List.setIfInBounds_toArray, List.set_cons_zero, List.set_cons_succ]
          refine take_held 16 (by assumption) rfl (by kernel_rfl) (by kernel_rfl) (by kernel_rfl) (fun _ _ _ h => h) (by kernel_rfl) (v := ?v31) ?y31 ?r31
          case y31 => (intro u hu; go_simp; try rfl)
          simp only [Act.put, List.setIfInBounds_toArray, List.set_cons_zero, List.set_cons_succ]
          refine done_held (by kernel_rfl) ?_ _
          clear hV6 hV hV13 hV14
          go_wp2
          exact bodyPost_ret (results_none rfl _ _ _) rfl ⟨_, rfl, rfl, by rw [tell_take c us ps (show k + 1 ≤ N by omega) HL9.out]; exact HT9.out⟩
    · obtain rfl : N = k := by omega
      go_wp2
      go_end0
      exact ⟨_, rfl, rfl, by rw [List.take_of_length_le (Nat.le_of_lt HLT.out)]; exact HT.out⟩
end Go.Proofs.Ytabbdclpjghdbaa.Stk
