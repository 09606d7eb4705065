/-
  To put bins at a cell, in stacks of one's own: the cell's are these, all others stay.
-/
import Derived.Test.YtebfjldbhmmmlaaDigNow
import Derived.Test.YtebfjldbhmmmlaaDigDonePlain
namespace Go.Proofs.Ytebfjldbhmmmlaa.Dig
set_option linter.unusedVariables false
set_option linter.unusedSimpArgs false
open Go Go.RowKit Go.Shelf Go.Proofs Go.Proofs.Ytebfjldbhmmmlaa.Grid Go.Proofs.Ytebfjldbhmmmlaa.Srt
attribute [local go_sem] Oper.semAt_some

theorem put_at {S : List Stk} {x : Cell} {bl : List Int} : ∀ {k : Nat} (hk : k < S.length), (S[k]'hk).1 = x → (∀ i (h : i < k), (S[i]'(by omega)).1 ≠ x) → putP S x bl = S.set k (x, bl) := by
  induction S with
  | nil => intro k hk; simp at hk
  | cons s l ih =>
    intro k hk h1 h2
    cases k with
    | zero =>
      have h3 : s.1 = x := h1
      rw [putP, if_pos h3]
      rfl
    | succ k =>
      have h3 : s.1 ≠ x := h2 0 (by omega)
      rw [putP, if_neg h3, List.set_cons_succ, ih (by simpa using hk) h1 (fun i h => h2 (i + 1) (by omega))]
theorem put_none {S : List Stk} {x : Cell} {bl : List Int} (h : ∀ i (h : i < S.length), (S[i]'h).1 ≠ x) : putP S x bl = S ++ [(x, bl)] := by
  induction S with
  | nil => rfl
  | cons s l ih =>
    have h3 : s.1 ≠ x := h 0 (by simp)
    rw [putP, if_neg h3, ih (fun i hi => h (i + 1) (by simpa using hi))]
    rfl
theorem own_setAt {w : World} {base : Nat} {e : TypeId} {size g n cap : Nat} {xs : List Value} (h : w.ownsRow base e size (.slice (some ⟨g, 0, none⟩) n cap) n xs) {i : Nat} (u : Value) : (w.setCell ⟨g, i, none⟩ u).ownsRow base e size (.slice (some ⟨g, 0, none⟩) n cap) n (xs.set i u) := by
  refine ⟨by rw [List.length_set]; exact h.1, ?_⟩
  rcases h.2 with ⟨hv, _⟩ | ⟨g', cap', cur, hv, hb, hg, h3, h4, h5, h6⟩
  · cases hv
  · cases hv
    refine .inr ⟨g, cap, cur.setIfInBounds i u, rfl, hb, heap_setCell_same w g i cur e u hg, h3, h4, by simp [h5], ?_⟩
    rw [Array.toList_setIfInBounds, List.take_set, h6]
theorem row_set : ∀ (ys : List SV) (k : Nat) (hk : k < ys.length) (sl : Option Addr × Nat × Nat), (rowL stkL ys).set (k * 3 + 2) (slV sl) = rowL stkL (ys.set k ((ys[k]'hk).1, sl))
  | [], k, hk, sl => by simp at hk
  | y :: ys, 0, hk, sl => rfl
  | y :: ys, k + 1, hk, sl => by
    have e := row_set ys k (by simpa using hk) sl
    have e2 : (k + 1) * 3 + 2 = (k * 3 + 2) + 3 := by omega
    rw [e2]
    show (rowL stkL (y :: ys)).set (k * 3 + 2 + 3) (slV sl) = rowL stkL (y :: ys.set k ((ys[k]'(by simpa using hk)).1, sl))
    show (stkL y ++ rowL stkL ys).set (k * 3 + 2 + 3) (slV sl) = stkL y ++ rowL stkL (ys.set k ((ys[k]'(by simpa using hk)).1, sl))
    rw [← e]
    rfl
theorem NwY.set {B : Nat} {S : List Stk} {v : Value} {w : World} {ys : List SV} (h : NwY B S v w ys) {k : Nat} (hk : k < S.length) {g cap : Nat} (hv : v = .slice (some ⟨g, 0, none⟩) S.length cap) {x : Cell} (hx : (S[k]'hk).1 = x) {bl : List Int} {sl : Option Addr × Nat × Nat} (hb : ListAt 1 intEl (Gd B v w) bl (slV sl) w) (hok : sl.2.1 ≤ sl.2.2) :
    NwY B (S.set k (x, bl)) v (w.setCell ⟨g, k * 3 + 2, none⟩ (slV sl)) (ys.set k ((ys[k]'(by rw [h.len]; exact hk)).1, sl)) := by
  have hy : k < ys.length := by rw [h.len]; exact hk
  have hne : ∀ q, Gd B v w q → q ≠ g := fun q hq e => hq.2.2 (by rw [hv, e]; rfl)
  have hst : ∀ {l : List Int} {z : Value}, ListAt 1 intEl (Gd B v w) l z w → ListAt 1 intEl (Gd B v (w.setCell ⟨g, k * 3 + 2, none⟩ (slV sl))) l z (w.setCell ⟨g, k * 3 + 2, none⟩ (slV sl)) := fun hl =>
    (hl.stable heldInt fun q hq => heap_setCell_other _ _ _ _ (hne q hq)).mono heldInt fun q hq => ⟨hq.1, by rw [World.size_setCell]; exact hq.2.1, hq.2.2⟩
  refine ⟨by rw [List.length_set, List.length_set]; exact h.len, ?_, fun i q q' => ?_, fun i q => ?_⟩
  · rw [List.length_set, ← row_set ys k hy sl]
    have ho := h.own
    rw [hv, ← h.len] at ho ⊢
    exact own_setAt ho _
  · rw [List.length_set] at q q'
    by_cases e : k = i
    · subst e
      simp only [List.getElem_set_self]
      exact ⟨by rw [(h.at_ k hy hk).1, hx], hst hb⟩
    · rw [List.getElem_set_ne e, List.getElem_set_ne e]
      exact ⟨(h.at_ i q q').1, hst (h.at_ i q q').2⟩
  · rw [List.length_set] at q
    by_cases e : k = i
    · subst e
      simp only [List.getElem_set_self]
      exact hok
    · rw [List.getElem_set_ne e]
      exact h.ok i q
theorem NwY.app {B : Nat} {S : List Stk} {v v' : Value} {w w' : World} {ys : List SV} (h : NwY B S v w ys) {x : Cell} {bl : List Int} {sl : Option Addr × Nat × Nat} (hb : ListAt 1 intEl (Gd B v w) bl (slV sl) w) (hok : sl.2.1 ≤ sl.2.2)
    (own : w'.ownsRow B 45 3 v' (ys ++ [(x, sl)]).length (rowL stkL (ys ++ [(x, sl)]))) (hg : w.grownBy w' v.ownBlock) (hat : v'.ownBlock = v.ownBlock ∨ v'.ownBlock = some w.heap.size) : NwY B (S ++ [(x, bl)]) v' w' (ys ++ [(x, sl)]) := by
  have hst : ∀ {l : List Int} {z : Value}, ListAt 1 intEl (Gd B v w) l z w → ListAt 1 intEl (Gd B v' w') l z w' := fun hl =>
    (hl.stable heldInt fun q hq => hg.block q hq.2.1 (fun e => hq.2.2 e.symm)).mono heldInt fun q hq => ⟨hq.1, Nat.lt_of_lt_of_le hq.2.1 hg.size, fun e => by
      rcases hat with q1 | q1
      · exact hq.2.2 (q1 ▸ e)
      · rw [q1] at e
        injection e with e
        have := hq.2.1
        omega⟩
  refine ⟨by rw [List.length_append, List.length_append, h.len]; rfl, own, fun i q q' => ?_, fun i q => ?_⟩
  · by_cases hi : i < ys.length
    · have hi' : i < S.length := by rw [← h.len]; exact hi
      rw [List.getElem_append_left hi, List.getElem_append_left hi']
      exact ⟨(h.at_ i hi hi').1, hst (h.at_ i hi hi').2⟩
    · have e : i = ys.length := by rw [List.length_append] at q; simp at q; omega
      have e2 : i = S.length := by rw [← h.len]; exact e
      have g1 : (ys ++ [(x, sl)])[i]'q = (x, sl) := by subst e; simp
      have g2 : (S ++ [(x, bl)])[i]'q' = (x, bl) := by
        rw [List.getElem_append_right (by omega)]
        simp [e2]
      rw [g1, g2]
      exact ⟨rfl, hst hb⟩
  · by_cases hi : i < ys.length
    · rw [List.getElem_append_left hi]
      exact h.ok i hi
    · have e : i = ys.length := by rw [List.length_append] at q; simp at q; omega
      have g1 : (ys ++ [(x, sl)])[i]'q = (x, sl) := by subst e; simp
      rw [g1]
      exact hok
theorem frozenP {w : World} {N : Nat} {cs : Array Value} {t : TypeId} (h : w.heap[N]? = some (.cells cs t (0, 0))) (j : Nat) : w.frozen? ⟨N, j, none⟩ = false := by unfold World.frozen?; rw [h]; simp
theorem setc_grownP (w : World) (a : Addr) (u : Value) : w.grownBy (w.setCell a u) (some a.block) := ⟨rfl, rfl, rfl, by simp, fun k _ hk => heap_setCell_other w a k u (fun e => hk (by rw [e]))⟩
set_option maxRecDepth 100000 in
set_option maxHeartbeats 2000000 in
theorem put_any (B : Nat) (S : List Stk) (v : Value) (x : Cell) (bl : List Int) (ba : Option Addr) (bn bc : Nat) (w : World) (ys : List SV) (hL : NwY B S v w ys) (hB : B ≤ w.heap.size) (hb : ListAt 1 intEl (Gd B v w) bl (.slice ba bn bc) w) (hok : bn ≤ bc) (hm : S.length ≤ 10000000) :
    Calls Try.prog 11 #[v, .agg #[.int .i64 x.1, .int .i64 x.2], .slice ba bn bc] w fun e w' => ∃ r, e = .returned r ∧ ((∃ ys', NwY B (putP S x bl) r w' ys') ∧ Below B w w') := by
  obtain ⟨a, cap, hv, _⟩ := own_form hL.own
  rw [hL.len] at hv
  subst hv
  obtain ⟨n, hn⟩ : ∃ n, S.length = n := ⟨_, rfl⟩
  have Hn : Hid (S.length = n) := hn
  rw [hn] at hL hm hb ⊢
  obtain ⟨wb, hwb⟩ : ∃ wb, wb = w.alloc (.cells #[.int .i64 x.1, .int .i64 x.2] 30) := ⟨_, rfl⟩
  have bb : Below w.heap.size w wb := by rw [hwb]; exact below_new (Below.refl _ _) _
  have hx : wb.heap[w.heap.size]? = some (.cells #[.int .i64 x.1, .int .i64 x.2] 30 (0, 0)) := by rw [hwb]; exact heap_alloc_new w _
  have HX : Hid (∀ u, Below wb.heap.size wb u → ∀ j z, #[Value.int .i64 x.1, .int .i64 x.2][j]? = some z → u.cell? ((⟨w.heap.size, 0, none⟩ : Addr).add j) = some z) := fun u hu => row_below hx hu
  have HXb : Hid (∀ u, Below wb.heap.size wb u → u.heap[w.heap.size]? = some (.cells #[.int .i64 x.1, .int .i64 x.2] 30 (0, 0))) := fun u hu => (hu.block _ (lt_of_heap hx)).trans hx
  have HLw : Hid (∀ u, Below wb.heap.size wb u → NwY B S (.slice a n cap) u ys) := fun u b => hL.go (bcat bb b (Nat.le_refl _))
  have HBw : Hid (∀ u, Below wb.heap.size wb u → ListAt 1 intEl (Gd B (.slice a n cap) u) bl (slV (ba, bn, bc)) u) := fun u b => (hb.go heldInt (fun q hq => hq.2.1) (bcat bb b (Nat.le_refl _))).mono heldInt fun q hq => ⟨hq.1, Nat.lt_of_lt_of_le hq.2.1 (bcat bb b (Nat.le_refl _)).size, hq.2.2⟩
  have HLt : Hid (∀ q, (Value.slice a n cap).ownBlock = some q → B ≤ q ∧ q < w.heap.size) := fun q e => hL.own.lt q e
  have HB0 : Hid (Below w.heap.size w wb) := bb
  have HBB : Hid (Below B w wb) := bb.mono hB
  clear hn hx hL bb hb
  go_enter Try.func11, Try.ntmps11
  go_upto_region 1 with fail
  rw [← hwb]
  clear hwb
  go_wp2_with fail
  go_loopw [7] (fun i wq => ∃ k : Nat, k ≤ n ∧ i = .int .i64 k ∧ Hid (∀ i (h : i < k) (h2 : i < S.length), (S[i]'h2).1 ≠ x) ∧ Hid (Below wb.heap.size wb wq)) (fun i _ => n - (intOf i).toNat)
  case atStart => exact ⟨0, Nat.zero_le _, rfl, (fun i h => by omega), Below.refl _ _⟩
  case round =>
    obtain ⟨k, hk, rfl, HP, HB⟩ := hrel
    by_cases hlt : k < n
    · have hd0 : decide ((k : Int) < (n : Int)) = true := decide_eq_true (by omega)
      have hkS : k < S.length := by rw [Hn.out]; exact hlt
      obtain ⟨pp, sa, sn, sc, cap2, hv, hob, hsn, hsok, hsl, hrd⟩ := (HLw.out _ HB.out).item hkS
      have HCk : Hid ((S[k]'hkS).1 = (S[k]'hkS).1) := rfl
      obtain ⟨ck, hck⟩ : ∃ ck, (S[k]'hkS).1 = ck := ⟨_, rfl⟩
      rw [hck] at hrd
      have HCe : Hid ((S[k]'hkS).1 = ck) := hck
      obtain ⟨rfl, rfl⟩ : a = some pp ∧ cap = cap2 := by injection hv with h1 h2 h3; exact ⟨h1, h3⟩
      obtain ⟨g, hpg, hcur⟩ : ∃ g, pp = ⟨g, 0, none⟩ ∧ ∀ u, Below wb.heap.size wb u → ∃ cur, u.heap[g]? = some (.cells cur 45 (0, 0)) := by
        rcases (HLw.out _ HB.out).own.2 with ⟨hv, _⟩ | ⟨g, cap', cur, hv, _⟩
        · cases hv
        · refine ⟨g, by cases hv; rfl, fun u hu => ?_⟩
          rcases (HLw.out u hu).own.2 with ⟨hv2, _⟩ | ⟨g2, cap2, cur2, hv2, _, hg2, _⟩
          · cases hv2
          · rw [hv] at hv2
            cases hv2
            exact ⟨cur2, hg2⟩
      have hbl : pp.block < wb.heap.size := Nat.lt_of_lt_of_le (HLt.out _ rfl).2 HB0.out.size
      have HA : Hid (∀ u, Below wb.heap.size wb u → ∀ j z, #[Value.int .i64 ck.1, .int .i64 ck.2, .slice sa sn sc][j]? = some z → u.cell? ((pp.add (k * 3)).add j) = some z) := fun u hu j z hj => (cell_same (by rw [block_add, block_add]; exact (hu.block _ hbl).trans (HB.out.block _ hbl).symm)).trans (hrd j z hj)
      have HI : Hid (∀ u, Below wb.heap.size wb u → ∀ j z, #[Value.int .i64 ck.1, .int .i64 ck.2][j]? = some z → u.cell? ((pp.add (k * 3)).add j) = some z) := fun u hu j z hj => HA.out u hu j z (by
        match j with
        | 0 => simpa using hj
        | 1 => simpa using hj
        | j + 2 => simp at hj)
      have hkn : (k : Int) < (n : Int) := by omega
      have S0 : Below wb.heap.size wb wr.drew := bcat HB.out (Below.refl _ _).drew (Nat.le_refl _)
      have z2 : wr.drew.cell? ⟨(pp.add (k * 3)).block, (pp.add (k * 3)).off + 2, none⟩ = some (.slice sa sn sc) := HA.out _ S0 2 _ rfl
      have HAd : Hid ((⟨(pp.add (k * 3)).block, (pp.add (k * 3)).off + 2, none⟩ : Addr) = ⟨g, k * 3 + 2, none⟩) := by
        show _ = _
        rw [hpg]
        unfold Addr.add
        split <;> simp_all
      have z3 : wr.drew.frozen? ⟨(pp.add (k * 3)).block, (pp.add (k * 3)).off + 2, none⟩ = false := by
        rw [HAd.out]
        obtain ⟨cur, hc⟩ := hcur _ S0
        exact frozenP hc _
      have HPg : Hid (pp = ⟨g, 0, none⟩) := hpg
      clear hv hrd hob hsn hsok hsl hck hpg hcur
      by_cases hc : ck = x
      · have hd := decide_eq_true hc
        have HF : Hid ((∃ ys', NwY B (putP S x bl) (.slice (some pp) n cap) (wr.drew.setCell ⟨(pp.add (k * 3)).block, (pp.add (k * 3)).off + 2, none⟩ (.slice ba bn bc)) ys') ∧ Below B w (wr.drew.setCell ⟨(pp.add (k * 3)).block, (pp.add (k * 3)).off + 2, none⟩ (.slice ba bn bc))) := by
          show _ ∧ _
          rw [HAd.out]
          refine ⟨?_, ?_⟩
          · rw [put_at hkS (HCe.out.trans hc) (fun i h => HP.out i h (by omega))]
            exact ⟨_, (HLw.out _ S0).set hkS (by rw [HPg.out, Hn.out]) (HCe.out.trans hc) (sl := (ba, bn, bc)) (HBw.out _ S0) hok⟩
          · have b1 : Below B w wr.drew := bcat HBB.out S0 hB
            exact b1.grown (setc_grownP _ ⟨g, k * 3 + 2, none⟩ _) (Nat.le_trans hB b1.size) (fun q e => by cases e; have := (HLt.out pp.block rfl).1; rw [HPg.out] at this; exact this)
        clear hc
        go_upto_region 4 with fail
        refine start_held (S := fun u => Below wb.heap.size wb u) 7 rfl (by kernel_rfl) (S0) ?_
        simp only [Array.replicate_succ, Array.replicate_zero, List.push_toArray, List.nil_append, List.cons_append]
        refine take_held 0 S0 rfl (by kernel_rfl) (by kernel_rfl) (by kernel_rfl) (fun _ _ _ h => h) (by kernel_rfl) (v := ?v0) ?y0 ?r0
        case y0 => (intro u hu; go_simp; try rfl)
        simp only [Act.put, List.setIfInBounds_toArray, List.set_cons_zero, List.set_cons_succ]
        refine take_held 1 S0 rfl (by kernel_rfl) (by kernel_rfl) (by kernel_rfl) (fun _ _ _ h => h) (by kernel_rfl) (v := ?v1) ?y1 ?r1
        case y1 => (intro u hu; go_simp; try rfl)
        simp only [Act.put, List.setIfInBounds_toArray, List.set_cons_zero, List.set_cons_succ]
        refine take_held 2 S0 rfl (by kernel_rfl) (by kernel_rfl) (by kernel_rfl) (fun _ _ _ h => h) (by kernel_rfl) (v := ?v2) ?y2 ?r2
        case y2 => (intro u hu; go_simp; try rfl)
        simp only [Act.put, List.setIfInBounds_toArray, List.set_cons_zero, List.set_cons_succ]
        refine take_held 3 S0 rfl (by kernel_rfl) (by kernel_rfl) (by kernel_rfl) (fun _ _ _ h => h) (by kernel_rfl) (v := ?v3) ?y3 ?r3
        case y3 => (intro u hu; go_simp; try rfl)
        simp only [Act.put, List.setIfInBounds_toArray, List.set_cons_zero, List.set_cons_succ]
        refine take_held 4 S0 rfl (by kernel_rfl) (by kernel_rfl) (by kernel_rfl) (fun _ _ _ h => h) (by kernel_rfl) (v := .agg #[.int .i64 ck.1, .int .i64 ck.2]) ?y4 ?r4
        case y4 => (intro u hu; exact run_load_op 30 _ rfl (pp.add (k * 3)) _ rfl (HI.out u hu) (aggCell u) infoCell2)
        simp only [Act.put, List.setIfInBounds_toArray, List.set_cons_zero, List.set_cons_succ]
        refine take_held 5 S0 rfl (by kernel_rfl) (by kernel_rfl) (by kernel_rfl) (fun _ _ _ h => h) (by kernel_rfl) (v := .agg #[.int .i64 x.1, .int .i64 x.2]) ?y5 ?r5
        case y5 => (intro u hu; exact run_load_op 30 _ rfl ⟨w.heap.size, 0, none⟩ _ rfl (HX.out u hu) (aggCell u) infoCell2)
        simp only [Act.put, List.setIfInBounds_toArray, List.set_cons_zero, List.set_cons_succ]
        refine take_held 6 S0 rfl (by kernel_rfl) (by kernel_rfl) (by kernel_rfl) (fun _ _ _ h => h) (by kernel_rfl) (v := .bool true) ?y6 ?r6
        case y6 => (intro u hu; exact (run_eql_cell (.tmp 18) (.tmp 19) rfl ck.1 ck.2 x.1 x.2 rfl rfl).trans (by rw [show decide ((ck.1, ck.2) = (x.1, x.2)) = true from hd]))
        simp only [Act.put, List.setIfInBounds_toArray, List.set_cons_zero, List.set_cons_succ]
        refine done_held (by kernel_rfl) ?_ _
        go_wp2_with fail
        go_ret
        exact ⟨_, rfl, HF.out.1, HF.out.2⟩
      · have hd := decide_eq_false hc
        have HP2 : Hid (∀ i (h : i < k + 1) (h2 : i < S.length), (S[i]'h2).1 ≠ x) := fun i h h2 => by
          rcases Nat.lt_or_ge i k with q | q
          · exact HP.out i q h2
          · obtain rfl : i = k := by omega
            rw [HCe.out]
            exact hc
        clear hc
        go_upto_region 4 with fail
        refine start_held (S := fun u => Below wb.heap.size wb u) 7 rfl (by kernel_rfl) (S0) ?_
        simp only [Array.replicate_succ, Array.replicate_zero, List.push_toArray, List.nil_append, List.cons_append]
        refine take_held 0 S0 rfl (by kernel_rfl) (by kernel_rfl) (by kernel_rfl) (fun _ _ _ h => h) (by kernel_rfl) (v := ?v7) ?y7 ?r7
        case y7 => (intro u hu; go_simp; try rfl)
        simp only [Act.put, List.setIfInBounds_toArray, List.set_cons_zero, List.set_cons_succ]
        refine take_held 1 S0 rfl (by kernel_rfl) (by kernel_rfl) (by kernel_rfl) (fun _ _ _ h => h) (by kernel_rfl) (v := ?v8) ?y8 ?r8
        case y8 => (intro u hu; go_simp; try rfl)
        simp only [Act.put, List.setIfInBounds_toArray, List.set_cons_zero, List.set_cons_succ]
        refine take_held 2 S0 rfl (by kernel_rfl) (by kernel_rfl) (by kernel_rfl) (fun _ _ _ h => h) (by kernel_rfl) (v := ?v9) ?y9 ?r9
        case y9 => (intro u hu; go_simp; try rfl)
        simp only [Act.put, List.setIfInBounds_toArray, List.set_cons_zero, List.set_cons_succ]
        refine take_held 3 S0 rfl (by kernel_rfl) (by kernel_rfl) (by kernel_rfl) (fun _ _ _ h => h) (by kernel_rfl) (v := ?v10) ?y10 ?r10
        case y10 => (intro u hu; go_simp; try rfl)
        simp only [Act.put, List.setIfInBounds_toArray, List.set_cons_zero, List.set_cons_succ]
        refine take_held 4 S0 rfl (by kernel_rfl) (by kernel_rfl) (by kernel_rfl) (fun _ _ _ h => h) (by kernel_rfl) (v := .agg #[.int .i64 ck.1, .int .i64 ck.2]) ?y11 ?r11
        case y11 => (intro u hu; exact run_load_op 30 _ rfl (pp.add (k * 3)) _ rfl (HI.out u hu) (aggCell u) infoCell2)
        simp only [Act.put, List.setIfInBounds_toArray, List.set_cons_zero, List.set_cons_succ]
        refine take_held 5 S0 rfl (by kernel_rfl) (by kernel_rfl) (by kernel_rfl) (fun _ _ _ h => h) (by kernel_rfl) (v := .agg #[.int .i64 x.1, .int .i64 x.2]) ?y12 ?r12
        case y12 => (intro u hu; exact run_load_op 30 _ rfl ⟨w.heap.size, 0, none⟩ _ rfl (HX.out u hu) (aggCell u) infoCell2)
        simp only [Act.put, List.setIfInBounds_toArray, List.set_cons_zero, List.set_cons_succ]
        refine take_held 6 S0 rfl (by kernel_rfl) (by kernel_rfl) (by kernel_rfl) (fun _ _ _ h => h) (by kernel_rfl) (v := .bool false) ?y13 ?r13
        case y13 => (intro u hu; exact (run_eql_cell (.tmp 18) (.tmp 19) rfl ck.1 ck.2 x.1 x.2 rfl rfl).trans (by rw [show decide ((ck.1, ck.2) = (x.1, x.2)) = false from hd]))
        simp only [Act.put, List.setIfInBounds_toArray, List.set_cons_zero, List.set_cons_succ]
        refine done_held (by kernel_rfl) ?_ _
        go_wp2_with fail
        go_roundw
        case rel => exact ⟨k + 1, by omega, by go_num, HP2, S0⟩
        case measure => simp only [intOf]; omega
    · have hd0 : decide ((k : Int) < (n : Int)) = false := decide_eq_false (by omega)
      have HPn : Hid (putP S x bl = S ++ [(x, bl)]) := put_none fun i h => HP.out i (by rw [Hn.out] at h; omega) h
      have hxb := HXb.out _ HB.out
      obtain ⟨u0, hu0⟩ : ∃ u0 : Value, Value.slice a n cap = u0 := ⟨_, rfl⟩
      have HNw := HLw.out _ HB.out
      have hyl : ys.length = n := by rw [HNw.len, Hn.out]
      have bA := (Below.refl wr.heap.size wr).alloc (Nat.le_refl _) (.cells #[.int .i64 x.1, .int .i64 x.2, .slice ba bn bc] 45)
      have N10 := HNw.go bA
      have L10 := list_one (f := stkL) (S := 3) wr ((x, (ba, bn, bc)) : SV) 45 rfl
      have B10 : Below wb.heap.size wb (wr.alloc (.cells #[.int .i64 x.1, .int .i64 x.2, .slice ba bn bc] 45)) := bcat HB.out bA (Nat.le_refl _)
      have hb10 := HBw.out _ B10
      have e1 : (ys.length + [((x, (ba, bn, bc)) : SV)].length) * 40 ≤ 140737488355328 := by simp only [List.length_cons, List.length_nil]; omega
      have e2 : ys.length + [((x, (ba, bn, bc)) : SV)].length ≤ maxLen := by unfold maxLen; simp only [List.length_cons, List.length_nil]; omega
      have BB10 : Below B w (wr.alloc (.cells #[.int .i64 x.1, .int .i64 x.2, .slice ba bn bc] 45)) := bcat HBB.out B10 hB
      have HApp : Hid (∀ (o : Oper) (ops : Array Oper) (rest : List Oper) (ac : Act) (Q : Exit → Act → World → Prop), o.guard = none → o.op = .call { callee := .builtin .append, args := #[.tmp 27, .tmp 31], argTypes := #[24, 24] } → ac.eval (.tmp 27) = .slice a n cap → ac.eval (.tmp 31) = .slice (some ⟨wr.heap.size, 0, none⟩) 1 1 → (∀ v' w', ((∃ ys', NwY B (putP S x bl) v' w' ys') ∧ Below B w w') → wpList Try.prog ops Q rest (ac.put o.dst v') w') → wpList Try.prog ops Q (o :: rest) ac (wr.alloc (.cells #[.int .i64 x.1, .int .i64 x.2, .slice ba bn bc] 45))) :=
        fun o ops rest ac Q hg ho h1 h2 h => wpList_app kindStack hg (.tmp 27) (.tmp 31) ho _ _ _ h1 N10.own _ _ [((x, (ba, bn, bc)) : SV)] h2 L10 e1 e2 (Nat.le_trans hB BB10.size) fun v' w' own g11 at11 => h v' w' ⟨⟨_, by rw [HPn.out]; exact N10.app hb10 hok own g11 at11⟩, BB10.grown g11 (Nat.le_trans hB BB10.size) (fun q e => (N10.own.lt q e).1)⟩
      clear N10 L10 hb10 e1 e2 BB10 B10 HNw hyl hu0 u0
      go_wp2_with (first
        | (refine wpList_load_row rfl 30 (.tmp 4) rfl w.heap.size rfl 30 #[.int .i64 x.1, .int .i64 x.2] (0, 0) _ hxb Try.underlying30 rfl infoCell2 ?_)
        | (at_builtin; refine HApp.out _ _ _ _ _ rfl rfl rfl rfl ?_; intro v11 w11 hfin))
      go_ret
      exact ⟨_, rfl, hfin.1, hfin.2⟩
end Go.Proofs.Ytebfjldbhmmmlaa.Dig
