/-
  Stacks in memory of one's own, each with its bins apart; the copy is such; a cell's bins in it.
-/
import Derived.Test.YtebfjldbhmmmlaaDigRef
import Derived.Test.YtebfjldbhmmmlaaDigPlaces
namespace Go.Proofs.Ytebfjldbhmmmlaa.Dig
set_option linter.unusedVariables false
set_option linter.unusedSimpArgs false
open Go Go.RowKit Go.Shelf Go.Proofs Go.Proofs.Ytebfjldbhmmmlaa.Grid Go.Proofs.Ytebfjldbhmmmlaa.Srt
attribute [local go_sem] Oper.semAt_some

/- Blocks of one's own that are not the row's. -/
def Gd (B : Nat) (v : Value) (w : World) (g : Nat) : Prop := B ≤ g ∧ g < w.heap.size ∧ v.ownBlock ≠ some g
structure NwY (B : Nat) (S : List Stk) (v : Value) (w : World) (ys : List SV) : Prop where
  len : ys.length = S.length
  own : w.ownsRow B 45 3 v ys.length (rowL stkL ys)
  at_ : ∀ i (h : i < ys.length) (h' : i < S.length), (ys[i]'h).1 = (S[i]'h').1 ∧ ListAt 1 intEl (Gd B v w) (S[i]'h').2 (slV (ys[i]'h).2) w
  ok : ∀ i (h : i < ys.length), (ys[i]'h).2.2.1 ≤ (ys[i]'h).2.2.2
theorem nw_of {w : World} {l : List Stk} {m : Value} {wr : World} {ys : List SV} (C : Copied w l m wr ys) (hl : ys.length = l.length) : NwY w.heap.size l m wr ys :=
  ⟨hl, C.own, fun i h h' => ⟨(C.at_ i h h').1, (C.at_ i h h').2.mono heldInt fun g hg => ⟨hg.1.1, hg.1.2, hg.2⟩⟩, C.ok⟩
theorem NwY.go {B : Nat} {S : List Stk} {v : Value} {w w' : World} {ys : List SV} (h : NwY B S v w ys) (b : Below w.heap.size w w') : NwY B S v w' ys :=
  ⟨h.len, owns_go h.own b, fun i q q' => ⟨(h.at_ i q q').1, ((h.at_ i q q').2.go heldInt (fun g hg => hg.2.1) b).mono heldInt fun g hg => ⟨hg.1, Nat.lt_of_lt_of_le hg.2.1 b.size, hg.2.2⟩⟩, h.ok⟩
theorem NwY.item {B : Nat} {S : List Stk} {v : Value} {w : World} {ys : List SV} (h : NwY B S v w ys) {k : Nat} (hk : k < S.length) : ∃ pp ba bn bc cap, v = .slice (some pp) S.length cap ∧ v.ownBlock = some pp.block ∧ bn = (S[k]'hk).2.length ∧ bn ≤ bc ∧ ListAt 1 intEl (Gd B v w) (S[k]'hk).2 (.slice ba bn bc) w ∧ ∀ j z, #[Value.int .i64 (S[k]'hk).1.1, .int .i64 (S[k]'hk).1.2, .slice ba bn bc][j]? = some z → w.cell? ((pp.add (k * 3)).add j) = some z := by
  have hy : k < ys.length := by rw [h.len]; exact hk
  obtain ⟨pp, cs, cap, hv, _, hcs, hrd⟩ := (list_of_own kindStack.len h.own).item hy
  have hcs2 : cs = (stkL (ys[k]'hy)).toArray := hcs
  subst hcs2
  obtain ⟨e1, e2⟩ := h.at_ k hy hk
  obtain ⟨a2, c2, hv2, _⟩ := e2.form
  have e3 : (ys[k]'hy).2.2.1 = (S[k]'hk).2.length := by unfold slV at hv2; injection hv2
  refine ⟨pp, (ys[k]'hy).2.1, (ys[k]'hy).2.2.1, (ys[k]'hy).2.2.2, cap, by rw [hv, h.len], by rw [hv]; rfl, e3, h.ok k hy, e2, ?_⟩
  rw [← e1]
  exact hrd
set_option maxRecDepth 100000 in
set_option maxHeartbeats 4000000 in
theorem copyStacksO_any (F : Nat → Prop) (l : List Stk) (v : Value) (w : World) (hL : ListAt 3 stackEl F l v w) (hF : ∀ b, F b → b < w.heap.size) (hm : l.length ≤ 3518437208880) (hb : ∀ s ∈ l, s.2.length ≤ 17592186044416) :
    Calls Try.prog 9 #[v] w fun e w' => ∃ r, e = .returned r ∧ (∃ ys, NwY w.heap.size l r w' ys) ∧ Below w.heap.size w w' := by
  obtain ⟨a, cap, hv, h0⟩ := hL.form
  subst hv
  obtain ⟨n, hn⟩ : ∃ n, l.length = n := ⟨_, rfl⟩
  have Hn : Hid (l.length = n) := hn
  rw [hn] at hm hL h0 ⊢
  clear hn
  have hFw : ∀ wr, Below w.heap.size w wr → ListAt 3 stackEl F l (.slice a n cap) wr := fun wr b => hL.go heldStack hF b
  have C0 : Copied w l (.slice none 0 0) w [] := ⟨Below.refl _ _, World.ownsRow_nil _ _ _ _, fun i h => by simp at h, fun i h => by simp at h⟩
  have HB : Hid (∀ s ∈ l, s.2.length ≤ 17592186044416) := hb
  clear hb hL
  go_enter Try.func9, Try.ntmps9
  go_wp2
  go_loopw [3, 4] (fun m i wr => ∃ (k : Nat) (ys : List SV), k ≤ n ∧ i = .int .i64 k ∧ Hid (ys.length = k) ∧ Hid (Copied w l m wr ys)) (fun _ i _ => n - (intOf i).toNat)
  case atStart => exact ⟨0, [], Nat.zero_le _, rfl, rfl, C0⟩
  case round =>
    obtain ⟨k, ys, hk, rfl, HY, C⟩ := hrel
    clear C0
    by_cases hlt : k < n
    · have hlt' : k < l.length := by rw [Hn.out]; exact hlt
      have HBk : Hid ((l[k]'hlt').2.length ≤ 17592186044416) := HB.out _ (List.getElem_mem hlt')
      have B := C.out.below
      have HNX : Hid (∀ {w0 w1 w2 w3 : World} {sl : Option Addr × Nat × Nat} {v' : Value}, Below wr.heap.size wr w0 → w1.ownsRow w0.heap.size 3 1 (slV sl) (l[k]'hlt').2.length (rowL intL (l[k]'hlt').2) → Below w0.heap.size w0 w1 → Below w1.heap.size w1 w2 →
          w3.ownsRow w.heap.size 45 3 v' (ys ++ [((l[k]'hlt').1, sl)]).length (rowL stkL (ys ++ [((l[k]'hlt').1, sl)])) → w2.grownBy w3 u3.ownBlock → (v'.ownBlock = u3.ownBlock ∨ v'.ownBlock = some w2.heap.size) → Copied w l v' w3 (ys ++ [((l[k]'hlt').1, sl)])) := by
        obtain rfl := HY.out
        exact C.out.next hlt'
      obtain ⟨p, cs, cap', hv, hpF, hcs, hrd⟩ := (hFw wr B).item hlt'
      generalize l[k]'hlt' = qr at *
      obtain ⟨⟨x, y⟩, bs⟩ := qr
      obtain ⟨vb, hcs', hbs⟩ := hcs
      subst hcs'
      obtain ⟨rfl, rfl⟩ : a = some p ∧ cap = cap' := by injection hv with h1 h2 h3; exact ⟨h1, h3⟩
      obtain ⟨ba, bcap, hvb, hb0⟩ := hbs.form
      subst hvb
      clear hv
      simp only at hrd hbs hb0 HNX HBk
      have HP : Hid (∀ u, Below w.heap.size w u → ∀ j z, #[Value.int .i64 x, .int .i64 y, .slice ba bs.length bcap][j]? = some z → u.cell? ((p.add (k * 3)).add j) = some z) := fun u hu j z hj => by
        obtain ⟨p2, cs2, cap2, hv2, _, ⟨vb2, hcs2, _⟩, hrd2⟩ := (hFw u hu).item hlt'
        have e1 := hrd j z hj
        exact (cell_same (by rw [block_add, block_add]; exact (hu.block _ (hF _ hpF)).trans (B.block _ (hF _ hpF)).symm)).trans e1
      have hbu : ∀ u, Below w.heap.size w u → ListAt 1 intEl F bs (.slice ba bs.length bcap) u := fun u hu => hbs.stable heldInt fun g hg => (hu.block g (hF g hg)).trans (B.block g (hF g hg)).symm
      clear hrd hbs
      go_wp2
      obtain ⟨IH, hIH⟩ : ∃ I : World → Prop, I = Below w.heap.size w := ⟨_, rfl⟩
      have kI : ∀ u, IH u → Below w.heap.size w u := fun u hu => by rw [hIH] at hu; exact hu
      have hS : IH wr.drew := by rw [hIH]; exact bcat B (Below.refl _ _).drew (Nat.le_refl _)
      have H1 : Hid (∀ u, IH u → ∀ j z, #[Value.int .i64 x, .int .i64 y][j]? = some z → u.cell? ((p.add (k * 3)).add j) = some z) := fun u hu j z hj => HP.out u (kI u hu) j z (by
        match j with
        | 0 => simpa using hj
        | 1 => simpa using hj
        | j + 2 => simp at hj)
      have z2 : ∀ u, IH u → u.cell? ⟨(p.add (k * 3)).block, (p.add (k * 3)).off + 2, none⟩ = some (.slice ba bs.length bcap) := fun u hu => HP.out u (kI u hu) 2 _ rfl
      refine start_held (S := IH) 16 rfl (by kernel_rfl) (hS) ?_
      simp only [Array.replicate_succ, Array.replicate_zero, List.push_toArray, List.nil_append, List.cons_append]
      refine take_held 0 (by assumption) rfl (by kernel_rfl) (by kernel_rfl) (by kernel_rfl) (fun _ _ _ h => h) (by kernel_rfl) (v := ?v0) ?y0 ?r0
      case y0 => (intro u hu; go_simp; try rfl)
      simp only [Act.put, List.setIfInBounds_toArray, List.set_cons_zero, List.set_cons_succ]
      refine take_held 1 (by assumption) rfl (by kernel_rfl) (by kernel_rfl) (by kernel_rfl) (fun _ _ _ h => h) (by kernel_rfl) (v := ?v1) ?y1 ?r1
      case y1 => (intro u hu; go_simp; try rfl)
      simp only [Act.put, List.setIfInBounds_toArray, List.set_cons_zero, List.set_cons_succ]
      refine take_held 2 (by assumption) rfl (by kernel_rfl) (by kernel_rfl) (by kernel_rfl) (fun _ _ _ h => h) (by kernel_rfl) (v := ?v2) ?y2 ?r2
      case y2 => (intro u hu; go_simp; try rfl)
      simp only [Act.put, List.setIfInBounds_toArray, List.set_cons_zero, List.set_cons_succ]
      refine take_held 3 (by assumption) rfl (by kernel_rfl) (by kernel_rfl) (by kernel_rfl) (fun _ _ _ h => h) (by kernel_rfl) (v := ?v3) ?y3 ?r3
      case y3 => (intro u hu; go_simp; try rfl)
      simp only [Act.put, List.setIfInBounds_toArray, List.set_cons_zero, List.set_cons_succ]
      refine take_held 4 (by assumption) rfl (by kernel_rfl) (by kernel_rfl) (by kernel_rfl) (fun _ _ _ h => h) (by kernel_rfl) (v := ?v4) ?y4 ?r4
      case y4 => (intro u hu; go_simp; try rfl)
      simp only [Act.put, List.setIfInBounds_toArray, List.set_cons_zero, List.set_cons_succ]
      refine take_held 5 (by assumption) rfl (by kernel_rfl) (by kernel_rfl) (by kernel_rfl) (fun _ _ _ h => h) (by kernel_rfl) (v := .agg #[.int .i64 x, .int .i64 y]) ?y5 ?r5
      case y5 => (intro u hu; exact run_load_op 30 _ rfl (p.add (k * 3)) _ rfl (H1.out u hu) (aggCell u) infoCell2)
      simp only [Act.put, List.setIfInBounds_toArray, List.set_cons_zero, List.set_cons_succ]
      refine take_held 6 (by assumption) rfl (by kernel_rfl) (by kernel_rfl) (by kernel_rfl) (fun _ _ _ h => h) (by kernel_rfl) (v := ?v6) ?y6 ?r6
      case y6 => (intro u hu; go_simp; try rfl)
      simp only [Act.put, List.setIfInBounds_toArray, List.set_cons_zero, List.set_cons_succ]
      refine take_held 7 (by assumption) rfl (by kernel_rfl) (by kernel_rfl) (by kernel_rfl) (fun _ _ _ h => h) (by kernel_rfl) (v := ?v7) ?y7 ?r7
      case y7 => (intro u hu; go_simp; try rfl)
      simp only [Act.put, List.setIfInBounds_toArray, List.set_cons_zero, List.set_cons_succ]
      refine take_held 8 (by assumption) rfl (by kernel_rfl) (by kernel_rfl) (by kernel_rfl) (fun _ _ _ h => h) (by kernel_rfl) (v := ?v8) ?y8 ?r8
      case y8 => (intro u hu; go_simp; try rfl)
      simp only [Act.put, List.setIfInBounds_toArray, List.set_cons_zero, List.set_cons_succ]
      refine take_held 9 (by assumption) rfl (by kernel_rfl) (by kernel_rfl) (by kernel_rfl) (fun _ _ _ h => h) (by kernel_rfl) (v := ?v9) ?y9 ?r9
      case y9 => (intro u hu; go_simp; try rfl)
      simp only [Act.put, List.setIfInBounds_toArray, List.set_cons_zero, List.set_cons_succ]
      refine take_held 10 (by assumption) rfl (by kernel_rfl) (by kernel_rfl) (by kernel_rfl) (fun _ _ _ h => h) (by kernel_rfl) (v := ?v10) ?y10 ?r10
      case y10 => (intro u hu; have zz := z2 u hu; go_simp; try rfl)
      simp only [Act.put, List.setIfInBounds_toArray, List.set_cons_zero, List.set_cons_succ]
      refine wpAnyH_ready (rs := [11]) (by kernel_rfl) (by simp) (AllReadyH.cons ((nth_eq _ 11).trans rfl) ?_ AllReadyH.nil)
      intro K' hK
      refine call_in hK (by kernel_rfl) 24 #[.slice ba bs.length bcap] (by go_simp) _ (copyInts_any F bs _ wr.drew (hbu _ (bcat B (Below.refl _ _).drew (Nat.le_refl _))) HBk.out) ?_
      rintro v w6 ⟨ho, b6⟩
      have b0 : Below wr.heap.size wr wr.drew := (Below.refl _ _).drew
      have D6 : Below wr.heap.size wr w6 := bcat b0 b6 (Nat.le_refl _)
      have B6 := bcat B D6 (Nat.le_refl _)
      have hS6 : IH w6 := by rw [hIH]; exact B6
      obtain ⟨sa, scap, hsv, _⟩ := own_form ho
      subst hsv
      refine ⟨hS6, ?_⟩
      simp only [Act.put, List.setIfInBounds_toArray, List.set_cons_zero, List.set_cons_succ]
      refine take_held 12 (by assumption) rfl (by kernel_rfl) (by kernel_rfl) (by kernel_rfl) (fun _ _ _ h => h) (by kernel_rfl) (v := ?v11) ?y11 ?r11
      case y11 => (intro u hu; go_simp; try rfl)
      simp only [Act.put, List.setIfInBounds_toArray, List.set_cons_zero, List.set_cons_succ]
      refine wpAnyH_ready (rs := [13]) (by kernel_rfl) (by simp) (AllReadyH.cons ((nth_eq _ 13).trans rfl) ?_ AllReadyH.nil)
      intro K' hK
      have b7 : Below w6.heap.size w6 (w6.alloc (.cells #[.int .i64 x, .int .i64 y, .slice sa bs.length scap] 45)) := below_new (Below.refl _ _) _
      have e7 : (w6.alloc (.cells #[.int .i64 x, .int .i64 y, .slice sa bs.length scap] 45)).heap[w6.heap.size]? = some (.cells (stkL ((x, y), (sa, bs.length, scap))).toArray 45 (0, 0)) := heap_alloc_new w6 _
      refine value_in hK (by kernel_rfl) (.slice (some ⟨w6.heap.size, 0, none⟩) 1 1) (w6.alloc (.cells #[.int .i64 x, .int .i64 y, .slice sa bs.length scap] 45)) (by go_simp; try rfl) (by rw [hIH]; exact bcat B6 b7 (Nat.le_refl _)) ?_
      generalize hw7 : w6.alloc (.cells #[.int .i64 x, .int .i64 y, .slice sa bs.length scap] 45) = w7 at *
      simp only [Act.put, List.setIfInBounds_toArray, List.set_cons_zero, List.set_cons_succ]
      refine wpAnyH_ready (rs := [14]) (by kernel_rfl) (by simp) (AllReadyH.cons ((nth_eq _ 14).trans rfl) ?_ AllReadyH.nil)
      intro K2 hK2
      have D7 : Below wr.heap.size wr w7 := bcat D6 b7 (Nat.le_refl _)
      have hyn : ys.length ≤ 3518437208879 := by rw [HY.out]; omega
      obtain ⟨v8, w8, hrun, own8, hgrow, hat⟩ := run_app kindStack (owns_go C.out.own D7) (list_stk e7) (by simp; omega) (by unfold maxLen; simp; omega) (Nat.le_trans B.size D7.size) 24
      have C8 := HNX.out b0 ho b6 b7 own8 hgrow hat
      refine value_in hK2 (by kernel_rfl) v8 w8 (run_app_op (t := 24) (.tmp 11) (.tmp 24) rfl u3 (.slice (some ⟨w6.heap.size, 0, none⟩) 1 1) v8 rfl rfl hrun) (by rw [hIH]; exact C8.below) ?_
      have HC8 : Hid (Copied w l v8 w8 (ys ++ [((x, y), (sa, bs.length, scap))])) := C8
      have HY8 : Hid ((ys ++ [((x, y), (sa, bs.length, scap))]).length = k + 1) := by show (ys ++ [((x, y), (sa, bs.length, scap))]).length = k + 1; rw [List.length_append, HY.out]; rfl
      have hS8 : IH w8 := by rw [hIH]; exact C8.below
      clear C8 own8 hgrow hat hrun e7 ho
      simp only [Act.put, List.setIfInBounds_toArray, List.set_cons_zero, List.set_cons_succ]
      refine take_held 15 (by assumption) rfl (by kernel_rfl) (by kernel_rfl) (by kernel_rfl) (fun _ _ _ h => h) (by kernel_rfl) (v := ?v12) ?y12 ?r12
      case y12 => (intro u hu; go_simp; try rfl)
      simp only [Act.put, List.setIfInBounds_toArray, List.set_cons_zero, List.set_cons_succ]
      refine done_held (by kernel_rfl) ?_ _
      go_wp2
      go_roundw
      case rel => exact ⟨k + 1, _, by omega, by go_num, HY8, HC8⟩
      case measure => simp [intOf]; omega
    · obtain rfl : k = n := by omega
      have HF : Hid ((∃ ys, NwY w.heap.size l u3 wr ys) ∧ Below w.heap.size w wr) := ⟨⟨ys, nw_of C.out (by rw [HY.out, Hn.out])⟩, C.out.below⟩
      go_wp2
      go_ret
      exact ⟨_, rfl, HF.out.1, HF.out.2⟩
set_option maxRecDepth 100000 in
set_option maxHeartbeats 2000000 in
theorem nowBins_any (B : Nat) (stks : List Stk) (v : Value) (x : Cell) (w : World) (ys : List SV) (hL : NwY B stks v w ys) (hm : stks.length ≤ 9223372036854775807) :
    Calls Try.prog 10 #[v, .agg #[.int .i64 x.1, .int .i64 x.2]] w fun e w' => ∃ r, e = .returned r ∧ ((∃ a cp, r = .slice a (pileOf stks x).length cp ∧ (pileOf stks x).length ≤ cp ∧ ListAt 1 intEl (Gd B v w') (pileOf stks x) (.slice a (pileOf stks x).length cp) w') ∧ Below w.heap.size w w') := by
  obtain ⟨a, cap, hv, _⟩ := own_form hL.own
  rw [hL.len] at hv
  subst hv
  obtain ⟨n, hn⟩ : ∃ n, stks.length = n := ⟨_, rfl⟩
  have Hn : Hid (stks.length = n) := hn
  rw [hn] at hL hm ⊢
  obtain ⟨wb, hwb⟩ : ∃ wb, wb = w.alloc (.cells #[.int .i64 x.1, .int .i64 x.2] 30) := ⟨_, rfl⟩
  have bb : Below w.heap.size w wb := by rw [hwb]; exact below_new (Below.refl _ _) _
  have hx : wb.heap[w.heap.size]? = some (.cells #[.int .i64 x.1, .int .i64 x.2] 30 (0, 0)) := by rw [hwb]; exact heap_alloc_new w _
  have HX : Hid (∀ u, Below wb.heap.size wb u → ∀ j z, #[Value.int .i64 x.1, .int .i64 x.2][j]? = some z → u.cell? ((⟨w.heap.size, 0, none⟩ : Addr).add j) = some z) := fun u hu => row_below hx hu
  have HLw : Hid (∀ u, Below wb.heap.size wb u → NwY B stks (.slice a n cap) u ys) := fun u b => hL.go (bcat bb b (Nat.le_refl _))
  have HLt : Hid (∀ q, (Value.slice a n cap).ownBlock = some q → q < w.heap.size) := fun q e => (hL.own.lt q e).2
  have HB0 : Hid (Below w.heap.size w wb) := bb
  clear hn hx hL bb
  go_enter Try.func10, Try.ntmps10
  go_upto_region 1 with fail
  rw [← hwb]
  clear hwb
  go_wp2_with fail
  go_loopw [5] (fun i wq => ∃ k : Nat, k ≤ n ∧ i = .int .i64 k ∧ Hid (pileOf stks x = pileOf (stks.drop k) x) ∧ Hid (Below wb.heap.size wb wq)) (fun i _ => n - (intOf i).toNat)
  case atStart => exact ⟨0, Nat.zero_le _, rfl, rfl, Below.refl _ _⟩
  case round =>
    obtain ⟨k, hk, rfl, HP, HB⟩ := hrel
    by_cases hlt : k < n
    · have hd0 : decide ((k : Int) < (n : Int)) = true := decide_eq_true (by omega)
      have hkS : k < stks.length := by rw [Hn.out]; exact hlt
      obtain ⟨pp, ba, bn, bc, cap2, hv, hob, hbn, hok, hbs, hrd⟩ := (HLw.out _ HB.out).item hkS
      have hpd := pile_drop stks x hkS
      generalize stks[k]'hkS = sk at *
      obtain ⟨ck, bs⟩ := sk
      simp only at hrd hbs hpd hbn
      subst hbn
      obtain ⟨rfl, rfl⟩ : a = some pp ∧ cap = cap2 := by injection hv with h1 h2 h3; exact ⟨h1, h3⟩
      have HOk : Hid (bs.length ≤ bc) := hok
      have hbl : pp.block < wb.heap.size := Nat.lt_of_lt_of_le (HLt.out _ rfl) HB0.out.size
      have HA : Hid (∀ u, Below wb.heap.size wb u → ∀ j z, #[Value.int .i64 ck.1, .int .i64 ck.2, .slice ba bs.length bc][j]? = some z → u.cell? ((pp.add (k * 3)).add j) = some z) := fun u hu j z hj => (cell_same (by rw [block_add, block_add]; exact (hu.block _ hbl).trans (HB.out.block _ hbl).symm)).trans (hrd j z hj)
      have HI : Hid (∀ u, Below wb.heap.size wb u → ∀ j z, #[Value.int .i64 ck.1, .int .i64 ck.2][j]? = some z → u.cell? ((pp.add (k * 3)).add j) = some z) := fun u hu j z hj => HA.out u hu j z (by
        match j with
        | 0 => simpa using hj
        | 1 => simpa using hj
        | j + 2 => simp at hj)
      have hkn : (k : Int) < (n : Int) := by omega
      have S0 : Below wb.heap.size wb wr.drew := bcat HB.out (Below.refl _ _).drew (Nat.le_refl _)
      have z2 : wr.drew.cell? ⟨(pp.add (k * 3)).block, (pp.add (k * 3)).off + 2, none⟩ = some (.slice ba bs.length bc) := HA.out _ S0 2 _ rfl
      clear hv hrd
      by_cases hc : ck = x
      · have hd := decide_eq_true hc
        rw [if_pos hc] at hpd
        have HE : Hid (pileOf stks x = bs) := HP.out.trans hpd
        have HR : Hid (ListAt 1 intEl (Gd B (.slice (some pp) n cap) wr.drew) bs (.slice ba bs.length bc) wr.drew) := hbs.stable heldInt fun b hb => rfl
        clear hc hpd hbs hob hok
        go_upto_region 4 with fail
        refine start_held (S := fun u => Below wb.heap.size wb u) 7 rfl (by kernel_rfl) (S0) ?_
        simp only [Array.replicate_succ, Array.replicate_zero, List.push_toArray, List.nil_append, List.cons_append]
        refine take_held 0 S0 rfl (by kernel_rfl) (by kernel_rfl) (by kernel_rfl) (fun _ _ _ h => h) (by kernel_rfl) (v := ?v14) ?y14 ?r14
        case y14 => (intro u hu; go_simp; try rfl)
        simp only [Act.put, List.setIfInBounds_toArray, List.set_cons_zero, List.set_cons_succ]
        refine take_held 1 S0 rfl (by kernel_rfl) (by kernel_rfl) (by kernel_rfl) (fun _ _ _ h => h) (by kernel_rfl) (v := ?v15) ?y15 ?r15
        case y15 => (intro u hu; go_simp; try rfl)
        simp only [Act.put, List.setIfInBounds_toArray, List.set_cons_zero, List.set_cons_succ]
        refine take_held 2 S0 rfl (by kernel_rfl) (by kernel_rfl) (by kernel_rfl) (fun _ _ _ h => h) (by kernel_rfl) (v := ?v16) ?y16 ?r16
        case y16 => (intro u hu; go_simp; try rfl)
        simp only [Act.put, List.setIfInBounds_toArray, List.set_cons_zero, List.set_cons_succ]
        refine take_held 3 S0 rfl (by kernel_rfl) (by kernel_rfl) (by kernel_rfl) (fun _ _ _ h => h) (by kernel_rfl) (v := ?v17) ?y17 ?r17
        case y17 => (intro u hu; go_simp; try rfl)
        simp only [Act.put, List.setIfInBounds_toArray, List.set_cons_zero, List.set_cons_succ]
        refine take_held 4 S0 rfl (by kernel_rfl) (by kernel_rfl) (by kernel_rfl) (fun _ _ _ h => h) (by kernel_rfl) (v := .agg #[.int .i64 ck.1, .int .i64 ck.2]) ?y18 ?r18
        case y18 => (intro u hu; exact run_load_op 30 _ rfl (pp.add (k * 3)) _ rfl (HI.out u hu) (aggCell u) infoCell2)
        simp only [Act.put, List.setIfInBounds_toArray, List.set_cons_zero, List.set_cons_succ]
        refine take_held 5 S0 rfl (by kernel_rfl) (by kernel_rfl) (by kernel_rfl) (fun _ _ _ h => h) (by kernel_rfl) (v := .agg #[.int .i64 x.1, .int .i64 x.2]) ?y19 ?r19
        case y19 => (intro u hu; exact run_load_op 30 _ rfl ⟨w.heap.size, 0, none⟩ _ rfl (HX.out u hu) (aggCell u) infoCell2)
        simp only [Act.put, List.setIfInBounds_toArray, List.set_cons_zero, List.set_cons_succ]
        refine take_held 6 S0 rfl (by kernel_rfl) (by kernel_rfl) (by kernel_rfl) (fun _ _ _ h => h) (by kernel_rfl) (v := .bool true) ?y20 ?r20
        case y20 => (intro u hu; exact (run_eql_cell (.tmp 16) (.tmp 17) rfl ck.1 ck.2 x.1 x.2 rfl rfl).trans (by rw [show decide ((ck.1, ck.2) = (x.1, x.2)) = true from hd]))
        simp only [Act.put, List.setIfInBounds_toArray, List.set_cons_zero, List.set_cons_succ]
        refine done_held (by kernel_rfl) ?_ _
        go_wp2_with fail
        go_ret
        exact ⟨_, rfl, ⟨ba, bc, by rw [HE.out]; rfl, by rw [HE.out]; exact HOk.out, by rw [HE.out]; exact HR.out⟩, bcat HB0.out S0 (Nat.le_refl _)⟩
      · have hd := decide_eq_false hc
        rw [if_neg hc] at hpd
        have HP2 : Hid (pileOf stks x = pileOf (stks.drop (k + 1)) x) := HP.out.trans hpd
        clear hc hpd hbs hob hok
        go_upto_region 4 with fail
        refine start_held (S := fun u => Below wb.heap.size wb u) 7 rfl (by kernel_rfl) (S0) ?_
        simp only [Array.replicate_succ, Array.replicate_zero, List.push_toArray, List.nil_append, List.cons_append]
        refine take_held 0 S0 rfl (by kernel_rfl) (by kernel_rfl) (by kernel_rfl) (fun _ _ _ h => h) (by kernel_rfl) (v := ?v21) ?y21 ?r21
        case y21 => (intro u hu; go_simp; try rfl)
        simp only [Act.put, List.setIfInBounds_toArray, List.set_cons_zero, List.set_cons_succ]
        refine take_held 1 S0 rfl (by kernel_rfl) (by kernel_rfl) (by kernel_rfl) (fun _ _ _ h => h) (by kernel_rfl) (v := ?v22) ?y22 ?r22
        case y22 => (intro u hu; go_simp; try rfl)
        simp only [Act.put, List.setIfInBounds_toArray, List.set_cons_zero, List.set_cons_succ]
        refine take_held 2 S0 rfl (by kernel_rfl) (by kernel_rfl) (by kernel_rfl) (fun _ _ _ h => h) (by kernel_rfl) (v := ?v23) ?y23 ?r23
        case y23 => (intro u hu; go_simp; try rfl)
        simp only [Act.put, List.setIfInBounds_toArray, List.set_cons_zero, List.set_cons_succ]
        refine take_held 3 S0 rfl (by kernel_rfl) (by kernel_rfl) (by kernel_rfl) (fun _ _ _ h => h) (by kernel_rfl) (v := ?v24) ?y24 ?r24
        case y24 => (intro u hu; go_simp; try rfl)
        simp only [Act.put, List.setIfInBounds_toArray, List.set_cons_zero, List.set_cons_succ]
        refine take_held 4 S0 rfl (by kernel_rfl) (by kernel_rfl) (by kernel_rfl) (fun _ _ _ h => h) (by kernel_rfl) (v := .agg #[.int .i64 ck.1, .int .i64 ck.2]) ?y25 ?r25
        case y25 => (intro u hu; exact run_load_op 30 _ rfl (pp.add (k * 3)) _ rfl (HI.out u hu) (aggCell u) infoCell2)
        simp only [Act.put, List.setIfInBounds_toArray, List.set_cons_zero, List.set_cons_succ]
        refine take_held 5 S0 rfl (by kernel_rfl) (by kernel_rfl) (by kernel_rfl) (fun _ _ _ h => h) (by kernel_rfl) (v := .agg #[.int .i64 x.1, .int .i64 x.2]) ?y26 ?r26
        case y26 => (intro u hu; exact run_load_op 30 _ rfl ⟨w.heap.size, 0, none⟩ _ rfl (HX.out u hu) (aggCell u) infoCell2)
        simp only [Act.put, List.setIfInBounds_toArray, List.set_cons_zero, List.set_cons_succ]
        refine take_held 6 S0 rfl (by kernel_rfl) (by kernel_rfl) (by kernel_rfl) (fun _ _ _ h => h) (by kernel_rfl) (v := .bool false) ?y27 ?r27
        case y27 => (intro u hu; exact (run_eql_cell (.tmp 16) (.tmp 17) rfl ck.1 ck.2 x.1 x.2 rfl rfl).trans (by rw [show decide ((ck.1, ck.2) = (x.1, x.2)) = false from hd]))
        simp only [Act.put, List.setIfInBounds_toArray, List.set_cons_zero, List.set_cons_succ]
        refine done_held (by kernel_rfl) ?_ _
        go_wp2_with fail
        go_roundw
        case rel => exact ⟨k + 1, by omega, by go_num, HP2, S0⟩
        case measure => simp only [intOf]; omega
    · have hd0 : decide ((k : Int) < (n : Int)) = false := decide_eq_false (by omega)
      have HE : Hid (pileOf stks x = []) := by
        show pileOf stks x = []
        rw [HP.out, List.drop_eq_nil_of_le (by rw [Hn.out]; omega)]
        rfl
      go_wp2_with fail
      go_ret
      refine ⟨_, rfl, ?_, bcat HB0.out HB.out (Nat.le_refl _)⟩
      rw [HE.out]
      exact ⟨none, 0, rfl, Nat.le_refl _, ListAt.nil _ _ _ _⟩
end Go.Proofs.Ytebfjldbhmmmlaa.Dig
