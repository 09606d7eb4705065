/-
  Copies in new memory: of numbers, of stacks.
-/
import Derived.Test.YtnaojlngdfolaaaGridRef6
namespace Go.Proofs.Ytnaojlngdfolaaa.Grid
set_option linter.unusedVariables false
set_option linter.unusedSimpArgs false
open Go Go.RowKit Go.Shelf Go.Proofs

set_option maxHeartbeats 1000000 in
theorem copyInts_any (F : Nat → Prop) (l : List Int) (v : Value) (w : World) (hL : ListAt 1 intEl F l v w) (hm : l.length ≤ 17592186044416) :
    Calls Try.prog 107 #[v] w fun e w' => ∃ r, e = .returned r ∧ w'.ownsRow w.heap.size 3 1 r l.length (rowL intL l) ∧ Below w.heap.size w w' := by
  go_enter Try.func107, Try.ntmps107
  go_wp2_with (at_builtin; refine wpList_app kindInt rfl _ _ rfl w.heap.size (.slice none 0 0) [] rfl (World.ownsRow_nil _ _ _ _) F _ l rfl hL (by simp; omega) (by unfold maxLen; simp; omega) (Nat.le_refl _) ?_; intro v' w1 hown hgrow hat)
  rw [List.nil_append] at hown
  go_ret
  exact ⟨v', rfl, hown, (Below.refl _ _).grown hgrow (Nat.le_refl _) (by intro k hk; simp [Value.ownBlock] at hk)⟩
abbrev SV := Cell × (Option Addr × Nat × Nat)
def stkL (s : SV) : List Value := [.int .i64 s.1.1, .int .i64 s.1.2, .slice s.2.1 s.2.2.1 s.2.2.2]
theorem infoStack : (Try.prog.info? 86).map (fun i => (i.zero, i.size, i.bytes)) = some (some (.agg #[.int .i64 0, .int .i64 0, .slice none 0 0]), 3, 40) := by kernel_rfl
theorem kindStack : Kind stkL 24 86 3 40 :=
  ⟨fun _ => rfl, fun x u hu => by simp [stkL] at hu; rcases hu with rfl | rfl | rfl <;> rfl, Try.underlying24, by decide, by obtain ⟨i0, hi, hz0, hz1, hz2⟩ := info_parts infoStack; exact ⟨i0, _, hi, hz0, hz1, hz2, rfl⟩⟩
def slV (s : Option Addr × Nat × Nat) : Value := .slice s.1 s.2.1 s.2.2
/- How far the copy is. -/
structure Copied (w : World) (l : List Stk) (m : Value) (wr : World) (ys : List SV) : Prop where
  below : Below w.heap.size w wr
  own : wr.ownsRow w.heap.size 86 3 m ys.length (rowL stkL ys)
  at_ : ∀ i (h : i < ys.length) (h' : i < l.length), (ys[i]'h).1 = (l[i]'h').1 ∧ ListAt 1 intEl (fun g => Since w.heap.size wr g ∧ m.ownBlock ≠ some g) (l[i]'h').2 (slV (ys[i]'h).2) wr
theorem Copied.next {w : World} {l : List Stk} {m : Value} {wr : World} {ys : List SV} (C : Copied w l m wr ys) (hk : ys.length < l.length) {w0 w1 w2 w3 : World} {sl : Option Addr × Nat × Nat} {v' : Value} (b0 : Below wr.heap.size wr w0)
    (ho : w1.ownsRow w0.heap.size 3 1 (slV sl) (l[ys.length]'hk).2.length (rowL intL (l[ys.length]'hk).2)) (b1 : Below w0.heap.size w0 w1) (b2 : Below w1.heap.size w1 w2)
    (own : w3.ownsRow w.heap.size 86 3 v' (ys ++ [((l[ys.length]'hk).1, sl)]).length (rowL stkL (ys ++ [((l[ys.length]'hk).1, sl)]))) (hg : w2.grownBy w3 m.ownBlock) (hat : v'.ownBlock = m.ownBlock ∨ v'.ownBlock = some w2.heap.size) :
    Copied w l v' w3 (ys ++ [((l[ys.length]'hk).1, sl)]) := by
  have s0 := C.below.size
  have s1 := b0.size
  have s2 := b1.size
  have s3 := b2.size
  have s4 := hg.size
  have hmo : ∀ g, m.ownBlock = some g → w.heap.size ≤ g ∧ g < wr.heap.size := fun g hg => C.own.lt g hg
  refine ⟨?_, own, fun i h h' => ?_⟩
  · exact (bcat (bcat (bcat C.below b0 (Nat.le_refl _)) b1 (Nat.le_refl _)) b2 (Nat.le_refl _)).grown hg (by omega) (fun k hk' => (hmo k hk').1)
  · by_cases hi : i < ys.length
    · rw [List.getElem_append_left hi]
      obtain ⟨e, hL⟩ := C.at_ i hi h'
      refine ⟨e, (hL.stable heldInt fun g hg' => ?_).mono heldInt fun g hg' => ⟨⟨hg'.1.1, by have := hg'.1.2; omega⟩, ?_⟩⟩
      · have := hg'.1.2
        rw [hg.block g (by omega) (fun e => hg'.2 e.symm), b2.block g (by omega), b1.block g (by omega), b0.block g (by omega)]
      · rcases hat with e | e
        · rw [e]; exact hg'.2
        · rw [e]
          intro q
          injection q with q
          have := hg'.1.2
          omega
    · have hi' : i = ys.length := by rw [List.length_append] at h; simp at h; omega
      subst hi'
      rw [List.getElem_append_right (by omega)]
      simp only [Nat.sub_self, List.getElem_cons_zero]
      refine ⟨trivial, ?_⟩
      have hL : ListAt 1 intEl (Since w0.heap.size w1) (l[ys.length]'hk).2 (slV sl) w1 := list_of_own kindInt.len ho
      refine (hL.stable heldInt fun g hg' => ?_).mono heldInt fun g hg' => ⟨⟨by have := hg'.1; omega, by have := hg'.2; omega⟩, ?_⟩
      · rw [hg.block g (by have := hg'.2; omega) (fun e => by have := (hmo g e.symm).2; have := hg'.1; omega), b2.block g (by have := hg'.2; omega)]
      · rcases hat with e | e
        · rw [e]
          intro q
          have := (hmo g q).2
          have := hg'.1
          omega
        · rw [e]
          intro q
          injection q with q
          have := hg'.2
          omega
theorem Copied.list {w : World} {l : List Stk} {m : Value} {wr : World} {ys : List SV} (C : Copied w l m wr ys) (hl : ys.length = l.length) : ListAt 3 stackEl (Since w.heap.size wr) l m wr := by
  have hO : ListAt 3 (ElL stkL) (Since w.heap.size wr) ys m wr := list_of_own kindStack.len C.own
  obtain ⟨a, cap, rfl, h0⟩ := hO.form
  refine ⟨a, cap, l.zip (ys.map fun y => (stkL y).toArray), ?_, ?_, fun y hy => ?_, fun i hi => ?_, fun h => (h0 h).2⟩
  · rw [List.map_fst_zip (by rw [List.length_map]; omega)]
  · rw [List.length_zip, List.length_map]
    congr 1
    omega
  · obtain ⟨i, hi, e⟩ := List.getElem_of_mem hy
    rw [List.length_zip, List.length_map] at hi
    rw [List.getElem_zip, List.getElem_map] at e
    subst e
    obtain ⟨e, hL⟩ := C.at_ i (by omega) (by omega)
    refine ⟨slV (ys[i]'(by omega)).2, ?_, hL.mono heldInt fun g hg => hg.1⟩
    simp only [stkL, e]
    rfl
  · rw [List.length_zip, List.length_map] at hi
    obtain ⟨p, cs, cap', hv, hF, hE, hc⟩ := hO.item (k := i) (by omega)
    cases hv
    have hE' : cs = (stkL (ys[i]'(by omega))).toArray := hE
    subst hE'
    refine ⟨p, rfl, hF, fun j u hj => ?_⟩
    rw [List.getElem_zip, List.getElem_map] at hj
    rw [← add_add]
    exact hc j u hj
theorem run_app_op {t : TypeId} {w w' : World} {o : Oper} {a : Act} (s x : Operand) (ho : o.op = .call { callee := .builtin .append, args := #[s, x], argTypes := #[t, t] }) (v v2 v' : Value) (hs : a.eval s = v) (hx : a.eval x = v2)
    (hrun : (Builtin.append_ #[t, t] o.type #[v, v2]).run Try.prog w = .ok v' w') : (execOp a.eval o).run Try.prog w = .ok (.value v') w' := by
  unfold execOp
  simp only [ho, resolve, invoke, builtin, Sem.run_bind, Sem.run_pure, Result.andThen_ok, List.map_toArray, List.map_cons, List.map_nil, hs, hx, hrun]
theorem list_stk {w : World} {g : Nat} {s : SV} (h : w.heap[g]? = some (.cells (stkL s).toArray 86 (0, 0))) : ListAt 3 (ElL stkL) (fun b => b = g) [s] (.slice (some ⟨g, 0, none⟩) 1 1) w := by
  refine ⟨some ⟨g, 0, none⟩, 1, [(s, (stkL s).toArray)], rfl, rfl, fun y hy => ?_, fun i hi => ⟨_, rfl, rfl, fun j u hj => ?_⟩, fun h => by cases h⟩
  · rw [List.mem_singleton.1 hy]; rfl
  · match i, hi with
    | 0, _ => rw [Addr.add_lit, Nat.zero_add, cell_of h, Nat.zero_mul, Nat.zero_add]; exact hj
set_option maxRecDepth 100000 in
set_option maxHeartbeats 4000000 in
theorem copyStacks_any (F : Nat → Prop) (l : List Stk) (v : Value) (w : World) (hL : ListAt 3 stackEl F l v w) (hF : ∀ b, F b → b < w.heap.size) (hm : l.length ≤ 3518437208880) (hb : ∀ s ∈ l, s.2.length ≤ 17592186044416) :
    Calls Try.prog 52 #[v] w fun e w' => ∃ r, e = .returned r ∧ ListAt 3 stackEl (Since w.heap.size w') l r w' ∧ Below w.heap.size w w' := by
  obtain ⟨a, cap, hv, h0⟩ := hL.form
  subst hv
  obtain ⟨n, hn⟩ : ∃ n, l.length = n := ⟨_, rfl⟩
  have Hn : Hid (l.length = n) := hn
  rw [hn] at hm hL h0 ⊢
  clear hn
  have hFw : ∀ wr, Below w.heap.size w wr → ListAt 3 stackEl F l (.slice a n cap) wr := fun wr b => hL.go heldStack hF b
  have C0 : Copied w l (.slice none 0 0) w [] := ⟨Below.refl _ _, World.ownsRow_nil _ _ _ _, fun i h => by simp at h⟩
  have HB : Hid (∀ s ∈ l, s.2.length ≤ 17592186044416) := hb
  clear hb hL
  go_enter Try.func52, Try.ntmps52
  go_wp2
  go_loopw [3, 4] (fun m i wr => ∃ (k : Nat) (ys : List SV), k ≤ n ∧ i = .int .i64 k ∧ Hid (ys.length = k) ∧ Hid (Copied w l m wr ys)) (fun _ i _ => n - (intOf i).toNat)
  case atStart => exact ⟨0, [], Nat.zero_le _, rfl, rfl, C0⟩
  case round =>
    obtain ⟨k, ys, hk, rfl, HY, C⟩ := hrel
    clear C0
    by_cases hlt : k < n
    · have hlt' : k < l.length := by rw [Hn.out]; exact hlt
      have HBk : Hid ((l[k]'hlt').2.length ≤ 17592186044416) := HB.out _ (List.getElem_mem hlt')
      have B := C.out.below
      have HNX : Hid (∀ {w0 w1 w2 w3 : World} {sl : Option Addr × Nat × Nat} {v' : Value}, Below wr.heap.size wr w0 → w1.ownsRow w0.heap.size 3 1 (slV sl) (l[k]'hlt').2.length (rowL intL (l[k]'hlt').2) → Below w0.heap.size w0 w1 → Below w1.heap.size w1 w2 →
          w3.ownsRow w.heap.size 86 3 v' (ys ++ [((l[k]'hlt').1, sl)]).length (rowL stkL (ys ++ [((l[k]'hlt').1, sl)])) → w2.grownBy w3 u3.ownBlock → (v'.ownBlock = u3.ownBlock ∨ v'.ownBlock = some w2.heap.size) → Copied w l v' w3 (ys ++ [((l[k]'hlt').1, sl)])) := by
        obtain rfl := HY.out
        exact C.out.next hlt'
      obtain ⟨p, cs, cap', hv, hpF, hcs, hrd⟩ := (hFw wr B).item hlt'
      generalize l[k]'hlt' = qr at *
      obtain ⟨⟨x, y⟩, bs⟩ := qr
      obtain ⟨vb, hcs', hbs⟩ := hcs
      subst hcs'
      obtain ⟨rfl, rfl⟩ : a = some p ∧ cap = cap' := by injection hv with h1 h2 h3; exact ⟨h1, h3⟩
      obtain ⟨ba, bcap, hvb, hb0⟩ := hbs.form
      subst hvb
      clear hv
      simp only at hrd hbs hb0 HNX HBk
      have HP : Hid (∀ u, Below w.heap.size w u → ∀ j z, #[Value.int .i64 x, .int .i64 y, .slice ba bs.length bcap][j]? = some z → u.cell? ((p.add (k * 3)).add j) = some z) := fun u hu j z hj => by
        obtain ⟨p2, cs2, cap2, hv2, _, ⟨vb2, hcs2, _⟩, hrd2⟩ := (hFw u hu).item hlt'
        have e1 := hrd j z hj
        exact (cell_same (by rw [block_add, block_add]; exact (hu.block _ (hF _ hpF)).trans (B.block _ (hF _ hpF)).symm)).trans e1
      have hbu : ∀ u, Below w.heap.size w u → ListAt 1 intEl F bs (.slice ba bs.length bcap) u := fun u hu => hbs.stable heldInt fun g hg => (hu.block g (hF g hg)).trans (B.block g (hF g hg)).symm
      clear hrd hbs
      go_wp2
      obtain ⟨IH, hIH⟩ : ∃ I : World → Prop, I = Below w.heap.size w := ⟨_, rfl⟩
      have kI : ∀ u, IH u → Below w.heap.size w u := fun u hu => by rw [hIH] at hu; exact hu
      have hS : IH wr.drew := by rw [hIH]; exact bcat B (Below.refl _ _).drew (Nat.le_refl _)
      have H1 : Hid (∀ u, IH u → ∀ j z, #[Value.int .i64 x, .int .i64 y][j]? = some z → u.cell? ((p.add (k * 3)).add j) = some z) := fun u hu j z hj => HP.out u (kI u hu) j z (by
        match j with
        | 0 => simpa using hj
        | 1 => simpa using hj
        | j + 2 => simp at hj)
      have z2 : ∀ u, IH u → u.cell? ⟨(p.add (k * 3)).block, (p.add (k * 3)).off + 2, none⟩ = some (.slice ba bs.length bcap) := fun u hu => HP.out u (kI u hu) 2 _ rfl
      refine start_held (S := IH) 16 rfl (by kernel_rfl) (hS) ?_
      simp only [Array.replicate_succ, Array.replicate_zero, List.push_toArray, List.nil_append, List.cons_append]
      refine take_held 0 (by assumption) rfl (by kernel_rfl) (by kernel_rfl) (by kernel_rfl) (fun _ _ _ h => h) (by kernel_rfl) (v := ?v0) ?y0 ?r0
      case y0 => (intro u hu; go_simp; try rfl)
      simp only [Act.put, List.setIfInBounds_toArray, List.set_cons_zero, List.set_cons_succ]
      refine take_held 1 (by assumption) rfl (by kernel_rfl) (by kernel_rfl) (by kernel_rfl) (fun _ _ _ h => h) (by kernel_rfl) (v := ?v1) ?y1 ?r1
      case y1 => (intro u hu; go_simp; try rfl)
      simp only [Act.put, List.setIfInBounds_toArray, List.set_cons_zero, List.set_cons_succ]
      refine take_held 2 (by assumption) rfl (by kernel_rfl) (by kernel_rfl) (by kernel_rfl) (fun _ _ _ h => h) (by kernel_rfl) (v := ?v2) ?y2 ?r2
      case y2 => (intro u hu; go_simp; try rfl)
      simp only [Act.put, List.setIfInBounds_toArray, List.set_cons_zero, List.set_cons_succ]
      refine take_held 3 (by assumption) rfl (by kernel_rfl) (by kernel_rfl) (by kernel_rfl) (fun _ _ _ h => h) (by kernel_rfl) (v := ?v3) ?y3 ?r3
      case y3 => (intro u hu; go_simp; try rfl)
      simp only [Act.put, List.setIfInBounds_toArray, List.set_cons_zero, List.set_cons_succ]
      refine take_held 4 (by assumption) rfl (by kernel_rfl) (by kernel_rfl) (by kernel_rfl) (fun _ _ _ h => h) (by kernel_rfl) (v := ?v4) ?y4 ?r4
      case y4 => (intro u hu; go_simp; try rfl)
      simp only [Act.put, List.setIfInBounds_toArray, List.set_cons_zero, List.set_cons_succ]
      refine take_held 5 (by assumption) rfl (by kernel_rfl) (by kernel_rfl) (by kernel_rfl) (fun _ _ _ h => h) (by kernel_rfl) (v := .agg #[.int .i64 x, .int .i64 y]) ?y5 ?r5
      case y5 => (intro u hu; exact run_load_op 28 _ rfl (p.add (k * 3)) _ rfl (H1.out u hu) (aggCell u) infoCell2)
      simp only [Act.put, List.setIfInBounds_toArray, List.set_cons_zero, List.set_cons_succ]
      refine take_held 6 (by assumption) rfl (by kernel_rfl) (by kernel_rfl) (by kernel_rfl) (fun _ _ _ h => h) (by kernel_rfl) (v := ?v6) ?y6 ?r6
      case y6 => (intro u hu; go_simp; try rfl)
      simp only [Act.put, List.setIfInBounds_toArray, List.set_cons_zero, List.set_cons_succ]
      refine take_held 7 (by assumption) rfl (by kernel_rfl) (by kernel_rfl) (by kernel_rfl) (fun _ _ _ h => h) (by kernel_rfl) (v := ?v7) ?y7 ?r7
      case y7 => (intro u hu; go_simp; try rfl)
      simp only [Act.put, List.setIfInBounds_toArray, List.set_cons_zero, List.set_cons_succ]
      refine take_held 8 (by assumption) rfl (by kernel_rfl) (by kernel_rfl) (by kernel_rfl) (fun _ _ _ h => h) (by kernel_rfl) (v := ?v8) ?y8 ?r8
      case y8 => (intro u hu; go_simp; try rfl)
      simp only [Act.put, List.setIfInBounds_toArray, List.set_cons_zero, List.set_cons_succ]
      refine take_held 9 (by assumption) rfl (by kernel_rfl) (by kernel_rfl) (by kernel_rfl) (fun _ _ _ h => h) (by kernel_rfl) (v := ?v9) ?y9 ?r9
      case y9 => (intro u hu; go_simp; try rfl)
      simp only [Act.put, List.setIfInBounds_toArray, List.set_cons_zero, List.set_cons_succ]
      refine take_held 10 (by assumption) rfl (by kernel_rfl) (by kernel_rfl) (by kernel_rfl) (fun _ _ _ h => h) (by kernel_rfl) (v := ?v10) ?y10 ?r10
      case y10 => (intro u hu; have zz := z2 u hu; go_simp; try rfl)
      simp only [Act.put, List.setIfInBounds_toArray, List.set_cons_zero, List.set_cons_succ]
      refine wpAnyH_ready (rs := [11]) (by kernel_rfl) (by simp) (AllReadyH.cons ((nth_eq _ 11).trans rfl) ?_ AllReadyH.nil)
      intro K' hK
      refine call_in hK (by kernel_rfl) 107 #[.slice ba bs.length bcap] (by go_simp) _ (copyInts_any F bs _ wr.drew (hbu _ (bcat B (Below.refl _ _).drew (Nat.le_refl _))) HBk.out) ?_
      rintro v w6 ⟨ho, b6⟩
      have b0 : Below wr.heap.size wr wr.drew := (Below.refl _ _).drew
      have D6 : Below wr.heap.size wr w6 := bcat b0 b6 (Nat.le_refl _)
      have B6 := bcat B D6 (Nat.le_refl _)
      have hS6 : IH w6 := by rw [hIH]; exact B6
      obtain ⟨sa, scap, hsv, _⟩ := own_form ho
      subst hsv
      refine ⟨hS6, ?_⟩
      simp only [Act.put, List.setIfInBounds_toArray, List.set_cons_zero, List.set_cons_succ]
      refine take_held 12 (by assumption) rfl (by kernel_rfl) (by kernel_rfl) (by kernel_rfl) (fun _ _ _ h => h) (by kernel_rfl) (v := ?v11) ?y11 ?r11
      case y11 => (intro u hu; go_simp; try rfl)
      simp only [Act.put, List.setIfInBounds_toArray, List.set_cons_zero, List.set_cons_succ]
      refine wpAnyH_ready (rs := [13]) (by kernel_rfl) (by simp) (AllReadyH.cons ((nth_eq _ 13).trans rfl) ?_ AllReadyH.nil)
      intro K' hK
      have b7 : Below w6.heap.size w6 (w6.alloc (.cells #[.int .i64 x, .int .i64 y, .slice sa bs.length scap] 86)) := below_new (Below.refl _ _) _
      have e7 : (w6.alloc (.cells #[.int .i64 x, .int .i64 y, .slice sa bs.length scap] 86)).heap[w6.heap.size]? = some (.cells (stkL ((x, y), (sa, bs.length, scap))).toArray 86 (0, 0)) := heap_alloc_new w6 _
      refine value_in hK (by kernel_rfl) (.slice (some ⟨w6.heap.size, 0, none⟩) 1 1) (w6.alloc (.cells #[.int .i64 x, .int .i64 y, .slice sa bs.length scap] 86)) (by go_simp; try rfl) (by rw [hIH]; exact bcat B6 b7 (Nat.le_refl _)) ?_
      generalize hw7 : w6.alloc (.cells #[.int .i64 x, .int .i64 y, .slice sa bs.length scap] 86) = w7 at *
      simp only [Act.put, List.setIfInBounds_toArray, List.set_cons_zero, List.set_cons_succ]
      refine wpAnyH_ready (rs := [14]) (by kernel_rfl) (by simp) (AllReadyH.cons ((nth_eq _ 14).trans rfl) ?_ AllReadyH.nil)
      intro K2 hK2
      have D7 : Below wr.heap.size wr w7 := bcat D6 b7 (Nat.le_refl _)
      have hyn : ys.length ≤ 3518437208879 := by rw [HY.out]; omega
      obtain ⟨v8, w8, hrun, own8, hgrow, hat⟩ := run_app kindStack (owns_go C.out.own D7) (list_stk e7) (by simp; omega) (by unfold maxLen; simp; omega) (Nat.le_trans B.size D7.size) 24
      have C8 := HNX.out b0 ho b6 b7 own8 hgrow hat
      refine value_in hK2 (by kernel_rfl) v8 w8 (run_app_op (t := 24) (.tmp 11) (.tmp 24) rfl u3 (.slice (some ⟨w6.heap.size, 0, none⟩) 1 1) v8 rfl rfl hrun) (by rw [hIH]; exact C8.below) ?_
      have HC8 : Hid (Copied w l v8 w8 (ys ++ [((x, y), (sa, bs.length, scap))])) := C8
      have HY8 : Hid ((ys ++ [((x, y), (sa, bs.length, scap))]).length = k + 1) := by show (ys ++ [((x, y), (sa, bs.length, scap))]).length = k + 1; rw [List.length_append, HY.out]; rfl
      have hS8 : IH w8 := by rw [hIH]; exact C8.below
      clear C8 own8 hgrow hat hrun e7 ho
      simp only [Act.put, List.setIfInBounds_toArray, List.set_cons_zero, List.set_cons_succ]
      refine take_held 15 (by assumption) rfl (by kernel_rfl) (by kernel_rfl) (by kernel_rfl) (fun _ _ _ h => h) (by kernel_rfl) (v := ?v12) ?y12 ?r12
      case y12 => (intro u hu; go_simp; try rfl)
      simp only [Act.put, List.setIfInBounds_toArray, List.set_cons_zero, List.set_cons_succ]
      refine done_held (by kernel_rfl) ?_ _
      go_wp2
      go_roundw
      case rel => exact ⟨k + 1, _, by omega, by go_num, HY8, HC8⟩
      case measure => simp [intOf]; omega
    · obtain rfl : k = n := by omega
      have HF : Hid (ListAt 3 stackEl (Since w.heap.size wr) l u3 wr ∧ Below w.heap.size w wr) := ⟨C.out.list (by rw [HY.out, Hn.out]), C.out.below⟩
      go_wp2
      go_ret
      exact ⟨_, rfl, HF.out.1, HF.out.2⟩
end Go.Proofs.Ytnaojlngdfolaaa.Grid
