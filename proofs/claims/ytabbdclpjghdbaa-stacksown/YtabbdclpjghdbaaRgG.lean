/-
  Copies in new memory: of numbers, of stacks.
  A config's copy in new memory.
-/
import Derived.Test.YtabbdclpjghdbaaGridRef6
namespace Go.Proofs.Ytabbdclpjghdbaa.Grid
set_option linter.unusedVariables false
set_option linter.unusedSimpArgs false
open Go Go.RowKit Go.Shelf Go.Proofs

set_option maxHeartbeats 1000000 in
theorem copyInts_any (F : Nat → Prop) (l : List Int) (v : Value) (w : World) (hL : ListAt 1 intEl F l v w) (hm : l.length ≤ 17592186044416) :
    Calls Try.prog 53 #[v] w fun e w' => ∃ r, e = .returned r ∧ w'.ownsRow w.heap.size 3 1 r l.length (rowL intL l) ∧ Below w.heap.size w w' := by
  go_enter Try.func53, Try.ntmps53
  go_wp2_with (at_builtin; refine wpList_app kindInt rfl _ _ rfl w.heap.size (.slice none 0 0) [] rfl (World.ownsRow_nil _ _ _ _) F _ l rfl hL (by simp; omega) (by unfold maxLen; simp; omega) (Nat.le_refl _) ?_; intro v' w1 hown hgrow hat)
  rw [List.nil_append] at hown
  go_ret
  exact ⟨v', rfl, hown, (Below.refl _ _).grown hgrow (Nat.le_refl _) (by intro k hk; simp [Value.ownBlock] at hk)⟩
abbrev SV := Cell × (Option Addr × Nat × Nat)
def stkL (s : SV) : List Value := [.int .i64 s.1.1, .int .i64 s.1.2, .slice s.2.1 s.2.2.1 s.2.2.2]
theorem infoStack : (Try.prog.info? 59).map (fun i => (i.zero, i.size, i.bytes)) = some (some (.agg #[.int .i64 0, .int .i64 0, .slice none 0 0]), 3, 40) := by kernel_rfl
theorem kindStack : Kind stkL 24 59 3 40 :=
  ⟨fun _ => rfl, fun x u hu => by simp [stkL] at hu; rcases hu with rfl | rfl | rfl <;> rfl, Try.underlying24, by decide, by obtain ⟨i0, hi, hz0, hz1, hz2⟩ := info_parts infoStack; exact ⟨i0, _, hi, hz0, hz1, hz2, rfl⟩⟩
def slV (s : Option Addr × Nat × Nat) : Value := .slice s.1 s.2.1 s.2.2
/- How far the copy is. -/
structure Copied (w : World) (l : List Stk) (m : Value) (wr : World) (ys : List SV) : Prop where
  below : Below w.heap.size w wr
  own : wr.ownsRow w.heap.size 59 3 m ys.length (rowL stkL ys)
  at_ : ∀ i (h : i < ys.length) (h' : i < l.length), (ys[i]'h).1 = (l[i]'h').1 ∧ ListAt 1 intEl (fun g => Since w.heap.size wr g ∧ m.ownBlock ≠ some g) (l[i]'h').2 (slV (ys[i]'h).2) wr
  ok : ∀ i (h : i < ys.length), (ys[i]'h).2.2.1 ≤ (ys[i]'h).2.2.2
/- A stack whose bins' list has no more items than it has room. -/
def stackElC (F : Nat → Prop) (x : Stk) (cs : Array Value) (u : World) : Prop := ∃ a cap, cs = #[.int .i64 x.1.1, .int .i64 x.1.2, .slice a x.2.length cap] ∧ x.2.length ≤ cap ∧ ListAt 1 intEl F x.2 (.slice a x.2.length cap) u
theorem heldStackC : Held stackElC 3 :=
  ⟨fun ⟨_, _, h, _⟩ => by rw [h]; rfl, fun ⟨_, _, h, _⟩ => by rw [h]; simp [Value.oneCell'], fun ⟨a, c, h1, h2, h3⟩ hs => ⟨a, c, h1, h2, h3.stable heldInt hs⟩, fun ⟨a, c, h1, h2, h3⟩ hs => ⟨a, c, h1, h2, h3.mono heldInt hs⟩⟩
theorem stk_plain {F : Nat → Prop} {l : List Stk} {v : Value} {w : World} (h : ListAt 3 stackElC F l v w) : ListAt 3 stackEl F l v w := by
  obtain ⟨a, cap, ys, h1, h2, h3, h4, h5⟩ := h
  exact ⟨a, cap, ys, h1, h2, fun y hy => by obtain ⟨a, c, q1, _, q3⟩ := h3 y hy; exact ⟨_, q1, q3⟩, h4, h5⟩
theorem Copied.next {w : World} {l : List Stk} {m : Value} {wr : World} {ys : List SV} (C : Copied w l m wr ys) (hk : ys.length < l.length) {w0 w1 w2 w3 : World} {sl : Option Addr × Nat × Nat} {v' : Value} (b0 : Below wr.heap.size wr w0)
    (ho : w1.ownsRow w0.heap.size 3 1 (slV sl) (l[ys.length]'hk).2.length (rowL intL (l[ys.length]'hk).2)) (b1 : Below w0.heap.size w0 w1) (b2 : Below w1.heap.size w1 w2)
    (own : w3.ownsRow w.heap.size 59 3 v' (ys ++ [((l[ys.length]'hk).1, sl)]).length (rowL stkL (ys ++ [((l[ys.length]'hk).1, sl)]))) (hg : w2.grownBy w3 m.ownBlock) (hat : v'.ownBlock = m.ownBlock ∨ v'.ownBlock = some w2.heap.size) :
    Copied w l v' w3 (ys ++ [((l[ys.length]'hk).1, sl)]) := by
  have s0 := C.below.size
  have s1 := b0.size
  have s2 := b1.size
  have s3 := b2.size
  have s4 := hg.size
  have hmo : ∀ g, m.ownBlock = some g → w.heap.size ≤ g ∧ g < wr.heap.size := fun g hg => C.own.lt g hg
  refine ⟨?_, own, fun i h h' => ?_, fun i h => ?_⟩
  rotate_left 2
  · by_cases hi : i < ys.length
    · rw [List.getElem_append_left hi]
      exact C.ok i hi
    · have hi' : i = ys.length := by rw [List.length_append] at h; simp at h; omega
      subst hi'
      rw [List.getElem_append_right (by omega)]
      simp only [Nat.sub_self, List.getElem_cons_zero]
      obtain ⟨a, cap, hv, _, hc, _⟩ := own_form ho
      unfold slV at hv
      injection hv with _ h2 h3
      omega
  · exact (bcat (bcat (bcat C.below b0 (Nat.le_refl _)) b1 (Nat.le_refl _)) b2 (Nat.le_refl _)).grown hg (by omega) (fun k hk' => (hmo k hk').1)
  · by_cases hi : i < ys.length
    · rw [List.getElem_append_left hi]
      obtain ⟨e, hL⟩ := C.at_ i hi h'
      refine ⟨e, (hL.stable heldInt fun g hg' => ?_).mono heldInt fun g hg' => ⟨⟨hg'.1.1, by have := hg'.1.2; omega⟩, ?_⟩⟩
      · have := hg'.1.2
        rw [hg.block g (by omega) (fun e => hg'.2 e.symm), b2.block g (by omega), b1.block g (by omega), b0.block g (by omega)]
      · rcases hat with e | e
        · rw [e]; exact hg'.2
        · rw [e]
          intro q
          injection q with q
          have := hg'.1.2
          omega
    · have hi' : i = ys.length := by rw [List.length_append] at h; simp at h; omega
      subst hi'
      rw [List.getElem_append_right (by omega)]
      simp only [Nat.sub_self, List.getElem_cons_zero]
      refine ⟨trivial, ?_⟩
      have hL : ListAt 1 intEl (Since w0.heap.size w1) (l[ys.length]'hk).2 (slV sl) w1 := list_of_own kindInt.len ho
      refine (hL.stable heldInt fun g hg' => ?_).mono heldInt fun g hg' => ⟨⟨by have := hg'.1; omega, by have := hg'.2; omega⟩, ?_⟩
      · rw [hg.block g (by have := hg'.2; omega) (fun e => by have := (hmo g e.symm).2; have := hg'.1; omega), b2.block g (by have := hg'.2; omega)]
      · rcases hat with e | e
        · rw [e]
          intro q
          have := (hmo g q).2
          have := hg'.1
          omega
        · rw [e]
          intro q
          injection q with q
          have := hg'.2
          omega
theorem Copied.listC {w : World} {l : List Stk} {m : Value} {wr : World} {ys : List SV} (C : Copied w l m wr ys) (hl : ys.length = l.length) : ListAt 3 stackElC (Since w.heap.size wr) l m wr := by
  have hO : ListAt 3 (ElL stkL) (Since w.heap.size wr) ys m wr := list_of_own kindStack.len C.own
  obtain ⟨a, cap, rfl, h0⟩ := hO.form
  refine ⟨a, cap, l.zip (ys.map fun y => (stkL y).toArray), ?_, ?_, fun y hy => ?_, fun i hi => ?_, fun h => (h0 h).2⟩
  · rw [List.map_fst_zip (by rw [List.length_map]; omega)]
  · rw [List.length_zip, List.length_map]
    congr 1
    omega
  · obtain ⟨i, hi, e⟩ := List.getElem_of_mem hy
    rw [List.length_zip, List.length_map] at hi
    rw [List.getElem_zip, List.getElem_map] at e
    subst e
    obtain ⟨e, hL⟩ := C.at_ i (by omega) (by omega)
    have ok := C.ok i (by omega)
    obtain ⟨a2, c2, hv, _⟩ := hL.form
    have hv2 := hv
    unfold slV at hv2
    injection hv2 with q1 q2 q3
    rw [q2, q3] at ok
    refine ⟨a2, c2, ?_, ok, by rw [← hv]; exact hL.mono heldInt fun g hg => hg.1⟩
    simp only [stkL, e, q1, q2, q3]
  · rw [List.length_zip, List.length_map] at hi
    obtain ⟨p, cs, cap', hv, hF, hE, hc⟩ := hO.item (k := i) (by omega)
    cases hv
    have hE' : cs = (stkL (ys[i]'(by omega))).toArray := hE
    subst hE'
    refine ⟨p, rfl, hF, fun j u hj => ?_⟩
    rw [List.getElem_zip, List.getElem_map] at hj
    rw [← add_add]
    exact hc j u hj
theorem run_app_op {t : TypeId} {w w' : World} {o : Oper} {a : Act} (s x : Operand) (ho : o.op = .call { callee := .builtin .append, args := #[s, x], argTypes := #[t, t] }) (v v2 v' : Value) (hs : a.eval s = v) (hx : a.eval x = v2)
    (hrun : (Builtin.append_ #[t, t] o.type #[v, v2]).run Try.prog w = .ok v' w') : (execOp a.eval o).run Try.prog w = .ok (.value v') w' := by
  unfold execOp
  simp only [ho, resolve, invoke, builtin, Sem.run_bind, Sem.run_pure, Result.andThen_ok, List.map_toArray, List.map_cons, List.map_nil, hs, hx, hrun]
theorem list_stk {w : World} {g : Nat} {s : SV} (h : w.heap[g]? = some (.cells (stkL s).toArray 59 (0, 0))) : ListAt 3 (ElL stkL) (fun b => b = g) [s] (.slice (some ⟨g, 0, none⟩) 1 1) w := by
  refine ⟨some ⟨g, 0, none⟩, 1, [(s, (stkL s).toArray)], rfl, rfl, fun y hy => ?_, fun i hi => ⟨_, rfl, rfl, fun j u hj => ?_⟩, fun h => by cases h⟩
  · rw [List.mem_singleton.1 hy]; rfl
  · match i, hi with
    | 0, _ => rw [Addr.add_lit, Nat.zero_add, cell_of h, Nat.zero_mul, Nat.zero_add]; exact hj
set_option maxRecDepth 100000 in
set_option maxHeartbeats 4000000 in
theorem copyStacksC_any (F : Nat → Prop) (l : List Stk) (v : Value) (w : World) (hL : ListAt 3 stackEl F l v w) (hF : ∀ b, F b → b < w.heap.size) (hm : l.length ≤ 3518437208880) (hb : ∀ s ∈ l, s.2.length ≤ 17592186044416) :
    Calls Try.prog 29 #[v] w fun e w' => ∃ r, e = .returned r ∧ ListAt 3 stackElC (Since w.heap.size w') l r w' ∧ Below w.heap.size w w' := by
  obtain ⟨a, cap, hv, h0⟩ := hL.form
  subst hv
  obtain ⟨n, hn⟩ : ∃ n, l.length = n := ⟨_, rfl⟩
  have Hn : Hid (l.length = n) := hn
  rw [hn] at hm hL h0 ⊢
  clear hn
  have hFw : ∀ wr, Below w.heap.size w wr → ListAt 3 stackEl F l (.slice a n cap) wr := fun wr b => hL.go heldStack hF b
  have C0 : Copied w l (.slice none 0 0) w [] := ⟨Below.refl _ _, World.ownsRow_nil _ _ _ _, fun i h => by simp at h, fun i h => by simp at h⟩
  have HB : Hid (∀ s ∈ l, s.2.length ≤ 17592186044416) := hb
  clear hb hL
  go_enter Try.func29, Try.ntmps29
  go_wp2
  go_loopw [3, 4] (fun m i wr => ∃ (k : Nat) (ys : List SV), k ≤ n ∧ i = .int .i64 k ∧ Hid (ys.length = k) ∧ Hid (Copied w l m wr ys)) (fun _ i _ => n - (intOf i).toNat)
  case atStart => exact ⟨0, [], Nat.zero_le _, rfl, rfl, C0⟩
  case round =>
    obtain ⟨k, ys, hk, rfl, HY, C⟩ := hrel
    clear C0
    by_cases hlt : k < n
    · have hlt' : k < l.length := by rw [Hn.out]; exact hlt
      have HBk : Hid ((l[k]'hlt').2.length ≤ 17592186044416) := HB.out _ (List.getElem_mem hlt')
      have B := C.out.below
      have HNX : Hid (∀ {w0 w1 w2 w3 : World} {sl : Option Addr × Nat × Nat} {v' : Value}, Below wr.heap.size wr w0 → w1.ownsRow w0.heap.size 3 1 (slV sl) (l[k]'hlt').2.length (rowL intL (l[k]'hlt').2) → Below w0.heap.size w0 w1 → Below w1.heap.size w1 w2 →
          w3.ownsRow w.heap.size 59 3 v' (ys ++ [((l[k]'hlt').1, sl)]).length (rowL stkL (ys ++ [((l[k]'hlt').1, sl)])) → w2.grownBy w3 u3.ownBlock → (v'.ownBlock = u3.ownBlock ∨ v'.ownBlock = some w2.heap.size) → Copied w l v' w3 (ys ++ [((l[k]'hlt').1, sl)])) := by
        obtain rfl := HY.out
        exact C.out.next hlt'
      obtain ⟨p, cs, cap', hv, hpF, hcs, hrd⟩ := (hFw wr B).item hlt'
      generalize l[k]'hlt' = qr at *
      obtain ⟨⟨x, y⟩, bs⟩ := qr
      obtain ⟨vb, hcs', hbs⟩ := hcs
      subst hcs'
      obtain ⟨rfl, rfl⟩ : a = some p ∧ cap = cap' := by injection hv with h1 h2 h3; exact ⟨h1, h3⟩
      obtain ⟨ba, bcap, hvb, hb0⟩ := hbs.form
      subst hvb
      clear hv
      simp only at hrd hbs hb0 HNX HBk
      have HP : Hid (∀ u, Below w.heap.size w u → ∀ j z, #[Value.int .i64 x, .int .i64 y, .slice ba bs.length bcap][j]? = some z → u.cell? ((p.add (k * 3)).add j) = some z) := fun u hu j z hj => by
        obtain ⟨p2, cs2, cap2, hv2, _, ⟨vb2, hcs2, _⟩, hrd2⟩ := (hFw u hu).item hlt'
        have e1 := hrd j z hj
        exact (cell_same (by rw [block_add, block_add]; exact (hu.block _ (hF _ hpF)).trans (B.block _ (hF _ hpF)).symm)).trans e1
      have hbu : ∀ u, Below w.heap.size w u → ListAt 1 intEl F bs (.slice ba bs.length bcap) u := fun u hu => hbs.stable heldInt fun g hg => (hu.block g (hF g hg)).trans (B.block g (hF g hg)).symm
      clear hrd hbs
      go_wp2
      obtain ⟨IH, hIH⟩ : ∃ I : World → Prop, I = Below w.heap.size w := ⟨_, rfl⟩
      have kI : ∀ u, IH u → Below w.heap.size w u := fun u hu => by rw [hIH] at hu; exact hu
      have hS : IH wr.drew := by rw [hIH]; exact bcat B (Below.refl _ _).drew (Nat.le_refl _)
      have H1 : Hid (∀ u, IH u → ∀ j z, #[Value.int .i64 x, .int .i64 y][j]? = some z → u.cell? ((p.add (k * 3)).add j) = some z) := fun u hu j z hj => HP.out u (kI u hu) j z (by
        match j with
        | 0 => simpa using hj
        | 1 => simpa using hj
        | j + 2 => simp at hj)
      have z2 : ∀ u, IH u → u.cell? ⟨(p.add (k * 3)).block, (p.add (k * 3)).off + 2, none⟩ = some (.slice ba bs.length bcap) := fun u hu => HP.out u (kI u hu) 2 _ rfl
      refine start_held (S := IH) 16 rfl (by kernel_rfl) (hS) ?_
      simp only [Array.replicate_succ, Array.replicate_zero, List.push_toArray, List.nil_append, List.cons_append]
      refine take_held 0 (by assumption) rfl (by kernel_rfl) (by kernel_rfl) (by kernel_rfl) (fun _ _ _ h => h) (by kernel_rfl) (v := ?v0) ?y0 ?r0
      case y0 => (intro u hu; go_simp; try rfl)
      simp only [Act.put, List.setIfInBounds_toArray, List.set_cons_zero, List.set_cons_succ]
      refine take_held 1 (by assumption) rfl (by kernel_rfl) (by kernel_rfl) (by kernel_rfl) (fun _ _ _ h => h) (by kernel_rfl) (v := ?v1) ?y1 ?r1
      case y1 => (intro u hu; go_simp; try rfl)
      simp only [Act.put, List.setIfInBounds_toArray, List.set_cons_zero, List.set_cons_succ]
      refine take_held 2 (by assumption) rfl (by kernel_rfl) (by kernel_rfl) (by kernel_rfl) (fun _ _ _ h => h) (by kernel_rfl) (v := ?v2) ?y2 ?r2
      case y2 => (intro u hu; go_simp; try rfl)
      simp only [Act.put, List.setIfInBounds_toArray, List.set_cons_zero, List.set_cons_succ]
      refine take_held 3 (by assumption) rfl (by kernel_rfl) (by kernel_rfl) (by kernel_rfl) (fun _ _ _ h => h) (by kernel_rfl) (v := ?v3) ?y3 ?r3
      case y3 => (intro u hu; go_simp; try rfl)
      simp only [Act.put, List.setIfInBounds_toArray, List.set_cons_zero, List.set_cons_succ]
      refine take_held 4 (by assumption) rfl (by kernel_rfl) (by kernel_rfl) (by kernel_rfl) (fun _ _ _ h => h) (by kernel_rfl) (v := ?v4) ?y4 ?r4
      case y4 => (intro u hu; go_simp; try rfl)
      simp only [Act.put, List.setIfInBounds_toArray, List.set_cons_zero, List.set_cons_succ]
      refine take_held 5 (by assumption) rfl (by kernel_rfl) (by kernel_rfl) (by kernel_rfl) (fun _ _ _ h => h) (by kernel_rfl) (v := .agg #[.int .i64 x, .int .i64 y]) ?y5 ?r5
      case y5 => (intro u hu; exact run_load_op 39 _ rfl (p.add (k * 3)) _ rfl (H1.out u hu) (aggCell u) infoCell2)
      simp only [Act.put, List.setIfInBounds_toArray, List.set_cons_zero, List.set_cons_succ]
      refine take_held 6 (by assumption) rfl (by kernel_rfl) (by kernel_rfl) (by kernel_rfl) (fun _ _ _ h => h) (by kernel_rfl) (v := ?v6) ?y6 ?r6
      case y6 => (intro u hu; go_simp; try rfl)
      simp only [Act.put, List.setIfInBounds_toArray, List.set_cons_zero, List.set_cons_succ]
      refine take_held 7 (by assumption) rfl (by kernel_rfl) (by kernel_rfl) (by kernel_rfl) (fun _ _ _ h => h) (by kernel_rfl) (v := ?v7) ?y7 ?r7
      case y7 => (intro u hu; go_simp; try rfl)
      simp only [Act.put, List.setIfInBounds_toArray, List.set_cons_zero, List.set_cons_succ]
      refine take_held 8 (by assumption) rfl (by kernel_rfl) (by kernel_rfl) (by kernel_rfl) (fun _ _ _ h => h) (by kernel_rfl) (v := ?v8) ?y8 ?r8
      case y8 => (intro u hu; go_simp; try rfl)
      simp only [Act.put, List.setIfInBounds_toArray, List.set_cons_zero, List.set_cons_succ]
      refine take_held 9 (by assumption) rfl (by kernel_rfl) (by kernel_rfl) (by kernel_rfl) (fun _ _ _ h => h) (by kernel_rfl) (v := ?v9) ?y9 ?r9
      case y9 => (intro u hu; go_simp; try rfl)
      simp only [Act.put, List.setIfInBounds_toArray, List.set_cons_zero, List.set_cons_succ]
      refine take_held 10 (by assumption) rfl (by kernel_rfl) (by kernel_rfl) (by kernel_rfl) (fun _ _ _ h => h) (by kernel_rfl) (v := ?v10) ?y10 ?r10
      case y10 => (intro u hu; have zz := z2 u hu; go_simp; try rfl)
      simp only [Act.put, List.setIfInBounds_toArray, List.set_cons_zero, List.set_cons_succ]
      refine wpAnyH_ready (rs := [11]) (by kernel_rfl) (by simp) (AllReadyH.cons ((nth_eq _ 11).trans rfl) ?_ AllReadyH.nil)
      intro K' hK
      refine call_in hK (by kernel_rfl) 53 #[.slice ba bs.length bcap] (by go_simp) _ (copyInts_any F bs _ wr.drew (hbu _ (bcat B (Below.refl _ _).drew (Nat.le_refl _))) HBk.out) ?_
      rintro v w6 ⟨ho, b6⟩
      have b0 : Below wr.heap.size wr wr.drew := (Below.refl _ _).drew
      have D6 : Below wr.heap.size wr w6 := bcat b0 b6 (Nat.le_refl _)
      have B6 := bcat B D6 (Nat.le_refl _)
      have hS6 : IH w6 := by rw [hIH]; exact B6
      obtain ⟨sa, scap, hsv, _⟩ := own_form ho
      subst hsv
      refine ⟨hS6, ?_⟩
      simp only [Act.put, List.setIfInBounds_toArray, List.set_cons_zero, List.set_cons_succ]
      refine take_held 12 (by assumption) rfl (by kernel_rfl) (by kernel_rfl) (by kernel_rfl) (fun _ _ _ h => h) (by kernel_rfl) (v := ?v11) ?y11 ?r11
      case y11 => (intro u hu; go_simp; try rfl)
      simp only [Act.put, List.setIfInBounds_toArray, List.set_cons_zero, List.set_cons_succ]
      refine wpAnyH_ready (rs := [13]) (by kernel_rfl) (by simp) (AllReadyH.cons ((nth_eq _ 13).trans rfl) ?_ AllReadyH.nil)
      intro K' hK
      have b7 : Below w6.heap.size w6 (w6.alloc (.cells #[.int .i64 x, .int .i64 y, .slice sa bs.length scap] 59)) := below_new (Below.refl _ _) _
      have e7 : (w6.alloc (.cells #[.int .i64 x, .int .i64 y, .slice sa bs.length scap] 59)).heap[w6.heap.size]? = some (.cells (stkL ((x, y), (sa, bs.length, scap))).toArray 59 (0, 0)) := heap_alloc_new w6 _
      refine value_in hK (by kernel_rfl) (.slice (some ⟨w6.heap.size, 0, none⟩) 1 1) (w6.alloc (.cells #[.int .i64 x, .int .i64 y, .slice sa bs.length scap] 59)) (by go_simp; try rfl) (by rw [hIH]; exact bcat B6 b7 (Nat.le_refl _)) ?_
      generalize hw7 : w6.alloc (.cells #[.int .i64 x, .int .i64 y, .slice sa bs.length scap] 59) = w7 at *
      simp only [Act.put, List.setIfInBounds_toArray, List.set_cons_zero, List.set_cons_succ]
      refine wpAnyH_ready (rs := [14]) (by kernel_rfl) (by simp) (AllReadyH.cons ((nth_eq _ 14).trans rfl) ?_ AllReadyH.nil)
      intro K2 hK2
      have D7 : Below wr.heap.size wr w7 := bcat D6 b7 (Nat.le_refl _)
      have hyn : ys.length ≤ 3518437208879 := by rw [HY.out]; omega
      obtain ⟨v8, w8, hrun, own8, hgrow, hat⟩ := run_app kindStack (owns_go C.out.own D7) (list_stk e7) (by simp; omega) (by unfold maxLen; simp; omega) (Nat.le_trans B.size D7.size) 24
      have C8 := HNX.out b0 ho b6 b7 own8 hgrow hat
      refine value_in hK2 (by kernel_rfl) v8 w8 (run_app_op (t := 24) (.tmp 11) (.tmp 24) rfl u3 (.slice (some ⟨w6.heap.size, 0, none⟩) 1 1) v8 rfl rfl hrun) (by rw [hIH]; exact C8.below) ?_
      have HC8 : Hid (Copied w l v8 w8 (ys ++ [((x, y), (sa, bs.length, scap))])) := C8
      have HY8 : Hid ((ys ++ [((x, y), (sa, bs.length, scap))]).length = k + 1) := by show (ys ++ [((x, y), (sa, bs.length, scap))]).length = k + 1; rw [List.length_append, HY.out]; rfl
      have hS8 : IH w8 := by rw [hIH]; exact C8.below
      clear C8 own8 hgrow hat hrun e7 ho
      simp only [Act.put, List.setIfInBounds_toArray, List.set_cons_zero, List.set_cons_succ]
      refine take_held 15 (by assumption) rfl (by kernel_rfl) (by kernel_rfl) (by kernel_rfl) (fun _ _ _ h => h) (by kernel_rfl) (v := ?v12) ?y12 ?r12
      case y12 => (intro u hu; go_simp; try rfl)
      simp only [Act.put, List.setIfInBounds_toArray, List.set_cons_zero, List.set_cons_succ]
      refine done_held (by kernel_rfl) ?_ _
      go_wp2
      go_roundw
      case rel => exact ⟨k + 1, _, by omega, by go_num, HY8, HC8⟩
      case measure => simp [intOf]; omega
    · obtain rfl : k = n := by omega
      have HF : Hid (ListAt 3 stackElC (Since w.heap.size wr) l u3 wr ∧ Below w.heap.size w wr) := ⟨C.out.listC (by rw [HY.out, Hn.out]), C.out.below⟩
      go_wp2
      go_ret
      exact ⟨_, rfl, HF.out.1, HF.out.2⟩
theorem copyStacks_any (F : Nat → Prop) (l : List Stk) (v : Value) (w : World) (hL : ListAt 3 stackEl F l v w) (hF : ∀ b, F b → b < w.heap.size) (hm : l.length ≤ 3518437208880) (hb : ∀ s ∈ l, s.2.length ≤ 17592186044416) :
    Calls Try.prog 29 #[v] w fun e w' => ∃ r, e = .returned r ∧ ListAt 3 stackEl (Since w.heap.size w') l r w' ∧ Below w.heap.size w w' :=
  (copyStacksC_any F l v w hL hF hm hb).mono fun e w' ⟨r, h1, h2, h3⟩ => ⟨r, h1, stk_plain h2, h3⟩
end Go.Proofs.Ytabbdclpjghdbaa.Grid
namespace Go.Proofs.Ytabbdclpjghdbaa.Grid
set_option linter.unusedVariables false
set_option linter.unusedSimpArgs false
open Go Go.RowKit Go.Shelf Go.Proofs

/- What stays of what was made since the call's own two boxes. -/
def Ap (w W W' : World) : Prop := W.heap.size ≤ W'.heap.size ∧ ∀ k, w.heap.size + 2 ≤ k → k < W.heap.size → W'.heap[k]? = W.heap[k]?
theorem Ap.trans {w W W' W'' : World} (h : Ap w W W') (k : Ap w W' W'') : Ap w W W'' := ⟨Nat.le_trans h.1 k.1, fun i h1 h2 => (k.2 i h1 (Nat.lt_of_lt_of_le h2 h.1)).trans (h.2 i h1 h2)⟩
theorem ap_grown {w W W' : World} (g : W.grownBy W' (Value.ownBlock (.slice none 0 0))) : Ap w W W' := ⟨g.size, fun k _ h => g.block k h (by simp [Value.ownBlock])⟩
theorem ap_below {w W W' : World} (g : Below W.heap.size W W') : Ap w W W' := ⟨g.size, fun k _ h => g.block k h⟩
theorem ap_set {w : World} (W : World) (j : Nat) (v : Value) : Ap w W (W.setCell ⟨w.heap.size, j, none⟩ v) := ⟨by simp, fun k h _ => heap_setCell_other _ _ _ _ (by simp; omega)⟩
theorem ap_row {w : World} (W : World) (cs : Array Value) : Ap w W (W.setRow (w.heap.size + 1) cs) := ⟨by simp, fun k h _ => setRow_other _ _ _ _ (by omega)⟩
theorem below_none {W W' : World} (g : W.grownBy W' (Value.ownBlock (.slice none 0 0))) : Below W.heap.size W W' := (Below.refl _ _).grown g (Nat.le_refl _) (by intro k hk; simp [Value.ownBlock] at hk)
theorem Two.big {w : World} {cs ds : Array Value} {td : TypeId} {W : World} (h : Two w cs ds td W) : w.heap.size + 2 ≤ W.heap.size := lt_of_heap h.b
theorem Two.set {w : World} {cs ds : Array Value} {td : TypeId} {W : World} (h : Two w cs ds td W) (j : Nat) (v : Value) : Two w (cs.setIfInBounds j v) ds td (W.setCell ⟨w.heap.size, j, none⟩ v) :=
  ⟨below_set h.below (Nat.le_refl _) _ _, heap_setCell_same _ _ _ _ _ _ h.a, (heap_setCell_other _ _ _ _ (by simp)).trans h.b⟩
theorem owns_ap {w W W' : World} {e : TypeId} {S : Nat} {v : Value} {n : Nat} {xs : List Value} (h : W.ownsRow (w.heap.size + 2) e S v n xs) (a : Ap w W W') : W'.ownsRow (w.heap.size + 2) e S v n xs := owns_same h fun k hk => a.2 k (h.lt k hk).1 (h.lt k hk).2
theorem since_less {w : World} {W : World} : ∀ g, Since (w.heap.size + 2) W g → Since w.heap.size W g := fun g h => ⟨by have := h.1; omega, h.2⟩
set_option maxRecDepth 100000 in
set_option maxHeartbeats 4000000 in
theorem copyConf_any (F : Nat → Prop) (c : Conf) (vb vp vr vs : Value) (w : World) (hA : ConfAt F c vb vp vr vs w) (hF : ∀ b, F b → b < w.heap.size)
    (hmb : c.blocked.length ≤ 8796093022208) (hmp : c.ports.length ≤ 8796093022208) (hmr : c.robots.length ≤ 5864062014805) (hms : c.stacks.length ≤ 3518437208880) (hbs : ∀ s ∈ c.stacks, s.2.length ≤ 17592186044416) :
    Calls Try.prog 8 #[.agg #[.int .i64 c.W, .int .i64 c.H, .int .i64 c.height, vb, vp, vr, vs, .int .i64 c.unit, .int .i64 c.accel, .int .i64 c.speed, .int .i64 c.turn, .int .i64 c.hoist, .int .i64 c.queue, .int .i64 c.resend, .int .i64 c.budget, .bool c.back]] w fun e w' => ∃ r, e = .returned r ∧ (∃ v1 v2 v3 v4, r = .agg #[.int .i64 c.W, .int .i64 c.H, .int .i64 c.height, v1, v2, v3, v4, .int .i64 c.unit, .int .i64 c.accel, .int .i64 c.speed, .int .i64 c.turn, .int .i64 c.hoist, .int .i64 c.queue, .int .i64 c.resend, .int .i64 c.budget, .bool c.back] ∧ ConfAt (Since w.heap.size w') c v1 v2 v3 v4 w') ∧ Below w.heap.size w w' := by
  have Q0 : Two w #[.int .i64 c.W, .int .i64 c.H, .int .i64 c.height, vb, vp, vr, vs, .int .i64 c.unit, .int .i64 c.accel, .int .i64 c.speed, .int .i64 c.turn, .int .i64 c.hoist, .int .i64 c.queue, .int .i64 c.resend, .int .i64 c.budget, .bool c.back] #[.int .i64 0, .int .i64 0, .int .i64 0, .slice none 0 0, .slice none 0 0, .slice none 0 0, .slice none 0 0, .int .i64 0, .int .i64 0, .int .i64 0, .int .i64 0, .int .i64 0, .int .i64 0, .int .i64 0, .int .i64 0, .bool false] 26 ((w.alloc (.cells #[.int .i64 c.W, .int .i64 c.H, .int .i64 c.height, vb, vp, vr, vs, .int .i64 c.unit, .int .i64 c.accel, .int .i64 c.speed, .int .i64 c.turn, .int .i64 c.hoist, .int .i64 c.queue, .int .i64 c.resend, .int .i64 c.budget, .bool c.back] 26)).alloc (.cells #[.int .i64 0, .int .i64 0, .int .i64 0, .slice none 0 0, .slice none 0 0, .slice none 0 0, .slice none 0 0, .int .i64 0, .int .i64 0, .int .i64 0, .int .i64 0, .int .i64 0, .int .i64 0, .int .i64 0, .int .i64 0, .bool false] 26)) := two_new w #[.int .i64 c.W, .int .i64 c.H, .int .i64 c.height, vb, vp, vr, vs, .int .i64 c.unit, .int .i64 c.accel, .int .i64 c.speed, .int .i64 c.turn, .int .i64 c.hoist, .int .i64 c.queue, .int .i64 c.resend, .int .i64 c.budget, .bool c.back] #[.int .i64 0, .int .i64 0, .int .i64 0, .slice none 0 0, .slice none 0 0, .slice none 0 0, .slice none 0 0, .int .i64 0, .int .i64 0, .int .i64 0, .int .i64 0, .int .i64 0, .int .i64 0, .int .i64 0, .int .i64 0, .bool false] 26
  have m0 := cell_of Q0.a 3
  have HBS : Hid (∀ s ∈ c.stacks, s.2.length ≤ 17592186044416) := hbs
  clear hbs
  go_enter Try.func8, Try.ntmps8
  go_wp2_with (first
    | (have X' := R3; go_at_call 29; refine (copyStacks_any F c.stacks vs _ (hA.s.go heldStack hF R3.below) (fun g hg => Nat.lt_of_lt_of_le (hF g hg) R3.below.size) hms HBS.out).mono ?_; rintro e w4 ⟨v4, rfl, own4, b4⟩; have A4 := ap_below (w := w) b4; have P4 := R3.go b4; obtain ⟨a4, k4, hv4, _⟩ := own4.form; subst hv4; have f4 := frozen_of P4.a 6; have d4 := cell_of P4.a 6; have E4 := ap_set (w := w) w4 6 (.slice a4 c.stacks.length k4); have R4 : Two w #[.int .i64 c.W, .int .i64 c.H, .int .i64 c.height, .slice a1 c.blocked.length k1, .slice a2 c.ports.length k2, .slice a3 c.robots.length k3, .slice a4 c.stacks.length k4, .int .i64 c.unit, .int .i64 c.accel, .int .i64 c.speed, .int .i64 c.turn, .int .i64 c.hoist, .int .i64 c.queue, .int .i64 c.resend, .int .i64 c.budget, .bool c.back] #[.int .i64 0, .int .i64 0, .int .i64 0, .slice none 0 0, .slice none 0 0, .slice none 0 0, .slice none 0 0, .int .i64 0, .int .i64 0, .int .i64 0, .int .i64 0, .int .i64 0, .int .i64 0, .int .i64 0, .int .i64 0, .bool false] 26 (w4.setCell ⟨w.heap.size, 6, none⟩ (.slice a4 c.stacks.length k4)) := P4.set 6 _)
    | (have X' := R2; at_builtin; refine wpList_app kindPose rfl _ _ rfl (w.heap.size + 2) (.slice none 0 0) [] rfl (World.ownsRow_nil _ _ _ _) F _ c.robots rfl (hA.r.go heldPose hF R2.below) (by simp; omega) (by unfold maxLen; simp; omega) R2.big ?_; intro v3 w3 own3 g3 at3; rw [List.nil_append] at own3; have A3 := ap_grown (w := w) g3; have P3 := R2.go (below_none g3); obtain ⟨a3, k3, hv3, _⟩ := own_form own3; subst hv3; have f3 := frozen_of P3.a 5; have d3 := cell_of P3.a 5; have E3 := ap_set (w := w) w3 5 (.slice a3 c.robots.length k3); have R3 : Two w #[.int .i64 c.W, .int .i64 c.H, .int .i64 c.height, .slice a1 c.blocked.length k1, .slice a2 c.ports.length k2, .slice a3 c.robots.length k3, vs, .int .i64 c.unit, .int .i64 c.accel, .int .i64 c.speed, .int .i64 c.turn, .int .i64 c.hoist, .int .i64 c.queue, .int .i64 c.resend, .int .i64 c.budget, .bool c.back] #[.int .i64 0, .int .i64 0, .int .i64 0, .slice none 0 0, .slice none 0 0, .slice none 0 0, .slice none 0 0, .int .i64 0, .int .i64 0, .int .i64 0, .int .i64 0, .int .i64 0, .int .i64 0, .int .i64 0, .int .i64 0, .bool false] 26 (w3.setCell ⟨w.heap.size, 5, none⟩ (.slice a3 c.robots.length k3)) := P3.set 5 _; have m3 := cell_of R3.a 6)
    | (have X' := R1; at_builtin; refine wpList_app kindCell rfl _ _ rfl (w.heap.size + 2) (.slice none 0 0) [] rfl (World.ownsRow_nil _ _ _ _) F _ c.ports rfl (hA.p.go heldCell hF R1.below) (by simp; omega) (by unfold maxLen; simp; omega) R1.big ?_; intro v2 w2 own2 g2 at2; rw [List.nil_append] at own2; have A2 := ap_grown (w := w) g2; have P2 := R1.go (below_none g2); obtain ⟨a2, k2, hv2, _⟩ := own_form own2; subst hv2; have f2 := frozen_of P2.a 4; have d2 := cell_of P2.a 4; have E2 := ap_set (w := w) w2 4 (.slice a2 c.ports.length k2); have R2 : Two w #[.int .i64 c.W, .int .i64 c.H, .int .i64 c.height, .slice a1 c.blocked.length k1, .slice a2 c.ports.length k2, vr, vs, .int .i64 c.unit, .int .i64 c.accel, .int .i64 c.speed, .int .i64 c.turn, .int .i64 c.hoist, .int .i64 c.queue, .int .i64 c.resend, .int .i64 c.budget, .bool c.back] #[.int .i64 0, .int .i64 0, .int .i64 0, .slice none 0 0, .slice none 0 0, .slice none 0 0, .slice none 0 0, .int .i64 0, .int .i64 0, .int .i64 0, .int .i64 0, .int .i64 0, .int .i64 0, .int .i64 0, .int .i64 0, .bool false] 26 (w2.setCell ⟨w.heap.size, 4, none⟩ (.slice a2 c.ports.length k2)) := P2.set 4 _; have m2 := cell_of R2.a 5)
    | (have X' := Q0; at_builtin; refine wpList_app kindCell rfl _ _ rfl (w.heap.size + 2) (.slice none 0 0) [] rfl (World.ownsRow_nil _ _ _ _) F _ c.blocked rfl (hA.b.go heldCell hF Q0.below) (by simp; omega) (by unfold maxLen; simp; omega) Q0.big ?_; intro v1 w1 own1 g1 at1; rw [List.nil_append] at own1; have A1 := ap_grown (w := w) g1; have P1 := Q0.go (below_none g1); obtain ⟨a1, k1, hv1, _⟩ := own_form own1; subst hv1; have f1 := frozen_of P1.a 3; have d1 := cell_of P1.a 3; have E1 := ap_set (w := w) w1 3 (.slice a1 c.blocked.length k1); have R1 : Two w #[.int .i64 c.W, .int .i64 c.H, .int .i64 c.height, .slice a1 c.blocked.length k1, vp, vr, vs, .int .i64 c.unit, .int .i64 c.accel, .int .i64 c.speed, .int .i64 c.turn, .int .i64 c.hoist, .int .i64 c.queue, .int .i64 c.resend, .int .i64 c.budget, .bool c.back] #[.int .i64 0, .int .i64 0, .int .i64 0, .slice none 0 0, .slice none 0 0, .slice none 0 0, .slice none 0 0, .int .i64 0, .int .i64 0, .int .i64 0, .int .i64 0, .int .i64 0, .int .i64 0, .int .i64 0, .int .i64 0, .bool false] 26 (w1.setCell ⟨w.heap.size, 3, none⟩ (.slice a1 c.blocked.length k1)) := P1.set 3 _; have m1 := cell_of R1.a 4)
    | (have X' := R4; refine wpList_load_row rfl 26 (.tmp 1) rfl w.heap.size rfl 26 #[.int .i64 c.W, .int .i64 c.H, .int .i64 c.height, .slice a1 c.blocked.length k1, .slice a2 c.ports.length k2, .slice a3 c.robots.length k3, .slice a4 c.stacks.length k4, .int .i64 c.unit, .int .i64 c.accel, .int .i64 c.speed, .int .i64 c.turn, .int .i64 c.hoist, .int .i64 c.queue, .int .i64 c.resend, .int .i64 c.budget, .bool c.back] (0, 0) _ R4.a Try.underlying26 rfl info_conf ?_)
    | (have X' := R4; refine wpList_store_row rfl 26 (.tmp 2) (.tmp 19) rfl (w.heap.size + 1) #[.int .i64 c.W, .int .i64 c.H, .int .i64 c.height, .slice a1 c.blocked.length k1, .slice a2 c.ports.length k2, .slice a3 c.robots.length k3, .slice a4 c.stacks.length k4, .int .i64 c.unit, .int .i64 c.accel, .int .i64 c.speed, .int .i64 c.turn, .int .i64 c.hoist, .int .i64 c.queue, .int .i64 c.resend, .int .i64 c.budget, .bool c.back] rfl rfl 26 #[.int .i64 0, .int .i64 0, .int .i64 0, .slice none 0 0, .slice none 0 0, .slice none 0 0, .slice none 0 0, .int .i64 0, .int .i64 0, .int .i64 0, .int .i64 0, .int .i64 0, .int .i64 0, .int .i64 0, .int .i64 0, .bool false] R4.b info_conf rfl (by simp [Value.oneCell']) ?_))
  have Z1 := E4.trans (ap_row (w := w) (w4.setCell ⟨w.heap.size, 6, none⟩ (.slice a4 c.stacks.length k4)) #[.int .i64 c.W, .int .i64 c.H, .int .i64 c.height, .slice a1 c.blocked.length k1, .slice a2 c.ports.length k2, .slice a3 c.robots.length k3, .slice a4 c.stacks.length k4, .int .i64 c.unit, .int .i64 c.accel, .int .i64 c.speed, .int .i64 c.turn, .int .i64 c.hoist, .int .i64 c.queue, .int .i64 c.resend, .int .i64 c.budget, .bool c.back])
  have Z2 := A4.trans Z1
  have Z3 := A3.trans (E3.trans Z2)
  have Z4 := A2.trans (E2.trans Z3)
  have sz := R3.big
  exact bodyPost_ret (results_cell_row rfl _ _ (w.heap.size + 1) 26 _ (0, 0) _ rfl (setRow_heap _ _ _ _ _ _ R4.b) Try.underlying26 rfl info_conf) rfl ⟨_, rfl, ⟨_, _, _, _, rfl,
    (list_of_own kindCell.len (owns_ap own1 (E1.trans Z4))).mono heldCell since_less, (list_of_own kindCell.len (owns_ap own2 (E2.trans Z3))).mono heldCell since_less, (list_of_own kindPose.len (owns_ap own3 (E3.trans Z2))).mono heldPose since_less,
    (own4.stable heldStack fun g hg => Z1.2 g (by have := hg.1; omega) hg.2).mono heldStack fun g hg => ⟨by have := hg.1; omega, by have := hg.2; have := Z1.1; omega⟩⟩, below_row R4.below (by omega) _⟩
end Go.Proofs.Ytabbdclpjghdbaa.Grid
