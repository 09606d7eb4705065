/-
  Any calls: each answers what the chapter's own heap says.
-/
import Derived.Test.YtpbmkflkggeggaaHeapRefAll
import Derived.Test.YtpbmkflkggeggaaHeapRefDrop
import Derived.Test.YtpbmkflkggeggaaHeapDropPlay
namespace Go.Proofs.Ytpbmkflkggeggaa.Hp
set_option linter.unusedVariables false
set_option linter.unusedSimpArgs false
open Go Go.RowKit Go.Shelf Go.Proofs
attribute [local go_sem] Oper.semAt_some

theorem RAt.aside {B b r : Nat} {v v1 x : Value} {w w' : World} {L : List (Int × Int)} (h' : RAt B w r x L) (t : Tn b v v1 w w') (h : Apart b v r x) : RAt B w' r x L :=
  h'.same (t.block r h'.lt (fun e => h.1 e.symm) h.2.1) fun k hk => t.block k (own_since h'.row k hk).2 (fun e => h.2.2.1 (by rw [hk, e])) (fun e => h.2.2.2 k e hk)
theorem Apart.turnR {B b r : Nat} {v v1 x : Value} {w w' : World} {L : List (Int × Int)} (h : Apart b v r x) (t : Tn b v v1 w w') (h' : RAt B w r x L) : Apart b v1 r x := by
  refine ⟨h.1, fun e => ?_, h.2.2.1, fun k hk e => ?_⟩
  · rcases t.own _ e with q | q
    · exact h.2.1 q
    · have := h'.lt; omega
  · rcases t.own _ hk with q | q
    · exact h.2.2.2 k q e
    · have := (own_since h'.row k e).2; omega
theorem sortV_perm (L : List (Int × Int)) : (sortV L).Perm L := by
  refine snoc_ind (P := fun L => (sortV L).Perm L) (List.Perm.refl _) (fun L v ih => ?_) L
  rw [sortV_snoc]
  exact (insV_perm _ _).trans ((ih.cons v).trans (List.perm_append_comm (l₁ := [v])))
theorem went_sort {p : Int × Int → Bool} {s : List It} {L : List (Int × Int)} (h : s.map vOf = sortV L) : went p s = L.countP p := by
  unfold went
  rw [← (sortV_perm L).countP_eq, ← h, List.countP_map]
  rfl
theorem whichPlay (nb : Nat) (rs k n : Int) (w : World) (hb : Boxed w nb 3 (.int .i64 rs)) : Calls Try.prog 24 #[.agg #[.int .i64 k, .int .i64 n], .pointer (some ⟨nb, 0, none⟩)] w fun e w' => e = .returned (.bool (decide (n.tmod 3 = rs))) ∧ Below w.heap.size w w' := by
  have hc := hb.cell
  have hl := hb.lt
  have hd : (n.tmod 3 == rs) = decide (n.tmod 3 = rs) := rfl
  go_enter Try.func24, Try.ntmps24
  go_wp2
  go_ret
  exact ⟨rfl, (Below.refl _ _).alloc (Nat.le_refl _) _⟩
/- A struct that is read from anywhere. -/
theorem run_loadVar_at (w : World) (p : Addr) (ty : TypeId) (cs : Array Value) (hc : ∀ j v, cs[j]? = some v → w.cell? (p.add j) = some v)
    (hagg : (isAgg ty).run Try.prog w = .ok true w) (hi : (Try.prog.info? ty).map (·.size) = some cs.size) : (loadVar ty p).run Try.prog w = .ok (.agg cs) w := by
  have hl : (loadCells p cs.toList.length).run Try.prog w = .ok cs.toList.toArray w := run_loadCells_list (P := Try.prog) w p cs.toList (fun j v hv => hc j v (by simpa using hv))
  cases hq : Try.prog.info? ty with
  | none => simp [hq] at hi
  | some i =>
    have hs : i.size = cs.size := by simpa [hq] using hi
    simp only [Array.length_toList, Array.toArray_toList] at hl
    simp [loadVar, Sem.run_bind, hagg, sizeOf, typeInfo, hq, hs, hl]
theorem wpList_load_at {ops : Array Oper} {rest : List Oper} {o : Oper} {a : Act} {w : World} {Q : Exit → Act → World → Prop} (hgd : o.guard = none) (ty : TypeId) (x : Operand) (ho : o.op = .load ty x)
    (p : Addr) (hx : a.eval x = .pointer (some p)) (cs : Array Value) (hc : ∀ j v, cs[j]? = some v → w.cell? (p.add j) = some v)
    (hagg : (isAgg ty).run Try.prog w = .ok true w) (hi : (Try.prog.info? ty).map (·.size) = some cs.size)
    (h : wpList Try.prog ops Q rest (a.put o.dst (.agg cs)) w) : wpList Try.prog ops Q (o :: rest) a w :=
  wpList_plain hgd fun _ hK => by
    unfold Oper.wp execOp
    simp only [ho, hx, Instr.loadAt, Instr.sureAddr, Sem.run_bind, Sem.run_pure, Result.andThen_ok, run_loadVar_at w p ty cs hc hagg hi]
    exact hK _ _ h

theorem aggOp (w : World) : (isAgg 34).run Try.prog w = .ok true w := by unfold isAgg; rw [Sem.run_bind, run_underlying Try.underlying34 w]; rfl
theorem info_op : (Try.prog.info? 34).map (·.size) = some 3 := by kernel_rfl
/- A script that came in. -/
structure Os (w : World) (a : Option Addr) (n : Nat) (os : Nat → Int × Int × Int) : Prop where
  cell : ∀ i, i < n → ∃ x : Addr, a = some x ∧ w.cell? ((x.add (i * 3)).add 0) = some (.int .i64 (os i).1) ∧ w.cell? ((x.add (i * 3)).add 1) = some (.int .i64 (os i).2.1) ∧ w.cell? ((x.add (i * 3)).add 2) = some (.int .i64 (os i).2.2)
theorem Os.after {w w' : World} {a : Option Addr} {n : Nat} {zs : Nat → Int × Int × Int} (h : Os w a n zs) (hb : Below w.heap.size w w') : Os w' a n zs :=
  ⟨fun i hi => by
    obtain ⟨x, hx, h1, h2, h3⟩ := h.cell i hi
    exact ⟨x, hx, (hb.cell (World.block_lt_of_cell? w _ h1)).trans h1, (hb.cell (World.block_lt_of_cell? w _ h2)).trans h2, (hb.cell (World.block_lt_of_cell? w _ h3)).trans h3⟩⟩
set_option maxRecDepth 100000 in
set_option maxHeartbeats 8000000 in
theorem plays_all (a : Option Addr) (n cap : Nat) (os : Nat → Int × Int × Int) (w : World) (h : Os w a n os) : Calls Try.prog 3 #[.slice a n cap] w fun e w' => e = .returned (.bool true) ∧ Below w.heap.size w w' := by
  have hmf : ∀ (fn : Fn) (first cap : Array Value) (w : World), (Instr.makeFunc fn first cap).run Try.prog w = .ok (.func fn first cap) w := fun _ _ _ _ => rfl
  obtain ⟨B, hB⟩ : ∃ B, w.heap.size = B := ⟨_, rfl⟩
  rw [hB]
  go_enter Try.func3, Try.ntmps3
  go_wp2_with fail
  go_at_call 10
  refine (awake_any _).mono ?_
  rintro e w1 ⟨rfl, b1⟩
  rw [hB] at b1
  go_wp2_with fail
  go_at_call 11
  refine (new_any B _ (by have := b1.size; omega)).mono ?_
  rintro e w2 ⟨rfl, G2, b2⟩
  obtain ⟨b, hb⟩ : ∃ b, w1.heap.size = b := ⟨_, rfl⟩
  rw [hb] at G2 b2 ⊢
  have bB : B ≤ b := by have := b1.size; omega
  have c2 := b1.trans (b2.mono bB)
  have hK : Hid (∀ w', Below B w w' → Os w' a n os) := fun w' q => h.after (by rw [hB]; exact q)
  obtain ⟨X, hX⟩ : ∃ X, w2.alloc (.cells #[.slice none 0 0] 32) = X := ⟨_, rfl⟩
  have bX : Below w2.heap.size w2 X := by rw [← hX]; exact (Below.refl _ _).alloc (Nat.le_refl _) _
  have eX : X.heap[w2.heap.size]? = some (.cells #[.slice none 0 0] 32 (0, 0)) := by rw [← hX]; exact World.alloc_heap_new _ _
  have RX : RAt B X w2.heap.size (.slice none 0 0) [] := ⟨by simp [World.cell?, eX], fun o => by simp [World.frozen?, eX], World.ownsRow_nil _ _ _ _, (fun e => by cases e), by have := c2.size; omega⟩
  have GX := G2.go bX
  have AX : Apart b (.slice none 0 0) w2.heap.size (.slice none 0 0) := apart_new G2
  have cX := c2.trans (bX.mono (by have := c2.size; omega))
  obtain ⟨r, hr⟩ : ∃ r, w2.heap.size = r := ⟨_, rfl⟩
  rw [hr] at RX AX
  clear b1 b2 h c2 G2 bX eX
  go_wp2_with fail
  try rw [hX]
  try rw [hr]
  go_loopw [5] (fun ix wr => ∃ (i : Nat) (v x : Value) (s : List It) (c : Nat) (L : List (Int × Int)), ix = .int .i64 i ∧ i ≤ 150 ∧ HpAt B wr b v s c ∧ RAt B wr r x L ∧ s.map vOf = sortV L ∧ Apart b v r x ∧ c ≤ i ∧ L.length ≤ i ∧ Below B w wr) (fun ix wr => 150 - (intOf ix).toNat)
  case atStart => exact ⟨0, _, _, [], 0, [], rfl, Nat.zero_le _, GX, RX, rfl, AX, Nat.le_refl _, Nat.le_refl _, cX⟩
  case round =>
    clear GX RX AX cX
    obtain ⟨i, v, x, s, c, L, rfl, hi, G0, R0, E0, A0, hc, hL, cr⟩ := hrel
    have hsL : s.length = L.length := by have := congrArg List.length E0; rw [List.length_map, sortV_len] at this; exact this
    by_cases hgo : i < n ∧ i < 150
    · obtain ⟨p, rfl, o0, o1, o2⟩ := (hK.out wr cr).cell i hgo.1
      have g1 : (i : Int) < (n : Int) := by omega
      have g2 : (i : Int) < 150 := by omega
      obtain ⟨⟨kd, K, N⟩, hos⟩ : ∃ z, os i = z := ⟨_, rfl⟩
      rw [hos] at o0 o1 o2
      simp only at o0 o1 o2
      clear hos
      obtain ⟨W, hW⟩ : ∃ W, wr.alloc (.cells #[.int .i64 kd, .int .i64 K, .int .i64 N] 34) = W := ⟨_, rfl⟩
      have bW : Below wr.heap.size wr W := by rw [← hW]; exact (Below.refl _ _).alloc (Nat.le_refl _) _
      have eW : W.heap[wr.heap.size]? = some (.cells #[.int .i64 kd, .int .i64 K, .int .i64 N] 34 (0, 0)) := by rw [← hW]; exact World.alloc_heap_new _ _
      have x0 : W.cell? ⟨wr.heap.size, 0, none⟩ = some (.int .i64 kd) := by simp [World.cell?, eW]
      have x1 : W.cell? ⟨wr.heap.size, 1, none⟩ = some (.int .i64 K) := by simp [World.cell?, eW]
      have x2 : W.cell? ⟨wr.heap.size, 2, none⟩ = some (.int .i64 N) := by simp [World.cell?, eW]
      have G1 := G0.go bW
      have R1 := R0.go bW
      have c1 := cr.trans (bW.mono (by have := cr.size; omega))
      have wl := lt_some eW
      have wb : wr.heap.size ≠ b := by have := G0.lt; omega
      have wv : v.ownBlock ≠ some wr.heap.size := fun e => by have := (G0.own _ e).2.1; omega
      have pb := place_bd kd 6 (by omega)
      have cP := fun w1 => place_any kd 6 w1 (by omega) (by omega)
      obtain ⟨k6, hk6⟩ : ∃ k6, place kd 6 = k6 := ⟨_, rfl⟩
      rw [hk6] at pb cP
      generalize hwq : wr.heap.size = wq at *
      have hrd : ∀ (j : Nat) (z : Value), #[Value.int .i64 kd, .int .i64 K, .int .i64 N][j]? = some z → wr.cell? ((p.add (i * 3)).add j) = some z := fun j z hj => by
        match j with
        | 0 => cases hj; exact o0
        | 1 => cases hj; exact o1
        | 2 => cases hj; exact o2
        | j + 3 => simp at hj
      clear G0 R0 cr hk6
      go_wp2_with (refine wpList_load_at rfl 34 (.tmp 33) rfl (p.add (i * 3)) rfl #[.int .i64 kd, .int .i64 K, .int .i64 N] hrd (aggOp _) info_op ?_)
      try rw [hwq]
      try rw [hW]
      clear hrd o0 o1 o2
      go_at_call 13
      refine (cP _).mono ?_
      rintro e w3 ⟨rfl, hw3⟩
      rw [hw3]
      clear hw3 cP
      have hk : (k6 = 0 ∨ k6 = 1) ∨ k6 = 2 ∨ k6 = 3 ∨ k6 = 4 ∨ k6 = 5 := by omega
      rcases hk with hk | rfl | rfl | rfl | rfl
      · rcases hk with rfl | rfl
        all_goals
          go_wp2_with fail
          go_at_call 14
          refine (push_any B b _ _ _ _ _ _ G1 (by omega) (by omega)).mono ?_
          rintro e w4 ⟨rfl, v4, G4, t4⟩
          have R4 := R1.aside t4 A0
          have A4 := A0.turnR t4 R1
          have c4 := c1.trans (t4.past G1 (by have := c1.size; omega))
          have bx := t4.box wl wb wv
          have y1 := (bx.1 1).trans x1
          have y2 := (bx.1 2).trans x2
          have ht := G1.turns
          go_wp2_with fail
          go_at_call 15
          refine (rpush_any B r x L K N _ R4 (by omega)).mono ?_
          rintro e w5 ⟨rfl, x5, R5, t5⟩
          have G5 := G4.aside t5 A4.symm
          have A5 := (A4.symm.turn t5 G4).symm
          have c5 := c4.trans (RAt.past t5 R4 (by have := c4.size; omega))
          have E5 : (ins ⟨K, N, c⟩ s).map vOf = sortV (L ++ [(K, N)]) := by rw [map_ins ht, E0, sortV_snoc]; rfl
          clear t4 t5 bx G1 G4 R1 R4 A0 A4 x0 x1 x2
          have hlen : ((ins ⟨K, N, c⟩ s)).length = ((L ++ [(K, N)])).length := by have := congrArg List.length E5; rw [List.length_map, sortV_len] at this; exact this
          have cLn := fun u : Cls (fun w' => Below w5.heap.size w5 w') => (len_any B b _ _ _ u.w ((G5).go u.h)).mono (R' := fun e w' => e = .returned (.int .i64 (((L ++ [(K, N)])).length : Nat)) ∧ Below u.w.heap.size u.w w') (by rintro e w' ⟨rfl, rfl⟩; exact ⟨by rw [hlen], Below.refl _ _⟩)
          obtain ⟨xa9, xc9, hx9, _⟩ := own_form (R5).row
          have cel := (R5).cell
          rw [hx9] at cel
          have Q9 := fun u : Cls (fun w' => Below w5.heap.size w5 w') => (u.h.cell (p := ⟨r, 0, none⟩) (R5).lt).trans cel
          obtain ⟨m9, hm9⟩ : ∃ m, ((L ++ [(K, N)])).length = m := ⟨_, rfl⟩
          rw [hm9] at cLn
          simp only [hm9] at Q9
          have ne9 : Nonempty (Cls (fun w' => Below w5.heap.size w5 w')) := ⟨⟨w5, Below.refl _ _⟩⟩
          go_wp2_with fail
          refine wp_region_cls (fun w' => Below w5.heap.size w5 w') (by kernel_rfl) (by kernel_rfl) (Below.refl _ _).drew ?_
          repeat (go_big_quiet_step ((go_at_call 26; exact cls_call (cLn _) (fun w' hw => bcat (Cls.h _) hw))))
          refine wpQuiet_nil ?_
          rintro V9 ⟨⟨_, hV9⟩, rfl⟩
          clear cLn Q9 ne9 cel
          go_wp2
          go_roundw
          case rel => exact ⟨i + 1, _, x5, (ins ⟨K, N, c⟩ s), c + 1, (L ++ [(K, N)]), by go_num, by omega, (G5).go hV9, (R5).go hV9, E5, A5, by omega, by rw [List.length_append]; simp; omega, (c5).trans (hV9.mono (by have := (c5).size; omega))⟩
          case measure => simp [intOf]; omega
      · cases s with
        | nil =>
          have hL0 : L = [] := List.eq_nil_of_length_eq_zero (by rw [← hsL]; rfl)
          subst hL0
          go_wp2_with fail
          go_at_call 16
          refine (pop_none B b _ _ _ G1).mono ?_
          rintro e w4 ⟨rfl, b4⟩
          go_wp2_with fail
          obtain ⟨Y, hY⟩ : ∃ Y, w4.alloc (.cells #[.int .i64 0, .int .i64 0] 27) = Y := ⟨_, rfl⟩
          have bY : Below w4.heap.size w4 Y := by rw [← hY]; exact (Below.refl _ _).alloc (Nat.le_refl _) _
          have eY : Y.heap[w4.heap.size]? = some (.cells #[.int .i64 0, .int .i64 0] 27 (0, 0)) := by rw [← hY]; exact World.alloc_heap_new _ _
          have RY := (R1.go b4).go bY
          rw [hY]
          clear hY
          go_at_call 17
          refine (rpop_none B r _ _ RY).mono ?_
          rintro e w5 ⟨rfl, b5⟩
          go_upto_region 17 with fail
          have e5 := (b5.block _ (lt_some eY)).trans eY
          obtain ⟨Z, hZ⟩ : ∃ Z, w5.alloc (.cells #[.int .i64 0, .int .i64 0] 27) = Z := ⟨_, rfl⟩
          have bZ : Below w5.heap.size w5 Z := by rw [← hZ]; exact (Below.refl _ _).alloc (Nat.le_refl _) _
          have eZ : Z.heap[w5.heap.size]? = some (.cells #[.int .i64 0, .int .i64 0] 27 (0, 0)) := by rw [← hZ]; exact World.alloc_heap_new _ _
          have eZ4 := (bZ.block _ (lt_some e5)).trans e5
          have q0 : Z.cell? ⟨w4.heap.size, 0, none⟩ = some (.int .i64 0) := by simp [World.cell?, eZ4]
          have q1 : Z.cell? ⟨w4.heap.size, 1, none⟩ = some (.int .i64 0) := by simp [World.cell?, eZ4]
          have q2 : Z.cell? ⟨w5.heap.size, 0, none⟩ = some (.int .i64 0) := by simp [World.cell?, eZ]
          have q3 : Z.cell? ⟨w5.heap.size, 1, none⟩ = some (.int .i64 0) := by simp [World.cell?, eZ]
          have GZ := (((G1.go b4).go bY).go b5).go bZ
          have RZ := (RY.go b5).go bZ
          have cZ := (((c1.trans (b4.mono (by have := c1.size; omega))).trans (bY.mono (by have := c1.size; have := b4.size; omega))).trans (b5.mono (by have := c1.size; have := b4.size; have := bY.size; omega))).trans (bZ.mono (by have := c1.size; have := b4.size; have := bY.size; have := b5.size; omega))
          rw [hZ]
          clear hZ
          clear G1 R1 RY x0 x1 x2 eY e5 eZ eZ4 b4 bY b5 bZ
          have hlen : (([] : List It)).length = (([] : List (Int × Int))).length := by have := congrArg List.length E0; rw [List.length_map, sortV_len] at this; exact this
          have cLn := fun u : Cls (fun w' => Below Z.heap.size Z w') => (len_any B b _ _ _ u.w ((GZ).go u.h)).mono (R' := fun e w' => e = .returned (.int .i64 ((([] : List (Int × Int))).length : Nat)) ∧ Below u.w.heap.size u.w w') (by rintro e w' ⟨rfl, rfl⟩; exact ⟨by rw [hlen], Below.refl _ _⟩)
          obtain ⟨xa9, xc9, hx9, _⟩ := own_form (RZ).row
          have cel := (RZ).cell
          rw [hx9] at cel
          have Q9 := fun u : Cls (fun w' => Below Z.heap.size Z w') => (u.h.cell (p := ⟨r, 0, none⟩) (RZ).lt).trans cel
          obtain ⟨m9, hm9⟩ : ∃ m, (([] : List (Int × Int))).length = m := ⟨_, rfl⟩
          rw [hm9] at cLn
          simp only [hm9] at Q9
          have ne9 : Nonempty (Cls (fun w' => Below Z.heap.size Z w')) := ⟨⟨Z, Below.refl _ _⟩⟩
          go_wp2_with fail
          refine wp_region_cls (fun w' => Below Z.heap.size Z w') (by kernel_rfl) (by kernel_rfl) (Below.refl _ _).drew ?_
          repeat (go_big_quiet_step ((go_at_call 26; exact cls_call (cLn _) (fun w' hw => bcat (Cls.h _) hw))))
          refine wpQuiet_nil ?_
          rintro V9 ⟨⟨_, hV9⟩, rfl⟩
          clear cLn Q9 ne9 cel
          go_wp2
          go_roundw
          case rel => exact ⟨i + 1, v, x, ([] : List It), c, ([] : List (Int × Int)), by go_num, by omega, (GZ).go hV9, (RZ).go hV9, E0, A0, by omega, by simp, (cZ).trans (hV9.mono (by have := (cZ).size; omega))⟩
          case measure => simp [intOf]; omega
        | cons y s =>
          have hl0 : 0 < L.length := by rw [← hsL]; simp
          obtain ⟨j, hj, hjl, hs⟩ := best_all hl0
          obtain ⟨z, hz⟩ : ∃ z, L.getD j (0, 0) = z := ⟨_, rfl⟩
          have E1 := E0
          rw [hs, hz, List.map_cons] at E1
          obtain ⟨ey, E5⟩ := List.cons.inj E1
          have hyk : y.k = z.1 := by rw [← ey]; rfl
          have hyn : y.n = z.2 := by rw [← ey]; rfl
          have lE : (L.eraseIdx j).length = L.length - 1 := List.length_eraseIdx_of_lt hjl
          have cPop := pop_some B b v y s c W G1 (by simp at hsL; omega)
          rw [hyk, hyn] at cPop
          go_wp2_with fail
          go_at_call 16
          refine (cPop).mono ?_
          rintro e w4 ⟨rfl, v4, G4, t4⟩
          have R4 := R1.aside t4 A0
          have A4 := A0.turnR t4 R1
          have c4 := c1.trans (t4.past G1 (by have := c1.size; omega))
          go_wp2_with fail
          obtain ⟨Y, hY⟩ : ∃ Y, w4.alloc (.cells #[.int .i64 z.1, .int .i64 z.2] 27) = Y := ⟨_, rfl⟩
          have bY : Below w4.heap.size w4 Y := by rw [← hY]; exact (Below.refl _ _).alloc (Nat.le_refl _) _
          have eY : Y.heap[w4.heap.size]? = some (.cells #[.int .i64 z.1, .int .i64 z.2] 27 (0, 0)) := by rw [← hY]; exact World.alloc_heap_new _ _
          have RY := R4.go bY
          have GY := G4.go bY
          have cY := c4.trans (bY.mono (by have := c4.size; omega))
          have cR := rpop_some B r x L j Y RY (by omega) hj hjl
          rw [hz] at cR
          rw [hY]
          clear hY
          go_at_call 17
          refine cR.mono ?_
          rintro e w5 ⟨rfl, x5, R5, t5⟩
          have G5 := GY.aside t5 A4.symm
          have A5 := (A4.symm.turn t5 GY).symm
          have c5 := cY.trans (RAt.past t5 RY (by have := cY.size; omega))
          have e5 := (t5.block _ (lt_some eY) (by have := R4.lt; omega) (fun e => by have := (own_since R4.row _ e).2; omega)).trans eY
          go_upto_region 17 with fail
          obtain ⟨Z, hZ⟩ : ∃ Z, w5.alloc (.cells #[.int .i64 z.1, .int .i64 z.2] 27) = Z := ⟨_, rfl⟩
          have bZ : Below w5.heap.size w5 Z := by rw [← hZ]; exact (Below.refl _ _).alloc (Nat.le_refl _) _
          have eZ : Z.heap[w5.heap.size]? = some (.cells #[.int .i64 z.1, .int .i64 z.2] 27 (0, 0)) := by rw [← hZ]; exact World.alloc_heap_new _ _
          have eZ4 := (bZ.block _ (lt_some e5)).trans e5
          have q0 : Z.cell? ⟨w4.heap.size, 0, none⟩ = some (.int .i64 z.1) := by simp [World.cell?, eZ4]
          have q1 : Z.cell? ⟨w4.heap.size, 1, none⟩ = some (.int .i64 z.2) := by simp [World.cell?, eZ4]
          have q2 : Z.cell? ⟨w5.heap.size, 0, none⟩ = some (.int .i64 z.1) := by simp [World.cell?, eZ]
          have q3 : Z.cell? ⟨w5.heap.size, 1, none⟩ = some (.int .i64 z.2) := by simp [World.cell?, eZ]
          have GZ := (G5).go bZ
          have RZ := (R5).go bZ
          have cZ := (c5).trans (bZ.mono (by have := (c5).size; omega))
          rw [hZ]
          clear hZ eY e5 eZ eZ4 bZ bY G1 G4 GY R1 R4 RY t4 t5 cPop cR
          have hlen : (s).length = ((L.eraseIdx j)).length := by have := congrArg List.length E5; rw [List.length_map, sortV_len] at this; exact this
          have cLn := fun u : Cls (fun w' => Below Z.heap.size Z w') => (len_any B b _ _ _ u.w ((GZ).go u.h)).mono (R' := fun e w' => e = .returned (.int .i64 (((L.eraseIdx j)).length : Nat)) ∧ Below u.w.heap.size u.w w') (by rintro e w' ⟨rfl, rfl⟩; exact ⟨by rw [hlen], Below.refl _ _⟩)
          obtain ⟨xa9, xc9, hx9, _⟩ := own_form (RZ).row
          have cel := (RZ).cell
          rw [hx9] at cel
          have Q9 := fun u : Cls (fun w' => Below Z.heap.size Z w') => (u.h.cell (p := ⟨r, 0, none⟩) (RZ).lt).trans cel
          obtain ⟨m9, hm9⟩ : ∃ m, ((L.eraseIdx j)).length = m := ⟨_, rfl⟩
          rw [hm9] at cLn
          simp only [hm9] at Q9
          have ne9 : Nonempty (Cls (fun w' => Below Z.heap.size Z w')) := ⟨⟨Z, Below.refl _ _⟩⟩
          go_wp2_with fail
          refine wp_region_cls (fun w' => Below Z.heap.size Z w') (by kernel_rfl) (by kernel_rfl) (Below.refl _ _).drew ?_
          repeat (go_big_quiet_step ((go_at_call 26; exact cls_call (cLn _) (fun w' hw => bcat (Cls.h _) hw))))
          refine wpQuiet_nil ?_
          rintro V9 ⟨⟨_, hV9⟩, rfl⟩
          clear cLn Q9 ne9 cel
          go_wp2
          go_roundw
          case rel => exact ⟨i + 1, v4, x5, s, c, (L.eraseIdx j), by go_num, by omega, (GZ).go hV9, (RZ).go hV9, E5, A5, by omega, by omega, (cZ).trans (hV9.mono (by have := (cZ).size; omega))⟩
          case measure => simp [intOf]; omega
      · cases s with
        | nil =>
          have hL0 : L = [] := List.eq_nil_of_length_eq_zero (by rw [← hsL]; rfl)
          subst hL0
          go_wp2_with fail
          go_at_call 18
          refine (peek_none B b _ _ _ G1).mono ?_
          rintro e w4 ⟨rfl, b4⟩
          go_wp2_with fail
          obtain ⟨Y, hY⟩ : ∃ Y, w4.alloc (.cells #[.int .i64 0, .int .i64 0] 27) = Y := ⟨_, rfl⟩
          have bY : Below w4.heap.size w4 Y := by rw [← hY]; exact (Below.refl _ _).alloc (Nat.le_refl _) _
          have eY : Y.heap[w4.heap.size]? = some (.cells #[.int .i64 0, .int .i64 0] 27 (0, 0)) := by rw [← hY]; exact World.alloc_heap_new _ _
          have RY := (R1.go b4).go bY
          rw [hY]
          clear hY
          go_at_call 19
          refine (rpeek_none B r _ _ RY).mono ?_
          rintro e w5 ⟨rfl, b5⟩
          go_upto_region 22 with fail
          have e5 := (b5.block _ (lt_some eY)).trans eY
          obtain ⟨Z, hZ⟩ : ∃ Z, w5.alloc (.cells #[.int .i64 0, .int .i64 0] 27) = Z := ⟨_, rfl⟩
          have bZ : Below w5.heap.size w5 Z := by rw [← hZ]; exact (Below.refl _ _).alloc (Nat.le_refl _) _
          have eZ : Z.heap[w5.heap.size]? = some (.cells #[.int .i64 0, .int .i64 0] 27 (0, 0)) := by rw [← hZ]; exact World.alloc_heap_new _ _
          have eZ4 := (bZ.block _ (lt_some e5)).trans e5
          have q0 : Z.cell? ⟨w4.heap.size, 0, none⟩ = some (.int .i64 0) := by simp [World.cell?, eZ4]
          have q1 : Z.cell? ⟨w4.heap.size, 1, none⟩ = some (.int .i64 0) := by simp [World.cell?, eZ4]
          have q2 : Z.cell? ⟨w5.heap.size, 0, none⟩ = some (.int .i64 0) := by simp [World.cell?, eZ]
          have q3 : Z.cell? ⟨w5.heap.size, 1, none⟩ = some (.int .i64 0) := by simp [World.cell?, eZ]
          have GZ := (((G1.go b4).go bY).go b5).go bZ
          have RZ := (RY.go b5).go bZ
          have cZ := (((c1.trans (b4.mono (by have := c1.size; omega))).trans (bY.mono (by have := c1.size; have := b4.size; omega))).trans (b5.mono (by have := c1.size; have := b4.size; have := bY.size; omega))).trans (bZ.mono (by have := c1.size; have := b4.size; have := bY.size; have := b5.size; omega))
          rw [hZ]
          clear hZ
          clear G1 R1 RY x0 x1 x2 eY e5 eZ eZ4 b4 bY b5 bZ
          have hlen : (([] : List It)).length = (([] : List (Int × Int))).length := by have := congrArg List.length E0; rw [List.length_map, sortV_len] at this; exact this
          have cLn := fun u : Cls (fun w' => Below Z.heap.size Z w') => (len_any B b _ _ _ u.w ((GZ).go u.h)).mono (R' := fun e w' => e = .returned (.int .i64 ((([] : List (Int × Int))).length : Nat)) ∧ Below u.w.heap.size u.w w') (by rintro e w' ⟨rfl, rfl⟩; exact ⟨by rw [hlen], Below.refl _ _⟩)
          obtain ⟨xa9, xc9, hx9, _⟩ := own_form (RZ).row
          have cel := (RZ).cell
          rw [hx9] at cel
          have Q9 := fun u : Cls (fun w' => Below Z.heap.size Z w') => (u.h.cell (p := ⟨r, 0, none⟩) (RZ).lt).trans cel
          obtain ⟨m9, hm9⟩ : ∃ m, (([] : List (Int × Int))).length = m := ⟨_, rfl⟩
          rw [hm9] at cLn
          simp only [hm9] at Q9
          have ne9 : Nonempty (Cls (fun w' => Below Z.heap.size Z w')) := ⟨⟨Z, Below.refl _ _⟩⟩
          go_wp2_with fail
          refine wp_region_cls (fun w' => Below Z.heap.size Z w') (by kernel_rfl) (by kernel_rfl) (Below.refl _ _).drew ?_
          repeat (go_big_quiet_step ((go_at_call 26; exact cls_call (cLn _) (fun w' hw => bcat (Cls.h _) hw))))
          refine wpQuiet_nil ?_
          rintro V9 ⟨⟨_, hV9⟩, rfl⟩
          clear cLn Q9 ne9 cel
          go_wp2
          go_roundw
          case rel => exact ⟨i + 1, v, x, ([] : List It), c, ([] : List (Int × Int)), by go_num, by omega, (GZ).go hV9, (RZ).go hV9, E0, A0, by omega, by simp, (cZ).trans (hV9.mono (by have := (cZ).size; omega))⟩
          case measure => simp [intOf]; omega
        | cons y s =>
          have hl0 : 0 < L.length := by rw [← hsL]; simp
          obtain ⟨j, hj, hjl, hs⟩ := best_all hl0
          obtain ⟨z, hz⟩ : ∃ z, L.getD j (0, 0) = z := ⟨_, rfl⟩
          have E1 := E0
          rw [hs, hz, List.map_cons] at E1
          obtain ⟨ey, E5⟩ := List.cons.inj E1
          have hyk : y.k = z.1 := by rw [← ey]; rfl
          have hyn : y.n = z.2 := by rw [← ey]; rfl
          have lE : (L.eraseIdx j).length = L.length - 1 := List.length_eraseIdx_of_lt hjl
          have cPop := peek_some B b v y s c W G1
          rw [hyk, hyn] at cPop
          go_wp2_with fail
          go_at_call 18
          refine (cPop).mono ?_
          rintro e w4 ⟨rfl, b4⟩
          go_wp2_with fail
          obtain ⟨Y, hY⟩ : ∃ Y, w4.alloc (.cells #[.int .i64 z.1, .int .i64 z.2] 27) = Y := ⟨_, rfl⟩
          have bY : Below w4.heap.size w4 Y := by rw [← hY]; exact (Below.refl _ _).alloc (Nat.le_refl _) _
          have eY : Y.heap[w4.heap.size]? = some (.cells #[.int .i64 z.1, .int .i64 z.2] 27 (0, 0)) := by rw [← hY]; exact World.alloc_heap_new _ _
          have bb := bcat b4 bY
          have RY := R1.go bb
          have cR := rpeek_some B r x L j Y RY (by omega) hj hjl
          rw [hz] at cR
          rw [hY]
          clear hY
          go_at_call 19
          refine cR.mono ?_
          rintro e w5 ⟨rfl, b5⟩
          have b15 := bcat bb b5
          have G5 := G1.go b15
          have R5 := R1.go b15
          have c5 := c1.trans (b15.mono (by have := c1.size; omega))
          have e5 := (b5.block _ (lt_some eY)).trans eY
          go_upto_region 22 with fail
          obtain ⟨Z, hZ⟩ : ∃ Z, w5.alloc (.cells #[.int .i64 z.1, .int .i64 z.2] 27) = Z := ⟨_, rfl⟩
          have bZ : Below w5.heap.size w5 Z := by rw [← hZ]; exact (Below.refl _ _).alloc (Nat.le_refl _) _
          have eZ : Z.heap[w5.heap.size]? = some (.cells #[.int .i64 z.1, .int .i64 z.2] 27 (0, 0)) := by rw [← hZ]; exact World.alloc_heap_new _ _
          have eZ4 := (bZ.block _ (lt_some e5)).trans e5
          have q0 : Z.cell? ⟨w4.heap.size, 0, none⟩ = some (.int .i64 z.1) := by simp [World.cell?, eZ4]
          have q1 : Z.cell? ⟨w4.heap.size, 1, none⟩ = some (.int .i64 z.2) := by simp [World.cell?, eZ4]
          have q2 : Z.cell? ⟨w5.heap.size, 0, none⟩ = some (.int .i64 z.1) := by simp [World.cell?, eZ]
          have q3 : Z.cell? ⟨w5.heap.size, 1, none⟩ = some (.int .i64 z.2) := by simp [World.cell?, eZ]
          have GZ := (G5).go bZ
          have RZ := (R5).go bZ
          have cZ := (c5).trans (bZ.mono (by have := (c5).size; omega))
          rw [hZ]
          clear hZ eY e5 eZ eZ4 bZ bY G1 R1 RY b4 b5 bb b15 cPop cR
          have hlen : ((y :: s)).length = (L).length := by have := congrArg List.length E0; rw [List.length_map, sortV_len] at this; exact this
          have cLn := fun u : Cls (fun w' => Below Z.heap.size Z w') => (len_any B b _ _ _ u.w ((GZ).go u.h)).mono (R' := fun e w' => e = .returned (.int .i64 ((L).length : Nat)) ∧ Below u.w.heap.size u.w w') (by rintro e w' ⟨rfl, rfl⟩; exact ⟨by rw [hlen], Below.refl _ _⟩)
          obtain ⟨xa9, xc9, hx9, _⟩ := own_form (RZ).row
          have cel := (RZ).cell
          rw [hx9] at cel
          have Q9 := fun u : Cls (fun w' => Below Z.heap.size Z w') => (u.h.cell (p := ⟨r, 0, none⟩) (RZ).lt).trans cel
          obtain ⟨m9, hm9⟩ : ∃ m, (L).length = m := ⟨_, rfl⟩
          rw [hm9] at cLn
          simp only [hm9] at Q9
          have ne9 : Nonempty (Cls (fun w' => Below Z.heap.size Z w')) := ⟨⟨Z, Below.refl _ _⟩⟩
          go_wp2_with fail
          refine wp_region_cls (fun w' => Below Z.heap.size Z w') (by kernel_rfl) (by kernel_rfl) (Below.refl _ _).drew ?_
          repeat (go_big_quiet_step ((go_at_call 26; exact cls_call (cLn _) (fun w' hw => bcat (Cls.h _) hw))))
          refine wpQuiet_nil ?_
          rintro V9 ⟨⟨_, hV9⟩, rfl⟩
          clear cLn Q9 ne9 cel
          go_wp2
          go_roundw
          case rel => exact ⟨i + 1, v, x, (y :: s), c, L, by go_num, by omega, (GZ).go hV9, (RZ).go hV9, E0, A0, by omega, by omega, (cZ).trans (hV9.mono (by have := (cZ).size; omega))⟩
          case measure => simp [intOf]; omega
      · have hxs : (s.map vOf).take (1000 : Int).toNat = sortV L := by rw [E0]; exact List.take_of_length_le (by rw [sortV_len]; omega)
        have ca := all_any B b v s c 1000 W G1 (by omega) (by omega) (by omega)
        rw [hxs] at ca
        have hsl := sortV_len L
        generalize hxv : sortV L = xs at *
        have HXV : Hid (sortV L = xs) := hxv
        clear hxv
        obtain ⟨m, hm⟩ : ∃ m, L.length = m := ⟨_, rfl⟩
        have HM : Hid (L.length = m) := hm
        rw [hm] at hsl hL hsL
        have HSL : Hid (xs.length = m) := hsl
        rw [hsl] at ca
        clear hm hsl
        go_wp2_with fail
        go_at_call 21
        refine (ca).mono ?_
        rintro e w4 ⟨y1, rfl, o4, b4⟩
        have cb := rall_any B r x L w4 (R1.go b4) (by rw [HM.out]; omega)
        rw [HXV.out, HM.out] at cb
        obtain ⟨y1a, y1c, rfl, _⟩ := own_form o4
        go_wp2_with fail
        go_at_call 22
        refine (cb).mono ?_
        rintro e w5 ⟨y2, rfl, o5, b5⟩
        have cS := same_any W.heap.size w4.heap.size _ _ xs xs w5 (by rw [HSL.out]; exact owns_go o4 b5) (by rw [HSL.out]; exact o5) (by rw [HSL.out]; omega) rfl
        obtain ⟨y2a, y2c, rfl, _⟩ := own_form o5
        go_wp2_with fail
        go_at_call 20
        refine (cS).mono ?_
        rintro e w6 ⟨rfl, b6⟩
        have b16 := bcat (bcat b4 b5) b6
        have c6 := c1.trans (b16.mono (by have := c1.size; omega))
        have G6 := G1.go b16
        have R6 := R1.go b16
        have E6 : s.map vOf = sortV L := by rw [HXV.out]; exact E0
        have hL6 : L.length ≤ i := by rw [HM.out]; exact hL
        clear G1 R1 b4 b5 b6 b16 ca cb cS o4 o5
        have hlen : (s).length = (L).length := by have := congrArg List.length E6; rw [List.length_map, sortV_len] at this; exact this
        have cLn := fun u : Cls (fun w' => Below w6.heap.size w6 w') => (len_any B b _ _ _ u.w ((G6).go u.h)).mono (R' := fun e w' => e = .returned (.int .i64 ((L).length : Nat)) ∧ Below u.w.heap.size u.w w') (by rintro e w' ⟨rfl, rfl⟩; exact ⟨by rw [hlen], Below.refl _ _⟩)
        obtain ⟨xa9, xc9, hx9, _⟩ := own_form (R6).row
        have cel := (R6).cell
        rw [hx9] at cel
        have Q9 := fun u : Cls (fun w' => Below w6.heap.size w6 w') => (u.h.cell (p := ⟨r, 0, none⟩) (R6).lt).trans cel
        obtain ⟨m9, hm9⟩ : ∃ m, (L).length = m := ⟨_, rfl⟩
        rw [hm9] at cLn
        simp only [hm9] at Q9
        have ne9 : Nonempty (Cls (fun w' => Below w6.heap.size w6 w')) := ⟨⟨w6, Below.refl _ _⟩⟩
        go_wp2_with fail
        refine wp_region_cls (fun w' => Below w6.heap.size w6 w') (by kernel_rfl) (by kernel_rfl) (Below.refl _ _).drew ?_
        repeat (go_big_quiet_step ((go_at_call 26; exact cls_call (cLn _) (fun w' hw => bcat (Cls.h _) hw))))
        refine wpQuiet_nil ?_
        rintro V9 ⟨⟨_, hV9⟩, rfl⟩
        clear cLn Q9 ne9 cel
        go_wp2
        go_roundw
        case rel => exact ⟨i + 1, v, x, s, c, L, by go_num, by omega, (G6).go hV9, (R6).go hV9, E6, A0, by omega, by omega, (c6).trans (hV9.mono (by have := (c6).size; omega))⟩
        case measure => simp [intOf]; omega
      · have pb3 := place_bd K 3 (by omega)
        have cP3 := fun w1 => place_any K 3 w1 (by omega) (by omega)
        obtain ⟨rs, hrs⟩ : ∃ rs, place K 3 = rs := ⟨_, rfl⟩
        rw [hrs] at pb3 cP3
        clear hrs
        go_wp2_with fail
        go_at_call 13
        refine (cP3 _).mono ?_
        rintro e w3 ⟨rfl, hw3⟩
        rw [hw3]
        clear hw3 cP3
        go_upto_region 29 with fail
        obtain ⟨W2, hW2⟩ : ∃ W2, W.alloc (.cells #[.int .i64 rs] 3) = W2 := ⟨_, rfl⟩
        have bW2 : Below W.heap.size W W2 := by rw [← hW2]; exact (Below.refl _ _).alloc (Nat.le_refl _) _
        have n2 : Boxed W2 W.heap.size 3 (.int .i64 rs) := by rw [← hW2]; exact Boxed.new _ _ _
        have G2 := G1.go bW2
        have R2 := R1.go bW2
        have c2 := c1.trans (bW2.mono (by have := c1.size; omega))
        have nl := n2.lt
        have nbb : W.heap.size ≠ b := by have := G1.lt; omega
        have nbv : v.ownBlock ≠ some W.heap.size := fun e => by have := (G1.own _ e).2.1; omega
        have nbr : W.heap.size ≠ r := by have := R1.lt; omega
        have nbx : x.ownBlock ≠ some W.heap.size := fun e => by have := (own_since R1.row _ e).2; omega
        try rw [hW2]
        generalize hnb : W.heap.size = nb at *
        obtain ⟨pp, hp⟩ : ∃ pp : Int × Int → Bool, pp = fun z => decide (z.2.tmod 3 = rs) := ⟨_, rfl⟩
        have HP : Hid (pp = fun z => decide (z.2.tmod 3 = rs)) := hp
        clear hp hW2 bW2
        have cD0 := callsIn_wide.1 (dropPlay_in B b v s c nb pp W2.drew (G2.go (Below.refl _ _).drew) (by omega) (fun W' q k n => by have := whichPlay nb rs k n W' ((q.block nb (by show nb < W2.heap.size; exact nl)).trans n2); rw [HP.out]; exact this))
        have hwn : went pp s = L.countP pp := went_sort E0
        rw [hwn] at cD0
        have cD := cD0.mono (R' := fun e w' => ∃ v', e = .returned v' ∧ (v' = .int .i64 (L.countP pp : Nat) ∧ ∃ v5, HpAt B w' b v5 (stay pp s) c ∧ Tn b v v5 W2.drew w')) (fun e w' hh => ⟨_, hh.1, rfl, hh.2⟩)
        have E6 : (stay pp s).map vOf = sortV (L.filter fun v => !pp v) := by rw [stay_map, E0, sortV_filter]
        have lF : (L.filter fun v => !pp v).length ≤ L.length := List.length_filter_le _ _
        go_cut [109] from 103 to 109 (fun rr wx => rr = .bool false ∧ ∃ v5 x6 w5, True ∧ HpAt B w5 b v5 (stay pp s) c ∧ Tn b v v5 W2.drew w5 ∧ RAt B wx r x6 (L.filter fun v => !pp v) ∧ Tn r x x6 w5 wx)
        case first =>
          obtain ⟨IH, hIH⟩ : ∃ I : World → Prop, I = fun u => u.cell? ⟨nb, 0, none⟩ = some (.int .i64 rs) := ⟨_, rfl⟩
          have LX : ∀ u, IH u → u.cell? ⟨nb, 0, none⟩ = some (.int .i64 rs) := fun u hu => by rw [hIH] at hu; exact hu
          have hS : IH W2.drew := by rw [hIH]; exact n2.cell
          refine calm_wp ?_
          refine start_held (S := IH) 7 rfl (by kernel_rfl) (hS) ?_
          simp only [Array.replicate_succ, Array.replicate_zero, List.push_toArray, List.nil_append, List.cons_append]
          refine take_held 0 (by assumption) rfl (by kernel_rfl) (by kernel_rfl) (by kernel_rfl) (fun _ _ _ h => h) (by kernel_rfl) (v := ?v190) ?y190 ?r190
          case y190 => (intro u hu; go_simp; try rfl)
          simp only [Act.put, List.setIfInBounds_toArray, List.set_cons_zero, List.set_cons_succ]
          refine take_held 1 (by assumption) rfl (by kernel_rfl) (by kernel_rfl) (by kernel_rfl) (fun _ _ _ h => h) (by kernel_rfl) (v := ?v191) ?y191 ?r191
          case y191 => (intro u hu; go_simp; try rfl)
          simp only [Act.put, List.setIfInBounds_toArray, List.set_cons_zero, List.set_cons_succ]
          refine take_held 3 (by assumption) rfl (by kernel_rfl) (by kernel_rfl) (by kernel_rfl) (fun _ _ _ h => h) (by kernel_rfl) (v := ?v192) ?y192 ?r192
          case y192 => (intro u hu; go_simp; try rfl)
          simp only [Act.put, List.setIfInBounds_toArray, List.set_cons_zero, List.set_cons_succ]
          refine take_held 4 (by assumption) rfl (by kernel_rfl) (by kernel_rfl) (by kernel_rfl) (fun _ _ _ h => h) (by kernel_rfl) (v := ?v193) ?y193 ?r193
          case y193 => (intro u hu; have zz0 := LX u hu; go_simp; try rfl)
          simp only [Act.put, List.setIfInBounds_toArray, List.set_cons_zero, List.set_cons_succ]
          refine wpAnyH_ready (rs := [2]) (by kernel_rfl) (by simp) (AllReadyH.cons ((nth_eq _ 2).trans rfl) ?_ AllReadyH.nil)
          intro K' hK
          refine call_in hK (by kernel_rfl) 23 #[.pointer (some ⟨b, 0, none⟩), (.func (.func 24) #[] #[.pointer (some ⟨nb, 0, none⟩)])] (by go_simp) _ (cD) ?_
          rintro v w5 ⟨rfl, v5, G5, t5⟩
          have R5 := R2.aside (Tn.trans (Tn.below (Below.refl _ _).drew) t5) A0
          have A5 := A0.turnR (Tn.trans (Tn.below (Below.refl _ _).drew) t5) R2
          have n5 : Boxed w5 nb 3 (.int .i64 rs) := (t5.block nb (by show nb < W2.heap.size; exact nl) nbb nbv).trans n2
          have c5 := c2.trans ((Tn.trans (Tn.below (Below.refl _ _).drew) t5).past G2 (by have := c2.size; omega))
          have cR := (rdrop_any B r x L 3 rs pp w5 R5 (by omega) (by omega) (fun v => by rw [HP.out])).mono (R' := fun e w' => ∃ v, e = .returned v ∧ (v = .int .i64 (L.countP pp : Nat) ∧ ∃ x', RAt B w' r x' (L.filter fun v => !pp v) ∧ Tn r x x' w5 w')) (fun e w' hh => ⟨_, hh.1, rfl, hh.2⟩)
          have S5 : IH w5 := by rw [hIH]; exact n5.cell
          refine ⟨S5, ?_⟩
          simp only [Act.put, List.setIfInBounds_toArray, List.set_cons_zero, List.set_cons_succ]
          refine wpAnyH_ready (rs := [5]) (by kernel_rfl) (by simp) (AllReadyH.cons ((nth_eq _ 5).trans rfl) ?_ AllReadyH.nil)
          intro K' hK
          refine call_in hK (by kernel_rfl) 25 #[.pointer (some ⟨r, 0, none⟩), .int .i64 3, .int .i64 rs] (by go_simp) _ (cR) ?_
          rintro v w6 ⟨rfl, x6, R6, t6⟩
          have S6 : IH w6 := by rw [hIH]; exact (cell_same (t6.block nb (lt_some n5) nbr nbx)).trans n5.cell
          refine ⟨S6, ?_⟩
          simp only [Act.put, List.setIfInBounds_toArray, List.set_cons_zero, List.set_cons_succ]
          refine take_held 6 (by assumption) rfl (by kernel_rfl) (by kernel_rfl) (by kernel_rfl) (fun _ _ _ h => h) (by kernel_rfl) (v := .bool false) ?y194 ?r194
          case y194 => (intro u hu; go_simp; try simp; try omega)
          simp only [Act.put, List.setIfInBounds_toArray, List.set_cons_zero, List.set_cons_succ]
          refine done_held (by kernel_rfl) ?_ _
          simp only [calm]
          go_wp2
          go_meet
          exact ⟨rfl, v5, x6, w5, trivial, G5, t5, R6, t6⟩
        case rest =>
          obtain ⟨rfl, v5, x6, w5, _, G5, t5, R6, t6⟩ := hcut
          have t5' := Tn.trans (Tn.below (b := b) (v := v) (Below.refl W2.heap.size W2).drew) t5
          have R5 := R2.aside t5' A0
          have A5 := A0.turnR t5' R2
          have c5 := c2.trans (t5'.past G2 (by have := c2.size; omega))
          have G6 := G5.aside t6 A5.symm
          have A6 := (A5.symm.turn t6 G5).symm
          have c6 := c5.trans (RAt.past t6 R5 (by have := c5.size; omega))
          clear G1 R1 G2 R2 R5 G5 t5 t5' t6 A5 A0 cD cD0 c5
          have hlen : ((stay pp s)).length = ((L.filter fun v => !pp v)).length := by have := congrArg List.length E6; rw [List.length_map, sortV_len] at this; exact this
          have cLn := fun u : Cls (fun w' => Below wc.heap.size wc w') => (len_any B b _ _ _ u.w ((G6).go u.h)).mono (R' := fun e w' => e = .returned (.int .i64 (((L.filter fun v => !pp v)).length : Nat)) ∧ Below u.w.heap.size u.w w') (by rintro e w' ⟨rfl, rfl⟩; exact ⟨by rw [hlen], Below.refl _ _⟩)
          obtain ⟨xa9, xc9, hx9, _⟩ := own_form (R6).row
          have cel := (R6).cell
          rw [hx9] at cel
          have Q9 := fun u : Cls (fun w' => Below wc.heap.size wc w') => (u.h.cell (p := ⟨r, 0, none⟩) (R6).lt).trans cel
          obtain ⟨m9, hm9⟩ : ∃ m, ((L.filter fun v => !pp v)).length = m := ⟨_, rfl⟩
          rw [hm9] at cLn
          simp only [hm9] at Q9
          have ne9 : Nonempty (Cls (fun w' => Below wc.heap.size wc w')) := ⟨⟨wc, Below.refl _ _⟩⟩
          go_wp2_with fail
          refine wp_region_cls (fun w' => Below wc.heap.size wc w') (by kernel_rfl) (by kernel_rfl) (Below.refl _ _).drew ?_
          repeat (go_big_quiet_step ((go_at_call 26; exact cls_call (cLn _) (fun w' hw => bcat (Cls.h _) hw))))
          refine wpQuiet_nil ?_
          rintro V9 ⟨⟨_, hV9⟩, rfl⟩
          clear cLn Q9 ne9 cel
          go_wp2
          go_roundw
          case rel => exact ⟨i + 1, v5, x6, (stay pp s), c, (L.filter fun v => !pp v), by go_num, by omega, (G6).go hV9, (R6).go hV9, E6, A6, by omega, by omega, (c6).trans (hV9.mono (by have := (c6).size; omega))⟩
          case measure => simp [intOf]; omega
    · by_cases hin : i < n
      · have hi1 : i = 150 := by omega
        have g1 : (i : Int) < (n : Int) := by omega
        have g2 : ¬ (i : Int) < 150 := by omega
        clear hi1
        have hxs : (s.map vOf).take (1000 : Int).toNat = sortV L := by rw [E0]; exact List.take_of_length_le (by rw [sortV_len]; omega)
        have ca := all_any B b v s c 1000 wr G0 (by omega) (by omega) (by omega)
        rw [hxs] at ca
        have hsl := sortV_len L
        generalize hxv : sortV L = xs at *
        have HXV : Hid (sortV L = xs) := hxv
        clear hxv
        obtain ⟨m, hm⟩ : ∃ m, L.length = m := ⟨_, rfl⟩
        have HM : Hid (L.length = m) := hm
        rw [hm] at hsl hL hsL
        have HSL : Hid (xs.length = m) := hsl
        rw [hsl] at ca
        clear hm hsl
        go_wp2_with fail
        go_at_call 21
        refine (ca).mono ?_
        rintro e w4 ⟨y1, rfl, o4, b4⟩
        have cb := rall_any B r x L w4 (R0.go b4) (by rw [HM.out]; omega)
        rw [HXV.out, HM.out] at cb
        obtain ⟨y1a, y1c, rfl, _⟩ := own_form o4
        go_wp2_with fail
        go_at_call 22
        refine (cb).mono ?_
        rintro e w5 ⟨y2, rfl, o5, b5⟩
        have cS := same_any wr.heap.size w4.heap.size _ _ xs xs w5 (by rw [HSL.out]; exact owns_go o4 b5) (by rw [HSL.out]; exact o5) (by rw [HSL.out]; omega) rfl
        obtain ⟨y2a, y2c, rfl, _⟩ := own_form o5
        go_wp2_with fail
        go_at_call 20
        refine (cS).mono ?_
        rintro e w6 ⟨rfl, b6⟩
        have b16 := bcat (bcat b4 b5) b6
        have c6 := cr.trans (b16.mono (by have := cr.size; omega))
        go_wp2
        go_ret
        exact ⟨rfl, c6⟩
      · have g1 : ¬ (i : Int) < (n : Int) := by omega
        have hxs : (s.map vOf).take (1000 : Int).toNat = sortV L := by rw [E0]; exact List.take_of_length_le (by rw [sortV_len]; omega)
        have ca := all_any B b v s c 1000 wr G0 (by omega) (by omega) (by omega)
        rw [hxs] at ca
        have hsl := sortV_len L
        generalize hxv : sortV L = xs at *
        have HXV : Hid (sortV L = xs) := hxv
        clear hxv
        obtain ⟨m, hm⟩ : ∃ m, L.length = m := ⟨_, rfl⟩
        have HM : Hid (L.length = m) := hm
        rw [hm] at hsl hL hsL
        have HSL : Hid (xs.length = m) := hsl
        rw [hsl] at ca
        clear hm hsl
        go_wp2_with fail
        go_at_call 21
        refine (ca).mono ?_
        rintro e w4 ⟨y1, rfl, o4, b4⟩
        have cb := rall_any B r x L w4 (R0.go b4) (by rw [HM.out]; omega)
        rw [HXV.out, HM.out] at cb
        obtain ⟨y1a, y1c, rfl, _⟩ := own_form o4
        go_wp2_with fail
        go_at_call 22
        refine (cb).mono ?_
        rintro e w5 ⟨y2, rfl, o5, b5⟩
        have cS := same_any wr.heap.size w4.heap.size _ _ xs xs w5 (by rw [HSL.out]; exact owns_go o4 b5) (by rw [HSL.out]; exact o5) (by rw [HSL.out]; omega) rfl
        obtain ⟨y2a, y2c, rfl, _⟩ := own_form o5
        go_wp2_with fail
        go_at_call 20
        refine (cS).mono ?_
        rintro e w6 ⟨rfl, b6⟩
        have b16 := bcat (bcat b4 b5) b6
        have c6 := cr.trans (b16.mono (by have := cr.size; omega))
        go_wp2
        go_ret
        exact ⟨rfl, c6⟩
end Go.Proofs.Ytpbmkflkggeggaa.Hp
