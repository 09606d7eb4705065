/-
  What told tells; whether two lists of stacks are the same.
-/
import Derived.Test.YtabbdclpjghdbaaStkOAll
namespace Go.Proofs.Ytabbdclpjghdbaa.Stk
set_option linter.unusedVariables false
set_option linter.unusedSimpArgs false
open Go Go.RowKit Go.Shelf Go.Proofs Go.Proofs.Ytabbdclpjghdbaa.Grid
attribute [local go_sem] Oper.semAt_some

theorem allS_any (K : Sk) (w : World) : Calls Try.prog 51 #[.pointer (some ⟨K.s, 0, none⟩)] w fun e w' => e = .returned (.func (.func 67) #[] #[.pointer (some ⟨w.heap.size, 0, none⟩)]) ∧ w' = w.alloc (.cells #[.pointer (some ⟨K.s, 0, none⟩)] 29) := by
  go_enter Try.func51, Try.ntmps51
  go_wp2
  go_ret
  exact ⟨rfl, rfl⟩
theorem eql_seq (u : World) (p : Value) : (binOp .eql 82 (.func (.func 67) #[] #[p]) .nilFunc).run Try.prog u = .ok (.bool false) u := by kernel_rfl
set_option maxRecDepth 100000 in
set_option maxHeartbeats 4000000 in
theorem told_any {K : Sk} {c : Conf} {us : List Int} {ps : List Pile} {ls : List Int} {w : World} (h : StAt K c us ps ls w) (most : Nat) (h1 : 1 ≤ most) (h2 : most ≤ 9223372036854775807) : Calls Try.prog 27 #[.pointer (some ⟨K.s, 0, none⟩), .int .i64 (most : Nat)] w fun e w' => ∃ v, e = .returned v ∧ (∃ ys, Told (w.heap.size + 3) ((tellT c us ps ps.length).take most) v w' ys) ∧ Below w.heap.size w w' := by
  have eF := eql_seq
  obtain ⟨e1, e2, e3⟩ := heap3 w (.cells #[.int .i64 (most : Nat)] 3) (.cells #[.pointer (some ⟨K.s, 0, none⟩)] 29) (.cells #[.slice none 0 0] 24)
  have b3 : Below w.heap.size w (((w.alloc (.cells #[.int .i64 (most : Nat)] 3)).alloc (.cells #[.pointer (some ⟨K.s, 0, none⟩)] 29)).alloc (.cells #[.slice none 0 0] 24)) := below_new (below_two _ _ _) _
  have T0 : Tw w K (most : Nat) [] (.slice none 0 0) [] (((w.alloc (.cells #[.int .i64 (most : Nat)] 3)).alloc (.cells #[.pointer (some ⟨K.s, 0, none⟩)] 29)).alloc (.cells #[.slice none 0 0] 24)) := ⟨b3, e1, e2, e3, told_nil _ _ (by simp)⟩
  have cA := all1_any h most h1 ⟨_, _, T0⟩
  have hlt : ¬ (most : Int) < 1 := by omega
  clear h T0 e1 e2 e3 b3
  go_enter Try.func27, Try.ntmps27
  go_wp2_with (first
    | (go_at_call 51; refine (allS_any K _).mono ?_; rintro e w1 ⟨rfl, rfl⟩)
    | (go_at_call 67; refine cA.mono ?_; rintro e w2 ⟨r2, rfl, rfl, m2, ys2, T2⟩; have y2 := cell_of T2.bl 0))
  go_ret
  exact ⟨m2, rfl, ⟨ys2, T2.td⟩, T2.below⟩
theorem run_neq_cell {o : Oper} {a : Act} {w : World} (x y : Operand) (ho : o.op = .binOp .neq 39 x y 39) (p q p' q' : Int) (hx : a.eval x = .agg #[.int .i64 p, .int .i64 q]) (hy : a.eval y = .agg #[.int .i64 p', .int .i64 q']) :
    (execOp a.eval o).run Try.prog w = .ok (.value (.bool (!decide ((p, q) = (p', q'))))) w := by
  unfold execOp
  simp only [ho, hx, hy, Sem.run_bind, Sem.run_pure, Result.andThen_ok, run_eqGuard_agg _ _ _ _ _ _ _ guardCell, run_neq_struct, eqCell]
theorem stk_eq {a b : Cell} {l m : List Int} : ((a, l) = (b, m)) ↔ a = b ∧ l = m := by rw [Prod.mk.injEq]
set_option maxRecDepth 100000 in
set_option maxHeartbeats 4000000 in
theorem sameStacks_any (F1 F2 : Nat → Prop) (l m : List Stk) (v1 v2 : Value) (w : World) (hL : ListAt 3 stackEl F1 l v1 w) (hM : ListAt 3 stackEl F2 m v2 w) (hF1 : ∀ b, F1 b → b < w.heap.size) (hF2 : ∀ b, F2 b → b < w.heap.size) (hm1 : l.length ≤ 9223372036854775807) (hm2 : m.length ≤ 9223372036854775807)
    (hb1 : ∀ s ∈ l, s.2.length ≤ 9223372036854775807) (hb2 : ∀ s ∈ m, s.2.length ≤ 9223372036854775807) :
    Calls Try.prog 28 #[v1, v2] w fun e w' => ∃ r, e = .returned r ∧ r = .bool (decide (l = m)) ∧ Below w.heap.size w w' := by
  obtain ⟨a, cap, hv, h0⟩ := hL.form
  obtain ⟨a', cap', hv', h0'⟩ := hM.form
  subst hv hv'
  generalize hR : decide (l = m) = R
  have HR : Hid (decide (l = m) = R) := hR
  clear hR
  have HNe : Hid (l ≠ m → R = false) := fun h => by rw [← HR.out]; exact decide_eq_false h
  by_cases hlen : l.length = m.length
  · obtain ⟨n, hn⟩ : ∃ n, l.length = n := ⟨_, rfl⟩
    have Hn : Hid (l.length = n) := hn
    have Hn2 : Hid (m.length = n) := hlen ▸ hn
    rw [hn] at hlen hL hm1
    rw [← hlen] at hM hm2
    rw [hn, ← hlen]
    clear hn hlen h0 h0'
    have hFw : Hid (∀ wr, Below w.heap.size w wr → ListAt 3 stackEl F1 l (.slice a n cap) wr) := fun wr b => hL.go heldStack hF1 b
    have hMw : Hid (∀ wr, Below w.heap.size w wr → ListAt 3 stackEl F2 m (.slice a' n cap') wr) := fun wr b => hM.go heldStack hF2 b
    have HB1 : Hid (∀ s ∈ l, s.2.length ≤ 9223372036854775807) := hb1
    have HB2 : Hid (∀ s ∈ m, s.2.length ≤ 9223372036854775807) := hb2
    clear hL hM hb1 hb2
    go_enter Try.func28, Try.ntmps28
    go_wp2
    go_loopw [5] (fun i wr => ∃ k : Nat, k ≤ n ∧ i = .int .i64 k ∧ Below w.heap.size w wr ∧ Hid (l.take k = m.take k)) (fun i _ => n - (intOf i).toNat)
    case atStart => exact ⟨0, Nat.zero_le _, rfl, Below.refl _ _, rfl⟩
    case round =>
      obtain ⟨k, hk, rfl, B, HK⟩ := hrel
      by_cases hlt : k < n
      · have hl1 : k < l.length := by rw [Hn.out]; exact hlt
        have hl2 : k < m.length := by rw [Hn2.out]; exact hlt
        have HY : Hid (l[k]'hl1 = m[k]'hl2 → l.take (k + 1) = m.take (k + 1)) := fun e => take_next2 HK.out hl1 hl2 e
        have HX : Hid (l[k]'hl1 ≠ m[k]'hl2 → R = false) := fun e => HNe.out (fun h => e (by subst h; rfl))
        have hq1 := HB1.out _ (List.getElem_mem hl1)
        have hq2 := HB2.out _ (List.getElem_mem hl2)
        obtain ⟨p, cs, cap2, hv, _, hcs, hrd⟩ := (hFw.out wr B).item hl1
        obtain ⟨p', cs', cap2', hv', _, hcs', hrd'⟩ := (hMw.out wr B).item hl2
        generalize l[k]'hl1 = q at *
        generalize m[k]'hl2 = q' at *
        obtain ⟨⟨x, y⟩, bs⟩ := q
        obtain ⟨⟨x', y'⟩, bs'⟩ := q'
        obtain ⟨vb, hcs2, hbs⟩ := hcs
        obtain ⟨vb', hcs2', hbs'⟩ := hcs'
        subst hcs2 hcs2'
        obtain ⟨rfl, rfl⟩ : a = some p ∧ cap = cap2 := by injection hv with h1 h2 h3; exact ⟨h1, h3⟩
        obtain ⟨rfl, rfl⟩ : a' = some p' ∧ cap' = cap2' := by injection hv' with h1 h2 h3; exact ⟨h1, h3⟩
        simp only at hq1 hq2 hrd hrd' hbs hbs'
        clear hv hv'
        go_wp2
        obtain ⟨IH, hIH⟩ : ∃ I : World → Prop, I = Below wr.heap.size wr := ⟨_, rfl⟩
        have kI : ∀ u, IH u → Below wr.heap.size wr u := fun u hu => by rw [hIH] at hu; exact hu
        have hS : IH wr.drew := by rw [hIH]; exact (Below.refl _ _).drew
        have D0 : Below wr.heap.size wr wr.drew := (Below.refl _ _).drew
        have H1 : Hid (∀ u, IH u → ∀ j z, #[Value.int .i64 x, .int .i64 y][j]? = some z → u.cell? ((p.add (k * 3)).add j) = some z) := fun u hu j z hj => cell_below (hrd j z (by
          match j with
          | 0 => simpa using hj
          | 1 => simpa using hj
          | j + 2 => simp at hj)) (kI u hu)
        have H2 : Hid (∀ u, IH u → ∀ j z, #[Value.int .i64 x', .int .i64 y'][j]? = some z → u.cell? ((p'.add (k * 3)).add j) = some z) := fun u hu j z hj => cell_below (hrd' j z (by
          match j with
          | 0 => simpa using hj
          | 1 => simpa using hj
          | j + 2 => simp at hj)) (kI u hu)
        have z1 : ∀ u, IH u → u.cell? ⟨(p.add (k * 3)).block, (p.add (k * 3)).off + 2, none⟩ = some vb := fun u hu => cell_below (hrd 2 _ rfl) (kI u hu)
        have z2 : ∀ u, IH u → u.cell? ⟨(p'.add (k * 3)).block, (p'.add (k * 3)).off + 2, none⟩ = some vb' := fun u hu => cell_below (hrd' 2 _ rfl) (kI u hu)
        have cI := fun u (b : Below wr.heap.size wr u) => sameInts_any F1 F2 bs bs' vb vb' u (hbs.stable heldInt fun g hg => b.block g (Nat.lt_of_lt_of_le (hF1 g hg) B.size)) (hbs'.stable heldInt fun g hg => b.block g (Nat.lt_of_lt_of_le (hF2 g hg) B.size)) (fun g hg => Nat.lt_of_lt_of_le (hF1 g hg) (Nat.le_trans B.size b.size)) (fun g hg => Nat.lt_of_lt_of_le (hF2 g hg) (Nat.le_trans B.size b.size)) hq1 hq2
        obtain ⟨ib, hib⟩ : ∃ ib, decide (bs = bs') = ib := ⟨_, rfl⟩
        have HIB : Hid (decide (bs = bs') = ib) := hib
        rw [hib] at cI
        obtain ⟨ba, bcap, hvb, _⟩ := hbs.form
        obtain ⟨ba', bcap', hvb', _⟩ := hbs'.form
        have HV1 : Hid (vb = .slice ba bs.length bcap) := hvb
        have HV2 : Hid (vb' = .slice ba' bs'.length bcap') := hvb'
        clear hrd hrd' hib hbs hbs' hvb hvb'
        by_cases hz : (x, y) = (x', y')
        · have hzd : decide ((x, y) = (x', y')) = true := decide_eq_true hz
          cases ib
          · have HT : Hid (R = false) := HX.out (fun e => by have := (stk_eq.1 e).2; exact of_decide_eq_false HIB.out this)
            refine start_held (S := IH) 25 rfl (by kernel_rfl) (hS) ?_
            simp only [Array.replicate_succ, Array.replicate_zero, List.push_toArray, List.nil_append, List.cons_append]
            refine take_held 0 (by assumption) rfl (by kernel_rfl) (by kernel_rfl) (by kernel_rfl) (fun _ _ _ h => h) (by kernel_rfl) (v := ?v0) ?y0 ?r0
            case y0 => (intro u hu; go_simp; try rfl)
            simp only [Act.put, List.setIfInBounds_toArray, List.set_cons_zero, List.set_cons_succ]
            refine take_held 1 (by assumption) rfl (by kernel_rfl) (by kernel_rfl) (by kernel_rfl) (fun _ _ _ h => h) (by kernel_rfl) (v := ?v1) ?y1 ?r1
            case y1 => (intro u hu; go_simp; try rfl)
            simp only [Act.put, List.setIfInBounds_toArray, List.set_cons_zero, List.set_cons_succ]
            refine take_held 2 (by assumption) rfl (by kernel_rfl) (by kernel_rfl) (by kernel_rfl) (fun _ _ _ h => h) (by kernel_rfl) (v := ?v2) ?y2 ?r2
            case y2 => (intro u hu; go_simp; try rfl)
            simp only [Act.put, List.setIfInBounds_toArray, List.set_cons_zero, List.set_cons_succ]
            refine take_held 3 (by assumption) rfl (by kernel_rfl) (by kernel_rfl) (by kernel_rfl) (fun _ _ _ h => h) (by kernel_rfl) (v := ?v3) ?y3 ?r3
            case y3 => (intro u hu; go_simp; try rfl)
            simp only [Act.put, List.setIfInBounds_toArray, List.set_cons_zero, List.set_cons_succ]
            refine take_held 4 (by assumption) rfl (by kernel_rfl) (by kernel_rfl) (by kernel_rfl) (fun _ _ _ h => h) (by kernel_rfl) (v := .agg #[.int .i64 x, .int .i64 y]) ?y4 ?r4
            case y4 => (intro u hu; exact run_load_op 39 _ rfl (p.add (k * 3)) _ rfl (H1.out u hu) (aggCell u) infoCell2)
            simp only [Act.put, List.setIfInBounds_toArray, List.set_cons_zero, List.set_cons_succ]
            refine take_held 5 (by assumption) rfl (by kernel_rfl) (by kernel_rfl) (by kernel_rfl) (fun _ _ _ h => h) (by kernel_rfl) (v := ?v5) ?y5 ?r5
            case y5 => (intro u hu; go_simp; try rfl)
            simp only [Act.put, List.setIfInBounds_toArray, List.set_cons_zero, List.set_cons_succ]
            refine take_held 6 (by assumption) rfl (by kernel_rfl) (by kernel_rfl) (by kernel_rfl) (fun _ _ _ h => h) (by kernel_rfl) (v := ?v6) ?y6 ?r6
            case y6 => (intro u hu; go_simp; try rfl)
            simp only [Act.put, List.setIfInBounds_toArray, List.set_cons_zero, List.set_cons_succ]
            refine take_held 7 (by assumption) rfl (by kernel_rfl) (by kernel_rfl) (by kernel_rfl) (fun _ _ _ h => h) (by kernel_rfl) (v := ?v7) ?y7 ?r7
            case y7 => (intro u hu; go_simp; try rfl)
            simp only [Act.put, List.setIfInBounds_toArray, List.set_cons_zero, List.set_cons_succ]
            refine take_held 8 (by assumption) rfl (by kernel_rfl) (by kernel_rfl) (by kernel_rfl) (fun _ _ _ h => h) (by kernel_rfl) (v := ?v8) ?y8 ?r8
            case y8 => (intro u hu; go_simp; try rfl)
            simp only [Act.put, List.setIfInBounds_toArray, List.set_cons_zero, List.set_cons_succ]
            refine take_held 9 (by assumption) rfl (by kernel_rfl) (by kernel_rfl) (by kernel_rfl) (fun _ _ _ h => h) (by kernel_rfl) (v := .agg #[.int .i64 x', .int .i64 y']) ?y9 ?r9
            case y9 => (intro u hu; exact run_load_op 39 _ rfl (p'.add (k * 3)) _ rfl (H2.out u hu) (aggCell u) infoCell2)
            simp only [Act.put, List.setIfInBounds_toArray, List.set_cons_zero, List.set_cons_succ]
            refine take_held 10 (by assumption) rfl (by kernel_rfl) (by kernel_rfl) (by kernel_rfl) (fun _ _ _ h => h) (by kernel_rfl) (v := (.bool false)) ?y10 ?r10
            case y10 => (intro u hu; refine (run_neq_cell _ _ rfl x y x' y' rfl rfl).trans ?_; rw [hzd]; rfl)
            simp only [Act.put, List.setIfInBounds_toArray, List.set_cons_zero, List.set_cons_succ]
            refine take_held 11 (by assumption) rfl (by kernel_rfl) (by kernel_rfl) (by kernel_rfl) (fun _ _ _ h => h) (by kernel_rfl) (v := ?v11) ?y11 ?r11
            case y11 => (intro u hu; go_simp; try rfl)
            simp only [Act.put, List.setIfInBounds_toArray, List.set_cons_zero, List.set_cons_succ]
            refine take_held 12 (by assumption) rfl (by kernel_rfl) (by kernel_rfl) (by kernel_rfl) (fun _ _ _ h => h) (by kernel_rfl) (v := ?v12) ?y12 ?r12
            case y12 => (intro u hu; go_simp; try rfl)
            simp only [Act.put, List.setIfInBounds_toArray, List.set_cons_zero, List.set_cons_succ]
            refine take_held 13 (by assumption) rfl (by kernel_rfl) (by kernel_rfl) (by kernel_rfl) (fun _ _ _ h => h) (by kernel_rfl) (v := ?v13) ?y13 ?r13
            case y13 => (intro u hu; go_simp; try rfl)
            simp only [Act.put, List.setIfInBounds_toArray, List.set_cons_zero, List.set_cons_succ]
            refine take_held 14 (by assumption) rfl (by kernel_rfl) (by kernel_rfl) (by kernel_rfl) (fun _ _ _ h => h) (by kernel_rfl) (v := ?v14) ?y14 ?r14
            case y14 => (intro u hu; go_simp; try rfl)
            simp only [Act.put, List.setIfInBounds_toArray, List.set_cons_zero, List.set_cons_succ]
            refine take_held 15 (by assumption) rfl (by kernel_rfl) (by kernel_rfl) (by kernel_rfl) (fun _ _ _ h => h) (by kernel_rfl) (v := ?v15) ?y15 ?r15
            case y15 => (intro u hu; go_simp; try rfl)
            simp only [Act.put, List.setIfInBounds_toArray, List.set_cons_zero, List.set_cons_succ]
            refine take_held 16 (by assumption) rfl (by kernel_rfl) (by kernel_rfl) (by kernel_rfl) (fun _ _ _ h => h) (by kernel_rfl) (v := ?v16) ?y16 ?r16
            case y16 => (intro u hu; have zz0 := z1 u hu; go_simp; try rfl)
            simp only [Act.put, List.setIfInBounds_toArray, List.set_cons_zero, List.set_cons_succ]
            refine take_held 17 (by assumption) rfl (by kernel_rfl) (by kernel_rfl) (by kernel_rfl) (fun _ _ _ h => h) (by kernel_rfl) (v := ?v17) ?y17 ?r17
            case y17 => (intro u hu; go_simp; try rfl)
            simp only [Act.put, List.setIfInBounds_toArray, List.set_cons_zero, List.set_cons_succ]
            refine take_held 18 (by assumption) rfl (by kernel_rfl) (by kernel_rfl) (by kernel_rfl) (fun _ _ _ h => h) (by kernel_rfl) (v := ?v18) ?y18 ?r18
            case y18 => (intro u hu; go_simp; try rfl)
            simp only [Act.put, List.setIfInBounds_toArray, List.set_cons_zero, List.set_cons_succ]
            refine take_held 19 (by assumption) rfl (by kernel_rfl) (by kernel_rfl) (by kernel_rfl) (fun _ _ _ h => h) (by kernel_rfl) (v := ?v19) ?y19 ?r19
            case y19 => (intro u hu; go_simp; try rfl)
            simp only [Act.put, List.setIfInBounds_toArray, List.set_cons_zero, List.set_cons_succ]
            refine take_held 20 (by assumption) rfl (by kernel_rfl) (by kernel_rfl) (by kernel_rfl) (fun _ _ _ h => h) (by kernel_rfl) (v := ?v20) ?y20 ?r20
            case y20 => (intro u hu; go_simp; try rfl)
            simp only [Act.put, List.setIfInBounds_toArray, List.set_cons_zero, List.set_cons_succ]
            refine take_held 21 (by assumption) rfl (by kernel_rfl) (by kernel_rfl) (by kernel_rfl) (fun _ _ _ h => h) (by kernel_rfl) (v := ?v21) ?y21 ?r21
            case y21 => (intro u hu; have zz0 := z2 u hu; go_simp; try rfl)
            simp only [Act.put, List.setIfInBounds_toArray, List.set_cons_zero, List.set_cons_succ]
            refine wpAnyH_ready (rs := [22]) (by kernel_rfl) (by simp) (AllReadyH.cons ((nth_eq _ 22).trans rfl) ?_ AllReadyH.nil)
            intro K' hK
            refine call_in hK (by kernel_rfl) 21 #[vb, vb'] (by go_simp) _ (cI _ D0) ?_
            rintro v w5 ⟨rfl, b5⟩
            have D5 := bcat D0 b5 (Nat.le_refl _)
            have hS5 : IH w5 := by rw [hIH]; exact D5
            refine ⟨hS5, ?_⟩
            simp only [Act.put, List.setIfInBounds_toArray, List.set_cons_zero, List.set_cons_succ]
            refine take_held 23 (by assumption) rfl (by kernel_rfl) (by kernel_rfl) (by kernel_rfl) (fun _ _ _ h => h) (by kernel_rfl) (v := ?v22) ?y22 ?r22
            case y22 => (intro u hu; go_simp; try rfl)
            simp only [Act.put, List.setIfInBounds_toArray, List.set_cons_zero, List.set_cons_succ]
            refine take_held 24 (by assumption) rfl (by kernel_rfl) (by kernel_rfl) (by kernel_rfl) (fun _ _ _ h => h) (by kernel_rfl) (v := ?v23) ?y23 ?r23
            case y23 => (intro u hu; go_simp; try rfl)
            simp only [Act.put, List.setIfInBounds_toArray, List.set_cons_zero, List.set_cons_succ]
            refine done_held (by kernel_rfl) ?_ _
            go_wp2
            go_ret
            exact ⟨_, rfl, congrArg Value.bool HT.out.symm, bcat B D5 (Nat.le_refl _)⟩
          · have HT : Hid (l.take (k + 1) = m.take (k + 1)) := HY.out (stk_eq.2 ⟨hz, of_decide_eq_true HIB.out⟩)
            refine start_held (S := IH) 25 rfl (by kernel_rfl) (hS) ?_
            simp only [Array.replicate_succ, Array.replicate_zero, List.push_toArray, List.nil_append, List.cons_append]
            refine take_held 0 (by assumption) rfl (by kernel_rfl) (by kernel_rfl) (by kernel_rfl) (fun _ _ _ h => h) (by kernel_rfl) (v := ?v24) ?y24 ?r24
            case y24 => (intro u hu; go_simp; try rfl)
            simp only [Act.put, List.setIfInBounds_toArray, List.set_cons_zero, List.set_cons_succ]
            refine take_held 1 (by assumption) rfl (by kernel_rfl) (by kernel_rfl) (by kernel_rfl) (fun _ _ _ h => h) (by kernel_rfl) (v := ?v25) ?y25 ?r25
            case y25 => (intro u hu; go_simp; try rfl)
            simp only [Act.put, List.setIfInBounds_toArray, List.set_cons_zero, List.set_cons_succ]
            refine take_held 2 (by assumption) rfl (by kernel_rfl) (by kernel_rfl) (by kernel_rfl) (fun _ _ _ h => h) (by kernel_rfl) (v := ?v26) ?y26 ?r26
            case y26 => (intro u hu; go_simp; try rfl)
            simp only [Act.put, List.setIfInBounds_toArray, List.set_cons_zero, List.set_cons_succ]
            refine take_held 3 (by assumption) rfl (by kernel_rfl) (by kernel_rfl) (by kernel_rfl) (fun _ _ _ h => h) (by kernel_rfl) (v := ?v27) ?y27 ?r27
            case y27 => (intro u hu; go_simp; try rfl)
            simp only [Act.put, List.setIfInBounds_toArray, List.set_cons_zero, List.set_cons_succ]
            refine take_held 4 (by assumption) rfl (by kernel_rfl) (by kernel_rfl) (by kernel_rfl) (fun _ _ _ h => h) (by kernel_rfl) (v := .agg #[.int .i64 x, .int .i64 y]) ?y28 ?r28
            case y28 => (intro u hu; exact run_load_op 39 _ rfl (p.add (k * 3)) _ rfl (H1.out u hu) (aggCell u) infoCell2)
            simp only [Act.put, List.setIfInBounds_toArray, List.set_cons_zero, List.set_cons_succ]
            refine take_held 5 (by assumption) rfl (by kernel_rfl) (by kernel_rfl) (by kernel_rfl) (fun _ _ _ h => h) (by kernel_rfl) (v := ?v29) ?y29 ?r29
            case y29 => (intro u hu; go_simp; try rfl)
            simp only [Act.put, List.setIfInBounds_toArray, List.set_cons_zero, List.set_cons_succ]
            refine take_held 6 (by assumption) rfl (by kernel_rfl) (by kernel_rfl) (by kernel_rfl) (fun _ _ _ h => h) (by kernel_rfl) (v := ?v30) ?y30 ?r30
            case y30 => (intro u hu; go_simp; try rfl)
            simp only [Act.put, List.setIfInBounds_toArray, List.set_cons_zero, List.set_cons_succ]
            refine take_held 7 (by assumption) rfl (by kernel_rfl) (by kernel_rfl) (by kernel_rfl) (fun _ _ _ h => h) (by kernel_rfl) (v := ?v31) ?y31 ?r31
            case y31 => (intro u hu; go_simp; try rfl)
            simp only [Act.put, List.setIfInBounds_toArray, List.set_cons_zero, List.set_cons_succ]
            refine take_held 8 (by assumption) rfl (by kernel_rfl) (by kernel_rfl) (by kernel_rfl) (fun _ _ _ h => h) (by kernel_rfl) (v := ?v32) ?y32 ?r32
            case y32 => (intro u hu; go_simp; try rfl)
            simp only [Act.put, List.setIfInBounds_toArray, List.set_cons_zero, List.set_cons_succ]
            refine take_held 9 (by assumption) rfl (by kernel_rfl) (by kernel_rfl) (by kernel_rfl) (fun _ _ _ h => h) (by kernel_rfl) (v := .agg #[.int .i64 x', .int .i64 y']) ?y33 ?r33
            case y33 => (intro u hu; exact run_load_op 39 _ rfl (p'.add (k * 3)) _ rfl (H2.out u hu) (aggCell u) infoCell2)
            simp only [Act.put, List.setIfInBounds_toArray, List.set_cons_zero, List.set_cons_succ]
            refine take_held 10 (by assumption) rfl (by kernel_rfl) (by kernel_rfl) (by kernel_rfl) (fun _ _ _ h => h) (by kernel_rfl) (v := (.bool false)) ?y34 ?r34
            case y34 => (intro u hu; refine (run_neq_cell _ _ rfl x y x' y' rfl rfl).trans ?_; rw [hzd]; rfl)
            simp only [Act.put, List.setIfInBounds_toArray, List.set_cons_zero, List.set_cons_succ]
            refine take_held 11 (by assumption) rfl (by kernel_rfl) (by kernel_rfl) (by kernel_rfl) (fun _ _ _ h => h) (by kernel_rfl) (v := ?v35) ?y35 ?r35
            case y35 => (intro u hu; go_simp; try rfl)
            simp only [Act.put, List.setIfInBounds_toArray, List.set_cons_zero, List.set_cons_succ]
            refine take_held 12 (by assumption) rfl (by kernel_rfl) (by kernel_rfl) (by kernel_rfl) (fun _ _ _ h => h) (by kernel_rfl) (v := ?v36) ?y36 ?r36
            case y36 => (intro u hu; go_simp; try rfl)
            simp only [Act.put, List.setIfInBounds_toArray, List.set_cons_zero, List.set_cons_succ]
            refine take_held 13 (by assumption) rfl (by kernel_rfl) (by kernel_rfl) (by kernel_rfl) (fun _ _ _ h => h) (by kernel_rfl) (v := ?v37) ?y37 ?r37
            case y37 => (intro u hu; go_simp; try rfl)
            simp only [Act.put, List.setIfInBounds_toArray, List.set_cons_zero, List.set_cons_succ]
            refine take_held 14 (by assumption) rfl (by kernel_rfl) (by kernel_rfl) (by kernel_rfl) (fun _ _ _ h => h) (by kernel_rfl) (v := ?v38) ?y38 ?r38
            case y38 => (intro u hu; go_simp; try rfl)
            simp only [Act.put, List.setIfInBounds_toArray, List.set_cons_zero, List.set_cons_succ]
            refine take_held 15 (by assumption) rfl (by kernel_rfl) (by kernel_rfl) (by kernel_rfl) (fun _ _ _ h => h) (by kernel_rfl) (v := ?v39) ?y39 ?r39
            case y39 => (intro u hu; go_simp; try rfl)
            simp only [Act.put, List.setIfInBounds_toArray, List.set_cons_zero, List.set_cons_succ]
            refine take_held 16 (by assumption) rfl (by kernel_rfl) (by kernel_rfl) (by kernel_rfl) (fun _ _ _ h => h) (by kernel_rfl) (v := ?v40) ?y40 ?r40
            case y40 => (intro u hu; have zz0 := z1 u hu; go_simp; try rfl)
            simp only [Act.put, List.setIfInBounds_toArray, List.set_cons_zero, List.set_cons_succ]
            refine take_held 17 (by assumption) rfl (by kernel_rfl) (by kernel_rfl) (by kernel_rfl) (fun _ _ _ h => h) (by kernel_rfl) (v := ?v41) ?y41 ?r41
            case y41 => (intro u hu; go_simp; try rfl)
            simp only [Act.put, List.setIfInBounds_toArray, List.set_cons_zero, List.set_cons_succ]
            refine take_held 18 (by assumption) rfl (by kernel_rfl) (by kernel_rfl) (by kernel_rfl) (fun _ _ _ h => h) (by kernel_rfl) (v := ?v42) ?y42 ?r42
            case y42 => (intro u hu; go_simp; try rfl)
            simp only [Act.put, List.setIfInBounds_toArray, List.set_cons_zero, List.set_cons_succ]
            refine take_held 19 (by assumption) rfl (by kernel_rfl) (by kernel_rfl) (by kernel_rfl) (fun _ _ _ h => h) (by kernel_rfl) (v := ?v43) ?y43 ?r43
            case y43 => (intro u hu; go_simp; try rfl)
            simp only [Act.put, List.setIfInBounds_toArray, List.set_cons_zero, List.set_cons_succ]
            refine take_held 20 (by assumption) rfl (by kernel_rfl) (by kernel_rfl) (by kernel_rfl) (fun _ _ _ h => h) (by kernel_rfl) (v := ?v44) ?y44 ?r44
            case y44 => (intro u hu; go_simp; try rfl)
            simp only [Act.put, List.setIfInBounds_toArray, List.set_cons_zero, List.set_cons_succ]
            refine take_held 21 (by assumption) rfl (by kernel_rfl) (by kernel_rfl) (by kernel_rfl) (fun _ _ _ h => h) (by kernel_rfl) (v := ?v45) ?y45 ?r45
            case y45 => (intro u hu; have zz0 := z2 u hu; go_simp; try rfl)
            simp only [Act.put, List.setIfInBounds_toArray, List.set_cons_zero, List.set_cons_succ]
            refine wpAnyH_ready (rs := [22]) (by kernel_rfl) (by simp) (AllReadyH.cons ((nth_eq _ 22).trans rfl) ?_ AllReadyH.nil)
            intro K' hK
            refine call_in hK (by kernel_rfl) 21 #[vb, vb'] (by go_simp) _ (cI _ D0) ?_
            rintro v w5 ⟨rfl, b5⟩
            have D5 := bcat D0 b5 (Nat.le_refl _)
            have hS5 : IH w5 := by rw [hIH]; exact D5
            refine ⟨hS5, ?_⟩
            simp only [Act.put, List.setIfInBounds_toArray, List.set_cons_zero, List.set_cons_succ]
            refine take_held 23 (by assumption) rfl (by kernel_rfl) (by kernel_rfl) (by kernel_rfl) (fun _ _ _ h => h) (by kernel_rfl) (v := ?v46) ?y46 ?r46
            case y46 => (intro u hu; go_simp; try rfl)
            simp only [Act.put, List.setIfInBounds_toArray, List.set_cons_zero, List.set_cons_succ]
            refine take_held 24 (by assumption) rfl (by kernel_rfl) (by kernel_rfl) (by kernel_rfl) (fun _ _ _ h => h) (by kernel_rfl) (v := ?v47) ?y47 ?r47
            case y47 => (intro u hu; go_simp; try rfl)
            simp only [Act.put, List.setIfInBounds_toArray, List.set_cons_zero, List.set_cons_succ]
            refine done_held (by kernel_rfl) ?_ _
            have B7 := bcat B D5 (Nat.le_refl _)
            go_wp2
            go_roundw
            case rel => exact ⟨k + 1, by omega, by go_num, B7, HT⟩
            case measure => simp [intOf]; omega
        · have hzd : decide ((x, y) = (x', y')) = false := decide_eq_false hz
          have HT : Hid (R = false) := HX.out (fun e => hz (stk_eq.1 e).1)
          refine start_held (S := IH) 25 rfl (by kernel_rfl) (hS) ?_
          simp only [Array.replicate_succ, Array.replicate_zero, List.push_toArray, List.nil_append, List.cons_append]
          refine take_held 0 (by assumption) rfl (by kernel_rfl) (by kernel_rfl) (by kernel_rfl) (fun _ _ _ h => h) (by kernel_rfl) (v := ?v48) ?y48 ?r48
          case y48 => (intro u hu; go_simp; try rfl)
          simp only [Act.put, List.setIfInBounds_toArray, List.set_cons_zero, List.set_cons_succ]
          refine take_held 1 (by assumption) rfl (by kernel_rfl) (by kernel_rfl) (by kernel_rfl) (fun _ _ _ h => h) (by kernel_rfl) (v := ?v49) ?y49 ?r49
          case y49 => (intro u hu; go_simp; try rfl)
          simp only [Act.put, List.setIfInBounds_toArray, List.set_cons_zero, List.set_cons_succ]
          refine take_held 2 (by assumption) rfl (by kernel_rfl) (by kernel_rfl) (by kernel_rfl) (fun _ _ _ h => h) (by kernel_rfl) (v := ?v50) ?y50 ?r50
          case y50 => (intro u hu; go_simp; try rfl)
          simp only [Act.put, List.setIfInBounds_toArray, List.set_cons_zero, List.set_cons_succ]
          refine take_held 3 (by assumption) rfl (by kernel_rfl) (by kernel_rfl) (by kernel_rfl) (fun _ _ _ h => h) (by kernel_rfl) (v := ?v51) ?y51 ?r51
          case y51 => (intro u hu; go_simp; try rfl)
          simp only [Act.put, List.setIfInBounds_toArray, List.set_cons_zero, List.set_cons_succ]
          refine take_held 4 (by assumption) rfl (by kernel_rfl) (by kernel_rfl) (by kernel_rfl) (fun _ _ _ h => h) (by kernel_rfl) (v := .agg #[.int .i64 x, .int .i64 y]) ?y52 ?r52
          case y52 => (intro u hu; exact run_load_op 39 _ rfl (p.add (k * 3)) _ rfl (H1.out u hu) (aggCell u) infoCell2)
          simp only [Act.put, List.setIfInBounds_toArray, List.set_cons_zero, List.set_cons_succ]
          refine take_held 5 (by assumption) rfl (by kernel_rfl) (by kernel_rfl) (by kernel_rfl) (fun _ _ _ h => h) (by kernel_rfl) (v := ?v53) ?y53 ?r53
          case y53 => (intro u hu; go_simp; try rfl)
          simp only [Act.put, List.setIfInBounds_toArray, List.set_cons_zero, List.set_cons_succ]
          refine take_held 6 (by assumption) rfl (by kernel_rfl) (by kernel_rfl) (by kernel_rfl) (fun _ _ _ h => h) (by kernel_rfl) (v := ?v54) ?y54 ?r54
          case y54 => (intro u hu; go_simp; try rfl)
          simp only [Act.put, List.setIfInBounds_toArray, List.set_cons_zero, List.set_cons_succ]
          refine take_held 7 (by assumption) rfl (by kernel_rfl) (by kernel_rfl) (by kernel_rfl) (fun _ _ _ h => h) (by kernel_rfl) (v := ?v55) ?y55 ?r55
          case y55 => (intro u hu; go_simp; try rfl)
          simp only [Act.put, List.setIfInBounds_toArray, List.set_cons_zero, List.set_cons_succ]
          refine take_held 8 (by assumption) rfl (by kernel_rfl) (by kernel_rfl) (by kernel_rfl) (fun _ _ _ h => h) (by kernel_rfl) (v := ?v56) ?y56 ?r56
          case y56 => (intro u hu; go_simp; try rfl)
          simp only [Act.put, List.setIfInBounds_toArray, List.set_cons_zero, List.set_cons_succ]
          refine take_held 9 (by assumption) rfl (by kernel_rfl) (by kernel_rfl) (by kernel_rfl) (fun _ _ _ h => h) (by kernel_rfl) (v := .agg #[.int .i64 x', .int .i64 y']) ?y57 ?r57
          case y57 => (intro u hu; exact run_load_op 39 _ rfl (p'.add (k * 3)) _ rfl (H2.out u hu) (aggCell u) infoCell2)
          simp only [Act.put, List.setIfInBounds_toArray, List.set_cons_zero, List.set_cons_succ]
          refine take_held 10 (by assumption) rfl (by kernel_rfl) (by kernel_rfl) (by kernel_rfl) (fun _ _ _ h => h) (by kernel_rfl) (v := (.bool true)) ?y58 ?r58
          case y58 => (intro u hu; refine (run_neq_cell _ _ rfl x y x' y' rfl rfl).trans ?_; rw [hzd]; rfl)
          simp only [Act.put, List.setIfInBounds_toArray, List.set_cons_zero, List.set_cons_succ]
          refine take_held 11 (by assumption) rfl (by kernel_rfl) (by kernel_rfl) (by kernel_rfl) (fun _ _ _ h => h) (by kernel_rfl) (v := ?v59) ?y59 ?r59
          case y59 => (intro u hu; go_simp; try rfl)
          simp only [Act.put, List.setIfInBounds_toArray, List.set_cons_zero, List.set_cons_succ]
          refine skip_held 12 (by assumption) rfl (by kernel_rfl) (by kernel_rfl) (by kernel_rfl) (fun _ _ _ h => h) (by kernel_rfl) ?_
          simp only [Act.put, List.setIfInBounds_toArray, List.set_cons_zero, List.set_cons_succ]
          refine skip_held 13 (by assumption) rfl (by kernel_rfl) (by kernel_rfl) (by kernel_rfl) (fun _ _ _ h => h) (by kernel_rfl) ?_
          simp only [Act.put, List.setIfInBounds_toArray, List.set_cons_zero, List.set_cons_succ]
          refine skip_held 14 (by assumption) rfl (by kernel_rfl) (by kernel_rfl) (by kernel_rfl) (fun _ _ _ h => h) (by kernel_rfl) ?_
          simp only [Act.put, List.setIfInBounds_toArray, List.set_cons_zero, List.set_cons_succ]
          refine skip_held 15 (by assumption) rfl (by kernel_rfl) (by kernel_rfl) (by kernel_rfl) (fun _ _ _ h => h) (by kernel_rfl) ?_
          simp only [Act.put, List.setIfInBounds_toArray, List.set_cons_zero, List.set_cons_succ]
          refine skip_held 16 (by assumption) rfl (by kernel_rfl) (by kernel_rfl) (by kernel_rfl) (fun _ _ _ h => h) (by kernel_rfl) ?_
          simp only [Act.put, List.setIfInBounds_toArray, List.set_cons_zero, List.set_cons_succ]
          refine skip_held 17 (by assumption) rfl (by kernel_rfl) (by kernel_rfl) (by kernel_rfl) (fun _ _ _ h => h) (by kernel_rfl) ?_
          simp only [Act.put, List.setIfInBounds_toArray, List.set_cons_zero, List.set_cons_succ]
          refine skip_held 18 (by assumption) rfl (by kernel_rfl) (by kernel_rfl) (by kernel_rfl) (fun _ _ _ h => h) (by kernel_rfl) ?_
          simp only [Act.put, List.setIfInBounds_toArray, List.set_cons_zero, List.set_cons_succ]
          refine skip_held 19 (by assumption) rfl (by kernel_rfl) (by kernel_rfl) (by kernel_rfl) (fun _ _ _ h => h) (by kernel_rfl) ?_
          simp only [Act.put, List.setIfInBounds_toArray, List.set_cons_zero, List.set_cons_succ]
          refine skip_held 20 (by assumption) rfl (by kernel_rfl) (by kernel_rfl) (by kernel_rfl) (fun _ _ _ h => h) (by kernel_rfl) ?_
          simp only [Act.put, List.setIfInBounds_toArray, List.set_cons_zero, List.set_cons_succ]
          refine skip_held 21 (by assumption) rfl (by kernel_rfl) (by kernel_rfl) (by kernel_rfl) (fun _ _ _ h => h) (by kernel_rfl) ?_
          simp only [Act.put, List.setIfInBounds_toArray, List.set_cons_zero, List.set_cons_succ]
          refine skip_held 22 (by assumption) rfl (by kernel_rfl) (by kernel_rfl) (by kernel_rfl) (fun _ _ _ h => h) (by kernel_rfl) ?_
          simp only [Act.put, List.setIfInBounds_toArray, List.set_cons_zero, List.set_cons_succ]
          refine skip_held 23 (by assumption) rfl (by kernel_rfl) (by kernel_rfl) (by kernel_rfl) (fun _ _ _ h => h) (by kernel_rfl) ?_
          simp only [Act.put, List.setIfInBounds_toArray, List.set_cons_zero, List.set_cons_succ]
          refine take_held 24 (by assumption) rfl (by kernel_rfl) (by kernel_rfl) (by kernel_rfl) (fun _ _ _ h => h) (by kernel_rfl) (v := ?v60) ?y60 ?r60
          case y60 => (intro u hu; go_simp; try rfl)
          simp only [Act.put, List.setIfInBounds_toArray, List.set_cons_zero, List.set_cons_succ]
          refine done_held (by kernel_rfl) ?_ _
          go_wp2
          go_ret
          exact ⟨_, rfl, congrArg Value.bool HT.out.symm, bcat B D0 (Nat.le_refl _)⟩
      · obtain rfl : n = k := by omega
        have HT : Hid (R = true) := by
          show R = true
          rw [← HR.out, decide_eq_true_eq]
          have := HK.out
          rw [List.take_of_length_le (by rw [Hn.out]; omega), List.take_of_length_le (by rw [Hn2.out]; omega)] at this
          exact this
        go_wp2
        go_ret
        exact ⟨_, rfl, congrArg Value.bool HT.out.symm, B⟩
  · have HT : Hid (R = false) := HNe.out (fun h => hlen (by rw [h]))
    have hne : ((l.length : Int) != (m.length : Int)) = true := by rw [bne_iff_ne]; omega
    generalize l.length = n1 at *
    generalize m.length = n2 at *
    go_enter Try.func28, Try.ntmps28
    go_wp2
    go_ret
    exact ⟨_, rfl, congrArg Value.bool HT.out.symm, Below.refl _ _⟩
end Go.Proofs.Ytabbdclpjghdbaa.Stk
