/-
  The bins of a cell, as the chapter and the law tell them.
-/
import Derived.Test.YtebfjldbhmmmlaaDgN
namespace Go.Proofs.Ytebfjldbhmmmlaa.Dig
set_option linter.unusedVariables false
set_option linter.unusedSimpArgs false
open Go Go.RowKit Go.Shelf Go.Proofs Go.Proofs.Ytebfjldbhmmmlaa.Grid
attribute [local go_sem] Oper.semAt_some

theorem pile_drop (stks : List Stk) (x : Cell) {k : Nat} (h : k < stks.length) : pileOf (stks.drop k) x = if (stks[k]'h).1 = x then (stks[k]'h).2 else pileOf (stks.drop (k + 1)) x := by
  rw [List.drop_eq_getElem_cons h, pile_cons]
set_option maxRecDepth 100000 in
set_option maxHeartbeats 2000000 in
theorem lawBins_any (F : Nat → Prop) (stks : List Stk) (v : Value) (x : Cell) (w : World) (hL : ListAt 3 stackEl F stks v w) (hF : ∀ b, F b → b < w.heap.size) (hm : stks.length ≤ 9223372036854775807) :
    Calls Try.prog 10 #[v, .agg #[.int .i64 x.1, .int .i64 x.2]] w fun e w' => ∃ r, e = .returned r ∧ (ListAt 1 intEl F (pileOf stks x) r w' ∧ Below w.heap.size w w') := by
  obtain ⟨a, cap, hv, h0⟩ := hL.form
  subst hv
  obtain ⟨n, hn⟩ : ∃ n, stks.length = n := ⟨_, rfl⟩
  have Hn : Hid (stks.length = n) := hn
  rw [hn] at hL hm h0 ⊢
  obtain ⟨wb, hwb⟩ : ∃ wb, wb = w.alloc (.cells #[.int .i64 x.1, .int .i64 x.2] 30) := ⟨_, rfl⟩
  have bb : Below w.heap.size w wb := by rw [hwb]; exact below_new (Below.refl _ _) _
  have hx : wb.heap[w.heap.size]? = some (.cells #[.int .i64 x.1, .int .i64 x.2] 30 (0, 0)) := by rw [hwb]; exact heap_alloc_new w _
  have HX : Hid (∀ u, Below wb.heap.size wb u → ∀ j z, #[Value.int .i64 x.1, .int .i64 x.2][j]? = some z → u.cell? ((⟨w.heap.size, 0, none⟩ : Addr).add j) = some z) := fun u hu => row_below hx hu
  have HLw : Hid (∀ u, Below wb.heap.size wb u → ListAt 3 stackEl F stks (.slice a n cap) u) := fun u b => hL.go heldStack hF (bcat bb b (Nat.le_refl _))
  have HB0 : Hid (Below w.heap.size w wb) := bb
  clear hn hx hL bb h0
  go_enter Try.func10, Try.ntmps10
  go_upto_region 1 with fail
  rw [← hwb]
  clear hwb
  go_wp2_with fail
  go_loopw [5] (fun i wq => ∃ k : Nat, k ≤ n ∧ i = .int .i64 k ∧ Hid (pileOf stks x = pileOf (stks.drop k) x) ∧ Hid (Below wb.heap.size wb wq)) (fun i _ => n - (intOf i).toNat)
  case atStart => exact ⟨0, Nat.zero_le _, rfl, rfl, Below.refl _ _⟩
  case round =>
    obtain ⟨k, hk, rfl, HP, HB⟩ := hrel
    by_cases hlt : k < n
    · have hd0 : decide ((k : Int) < (n : Int)) = true := decide_eq_true (by omega)
      have hkS : k < stks.length := by rw [Hn.out]; exact hlt
      obtain ⟨pp, cs, cap2, hv, hpF, ⟨vb, hcs, hbs⟩, hrd⟩ := (HLw.out _ HB.out).item hkS
      subst hcs
      have hpd := pile_drop stks x hkS
      generalize stks[k]'hkS = sk at *
      obtain ⟨ck, bs⟩ := sk
      simp only at hrd hbs hpd
      obtain ⟨rfl, rfl⟩ : a = some pp ∧ cap = cap2 := by injection hv with h1 h2 h3; exact ⟨h1, h3⟩
      obtain ⟨ba, bc, hvb, _⟩ := hbs.form
      subst hvb
      have hbl : pp.block < wb.heap.size := Nat.lt_of_lt_of_le (hF _ hpF) HB0.out.size
      have HA : Hid (∀ u, Below wb.heap.size wb u → ∀ j z, #[Value.int .i64 ck.1, .int .i64 ck.2, .slice ba bs.length bc][j]? = some z → u.cell? ((pp.add (k * 3)).add j) = some z) := fun u hu j z hj => (cell_same (by rw [block_add, block_add]; exact (hu.block _ hbl).trans (HB.out.block _ hbl).symm)).trans (hrd j z hj)
      have HI : Hid (∀ u, Below wb.heap.size wb u → ∀ j z, #[Value.int .i64 ck.1, .int .i64 ck.2][j]? = some z → u.cell? ((pp.add (k * 3)).add j) = some z) := fun u hu j z hj => HA.out u hu j z (by
        match j with
        | 0 => simpa using hj
        | 1 => simpa using hj
        | j + 2 => simp at hj)
      have hkn : (k : Int) < (n : Int) := by omega
      have S0 : Below wb.heap.size wb wr.drew := bcat HB.out (Below.refl _ _).drew (Nat.le_refl _)
      have z2 : wr.drew.cell? ⟨(pp.add (k * 3)).block, (pp.add (k * 3)).off + 2, none⟩ = some (.slice ba bs.length bc) := HA.out _ S0 2 _ rfl
      clear hv hrd
      by_cases hc : ck = x
      · have hd := decide_eq_true hc
        rw [if_pos hc] at hpd
        have HR : Hid (ListAt 1 intEl F (pileOf stks x) (.slice ba bs.length bc) wr.drew) := by
          show ListAt 1 intEl F (pileOf stks x) (.slice ba bs.length bc) wr.drew
          rw [HP.out, hpd]
          exact hbs.stable heldInt fun b hb => rfl
        clear hc hpd hbs
        go_upto_region 4 with fail
        refine start_held (S := fun u => Below wb.heap.size wb u) 7 rfl (by kernel_rfl) (S0) ?_
        simp only [Array.replicate_succ, Array.replicate_zero, List.push_toArray, List.nil_append, List.cons_append]
        refine take_held 0 S0 rfl (by kernel_rfl) (by kernel_rfl) (by kernel_rfl) (fun _ _ _ h => h) (by kernel_rfl) (v := ?v14) ?y14 ?r14
        case y14 => (intro u hu; go_simp; try rfl)
        simp only [Act.put, List.setIfInBounds_toArray, List.set_cons_zero, List.set_cons_succ]
        refine take_held 1 S0 rfl (by kernel_rfl) (by kernel_rfl) (by kernel_rfl) (fun _ _ _ h => h) (by kernel_rfl) (v := ?v15) ?y15 ?r15
        case y15 => (intro u hu; go_simp; try rfl)
        simp only [Act.put, List.setIfInBounds_toArray, List.set_cons_zero, List.set_cons_succ]
        refine take_held 2 S0 rfl (by kernel_rfl) (by kernel_rfl) (by kernel_rfl) (fun _ _ _ h => h) (by kernel_rfl) (v := ?v16) ?y16 ?r16
        case y16 => (intro u hu; go_simp; try rfl)
        simp only [Act.put, List.setIfInBounds_toArray, List.set_cons_zero, List.set_cons_succ]
        refine take_held 3 S0 rfl (by kernel_rfl) (by kernel_rfl) (by kernel_rfl) (fun _ _ _ h => h) (by kernel_rfl) (v := ?v17) ?y17 ?r17
        case y17 => (intro u hu; go_simp; try rfl)
        simp only [Act.put, List.setIfInBounds_toArray, List.set_cons_zero, List.set_cons_succ]
        refine take_held 4 S0 rfl (by kernel_rfl) (by kernel_rfl) (by kernel_rfl) (fun _ _ _ h => h) (by kernel_rfl) (v := .agg #[.int .i64 ck.1, .int .i64 ck.2]) ?y18 ?r18
        case y18 => (intro u hu; exact run_load_op 30 _ rfl (pp.add (k * 3)) _ rfl (HI.out u hu) (aggCell u) infoCell2)
        simp only [Act.put, List.setIfInBounds_toArray, List.set_cons_zero, List.set_cons_succ]
        refine take_held 5 S0 rfl (by kernel_rfl) (by kernel_rfl) (by kernel_rfl) (fun _ _ _ h => h) (by kernel_rfl) (v := .agg #[.int .i64 x.1, .int .i64 x.2]) ?y19 ?r19
        case y19 => (intro u hu; exact run_load_op 30 _ rfl ⟨w.heap.size, 0, none⟩ _ rfl (HX.out u hu) (aggCell u) infoCell2)
        simp only [Act.put, List.setIfInBounds_toArray, List.set_cons_zero, List.set_cons_succ]
        refine take_held 6 S0 rfl (by kernel_rfl) (by kernel_rfl) (by kernel_rfl) (fun _ _ _ h => h) (by kernel_rfl) (v := .bool true) ?y20 ?r20
        case y20 => (intro u hu; exact (run_eql_cell (.tmp 16) (.tmp 17) rfl ck.1 ck.2 x.1 x.2 rfl rfl).trans (by rw [show decide ((ck.1, ck.2) = (x.1, x.2)) = true from hd]))
        simp only [Act.put, List.setIfInBounds_toArray, List.set_cons_zero, List.set_cons_succ]
        refine done_held (by kernel_rfl) ?_ _
        go_wp2_with fail
        go_ret
        exact ⟨_, rfl, HR.out, bcat HB0.out S0 (Nat.le_refl _)⟩
      · have hd := decide_eq_false hc
        rw [if_neg hc] at hpd
        have HP2 : Hid (pileOf stks x = pileOf (stks.drop (k + 1)) x) := HP.out.trans hpd
        clear hc hpd hbs
        go_upto_region 4 with fail
        refine start_held (S := fun u => Below wb.heap.size wb u) 7 rfl (by kernel_rfl) (S0) ?_
        simp only [Array.replicate_succ, Array.replicate_zero, List.push_toArray, List.nil_append, List.cons_append]
        refine take_held 0 S0 rfl (by kernel_rfl) (by kernel_rfl) (by kernel_rfl) (fun _ _ _ h => h) (by kernel_rfl) (v := ?v21) ?y21 ?r21
        case y21 => (intro u hu; go_simp; try rfl)
        simp only [Act.put, List.setIfInBounds_toArray, List.set_cons_zero, List.set_cons_succ]
        refine take_held 1 S0 rfl (by kernel_rfl) (by kernel_rfl) (by kernel_rfl) (fun _ _ _ h => h) (by kernel_rfl) (v := ?v22) ?y22 ?r22
        case y22 => (intro u hu; go_simp; try rfl)
        simp only [Act.put, List.setIfInBounds_toArray, List.set_cons_zero, List.set_cons_succ]
        refine take_held 2 S0 rfl (by kernel_rfl) (by kernel_rfl) (by kernel_rfl) (fun _ _ _ h => h) (by kernel_rfl) (v := ?v23) ?y23 ?r23
        case y23 => (intro u hu; go_simp; try rfl)
        simp only [Act.put, List.setIfInBounds_toArray, List.set_cons_zero, List.set_cons_succ]
        refine take_held 3 S0 rfl (by kernel_rfl) (by kernel_rfl) (by kernel_rfl) (fun _ _ _ h => h) (by kernel_rfl) (v := ?v24) ?y24 ?r24
        case y24 => (intro u hu; go_simp; try rfl)
        simp only [Act.put, List.setIfInBounds_toArray, List.set_cons_zero, List.set_cons_succ]
        refine take_held 4 S0 rfl (by kernel_rfl) (by kernel_rfl) (by kernel_rfl) (fun _ _ _ h => h) (by kernel_rfl) (v := .agg #[.int .i64 ck.1, .int .i64 ck.2]) ?y25 ?r25
        case y25 => (intro u hu; exact run_load_op 30 _ rfl (pp.add (k * 3)) _ rfl (HI.out u hu) (aggCell u) infoCell2)
        simp only [Act.put, List.setIfInBounds_toArray, List.set_cons_zero, List.set_cons_succ]
        refine take_held 5 S0 rfl (by kernel_rfl) (by kernel_rfl) (by kernel_rfl) (fun _ _ _ h => h) (by kernel_rfl) (v := .agg #[.int .i64 x.1, .int .i64 x.2]) ?y26 ?r26
        case y26 => (intro u hu; exact run_load_op 30 _ rfl ⟨w.heap.size, 0, none⟩ _ rfl (HX.out u hu) (aggCell u) infoCell2)
        simp only [Act.put, List.setIfInBounds_toArray, List.set_cons_zero, List.set_cons_succ]
        refine take_held 6 S0 rfl (by kernel_rfl) (by kernel_rfl) (by kernel_rfl) (fun _ _ _ h => h) (by kernel_rfl) (v := .bool false) ?y27 ?r27
        case y27 => (intro u hu; exact (run_eql_cell (.tmp 16) (.tmp 17) rfl ck.1 ck.2 x.1 x.2 rfl rfl).trans (by rw [show decide ((ck.1, ck.2) = (x.1, x.2)) = false from hd]))
        simp only [Act.put, List.setIfInBounds_toArray, List.set_cons_zero, List.set_cons_succ]
        refine done_held (by kernel_rfl) ?_ _
        go_wp2_with fail
        go_roundw
        case rel => exact ⟨k + 1, by omega, by go_num, HP2, S0⟩
        case measure => simp only [intOf]; omega
    · have hd0 : decide ((k : Int) < (n : Int)) = false := decide_eq_false (by omega)
      have HE : Hid (pileOf stks x = []) := by
        show pileOf stks x = []
        rw [HP.out, List.drop_eq_nil_of_le (by rw [Hn.out]; omega)]
        rfl
      go_wp2_with fail
      go_ret
      refine ⟨_, rfl, ?_, bcat HB0.out HB.out (Nat.le_refl _)⟩
      rw [HE.out]
      exact ListAt.nil _ _ _ _
end Go.Proofs.Ytebfjldbhmmmlaa.Dig
