/-
  The first one is taken out of the chapter's own heap.
-/
import Derived.Test.YtpbmkflkggeggaaHeapRef
namespace Go.Proofs.Ytpbmkflkggeggaa.Hp
set_option linter.unusedVariables false
set_option linter.unusedSimpArgs false
open Go Go.RowKit Go.Shelf Go.Proofs
attribute [local go_sem] Oper.semAt_some

theorem run_append_opV {o : Oper} {a : Act} {w w' : World} {tt : TypeId} (s x : Operand) (ho : o.op = .call { callee := .builtin .append, args := #[s, x], argTypes := #[tt, tt] }) (v v2 v' : Value) (hs : a.eval s = v) (hx : a.eval x = v2)
    (h : (Builtin.append_ #[tt, tt] o.type #[v, v2]).run Try.prog w = .ok v' w') : (execOp a.eval o).run Try.prog w = .ok (.value v') w' := by
  unfold execOp
  simp only [ho, resolve, invoke, builtin, Sem.run_bind, Sem.run_pure, Result.andThen_ok, List.map_toArray, List.map_cons, List.map_nil, hs, hx, h]
theorem run_appV {w : World} {B : Nat} {v : Value} {l zs : List (Int × Int)} (hown : w.ownsRow B 27 2 v l.length (rowL vL l)) (ad : Addr) (c : Nat) (hc : ∀ j u, (rowL vL zs)[j]? = some u → w.cell? (ad.add j) = some u)
    (hm : l.length + zs.length ≤ 1000000) (hB : B ≤ w.heap.size) (ty : TypeId) :
    ∃ v' w', (Builtin.append_ #[30, 30] ty #[v, .slice (some ad) zs.length c]).run Try.prog w = .ok v' w' ∧ w'.ownsRow B 27 2 v' (l ++ zs).length (rowL vL (l ++ zs)) ∧ w.grownBy w' v.ownBlock := by
  obtain ⟨i0, hi, hz0, hz1, hz2⟩ := info_parts infoV
  obtain ⟨v', w', hrun, hown', hgrow, _, hat⟩ := run_append_own_at (P := Try.prog) w B 30 ty 27 i0 _ 2 16 Try.underlying30 hi hz0 hz1 hz2 rfl (by decide) v l.length _ hown ad zs.length c (rowL vL zs) (rowL_len vL_len zs) hc (fun u hu => by
      obtain ⟨x, _, hx⟩ := List.mem_flatMap.1 hu
      simp [vL] at hx
      rcases hx with rfl | rfl <;> rfl) (by unfold maxLen; omega) (by omega) hB
  exact ⟨v', w', hrun, by rw [List.length_append, rowL_append]; exact hown', hgrow⟩
theorem rowV_part {L : List (Int × Int)} {a m : Nat} (zs : List (Int × Int)) (hz : zs = (L.drop a).take m) (k : Nat) (u : Value) (h : (rowL vL zs)[k]? = some u) : (rowL vL L)[a * 2 + k]? = some u := by
  obtain ⟨i, j, hi, rfl, hv⟩ := rowL_inv vL_len zs k u h
  subst hz
  have hi' := hi
  rw [List.length_take, List.length_drop] at hi'
  rw [List.getElem_take, List.getElem_drop] at hv
  have := rowL_at vL_len L (a + i) (by omega) j u hv
  rw [show a * 2 + (i * 2 + j) = (a + i) * 2 + j by omega]
  exact this
set_option maxRecDepth 100000 in
set_option maxHeartbeats 1000000 in
theorem rpop_none (B r : Nat) (x : Value) (w : World) (h : RAt B w r x []) : Calls Try.prog 17 #[.pointer (some ⟨r, 0, none⟩)] w fun e w' => e = .returned (.tuple #[.agg #[.int .i64 0, .int .i64 0], .bool false]) ∧ Below w.heap.size w w' := by
  have b0 : Below w.heap.size w (w.alloc (.cells #[.int .i64 0, .int .i64 0] 27)) := (Below.refl _ _).alloc (Nat.le_refl _) _
  have cF := first_any B r x [] _ (h.go b0) (by simp)
  have e1 : best [] ([] : List (Int × Int)).length = -1 := rfl
  rw [e1] at cF
  go_enter Try.func17, Try.ntmps17
  go_wp2_with (go_at_call 39; refine cF.mono ?_; rintro e w1 ⟨rfl, b1⟩; have e0 : w1.heap[w.heap.size]? = (w.alloc (.cells #[.int .i64 0, .int .i64 0] 27)).heap[w.heap.size]? := b1.block _ (by simp); have y0 : w1.cell? ⟨w.heap.size, 0, none⟩ = some (.int .i64 0) := (cell_same e0).trans (by simp); have y1 : w1.cell? ⟨w.heap.size, 1, none⟩ = some (.int .i64 0) := (cell_same e0).trans (by simp); have z0 : w1.frozen? ⟨w.heap.size, 0, none⟩ = false := (frozen_same e0).trans (by simp); have z1 : w1.frozen? ⟨w.heap.size, 1, none⟩ = false := (frozen_same e0).trans (by simp))
  refine bodyPost_ret (results_cell_tmp Try.results17 _ _ w.heap.size _ rfl (by go_simp)) rfl ⟨rfl, ?_⟩
  have b2 := bcat b0 b1
  exact ((b2.setCell (p := ⟨w.heap.size, 0, none⟩) (Nat.le_refl _) _).setCell (p := ⟨w.heap.size, 1, none⟩) (Nat.le_refl _) _)
set_option maxRecDepth 100000 in
set_option maxHeartbeats 4000000 in
theorem rpop_some (B r : Nat) (x : Value) (L : List (Int × Int)) (j : Nat) (w : World) (h : RAt B w r x L) (hm : L.length ≤ 100000) (hj : best L L.length = (j : Nat)) (hjl : j < L.length) : Calls Try.prog 17 #[.pointer (some ⟨r, 0, none⟩)] w fun e w' => e = .returned (.tuple #[.agg #[.int .i64 (L.getD j (0, 0)).1, .int .i64 (L.getD j (0, 0)).2], .bool true]) ∧ ∃ x', RAt B w' r x' (L.eraseIdx j) ∧ Tn r x x' w w' := by
  have b0 : Below w.heap.size w (w.alloc (.cells #[.int .i64 0, .int .i64 0] 27)) := (Below.refl _ _).alloc (Nat.le_refl _) _
  have cF := first_any B r x L _ (h.go b0) hm
  rw [hj] at cF
  rw [getD_in hjl]
  have hrow := h.row
  rcases hrow.2 with ⟨_, q⟩ | ⟨g, xc, cur, rfl, hb, hg, hnc, hcm, hcs, htake⟩
  · omega
  obtain ⟨xa, xc', e', fx⟩ := v_form hrow
  cases e'
  obtain ⟨g', eg, x0, x1⟩ := fx j hjl
  cases eg
  have hc := h.cell
  have hl := h.lt
  have gl := World.block_lt_of_cell? w _ x0
  simp only at gl
  have hjn : (j : Int) < (L.length : Int) := by omega
  have hj0 : ¬ (j : Int) < 0 := by omega
  obtain ⟨z, hz⟩ : ∃ z, L[j] = z := ⟨_, rfl⟩
  rw [hz] at x0 x1 ⊢
  obtain ⟨n, hn⟩ : ∃ n, L.length = n := ⟨_, rfl⟩
  have hR : Hid (RAt B w r (.slice (some ⟨g, 0, none⟩) n xc) L) := by unfold Hid; rw [← hn]; exact h
  have HN : Hid (L.length = n) := hn
  rw [hn] at hc hjn hm hnc hjl ⊢
  have hjc : (j : Int) ≤ (xc : Int) := by omega
  have hjc1 : (j : Int) + 1 ≤ (n : Int) := by omega
  have hnc' : (n : Int) ≤ (xc : Int) := by omega
  clear fx h hj hz hn hrow htake hcs hg
  go_enter Try.func17, Try.ntmps17
  go_wp2_with fail
  go_at_call 39
  refine cF.mono ?_
  rintro e w1 ⟨rfl, b1⟩
  have bb := bcat b0 b1
  have c1 := (bb.cell (p := ⟨r, 0, none⟩) hl).trans hc
  have k0 := (bb.cell (p := ⟨g, j * 2, none⟩) gl).trans x0
  have k1 := (bb.cell (p := ⟨g, j * 2 + 1, none⟩) gl).trans x1
  have e0 : w1.heap[w.heap.size]? = some (.cells #[.int .i64 0, .int .i64 0] 27 (0, 0)) := (b1.block _ (by simp)).trans (World.alloc_heap_new _ _)
  have s1 : w.heap.size < w1.heap.size := lt_some e0
  go_wp2_with fail
  obtain ⟨W5, hW5⟩ : ∃ W, w1.alloc (.cells #[.int .i64 z.1, .int .i64 z.2] 27) = W := ⟨_, rfl⟩
  have b5 : Below w1.heap.size w1 W5 := by rw [← hW5]; exact (Below.refl _ _).alloc (Nat.le_refl _) _
  have z5 : W5.heap[w1.heap.size]? = some (.cells #[.int .i64 z.1, .int .i64 z.2] 27 (0, 0)) := by rw [← hW5]; exact World.alloc_heap_new _ _
  have e5 : W5.heap[w.heap.size]? = some (.cells #[.int .i64 0, .int .i64 0] 27 (0, 0)) := (b5.block _ s1).trans e0
  have R5 := hR.out.go (bcat bb b5)
  have hc5 : W5.drew.cell? ⟨r, 0, none⟩ = some (.slice (some ⟨g, 0, none⟩) n xc) := R5.cell
  have rw5 := R5.row
  rw [HN.out] at rw5
  have ag : ∀ (a m : Nat) (zs : List (Int × Int)), zs = (L.drop a).take m → ∀ k u, (rowL vL zs)[k]? = some u → W5.drew.cell? ((⟨g, a * 2, none⟩ : Addr).add k) = some u := fun a m zs hz k u hk => by
    have q := rowV_part zs hz k u hk
    have := (List.getElem?_eq_some_iff.1 q).1
    rw [rowL_len vL_len, HN.out] at this
    rw [Addr.add_lit]
    show W5.cell? ⟨g, a * 2 + k, none⟩ = some u
    rw [rw5.cellAt _ this]
    exact q
  have ht : (L.take j).length = j := by rw [List.length_take, HN.out]; omega
  have hd : (L.drop (j + 1)).length = n - (j + 1) := by rw [List.length_drop, HN.out]
  obtain ⟨v25, w25, hrun25, o25, g25⟩ := run_appV (w := W5.drew) (B := W5.heap.size) (v := .slice none 0 0) (l := []) (zs := L.take j) (World.ownsRow_nil _ _ _ _) ⟨g, 0, none⟩ xc (fun k u hk => by have := ag 0 j (L.take j) (by rw [List.drop_zero]) k u hk; rw [Nat.zero_mul] at this; exact this) (by rw [ht]; simp; omega) (Nat.le_refl _) 30
  rw [List.nil_append, ht] at o25
  rw [ht] at hrun25
  have s25 : W5.heap.size ≤ w25.heap.size := g25.size
  have same25 : ∀ k, k < W5.heap.size → w25.heap[k]? = W5.heap[k]? := fun k hk => g25.block k hk (by intro e; cases e)
  have c25 : w25.cell? ⟨r, 0, none⟩ = some (.slice (some ⟨g, 0, none⟩) n xc) := (cell_same (same25 r R5.lt)).trans R5.cell
  have hwr : IntKind.i64.wrap ((j : Int) + 1) = ((j + 1 : Nat) : Int) := by rw [IntKind.wrap_i64]; omega
  obtain ⟨ad, had, hadn⟩ : ∃ ad : Addr, (if xc = j + 1 then some (⟨g, 0, none⟩ : Addr) else some ⟨g, (j + 1) * 2, none⟩) = some ad ∧ (xc ≠ j + 1 → ad = ⟨g, (j + 1) * 2, none⟩) := by
    by_cases e : xc = j + 1
    · exact ⟨_, by rw [if_pos e], fun q => (q e).elim⟩
    · exact ⟨_, by rw [if_neg e], fun _ => rfl⟩
  obtain ⟨v33, w33, hrun33, o33, g33⟩ := run_appV (w := w25) (B := W5.heap.size) (v := v25) (l := L.take j) (zs := L.drop (j + 1)) (by rw [ht]; exact o25) ad (xc - (j + 1)) (fun k u hk => by
      have hne : xc ≠ j + 1 := fun e => by
        have q := (List.getElem?_eq_some_iff.1 hk).1
        rw [rowL_len vL_len, hd] at q
        omega
      rw [hadn hne]
      have := ag (j + 1) (L.drop (j + 1)).length (L.drop (j + 1)) (by rw [List.take_length]) k u hk
      rw [Addr.add_lit] at this ⊢
      exact (cell_same (same25 g (by have := b5.size; have := bb.size; omega))).trans this) (by rw [ht, hd]; omega) s25 30
  rw [hd] at hrun33
  have same33 : ∀ k, k < W5.heap.size → w33.heap[k]? = W5.heap[k]? := fun k hk => (g33.block k (by omega) (fun e => by have := (own_since o25 k e.symm).1; omega)).trans (same25 k hk)
  have c33 := (cell_same (o := 0) (same33 r R5.lt)).trans R5.cell
  have f33 := (frozen_same (o := 0) (same33 r R5.lt)).trans (R5.froz 0)
  have eE : L.take j ++ L.drop (j + 1) = L.eraseIdx j := (List.eraseIdx_eq_take_drop_succ L j).symm
  rw [eE] at o33
  obtain ⟨m3, hm3⟩ : ∃ m, (L.eraseIdx j).length = m := ⟨_, rfl⟩
  have HM3 : Hid ((L.eraseIdx j).length = m3) := hm3
  rw [hm3] at o33
  clear hm3
  obtain ⟨v3a, v3c, rfl, _⟩ := own_form o33
  have P := R5.set (w2 := w33) (x2 := .slice v3a m3 v3c) (L2 := L.eraseIdx j) ⟨g33.os.trans g25.os, g33.tape.trans g25.tape, g33.output.trans g25.output, Nat.le_trans s25 g33.size, fun k hk _ => same33 k hk⟩ (Or.inr fun k hk => (own_since o33 k hk).1) (owns_base (by have := R5.low; have := R5.lt; omega) o33) HM3.out
  try rw [hW5]
  go_cut [] from 18 to 35 (fun wx => wx = w33.setCell ⟨r, 0, none⟩ (.slice v3a m3 v3c))
  case first =>
    have tt : True := trivial
    refine calm_wp ?_
    refine start_held (S := (fun _ => True)) 19 rfl (by kernel_rfl) (trivial) ?_
    simp only [Array.replicate_succ, Array.replicate_zero, List.push_toArray, List.nil_append, List.cons_append]
    refine take_held 0 (by assumption) rfl (by kernel_rfl) (by kernel_rfl) (by kernel_rfl) (fun _ _ _ h => h) (by kernel_rfl) (v := ?v46) ?y46 ?r46
    case y46 => (intro u hu; go_simp; try rfl)
    simp only [Act.put, List.setIfInBounds_toArray, List.set_cons_zero, List.set_cons_succ]
    refine take_held 1 (by assumption) rfl (by kernel_rfl) (by kernel_rfl) (by kernel_rfl) (fun _ _ _ h => h) (by kernel_rfl) (v := ?v47) ?y47 ?r47
    case y47 => (intro u hu; go_simp; try rfl)
    simp only [Act.put, List.setIfInBounds_toArray, List.set_cons_zero, List.set_cons_succ]
    refine take_held 2 (by assumption) rfl (by kernel_rfl) (by kernel_rfl) (by kernel_rfl) (fun _ _ _ h => h) (by kernel_rfl) (v := ?v48) ?y48 ?r48
    case y48 => (intro u hu; go_simp; try rfl)
    simp only [Act.put, List.setIfInBounds_toArray, List.set_cons_zero, List.set_cons_succ]
    refine take_held 3 (by assumption) rfl (by kernel_rfl) (by kernel_rfl) (by kernel_rfl) (fun _ _ _ h => h) (by kernel_rfl) (v := ?v49) ?y49 ?r49
    case y49 => (intro u hu; go_simp; try rfl)
    simp only [Act.put, List.setIfInBounds_toArray, List.set_cons_zero, List.set_cons_succ]
    refine take_held 5 (by assumption) rfl (by kernel_rfl) (by kernel_rfl) (by kernel_rfl) (fun _ _ _ h => h) (by kernel_rfl) (v := ?v50) ?y50 ?r50
    case y50 => (intro u hu; go_simp; try rfl)
    simp only [Act.put, List.setIfInBounds_toArray, List.set_cons_zero, List.set_cons_succ]
    refine take_held 8 (by assumption) rfl (by kernel_rfl) (by kernel_rfl) (by kernel_rfl) (fun _ _ _ h => h) (by kernel_rfl) (v := ?v51) ?y51 ?r51
    case y51 => (intro u hu; go_simp; try rfl)
    simp only [Act.put, List.setIfInBounds_toArray, List.set_cons_zero, List.set_cons_succ]
    refine take_held 9 (by assumption) rfl (by kernel_rfl) (by kernel_rfl) (by kernel_rfl) (fun _ _ _ h => h) (by kernel_rfl) (v := ?v52) ?y52 ?r52
    case y52 => (intro u hu; go_simp; try rfl)
    simp only [Act.put, List.setIfInBounds_toArray, List.set_cons_zero, List.set_cons_succ]
    refine take_held 10 (by assumption) rfl (by kernel_rfl) (by kernel_rfl) (by kernel_rfl) (fun _ _ _ h => h) (by kernel_rfl) (v := ?v53) ?y53 ?r53
    case y53 => (intro u hu; go_simp; try rfl)
    simp only [Act.put, List.setIfInBounds_toArray, List.set_cons_zero, List.set_cons_succ]
    refine take_held 12 (by assumption) rfl (by kernel_rfl) (by kernel_rfl) (by kernel_rfl) (fun _ _ _ h => h) (by kernel_rfl) (v := ?v54) ?y54 ?r54
    case y54 => (intro u hu; go_simp; try rfl)
    simp only [Act.put, List.setIfInBounds_toArray, List.set_cons_zero, List.set_cons_succ]
    refine take_held 13 (by assumption) rfl (by kernel_rfl) (by kernel_rfl) (by kernel_rfl) (fun _ _ _ h => h) (by kernel_rfl) (v := .int .i64 ((j + 1 : Nat) : Int)) ?y55 ?r55
    case y55 => (intro u hu; go_simp; try simp only [hwr])
    simp only [Act.put, List.setIfInBounds_toArray, List.set_cons_zero, List.set_cons_succ]
    refine wpAnyH_ready (rs := [4, 11]) (by kernel_rfl) (by simp) (AllReadyH.cons ((nth_eq _ 4).trans rfl) ?_ (AllReadyH.cons ((nth_eq _ 11).trans rfl) ?_ AllReadyH.nil))
    · intro K' hK
      have lc : W5.drew.cell? ⟨r, 0, none⟩ = some (.slice (some ⟨g, 0, none⟩) n xc) := hc5
      refine value_in hK (by kernel_rfl) ((.slice (some ⟨g, 0, none⟩) n xc)) (W5.drew) (by go_simp) (trivial) ?_
      simp only [Act.put, List.setIfInBounds_toArray, List.set_cons_zero, List.set_cons_succ]
      refine take_held 6 (by assumption) rfl (by kernel_rfl) (by kernel_rfl) (by kernel_rfl) (fun _ _ _ h => h) (by kernel_rfl) (v := (.slice (some ⟨g, 0, none⟩) j xc)) ?y56 ?r56
      case y56 => (intro u hu; go_simp; try rfl)
      simp only [Act.put, List.setIfInBounds_toArray, List.set_cons_zero, List.set_cons_succ]
      refine wpAnyH_ready (rs := [7, 11]) (by kernel_rfl) (by simp) (AllReadyH.cons ((nth_eq _ 7).trans rfl) ?_ (AllReadyH.cons ((nth_eq _ 11).trans rfl) ?_ AllReadyH.nil))
      · intro K' hK
        refine value_in hK (by kernel_rfl) (v25) (w25) (run_append_opV _ _ rfl _ _ _ rfl rfl hrun25) (trivial) ?_
        simp only [Act.put, List.setIfInBounds_toArray, List.set_cons_zero, List.set_cons_succ]
        refine wpAnyH_ready (rs := [11]) (by kernel_rfl) (by simp) (AllReadyH.cons ((nth_eq _ 11).trans rfl) ?_ AllReadyH.nil)
        intro K' hK
        have lc : w25.cell? ⟨r, 0, none⟩ = some (.slice (some ⟨g, 0, none⟩) n xc) := c25
        refine value_in hK (by kernel_rfl) ((.slice (some ⟨g, 0, none⟩) n xc)) (w25) (by go_simp) (trivial) ?_
        simp only [Act.put, List.setIfInBounds_toArray, List.set_cons_zero, List.set_cons_succ]
        refine take_held 14 (by assumption) rfl (by kernel_rfl) (by kernel_rfl) (by kernel_rfl) (fun _ _ _ h => h) (by kernel_rfl) (v := (.slice (some ad) (n - (j + 1)) (xc - (j + 1)))) ?y57 ?r57
        case y57 => (intro u hu; go_simp; (try simp only [Int.toNat_natCast]); (try rw [if_pos ⟨by omega, by omega⟩]); (try rw [had]); (try (intro hng; omega)))
        simp only [Act.put, List.setIfInBounds_toArray, List.set_cons_zero, List.set_cons_succ]
        refine wpAnyH_ready (rs := [15]) (by kernel_rfl) (by simp) (AllReadyH.cons ((nth_eq _ 15).trans rfl) ?_ AllReadyH.nil)
        intro K' hK
        refine value_in hK (by kernel_rfl) ((.slice v3a m3 v3c)) (w33) (run_append_opV _ _ rfl _ _ _ rfl rfl hrun33) (trivial) ?_
        simp only [Act.put, List.setIfInBounds_toArray, List.set_cons_zero, List.set_cons_succ]
        refine take_held 16 (by assumption) rfl (by kernel_rfl) (by kernel_rfl) (by kernel_rfl) (fun _ _ _ h => h) (by kernel_rfl) (v := ?v58) ?y58 ?r58
        case y58 => (intro u hu; go_simp; try rfl)
        simp only [Act.put, List.setIfInBounds_toArray, List.set_cons_zero, List.set_cons_succ]
        refine take_held 17 (by assumption) rfl (by kernel_rfl) (by kernel_rfl) (by kernel_rfl) (fun _ _ _ h => h) (by kernel_rfl) (v := ?v59) ?y59 ?r59
        case y59 => (intro u hu; go_simp; try rfl)
        simp only [Act.put, List.setIfInBounds_toArray, List.set_cons_zero, List.set_cons_succ]
        refine wpAnyH_ready (rs := [18]) (by kernel_rfl) (by simp) (AllReadyH.cons ((nth_eq _ 18).trans rfl) ?_ AllReadyH.nil)
        intro K' hK
        have c33' := c33
        have f33' := f33
        refine skip_in hK (by kernel_rfl) (w33.setCell ⟨r, 0, none⟩ (.slice v3a m3 v3c)) (by go_simp; try rfl) (trivial) ?_
        simp only [Act.put, List.setIfInBounds_toArray, List.set_cons_zero, List.set_cons_succ]
        refine done_held (by kernel_rfl) ?_ _
        simp only [calm]
        go_wp2
        go_meet
        rfl
      · intro K' hK
        have lc : W5.drew.cell? ⟨r, 0, none⟩ = some (.slice (some ⟨g, 0, none⟩) n xc) := hc5
        refine value_in hK (by kernel_rfl) ((.slice (some ⟨g, 0, none⟩) n xc)) (W5.drew) (by go_simp) (trivial) ?_
        simp only [Act.put, List.setIfInBounds_toArray, List.set_cons_zero, List.set_cons_succ]
        refine take_held 14 (by assumption) rfl (by kernel_rfl) (by kernel_rfl) (by kernel_rfl) (fun _ _ _ h => h) (by kernel_rfl) (v := (.slice (some ad) (n - (j + 1)) (xc - (j + 1)))) ?y60 ?r60
        case y60 => (intro u hu; go_simp; (try simp only [Int.toNat_natCast]); (try rw [if_pos ⟨by omega, by omega⟩]); (try rw [had]); (try (intro hng; omega)))
        simp only [Act.put, List.setIfInBounds_toArray, List.set_cons_zero, List.set_cons_succ]
        refine wpAnyH_ready (rs := [7]) (by kernel_rfl) (by simp) (AllReadyH.cons ((nth_eq _ 7).trans rfl) ?_ AllReadyH.nil)
        intro K' hK
        refine value_in hK (by kernel_rfl) (v25) (w25) (run_append_opV _ _ rfl _ _ _ rfl rfl hrun25) (trivial) ?_
        simp only [Act.put, List.setIfInBounds_toArray, List.set_cons_zero, List.set_cons_succ]
        refine wpAnyH_ready (rs := [15]) (by kernel_rfl) (by simp) (AllReadyH.cons ((nth_eq _ 15).trans rfl) ?_ AllReadyH.nil)
        intro K' hK
        refine value_in hK (by kernel_rfl) ((.slice v3a m3 v3c)) (w33) (run_append_opV _ _ rfl _ _ _ rfl rfl hrun33) (trivial) ?_
        simp only [Act.put, List.setIfInBounds_toArray, List.set_cons_zero, List.set_cons_succ]
        refine take_held 16 (by assumption) rfl (by kernel_rfl) (by kernel_rfl) (by kernel_rfl) (fun _ _ _ h => h) (by kernel_rfl) (v := ?v61) ?y61 ?r61
        case y61 => (intro u hu; go_simp; try rfl)
        simp only [Act.put, List.setIfInBounds_toArray, List.set_cons_zero, List.set_cons_succ]
        refine take_held 17 (by assumption) rfl (by kernel_rfl) (by kernel_rfl) (by kernel_rfl) (fun _ _ _ h => h) (by kernel_rfl) (v := ?v62) ?y62 ?r62
        case y62 => (intro u hu; go_simp; try rfl)
        simp only [Act.put, List.setIfInBounds_toArray, List.set_cons_zero, List.set_cons_succ]
        refine wpAnyH_ready (rs := [18]) (by kernel_rfl) (by simp) (AllReadyH.cons ((nth_eq _ 18).trans rfl) ?_ AllReadyH.nil)
        intro K' hK
        have c33' := c33
        have f33' := f33
        refine skip_in hK (by kernel_rfl) (w33.setCell ⟨r, 0, none⟩ (.slice v3a m3 v3c)) (by go_simp; try rfl) (trivial) ?_
        simp only [Act.put, List.setIfInBounds_toArray, List.set_cons_zero, List.set_cons_succ]
        refine done_held (by kernel_rfl) ?_ _
        simp only [calm]
        go_wp2
        go_meet
        rfl
    · intro K' hK
      have lc : W5.drew.cell? ⟨r, 0, none⟩ = some (.slice (some ⟨g, 0, none⟩) n xc) := hc5
      refine value_in hK (by kernel_rfl) ((.slice (some ⟨g, 0, none⟩) n xc)) (W5.drew) (by go_simp) (trivial) ?_
      simp only [Act.put, List.setIfInBounds_toArray, List.set_cons_zero, List.set_cons_succ]
      refine take_held 14 (by assumption) rfl (by kernel_rfl) (by kernel_rfl) (by kernel_rfl) (fun _ _ _ h => h) (by kernel_rfl) (v := (.slice (some ad) (n - (j + 1)) (xc - (j + 1)))) ?y63 ?r63
      case y63 => (intro u hu; go_simp; (try simp only [Int.toNat_natCast]); (try rw [if_pos ⟨by omega, by omega⟩]); (try rw [had]); (try (intro hng; omega)))
      simp only [Act.put, List.setIfInBounds_toArray, List.set_cons_zero, List.set_cons_succ]
      refine wpAnyH_ready (rs := [4]) (by kernel_rfl) (by simp) (AllReadyH.cons ((nth_eq _ 4).trans rfl) ?_ AllReadyH.nil)
      intro K' hK
      have lc : W5.drew.cell? ⟨r, 0, none⟩ = some (.slice (some ⟨g, 0, none⟩) n xc) := hc5
      refine value_in hK (by kernel_rfl) ((.slice (some ⟨g, 0, none⟩) n xc)) (W5.drew) (by go_simp) (trivial) ?_
      simp only [Act.put, List.setIfInBounds_toArray, List.set_cons_zero, List.set_cons_succ]
      refine take_held 6 (by assumption) rfl (by kernel_rfl) (by kernel_rfl) (by kernel_rfl) (fun _ _ _ h => h) (by kernel_rfl) (v := (.slice (some ⟨g, 0, none⟩) j xc)) ?y64 ?r64
      case y64 => (intro u hu; go_simp; try rfl)
      simp only [Act.put, List.setIfInBounds_toArray, List.set_cons_zero, List.set_cons_succ]
      refine wpAnyH_ready (rs := [7]) (by kernel_rfl) (by simp) (AllReadyH.cons ((nth_eq _ 7).trans rfl) ?_ AllReadyH.nil)
      intro K' hK
      refine value_in hK (by kernel_rfl) (v25) (w25) (run_append_opV _ _ rfl _ _ _ rfl rfl hrun25) (trivial) ?_
      simp only [Act.put, List.setIfInBounds_toArray, List.set_cons_zero, List.set_cons_succ]
      refine wpAnyH_ready (rs := [15]) (by kernel_rfl) (by simp) (AllReadyH.cons ((nth_eq _ 15).trans rfl) ?_ AllReadyH.nil)
      intro K' hK
      refine value_in hK (by kernel_rfl) ((.slice v3a m3 v3c)) (w33) (run_append_opV _ _ rfl _ _ _ rfl rfl hrun33) (trivial) ?_
      simp only [Act.put, List.setIfInBounds_toArray, List.set_cons_zero, List.set_cons_succ]
      refine take_held 16 (by assumption) rfl (by kernel_rfl) (by kernel_rfl) (by kernel_rfl) (fun _ _ _ h => h) (by kernel_rfl) (v := ?v65) ?y65 ?r65
      case y65 => (intro u hu; go_simp; try rfl)
      simp only [Act.put, List.setIfInBounds_toArray, List.set_cons_zero, List.set_cons_succ]
      refine take_held 17 (by assumption) rfl (by kernel_rfl) (by kernel_rfl) (by kernel_rfl) (fun _ _ _ h => h) (by kernel_rfl) (v := ?v66) ?y66 ?r66
      case y66 => (intro u hu; go_simp; try rfl)
      simp only [Act.put, List.setIfInBounds_toArray, List.set_cons_zero, List.set_cons_succ]
      refine wpAnyH_ready (rs := [18]) (by kernel_rfl) (by simp) (AllReadyH.cons ((nth_eq _ 18).trans rfl) ?_ AllReadyH.nil)
      intro K' hK
      have c33' := c33
      have f33' := f33
      refine skip_in hK (by kernel_rfl) (w33.setCell ⟨r, 0, none⟩ (.slice v3a m3 v3c)) (by go_simp; try rfl) (trivial) ?_
      simp only [Act.put, List.setIfInBounds_toArray, List.set_cons_zero, List.set_cons_succ]
      refine done_held (by kernel_rfl) ?_ _
      simp only [calm]
      go_wp2
      go_meet
      rfl
  case rest =>
    obtain rfl := hcut
    have sz5 : w1.heap.size < W5.heap.size := lt_some z5
    have rl5 := R5.lt
    have rlw : r < w.heap.size := hl
    obtain ⟨Y, hY⟩ : ∃ Y, w33.setCell ⟨r, 0, none⟩ (.slice v3a m3 v3c) = Y := ⟨_, rfl⟩
    rw [hY] at P
    have oY : ∀ k, k < W5.heap.size → k ≠ r → Y.heap[k]? = W5.heap[k]? := fun k hk hr => by rw [← hY]; exact (Below.heap_setCell _ _ _ k hr).trans (same33 k hk)
    have eY := (oY w.heap.size (by omega) (by omega)).trans e5
    have zY := (oY w1.heap.size sz5 (by omega)).trans z5
    have y0 : Y.cell? ⟨w.heap.size, 0, none⟩ = some (.int .i64 0) := by simp [World.cell?, eY]
    have y1 : Y.cell? ⟨w.heap.size, 1, none⟩ = some (.int .i64 0) := by simp [World.cell?, eY]
    have u0 : Y.cell? ⟨w1.heap.size, 0, none⟩ = some (.int .i64 z.1) := by simp [World.cell?, zY]
    have u1 : Y.cell? ⟨w1.heap.size, 1, none⟩ = some (.int .i64 z.2) := by simp [World.cell?, zY]
    have q0 : Y.frozen? ⟨w.heap.size, 0, none⟩ = false := by simp [World.frozen?, eY]
    have q1 : Y.frozen? ⟨w.heap.size, 1, none⟩ = false := by simp [World.frozen?, eY]
    have T := (Tn.below (b := r) (v := .slice (some ⟨g, 0, none⟩) n xc) (bcat bb b5)).trans P.2
    have v3o : ∀ k, (Value.slice v3a m3 v3c).ownBlock = some k → k ≠ w.heap.size := fun k hk => by have := (own_since o33 k hk).1; omega
    clear hrun25 hrun33 o25 o33 g25 g33 same25 same33 c25 c33 f33 ag rw5 hc5 hW5
    try rw [hY]
    clear hY
    go_wp2
    have bl : ∀ k, k ≠ w.heap.size → ((Y.setCell ⟨w.heap.size, 0, none⟩ (.int .i64 z.1)).setCell ⟨w.heap.size, 1, none⟩ (.int .i64 z.2)).heap[k]? = Y.heap[k]? := fun k hk => (Below.heap_setCell _ _ _ k hk).trans (Below.heap_setCell _ _ _ k hk)
    refine bodyPost_ret (results_cell_tmp Try.results17 _ _ w.heap.size _ rfl (by go_simp)) rfl ⟨rfl, .slice v3a m3 v3c, P.1.same (bl r (by omega)) (fun k hk => bl k (v3o k hk)), ⟨T.os, T.tape, T.output, by simp only [World.setCell, Array.size_modify]; exact T.size, fun k hk hb hv => (bl k (by omega)).trans (T.block k hk hb hv), T.own⟩⟩
end Go.Proofs.Ytpbmkflkggeggaa.Hp
