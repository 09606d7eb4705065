/-
  A job that nobody does yet, and the jobs that put away what lies above.
-/
import Derived.Test.YtebfjldbhmmmlaaDgK
import Derived.Test.YtebfjldbhmmmlaaDgD
import Derived.Test.YtebfjldbhmmmlaaDgG
namespace Go.Proofs.Ytebfjldbhmmmlaa.Dig
set_option linter.unusedVariables false
set_option linter.unusedSimpArgs false
open Go Go.RowKit Go.Shelf Go.Proofs Go.Proofs.Ytebfjldbhmmmlaa.Grid
attribute [local go_sem] Oper.semAt_some

/- Kind, bin, from, to. -/
abbrev Jb := Int × Int × Cell × Cell
def jobL (j : Jb) : List Value := [.int .i64 0, .int .i64 j.1, .int .i64 0, .int .i64 j.2.1, .int .i64 j.2.2.1.1, .int .i64 j.2.2.1.2, .int .i64 j.2.2.2.1, .int .i64 j.2.2.2.2, .int .i64 (-1)]
theorem infoJob : (Try.prog.info? 41).map (fun i => (i.zero, i.size, i.bytes)) = some (some (.agg #[.int .i64 0, .int .i64 0, .int .i64 0, .int .i64 0, .int .i64 0, .int .i64 0, .int .i64 0, .int .i64 0, .int .i64 0]), 9, 72) := by kernel_rfl
theorem kindJob : Kind jobL 32 41 9 72 :=
  ⟨fun _ => rfl, fun x u hu => by simp [jobL] at hu; rcases hu with rfl | rfl | rfl | rfl | rfl | rfl | rfl | rfl | rfl <;> rfl, Try.underlying32, by decide, by obtain ⟨i0, hi, hz0, hz1, hz2⟩ := info_parts infoJob; exact ⟨i0, _, hi, hz0, hz1, hz2, rfl⟩⟩
theorem info_job : (Try.prog.info? 41).map (·.size) = some 9 := by kernel_rfl
set_option maxRecDepth 100000 in
theorem job_any (kd bn : Int) (f p : Cell) (w : World) : Calls Try.prog 22 #[.int .i64 kd, .int .i64 bn, .agg #[.int .i64 f.1, .int .i64 f.2], .agg #[.int .i64 p.1, .int .i64 p.2]] w fun e w' => ∃ v, e = .returned v ∧ (v = .agg #[.int .i64 0, .int .i64 kd, .int .i64 0, .int .i64 bn, .int .i64 f.1, .int .i64 f.2, .int .i64 p.1, .int .i64 p.2, .int .i64 (-1)] ∧ Below w.heap.size w w') := by
  have b3 : Below w.heap.size w (((w.alloc (.cells #[.int .i64 f.1, .int .i64 f.2] 30)).alloc (.cells #[.int .i64 p.1, .int .i64 p.2] 30)).alloc (.cells #[.int .i64 0, .int .i64 kd, .int .i64 0, .int .i64 bn, .int .i64 f.1, .int .i64 f.2, .int .i64 p.1, .int .i64 p.2, .int .i64 (-1)] 41)) := below_new (below_two _ _ _) _
  have h8 : (((w.alloc (.cells #[.int .i64 f.1, .int .i64 f.2] 30)).alloc (.cells #[.int .i64 p.1, .int .i64 p.2] 30)).alloc (.cells #[.int .i64 0, .int .i64 kd, .int .i64 0, .int .i64 bn, .int .i64 f.1, .int .i64 f.2, .int .i64 p.1, .int .i64 p.2, .int .i64 (-1)] 41)).heap[w.heap.size + 2]? = some (.cells #[.int .i64 0, .int .i64 kd, .int .i64 0, .int .i64 bn, .int .i64 f.1, .int .i64 f.2, .int .i64 p.1, .int .i64 p.2, .int .i64 (-1)] 41 (0, 0)) := by
    rw [show w.heap.size + 2 = ((w.alloc (.cells #[.int .i64 f.1, .int .i64 f.2] 30)).alloc (.cells #[.int .i64 p.1, .int .i64 p.2] 30)).heap.size by simp]
    exact heap_alloc_new _ _
  go_enter Try.func22, Try.ntmps22
  go_wp2
  exact bodyPost_ret (results_cell_row rfl _ _ (w.heap.size + 2) 41 #[.int .i64 0, .int .i64 kd, .int .i64 0, .int .i64 bn, .int .i64 f.1, .int .i64 f.2, .int .i64 p.1, .int .i64 p.2, .int .i64 (-1)] (0, 0) _ rfl h8 Try.underlying41 rfl info_job) rfl ⟨_, rfl, rfl, b3⟩
/- The first k of those that put away. -/
def awaysP (ab : List Int) (f : Cell) (ps : List Cell) (k : Nat) : List Jb := (List.range k).map fun i => (1, ab.getD (ab.length - 1 - i) 0, f, ps.getD i (0, 0))
theorem awaysP_succ (ab : List Int) (f : Cell) (ps : List Cell) (k : Nat) : awaysP ab f ps (k + 1) = awaysP ab f ps k ++ [(1, ab.getD (ab.length - 1 - k) 0, f, ps.getD k (0, 0))] := by
  unfold awaysP
  rw [List.range_succ, List.map_append]
  rfl
theorem awaysP_len (ab : List Int) (f : Cell) (ps : List Cell) (k : Nat) : (awaysP ab f ps k).length = k := by simp [awaysP]
set_option maxRecDepth 100000 in
set_option maxHeartbeats 4000000 in
theorem aways_any (ab : List Int) (f : Cell) (ps : List Cell) (va vp : Value) (Fa Fp : Nat → Prop) (w : World) (hA : ListAt 1 intEl Fa ab va w) (hP : ListAt 2 cellEl Fp ps vp w) (hFa : ∀ b, Fa b → b < w.heap.size) (hFp : ∀ b, Fp b → b < w.heap.size) (hl : ab.length ≤ ps.length) (hm : ab.length ≤ 1000000) (hm2 : ps.length ≤ 1000000) :
    Calls Try.prog 21 #[va, .agg #[.int .i64 f.1, .int .i64 f.2], vp] w fun e w' => ∃ v, e = .returned v ∧ w'.ownsRow w.heap.size 41 9 v (awaysP ab f ps ab.length).length (rowL jobL (awaysP ab f ps ab.length)) ∧ Below w.heap.size w w' := by
  obtain ⟨aa, ac, hva, _⟩ := hA.form
  obtain ⟨pa, pc, hvp, _⟩ := hP.form
  subst hva hvp
  obtain ⟨n, hn⟩ : ∃ n, ab.length = n := ⟨_, rfl⟩
  obtain ⟨m, hmm⟩ : ∃ m, ps.length = m := ⟨_, rfl⟩
  have HNn : Hid (ab.length = n) := hn
  have HMm : Hid (ps.length = m) := hmm
  rw [hn] at hA hl hm ⊢
  rw [hmm] at hP hl hm2 ⊢
  obtain ⟨wb, hwb⟩ : ∃ wb, wb = w.alloc (.cells #[.int .i64 f.1, .int .i64 f.2] 30) := ⟨_, rfl⟩
  have Bt : Below w.heap.size w wb := by rw [hwb]; exact below_new (Below.refl _ _) _
  have hf : wb.heap[w.heap.size]? = some (.cells #[.int .i64 f.1, .int .i64 f.2] 30 (0, 0)) := by rw [hwb]; exact heap_alloc_new w _
  have HAw : Hid (∀ u, Below wb.heap.size wb u → ListAt 1 intEl Fa ab (.slice aa n ac) u) := fun u b => hA.go heldInt hFa (bcat Bt b (Nat.le_refl _))
  have HPw : Hid (∀ u, Below wb.heap.size wb u → ListAt 2 cellEl Fp ps (.slice pa m pc) u) := fun u b => hP.go heldCell hFp (bcat Bt b (Nat.le_refl _))
  have HFw : Hid (∀ u, Below wb.heap.size wb u → u.heap[w.heap.size]? = some (.cells #[.int .i64 f.1, .int .i64 f.2] 30 (0, 0))) := fun u b => (b.block _ (lt_of_heap hf)).trans hf
  have own0 : Hid (wb.ownsRow wb.heap.size 41 9 (.slice none 0 0) (awaysP ab f ps 0).length (rowL jobL (awaysP ab f ps 0))) := ⟨rfl, .inl ⟨rfl, rfl⟩⟩
  have HB0 : Hid (Below wb.heap.size wb wb) := Below.refl _ _
  have HBt : Hid (Below w.heap.size w wb) := Bt
  clear hA hP hn hmm hf Bt
  go_enter Try.func21, Try.ntmps21
  go_upto_region 1 with fail
  rw [← hwb]
  clear hwb
  go_wp2_with fail
  go_loopw [7, 11] (fun v i wq => ∃ k : Nat, k ≤ n ∧ i = .int .i64 k ∧ Hid (wq.ownsRow wb.heap.size 41 9 v (awaysP ab f ps k).length (rowL jobL (awaysP ab f ps k))) ∧ Hid (Below wb.heap.size wb wq)) (fun _ i _ => n - (intOf i).toNat)
  case atStart => exact ⟨0, Nat.zero_le _, rfl, own0, HB0⟩
  case round =>
    clear own0 HB0
    obtain ⟨k, hk, rfl, HO, HB⟩ := hrel
    by_cases hlt : k < n
    · have hd : decide ((k : Int) < (n : Int)) = true := decide_eq_true (by omega)
      obtain ⟨jj, hjj⟩ : ∃ jj, n - 1 - k = jj := ⟨_, rfl⟩
      have hjl : jj < ab.length := by rw [HNn.out]; omega
      have hkl : k < ps.length := by rw [HMm.out]; omega
      have hSu := awaysP_succ ab f ps k
      have g1 : ab.getD (ab.length - 1 - k) 0 = ab[jj]'hjl := by
        rw [HNn.out, hjj, List.getD_eq_getElem?_getD, List.getElem?_eq_getElem hjl]; rfl
      have g2 : ps.getD k (0, 0) = ps[k]'hkl := by rw [List.getD_eq_getElem?_getD, List.getElem?_eq_getElem hkl]; rfl
      rw [g1, g2] at hSu
      obtain ⟨ap, acs, ac2, hv1, haF, hacs, hard⟩ := (HAw.out _ HB.out).item hjl
      obtain ⟨pp, pcs, pc2, hv2, hpF, hpcs, hprd⟩ := (HPw.out _ HB.out).item hkl
      have e1 : acs = #[Value.int .i64 (ab[jj]'hjl)] := hacs
      have e2 : pcs = #[Value.int .i64 (ps[k]'hkl).1, .int .i64 (ps[k]'hkl).2] := hpcs
      subst e1 e2
      generalize ab[jj]'hjl = bn at *
      generalize ps[k]'hkl = pk at *
      obtain ⟨rfl, rfl⟩ : aa = some ap ∧ ac = ac2 := by injection hv1 with h1 h2 h3; exact ⟨h1, h3⟩
      obtain ⟨rfl, rfl⟩ : pa = some pp ∧ pc = pc2 := by injection hv2 with h1 h2 h3; exact ⟨h1, h3⟩
      have HSu : Hid (awaysP ab f ps (k + 1) = awaysP ab f ps k ++ [(1, bn, f, pk)]) := hSu
      have HLn : Hid ((awaysP ab f ps k).length = k) := awaysP_len _ _ _ _
      have hlb := HBt.out.size
      have HBn : Hid (∀ u, Below wb.heap.size wb u → u.cell? (ap.add jj) = some (.int .i64 bn)) := fun u hu => by
        have := hard 0 (.int .i64 bn) rfl
        rw [Nat.mul_one, add_add, Nat.add_zero] at this
        have hb1 : ap.block < wb.heap.size := Nat.lt_of_lt_of_le (hFa _ haF) hlb
        exact (cell_same (by rw [block_add]; exact (hu.block _ hb1).trans (HB.out.block _ hb1).symm)).trans this
      have HPk : Hid (∀ u, Below wb.heap.size wb u → ∀ j z, #[Value.int .i64 pk.1, .int .i64 pk.2][j]? = some z → u.cell? ((pp.add (k * 2)).add j) = some z) := fun u hu j z hj => by
        have hb1 : pp.block < wb.heap.size := Nat.lt_of_lt_of_le (hFp _ hpF) hlb
        exact (cell_same (by rw [block_add, block_add]; exact (hu.block _ hb1).trans (HB.out.block _ hb1).symm)).trans (hprd j z hj)
      have HFr : Hid (∀ u, Below wb.heap.size wb u → ∀ j z, #[Value.int .i64 f.1, .int .i64 f.2][j]? = some z → u.cell? ((⟨w.heap.size, 0, none⟩ : Addr).add j) = some z) := fun u hu => row_below (HFw.out _ hu) (Below.refl _ _)
      have w1 : (n : Int) - 1 - (k : Int) = (jj : Int) := by omega
      have w2 : IntKind.i64.wrap (jj : Int) = (jj : Int) := by rw [IntKind.wrap_i64]; omega
      have w3 : IntKind.i64.wrap ((n : Int) - 1) = (n : Int) - 1 := by rw [IntKind.wrap_i64]; omega
      have hjn : (jj : Int) < (n : Int) := by omega
      have hkm : (k : Int) < (m : Int) := by omega
      clear hSu g1 g2 hv1 hv2 hard hprd hacs hpcs hjj haF hpF
      go_upto_region 5 with fail
      have S0 : Below wb.heap.size wb wr.drew := bcat HB.out (Below.refl _ _).drew (Nat.le_refl _)
      refine start_held (S := fun u => Below wb.heap.size wb u) 18 rfl (by kernel_rfl) S0 ?_
      simp only [Array.replicate_succ, Array.replicate_zero, List.push_toArray, List.nil_append, List.cons_append]
      refine take_held 0 S0 rfl (by kernel_rfl) (by kernel_rfl) (by kernel_rfl) (fun _ _ _ h => h) (by kernel_rfl) (v := ?v0) ?y0 ?r0
      case y0 => (intro u hu; go_simp; try rfl)
      simp only [Act.put, List.setIfInBounds_toArray, List.set_cons_zero, List.set_cons_succ]
      refine take_held 1 S0 rfl (by kernel_rfl) (by kernel_rfl) (by kernel_rfl) (fun _ _ _ h => h) (by kernel_rfl) (v := ?v1) ?y1 ?r1
      case y1 => (intro u hu; go_simp; try rfl)
      simp only [Act.put, List.setIfInBounds_toArray, List.set_cons_zero, List.set_cons_succ]
      refine take_held 2 S0 rfl (by kernel_rfl) (by kernel_rfl) (by kernel_rfl) (fun _ _ _ h => h) (by kernel_rfl) (v := ?v2) ?y2 ?r2
      case y2 => (intro u hu; go_simp; try rfl)
      simp only [Act.put, List.setIfInBounds_toArray, List.set_cons_zero, List.set_cons_succ]
      refine take_held 3 S0 rfl (by kernel_rfl) (by kernel_rfl) (by kernel_rfl) (fun _ _ _ h => h) (by kernel_rfl) (v := ?v3) ?y3 ?r3
      case y3 => (intro u hu; go_simp; try rfl)
      simp only [Act.put, List.setIfInBounds_toArray, List.set_cons_zero, List.set_cons_succ]
      refine take_held 4 S0 rfl (by kernel_rfl) (by kernel_rfl) (by kernel_rfl) (fun _ _ _ h => h) (by kernel_rfl) (v := ?v4) ?y4 ?r4
      case y4 => (intro u hu; go_simp; try rfl)
      simp only [Act.put, List.setIfInBounds_toArray, List.set_cons_zero, List.set_cons_succ]
      refine take_held 5 S0 rfl (by kernel_rfl) (by kernel_rfl) (by kernel_rfl) (fun _ _ _ h => h) (by kernel_rfl) (v := ?v5) ?y5 ?r5
      case y5 => (intro u hu; go_simp; try rfl)
      simp only [Act.put, List.setIfInBounds_toArray, List.set_cons_zero, List.set_cons_succ]
      refine take_held 6 S0 rfl (by kernel_rfl) (by kernel_rfl) (by kernel_rfl) (fun _ _ _ h => h) (by kernel_rfl) (v := ?v6) ?y6 ?r6
      case y6 => (intro u hu; go_simp; try rfl)
      simp only [Act.put, List.setIfInBounds_toArray, List.set_cons_zero, List.set_cons_succ]
      refine take_held 7 S0 rfl (by kernel_rfl) (by kernel_rfl) (by kernel_rfl) (fun _ _ _ h => h) (by kernel_rfl) (v := ?v7) ?y7 ?r7
      case y7 => (intro u hu; go_simp; try rfl)
      simp only [Act.put, List.setIfInBounds_toArray, List.set_cons_zero, List.set_cons_succ]
      refine take_held 8 S0 rfl (by kernel_rfl) (by kernel_rfl) (by kernel_rfl) (fun _ _ _ h => h) (by kernel_rfl) (v := .int .i64 bn) ?y8 ?r8
      case y8 => (intro u hu; have zz := HBn.out u hu; go_simp; try rfl)
      simp only [Act.put, List.setIfInBounds_toArray, List.set_cons_zero, List.set_cons_succ]
      refine take_held 9 S0 rfl (by kernel_rfl) (by kernel_rfl) (by kernel_rfl) (fun _ _ _ h => h) (by kernel_rfl) (v := .agg #[.int .i64 f.1, .int .i64 f.2]) ?y9 ?r9
      case y9 => (intro u hu; exact run_load_op 30 _ rfl ⟨w.heap.size, 0, none⟩ _ rfl (HFr.out u hu) (aggCell u) infoCell2)
      simp only [Act.put, List.setIfInBounds_toArray, List.set_cons_zero, List.set_cons_succ]
      refine take_held 10 S0 rfl (by kernel_rfl) (by kernel_rfl) (by kernel_rfl) (fun _ _ _ h => h) (by kernel_rfl) (v := ?v10) ?y10 ?r10
      case y10 => (intro u hu; go_simp; try rfl)
      simp only [Act.put, List.setIfInBounds_toArray, List.set_cons_zero, List.set_cons_succ]
      refine take_held 11 S0 rfl (by kernel_rfl) (by kernel_rfl) (by kernel_rfl) (fun _ _ _ h => h) (by kernel_rfl) (v := ?v11) ?y11 ?r11
      case y11 => (intro u hu; go_simp; try rfl)
      simp only [Act.put, List.setIfInBounds_toArray, List.set_cons_zero, List.set_cons_succ]
      refine take_held 12 S0 rfl (by kernel_rfl) (by kernel_rfl) (by kernel_rfl) (fun _ _ _ h => h) (by kernel_rfl) (v := ?v12) ?y12 ?r12
      case y12 => (intro u hu; go_simp; try rfl)
      simp only [Act.put, List.setIfInBounds_toArray, List.set_cons_zero, List.set_cons_succ]
      refine take_held 13 S0 rfl (by kernel_rfl) (by kernel_rfl) (by kernel_rfl) (fun _ _ _ h => h) (by kernel_rfl) (v := .agg #[.int .i64 pk.1, .int .i64 pk.2]) ?y13 ?r13
      case y13 => (intro u hu; exact run_load_op 30 _ rfl (pp.add (k * 2)) _ rfl (HPk.out u hu) (aggCell u) infoCell2)
      simp only [Act.put, List.setIfInBounds_toArray, List.set_cons_zero, List.set_cons_succ]
      refine wpAnyH_ready (rs := [14]) (by kernel_rfl) (by simp) (AllReadyH.cons ((nth_eq _ 14).trans rfl) ?_ AllReadyH.nil)
      intro K' hK
      refine call_in hK (by kernel_rfl) 22 #[.int .i64 1, .int .i64 bn, .agg #[.int .i64 f.1, .int .i64 f.2], .agg #[.int .i64 pk.1, .int .i64 pk.2]] (by go_simp) _ (job_any 1 bn f pk _) ?_
      rintro v w6 ⟨rfl, b6⟩
      have T6 : Below wr.heap.size wr w6 := bcat (Below.refl _ _).drew b6 (Nat.le_refl _)
      have S6 : Below wb.heap.size wb w6 := bcat HB.out T6 (Nat.le_refl _)
      refine ⟨S6, ?_⟩
      simp only [Act.put, List.setIfInBounds_toArray, List.set_cons_zero, List.set_cons_succ]
      refine wpAnyH_ready (rs := [15]) (by kernel_rfl) (by simp) (AllReadyH.cons ((nth_eq _ 15).trans rfl) ?_ AllReadyH.nil)
      intro K1 hK1
      have b7 : Below w6.heap.size w6 (w6.alloc (.cells #[.int .i64 0, .int .i64 1, .int .i64 0, .int .i64 bn, .int .i64 f.1, .int .i64 f.2, .int .i64 pk.1, .int .i64 pk.2, .int .i64 (-1)] 41)) := below_new (Below.refl _ _) _
      have L7 := list_one (f := jobL) (S := 9) w6 (1, bn, f, pk) 41 rfl
      have T7 : Below wr.heap.size wr (w6.alloc (.cells #[.int .i64 0, .int .i64 1, .int .i64 0, .int .i64 bn, .int .i64 f.1, .int .i64 f.2, .int .i64 pk.1, .int .i64 pk.2, .int .i64 (-1)] 41)) := bcat T6 b7 (Nat.le_refl _)
      have S7 : Below wb.heap.size wb (w6.alloc (.cells #[.int .i64 0, .int .i64 1, .int .i64 0, .int .i64 bn, .int .i64 f.1, .int .i64 f.2, .int .i64 pk.1, .int .i64 pk.2, .int .i64 (-1)] 41)) := bcat S6 b7 (Nat.le_refl _)
      refine value_in hK1 (by kernel_rfl) (.slice (some ⟨w6.heap.size, 0, none⟩) 1 1) (w6.alloc (.cells #[.int .i64 0, .int .i64 1, .int .i64 0, .int .i64 bn, .int .i64 f.1, .int .i64 f.2, .int .i64 pk.1, .int .i64 pk.2, .int .i64 (-1)] 41)) (by go_simp; try rfl) S7 ?_
      change ListAt 9 (ElL jobL) (fun b => b = w6.heap.size) [(1, bn, f, pk)] (.slice (some ⟨w6.heap.size, 0, none⟩) 1 1) (w6.alloc (.cells #[.int .i64 0, .int .i64 1, .int .i64 0, .int .i64 bn, .int .i64 f.1, .int .i64 f.2, .int .i64 pk.1, .int .i64 pk.2, .int .i64 (-1)] 41)) at L7
      generalize hw7 : w6.alloc (.cells #[.int .i64 0, .int .i64 1, .int .i64 0, .int .i64 bn, .int .i64 f.1, .int .i64 f.2, .int .i64 pk.1, .int .i64 pk.2, .int .i64 (-1)] 41) = w7 at *
      clear hw7
      simp only [Act.put, List.setIfInBounds_toArray, List.set_cons_zero, List.set_cons_succ]
      refine wpAnyH_ready (rs := [16]) (by kernel_rfl) (by simp) (AllReadyH.cons ((nth_eq _ 16).trans rfl) ?_ AllReadyH.nil)
      intro K2 hK2
      obtain ⟨v8, w8, hrun, own8, hgrow, hat⟩ := run_app kindJob (owns_go HO.out T7) L7 (by rw [HLn.out]; simp; omega) (by rw [HLn.out]; unfold maxLen; simp; omega) S7.size 32
      have B8 : Below wb.heap.size wb w8 := below_row2 S7 (Nat.le_refl _) (owns_go HO.out T7) hgrow
      refine value_in hK2 (by kernel_rfl) v8 w8 (run_app_op (t := 32) (.tmp 14) (.tmp 29) rfl u7 (.slice (some ⟨w6.heap.size, 0, none⟩) 1 1) v8 rfl rfl hrun) B8 ?_
      have HO8 : Hid (w8.ownsRow wb.heap.size 41 9 v8 (awaysP ab f ps (k + 1)).length (rowL jobL (awaysP ab f ps (k + 1)))) := by
        show w8.ownsRow wb.heap.size 41 9 v8 (awaysP ab f ps (k + 1)).length (rowL jobL (awaysP ab f ps (k + 1)))
        rw [HSu.out]
        exact own8
      have HB8 : Hid (Below wb.heap.size wb w8) := B8
      clear own8 hgrow hat hrun L7 B8
      simp only [Act.put, List.setIfInBounds_toArray, List.set_cons_zero, List.set_cons_succ]
      refine take_held 17 HB8.out rfl (by kernel_rfl) (by kernel_rfl) (by kernel_rfl) (fun _ _ _ h => h) (by kernel_rfl) (v := ?vz) ?yz ?rz
      case yz => (intro u hu; go_simp; try rfl)
      simp only [Act.put, List.setIfInBounds_toArray, List.set_cons_zero, List.set_cons_succ]
      refine done_held (by kernel_rfl) ?_ _
      go_wp2_with fail
      go_roundw
      case rel => exact ⟨k + 1, by omega, by go_num, HO8, HB8⟩
      case measure => simp only [intOf]; omega
    · obtain rfl : k = n := by omega
      have HO9 := own_lower HO.out HBt.out.size
      go_wp2
      go_ret
      exact ⟨_, rfl, HO9, bcat HBt.out HB.out (Nat.le_refl _)⟩
end Go.Proofs.Ytebfjldbhmmmlaa.Dig
