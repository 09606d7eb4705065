/-
  What was put away is put back, the last one first.
-/
import Derived.Test.YtebfjldbhmmmlaaDigBackJ
import Derived.Test.YtebfjldbhmmmlaaDgV
namespace Go.Proofs.Ytebfjldbhmmmlaa.Dig
set_option linter.unusedVariables false
set_option linter.unusedSimpArgs false
open Go Go.RowKit Go.Shelf Go.Proofs Go.Proofs.Ytebfjldbhmmmlaa.Grid Go.Proofs.Ytebfjldbhmmmlaa.Srt
attribute [local go_sem] Oper.semAt_some

/- The job that undoes one. -/
def agJ (x : Nat × Jb) : Jb := (3, x.2.2.1, x.2.2.2.2, x.2.2.2.1)
structure AgI (w : World) (Bs Nb : Nat) (sv : Value) (pre : List (Nat × Jb)) (V : World) : Prop where
  row : ∃ v, V.heap[w.heap.size]? = some (.cells #[v] 32 (0, 0)) ∧ V.ownsRow w.heap.size 41 9 v (pre.map agJ).length (rowL jobL (pre.map agJ))
  box : V.heap[Bs]? = some (.cells #[sv] 32 (0, 0))
  below : Below w.heap.size w V
  big : Nb ≤ V.heap.size
theorem agi_own {w : World} {Bs Nb N : Nat} {sv : Value} (hN : w.heap.size ≤ N) : OwnFrom N (fun (pre : List (Nat × Jb)) V => AgI w Bs Nb sv pre V) := by
  intro pre X Y row h hg hr
  have hr' := fun r e => (hr r e).2
  obtain ⟨v, h1, h2⟩ := h.row
  exact ⟨⟨v, cells_kept h1 hg hr', row_kept h2 hg hr'⟩, cells_kept h.box hg hr', h.below.grown hg h.below.size (fun k e => Nat.le_trans hN (hr k e).1), Nat.le_trans h.big hg.size⟩
theorem own_not_typed {V : World} {b k : Nat} {v : Value} {n : Nat} {xs cs : List Value} {t : TypeId} (h : V.ownsRow b 41 9 v n xs) {cc : Array Value} (hk : V.heap[k]? = some (.cells cc t (0, 0))) (ht : t ≠ 41) : v.ownBlock ≠ some k := fun e => by
  rcases h.2 with ⟨e', _⟩ | ⟨g2, cap2, cur2, e', _, hg2, _⟩
  · rw [e'] at e; cases e
  · rw [e'] at e
    cases e
    rw [hg2] at hk
    injection hk with q
    injection q with _ q2
    exact ht q2.symm
set_option maxRecDepth 100000 in
set_option maxHeartbeats 4000000 in
theorem agains_any (F : Nat → Prop) (js : List Jb) (ja : Option Addr) (jn jc : Nat) (w : World) (hJ : ListAt 9 (ElL jobL) F js (.slice ja jn jc) w) (hF : ∀ b, F b → b < w.heap.size) (hjn : jn ≤ 1000000) (css : Nat → Jb) (hcs : ∀ i (h : i < js.length), css i = js[i]'h) :
    Calls Try.prog 23 #[.slice ja jn jc] w fun e w' => ∃ v, e = .returned v ∧ w'.ownsRow w.heap.size 41 9 v ((down css jn 0).map agJ).length (rowL jobL ((down css jn 0).map agJ)) ∧ Below w.heap.size w w' := by
  refine (callsIn_wide (n := 9)).1 ?_
  have hln : js.length = jn := by
    obtain ⟨a, cap, e, _⟩ := hJ.form
    injection e with _ e2 _
    exact e2.symm
  obtain ⟨p, hp0, hp1, hit⟩ : ∃ p : Addr, (p.block = w.heap.size + 1 ∨ F p.block) ∧ (0 < jn → ja = some p ∧ F p.block) ∧ ∀ i, i < jn → ∀ j z, (jobV (css i))[j]? = some z → w.cell? ((p.add (i * 9)).add j) = some z := by
    rcases Nat.eq_zero_or_pos jn with h | h
    · exact ⟨⟨w.heap.size + 1, 0, none⟩, Or.inl rfl, fun q => by omega, fun i hi => by omega⟩
    · obtain ⟨p, cs, cap2, hv, hp, _, _⟩ := hJ.item (k := 0) (by omega)
      injection hv with q1 _ q3
      refine ⟨p, Or.inr hp, fun _ => ⟨q1, hp⟩, fun i hi j z hj => ?_⟩
      obtain ⟨p2, cs2, cap3, hv2, _, hce, hrd⟩ := hJ.item (k := i) (by omega)
      injection hv2 with r1 _ _
      rw [q1] at r1
      injection r1 with r1
      subst r1
      refine hrd j z ?_
      rw [hcs i (by omega)] at hj
      have hcs2 : cs2 = (jobL (js[i]'(by omega))).toArray := hce
      rw [hcs2]
      exact hj
  obtain ⟨w1, hw1⟩ : ∃ w1, w1 = w.alloc (.cells #[.slice none 0 0] 32) := ⟨_, rfl⟩
  have s1 : w1.heap.size = w.heap.size + 1 := by rw [hw1]; simp
  have b1 : Below w.heap.size w w1 := by rw [hw1]; exact below_new (Below.refl _ _) _
  have x1 : w1.heap[w.heap.size]? = some (.cells #[.slice none 0 0] 32 (0, 0)) := by rw [hw1]; exact heap_alloc_new w _
  have HB1 : Hid (Below w.heap.size w w1) := b1
  refine callsIn_of_wp_marks Try.func23 rfl trivial ?_ rfl
  simp only [Try.ntmps23, List.size_toArray, List.length_cons, List.length_nil, Nat.reduceAdd, Nat.reduceSub, Array.replicate_succ, Array.replicate_zero, List.push_toArray, List.append_toArray, List.nil_append, List.cons_append]
  gi_wp2_with (refine ⟨trivial, ?_⟩; rw [← hw1]; clear hw1; gi_at_call 47; refine (callsIn_wide.2 (backwardJ_any ja jn jc w1)).mono ?_; rintro e w5 ⟨rfl, hbs, b5⟩)
  rw [s1] at hbs
  try rw [s1]
  have bW : Below w.heap.size w w5 := bcat HB1.out b5 (Nat.le_refl _)
  have lb5 := lt_of_heap hbs
  have lp5 : p.block < w5.heap.size := by
    rcases hp0 with e | e
    · omega
    · have := hF _ e; have := bW.size; omega
  have x5 := (b5.block _ (lt_of_heap x1)).trans x1
  have hBk : BkJAt w5 (w.heap.size + 1) ja p jn jc css := ⟨hbs, fun q => (hp1 q).1, fun i hi j z hj => (cell_same (by rw [block_add, block_add]; exact bW.block _ (hF _ (hp1 (by omega)).2))).trans (hit i hi j z hj)⟩
  refine wpIn_rangeFunc_ownH rfl (by omega) (gf := 61) (lb := #[.pointer (some ⟨w.heap.size + 1, 0, none⟩)]) rfl trivial (enters_of Try.func61 (by kernel_rfl) rfl)
    (backJ_stops 8 (by omega) (w.heap.size + 1) ja p jn jc css hjn w5 hBk (fun _ => lp5)) K2.trans ?kb (Below.refl _ _) (fun _ => rfl)
    (fun pre V' => AgI w (w.heap.size + 1) w5.heap.size (.slice ja jn jc) pre V') (fun _ _ _ => False)
    (agi_own bW.size) (fun _ _ _ _ _ hs _ _ => hs)
    ⟨⟨_, x5, World.ownsRow_nil _ _ _ _⟩, hbs, bW, Nat.le_refl _⟩
    (fun x a' V => ∃ Bx, V.heap[Bx]? = some (.cells #[.int .i64 0, .int .i64 x.2.1, .int .i64 0, .int .i64 x.2.2.1, .int .i64 x.2.2.2.1.1, .int .i64 x.2.2.2.1.2, .int .i64 x.2.2.2.2.1, .int .i64 x.2.2.2.2.2, .int .i64 (-1)] 41 (0, 0)) ∧ (∀ v, V.heap[w.heap.size]? = some (.cells #[v] 32 (0, 0)) → v.ownBlock ≠ some Bx) ∧ w5.heap.size ≤ Bx ∧ w5.heap.size ≤ V.heap.size ∧ a' = { tmps := #[.slice ja jn jc, undef, .slice none 0 0, .pointer (some ⟨w.heap.size, 0, none⟩), undef, .pointer (some ⟨Bx, 0, none⟩), .slice ja jn jc, .func (.func 61) #[] #[.pointer (some ⟨w.heap.size + 1, 0, none⟩)], .int .i64 x.1, .agg #[.int .i64 0, .int .i64 x.2.1, .int .i64 0, .int .i64 x.2.2.1, .int .i64 x.2.2.2.1.1, .int .i64 x.2.2.2.1.2, .int .i64 x.2.2.2.2.1, .int .i64 x.2.2.2.2.2, .int .i64 (-1)], undef, undef, undef, undef, undef, undef, undef, undef, undef, undef, undef], defers := [] })
    ?ax ?assign ?body ?done ?stop
  case kb =>
    intro W' l o o' hl ho _ _
    have hg := grownBy_putObj' W' l o'
    have lw := lt_of_heap ho
    exact ⟨hg.block _ (by omega) (fun e => by cases e; omega), hg.block _ (by omega) (fun e => by cases e; omega)⟩
  case ax =>
    rintro x a' _ X Y row ⟨Bx, h1, h2, h3, h4, h5⟩ hg hr
    refine ⟨Bx, cells_kept h1 hg (fun r e => (hr r e).2), fun v hv => h2 v ?_, h3, Nat.le_trans h4 hg.size, h5⟩
    have := hg.block w.heap.size (by omega) (fun e => by have := (hr _ e.symm).1; omega)
    rw [← this]
    exact hv
  case assign =>
    rintro l pre x V K hI hK
    simp only [encJ, jobV, jobL]
    gi_wp2
    obtain ⟨v, hv, hrow⟩ := hI.row
    have hsz := hI.big
    refine hK _ _ ((KeepsOthers.alloc _ _).from _) ⟨Below.heap_alloc _ _ _ (by omega), Below.heap_alloc _ _ _ (by omega)⟩ ⟨⟨v, (Below.heap_alloc _ _ _ (lt_of_heap hv)).trans hv, hrow.alloc _⟩, (Below.heap_alloc _ _ _ (lt_of_heap hI.box)).trans hI.box, hI.below.alloc hI.below.size _, by simp; omega⟩ ⟨V.heap.size, World.alloc_heap_new _ _, fun v2 hv2 e => ?_, hsz, by simp; omega, rfl⟩
    rw [(Below.heap_alloc _ _ _ (lt_of_heap hv)).trans hv] at hv2
    injection hv2 with q
    injection q with q1 _
    injection q1 with q1
    injection q1 with q1
    subst q1
    have := (own_since hrow _ e).2
    omega
  case stop =>
    rintro D x pre V' _ _ h _
    exact h.elim
  case done =>
    rintro D ys V' hD rfl hI hKD
    obtain ⟨v, hv, hrow⟩ := hI.row
    obtain ⟨va, vc, hvf, _⟩ := own_form hrow
    obtain ⟨m, hm⟩ : ∃ m, ((down css jn 0).map agJ).length = m := ⟨_, rfl⟩
    rw [hm] at hvf
    subst hvf
    clear hm
    have hc := (cell_of hv 0).trans rfl
    gi_wp2
    refine ⟨by simp, .inl ⟨_, _, rfl, run_takeDeferred hKD, ?_⟩⟩
    refine ⟨_, results_tmp rfl _ _ _, _, rfl, ownsRow_putObj hrow _ hKD rfl, ?_⟩
    exact hI.below.grown (grownBy_putObj' V' D (.deferred none)) hI.below.size (fun k e => by cases e; have := bW.size; omega)
  case body =>
    rintro l pre x a' V' hl ⟨r, hr⟩ hI ⟨Bx, hBx, hnx0, hbx2, hvs, rfl⟩ hlt
    rw [down_len] at hlt
    obtain ⟨v, hv, hrow⟩ := hI.row
    have hnx := hnx0 v hv
    have hno := own_not_typed (cs := []) hrow hv (by decide)
    have hnb := own_not_typed (cs := []) hrow hI.box (by decide)
    have lbx := lt_of_heap hBx
    have lb1 := lt_of_heap hI.box
    have HI : Hid (AgI w (w.heap.size + 1) w5.heap.size (.slice ja jn jc) pre V') := hI
    have HVb : Hid (V'.heap[w.heap.size]? = some (.cells #[v] 32 (0, 0))) := hv
    have HRow : Hid (V'.ownsRow w.heap.size 41 9 v (pre.map agJ).length (rowL jobL (pre.map agJ))) := hrow
    have HV0 : Hid (∀ u : World, u.heap[w.heap.size]? = V'.heap[w.heap.size]? → u.cell? ⟨w.heap.size, 0, none⟩ = some v) := fun u hu => (cell_of (hu.trans hv) 0).trans rfl
    have HB3 : Hid (∀ u : World, (u.heap[Bx]? = V'.heap[Bx]?) → u.cell? ⟨Bx, 3, none⟩ = some (.int .i64 x.2.2.1)) := fun u hu => (cell_of (hu.trans hBx) 3).trans rfl
    have HB6 : Hid (∀ u : World, (u.heap[Bx]? = V'.heap[Bx]?) → ∀ j z, #[Value.int .i64 x.2.2.2.2.1, .int .i64 x.2.2.2.2.2][j]? = some z → u.cell? ((⟨Bx, 6, none⟩ : Addr).add j) = some z) := fun u hu j z hj => by
      match j, hj with
      | 0, h => exact (cell_of (hu.trans hBx) 6).trans h
      | 1, h => exact (cell_of (hu.trans hBx) 7).trans h
      | k + 2, h => simp at h
    have HB4 : Hid (∀ u : World, (u.heap[Bx]? = V'.heap[Bx]?) → ∀ j z, #[Value.int .i64 x.2.2.2.1.1, .int .i64 x.2.2.2.1.2][j]? = some z → u.cell? ((⟨Bx, 4, none⟩ : Addr).add j) = some z) := fun u hu j z hj => by
      match j, hj with
      | 0, h => exact (cell_of (hu.trans hBx) 4).trans h
      | 1, h => exact (cell_of (hu.trans hBx) 5).trans h
      | k + 2, h => simp at h
    have S0 : V'.drew.heap[Bx]? = V'.heap[Bx]? := rfl
    have TD : Below V'.heap.size V' V'.drew := (Below.refl _ _).drew
    have hnp : v.ownBlock ≠ some p.block := fun e => by
      have q := (own_since hrow _ e).1
      rcases hp0 with e2 | e2
      · rw [e2] at e
        exact hnb e
      · have := hF _ e2; omega
    have HNk : Hid (∀ k o, V'.heap[k]? = some o → o.isCells = false → v.ownBlock ≠ some k) := fun k o ho hc e => by
      rcases hrow.2 with ⟨e', _⟩ | ⟨g2, cap2, cur2, e', _, hg2, _⟩
      · rw [e'] at e; cases e
      · rw [e'] at e
        cases e
        rw [hg2] at ho
        cases ho
        cases hc
    obtain ⟨va, vc, hvf, _⟩ := own_form hrow
    have lpb : p.block < V'.heap.size := by omega
    have npw : p.block ≠ w.heap.size := by
      rcases hp0 with e2 | e2
      · omega
      · have := hF _ e2; omega
    clear hBx hv hI
    gi_wp2
    refine start_round (S := fun u => u.heap[Bx]? = V'.heap[Bx]?) 11 rfl (by kernel_rfl) (by kernel_rfl) (fun _ _ h => h) S0 ?_
    simp only [Array.replicate_succ, Array.replicate_zero, List.push_toArray, List.nil_append, List.cons_append]
    refine take_held 1 S0 rfl (by kernel_rfl) (by kernel_rfl) (by kernel_rfl) (fun _ _ _ h => h) (by kernel_rfl) (v := ?v10) ?y10 ?r10
    case y10 => (intro u hu; go_simp; try rfl)
    simp only [Act.put, List.setIfInBounds_toArray, List.set_cons_zero, List.set_cons_succ]
    refine take_held 2 S0 rfl (by kernel_rfl) (by kernel_rfl) (by kernel_rfl) (fun _ _ _ h => h) (by kernel_rfl) (v := .int .i64 x.2.2.1) ?y11 ?r11
    case y11 => (intro u hu; have zz := HB3.out u hu; go_simp; try rfl)
    simp only [Act.put, List.setIfInBounds_toArray, List.set_cons_zero, List.set_cons_succ]
    refine take_held 3 S0 rfl (by kernel_rfl) (by kernel_rfl) (by kernel_rfl) (fun _ _ _ h => h) (by kernel_rfl) (v := ?v12) ?y12 ?r12
    case y12 => (intro u hu; go_simp; try rfl)
    simp only [Act.put, List.setIfInBounds_toArray, List.set_cons_zero, List.set_cons_succ]
    refine take_held 4 S0 rfl (by kernel_rfl) (by kernel_rfl) (by kernel_rfl) (fun _ _ _ h => h) (by kernel_rfl) (v := .agg #[.int .i64 x.2.2.2.2.1, .int .i64 x.2.2.2.2.2]) ?y13 ?r13
    case y13 => (intro u hu; exact run_load_op 30 _ rfl ⟨Bx, 6, none⟩ _ rfl (HB6.out u hu) (aggCell u) infoCell2)
    simp only [Act.put, List.setIfInBounds_toArray, List.set_cons_zero, List.set_cons_succ]
    refine take_held 5 S0 rfl (by kernel_rfl) (by kernel_rfl) (by kernel_rfl) (fun _ _ _ h => h) (by kernel_rfl) (v := ?v14) ?y14 ?r14
    case y14 => (intro u hu; go_simp; try rfl)
    simp only [Act.put, List.setIfInBounds_toArray, List.set_cons_zero, List.set_cons_succ]
    refine take_held 6 S0 rfl (by kernel_rfl) (by kernel_rfl) (by kernel_rfl) (fun _ _ _ h => h) (by kernel_rfl) (v := .agg #[.int .i64 x.2.2.2.1.1, .int .i64 x.2.2.2.1.2]) ?y15 ?r15
    case y15 => (intro u hu; exact run_load_op 30 _ rfl ⟨Bx, 4, none⟩ _ rfl (HB4.out u hu) (aggCell u) infoCell2)
    simp only [Act.put, List.setIfInBounds_toArray, List.set_cons_zero, List.set_cons_succ]
    refine wpAnyH_ready (rs := [0, 7]) (by kernel_rfl) (by simp) (AllReadyH.cons ((nth_eq _ 0).trans rfl) ?_ (AllReadyH.cons ((nth_eq _ 7).trans rfl) ?_ AllReadyH.nil))
    · intro K0 hK0
      have z0 : V'.drew.cell? ⟨w.heap.size, 0, none⟩ = some v := HV0.out _ (TD.block _ (by omega))
      refine value_in hK0 (by kernel_rfl) v V'.drew (by clear hvf; go_simp; try rfl) (TD.block _ (by omega)) ?_
      simp only [Act.put, List.setIfInBounds_toArray, List.set_cons_zero, List.set_cons_succ]
      clear z0
      refine wpAnyH_ready (rs := [7]) (by kernel_rfl) (by simp) (AllReadyH.cons ((nth_eq _ 7).trans rfl) ?_ AllReadyH.nil)
      intro K1 hK1
      refine call_in hK1 (by kernel_rfl) 22 #[.int .i64 3, .int .i64 x.2.2.1, .agg #[.int .i64 x.2.2.2.2.1, .int .i64 x.2.2.2.2.2], .agg #[.int .i64 x.2.2.2.1.1, .int .i64 x.2.2.2.1.2]] (by go_simp) _ (job_any 3 x.2.2.1 x.2.2.2.2 x.2.2.2.1 _) ?_
      rintro vj w6 ⟨rfl, b6⟩
      have T6 : Below V'.heap.size V' w6 := bcat (Below.refl _ _).drew b6 (Nat.le_refl _)
      refine ⟨T6.block _ (by omega), ?_⟩
      simp only [Act.put, List.setIfInBounds_toArray, List.set_cons_zero, List.set_cons_succ]
      refine wpAnyH_ready (rs := [8]) (by kernel_rfl) (by simp) (AllReadyH.cons ((nth_eq _ 8).trans rfl) ?_ AllReadyH.nil)
      intro K2' hK2
      have b7 : Below w6.heap.size w6 (w6.alloc (.cells #[.int .i64 0, .int .i64 3, .int .i64 0, .int .i64 x.2.2.1, .int .i64 x.2.2.2.2.1, .int .i64 x.2.2.2.2.2, .int .i64 x.2.2.2.1.1, .int .i64 x.2.2.2.1.2, .int .i64 (-1)] 41)) := below_new (Below.refl _ _) _
      have L7 := list_one (f := jobL) (S := 9) w6 (agJ x) 41 rfl
      have T7 : Below V'.heap.size V' (w6.alloc (.cells #[.int .i64 0, .int .i64 3, .int .i64 0, .int .i64 x.2.2.1, .int .i64 x.2.2.2.2.1, .int .i64 x.2.2.2.2.2, .int .i64 x.2.2.2.1.1, .int .i64 x.2.2.2.1.2, .int .i64 (-1)] 41)) := bcat T6 b7 (Nat.le_refl _)
      refine value_in hK2 (by kernel_rfl) (.slice (some ⟨w6.heap.size, 0, none⟩) 1 1) (w6.alloc (.cells #[.int .i64 0, .int .i64 3, .int .i64 0, .int .i64 x.2.2.1, .int .i64 x.2.2.2.2.1, .int .i64 x.2.2.2.2.2, .int .i64 x.2.2.2.1.1, .int .i64 x.2.2.2.1.2, .int .i64 (-1)] 41)) (by go_simp; try rfl) (T7.block _ (by omega)) ?_
      change ListAt 9 (ElL jobL) (fun b => b = w6.heap.size) [agJ x] (.slice (some ⟨w6.heap.size, 0, none⟩) 1 1) (w6.alloc (.cells #[.int .i64 0, .int .i64 3, .int .i64 0, .int .i64 x.2.2.1, .int .i64 x.2.2.2.2.1, .int .i64 x.2.2.2.2.2, .int .i64 x.2.2.2.1.1, .int .i64 x.2.2.2.1.2, .int .i64 (-1)] 41)) at L7
      generalize hw7 : w6.alloc (.cells #[.int .i64 0, .int .i64 3, .int .i64 0, .int .i64 x.2.2.1, .int .i64 x.2.2.2.2.1, .int .i64 x.2.2.2.2.2, .int .i64 x.2.2.2.1.1, .int .i64 x.2.2.2.1.2, .int .i64 (-1)] 41) = w7 at *
      clear hw7
      simp only [Act.put, List.setIfInBounds_toArray, List.set_cons_zero, List.set_cons_succ]
      refine wpAnyH_ready (rs := [9]) (by kernel_rfl) (by simp) (AllReadyH.cons ((nth_eq _ 9).trans rfl) ?_ AllReadyH.nil)
      intro K3' hK3
      have t7 := T7.size
      obtain ⟨v8, w8, hrun, own8, hgrow, hat⟩ := run_app kindJob (owns_go HRow.out T7) L7 (by rw [List.length_map]; simp; omega) (by rw [List.length_map]; unfold maxLen; simp; omega) (by omega) 32
      have S8 : w8.heap[Bx]? = V'.heap[Bx]? := (hgrow.block _ (by omega) (fun e => hnx e.symm)).trans (T7.block _ (by omega))
      refine value_in hK3 (by kernel_rfl) v8 w8 (run_app_op (t := 32) (.tmp 10) (.tmp 18) rfl v (.slice (some ⟨w6.heap.size, 0, none⟩) 1 1) v8 rfl rfl hrun) S8 ?_
      simp only [Act.put, List.setIfInBounds_toArray, List.set_cons_zero, List.set_cons_succ]
      obtain ⟨a8, c8, hv8, _⟩ := own_form own8
      have h8 : w8.heap[w.heap.size]? = some (.cells #[v] 32 (0, 0)) := (hgrow.block _ (by omega) (fun e => hno e.symm)).trans ((T7.block _ (by omega)).trans HVb.out)
      have z8 : w8.cell? ⟨w.heap.size, 0, none⟩ = some v := (cell_of h8 0).trans rfl
      have f8 := frozen_of h8 0
      have hno8 : v8.ownBlock ≠ some w.heap.size := own_not_typed (cs := []) own8 h8 (by decide)
      obtain ⟨n8, hn8⟩ : ∃ n8, (List.map agJ pre ++ [agJ x]).length = n8 := ⟨_, rfl⟩
      rw [hn8] at hv8
      have HE : Hid (∃ u9 : World, u9 = w8.setCell ⟨w.heap.size, 0, none⟩ (.slice a8 n8 c8) ∧ KeepsFrom w5.heap.size V' u9 ∧ K2 (w.heap.size + 1) p.block V' u9 ∧ AgI w (w.heap.size + 1) w5.heap.size (.slice ja jn jc) (pre ++ [x]) u9) := by
        refine ⟨_, rfl, ?_, ?_, ?_⟩
        · exact ⟨by simp; have := hgrow.size; omega, fun k o hk ho _ => (heap_setCell_other _ _ _ _ (by simp; omega)).trans ((hgrow.block k (by have := lt_of_heap ho; omega) (fun e => HNk.out k o ho (by assumption) e.symm)).trans ((T7.block k (lt_of_heap ho)).trans ho))⟩
        · exact ⟨(heap_setCell_other _ _ _ _ (by simp)).trans ((hgrow.block _ (by omega) (fun e => hnb e.symm)).trans (T7.block _ (by omega))), (heap_setCell_other _ _ _ _ (by simp; omega)).trans ((hgrow.block _ (by omega) (fun e => hnp e.symm)).trans (T7.block _ (by omega)))⟩
        · refine ⟨⟨.slice a8 n8 c8, set_ptr h8, ?_⟩, (heap_setCell_other _ _ _ _ (by simp)).trans ((hgrow.block _ (by omega) (fun e => hnb e.symm)).trans ((T7.block _ (by omega)).trans HI.out.box)), below_set (HI.out.below.trans ((T7.mono HI.out.below.size).grown hgrow (by omega) (fun k e => (own_since HRow.out k e).1))) (Nat.le_refl _) _ _, by simp; have := hgrow.size; omega⟩
          rw [List.map_append]
          rw [hv8] at own8 hno8
          exact owns_same own8 fun k hk => heap_setCell_other _ _ _ _ (by intro q; simp at q; rw [q] at hk; exact hno8 hk)
      subst hv8
      obtain ⟨u9, hu9, HE1, HE2, HE3⟩ := HE.out
      refine store_held 10 rfl (by kernel_rfl) (by kernel_rfl) u9 (by rw [hu9]; clear hu9 HE hrun own8 hgrow hat L7 hn8 hvf; go_simp; try rfl) (by rw [hu9]; exact (heap_setCell_other _ _ _ _ (by simp; omega)).trans S8) ?_
      clear hu9
      simp only [Act.put, List.setIfInBounds_toArray, List.set_cons_zero, List.set_cons_succ]
      refine done_held (by kernel_rfl) ?_ _
      exact ⟨HE1, HE2, HE3⟩
    · intro K1 hK1
      refine call_in hK1 (by kernel_rfl) 22 #[.int .i64 3, .int .i64 x.2.2.1, .agg #[.int .i64 x.2.2.2.2.1, .int .i64 x.2.2.2.2.2], .agg #[.int .i64 x.2.2.2.1.1, .int .i64 x.2.2.2.1.2]] (by go_simp) _ (job_any 3 x.2.2.1 x.2.2.2.2 x.2.2.2.1 _) ?_
      rintro vj w6 ⟨rfl, b6⟩
      have T6 : Below V'.heap.size V' w6 := bcat (Below.refl _ _).drew b6 (Nat.le_refl _)
      refine ⟨T6.block _ (by omega), ?_⟩
      simp only [Act.put, List.setIfInBounds_toArray, List.set_cons_zero, List.set_cons_succ]
      refine wpAnyH_ready (rs := [0, 8]) (by kernel_rfl) (by simp) (AllReadyH.cons ((nth_eq _ 0).trans rfl) ?_ (AllReadyH.cons ((nth_eq _ 8).trans rfl) ?_ AllReadyH.nil))
      · intro K0 hK0
        have z0 : w6.cell? ⟨w.heap.size, 0, none⟩ = some v := HV0.out _ (T6.block _ (by omega))
        refine value_in hK0 (by kernel_rfl) v w6 (by clear hvf; go_simp; try rfl) (T6.block _ (by omega)) ?_
        simp only [Act.put, List.setIfInBounds_toArray, List.set_cons_zero, List.set_cons_succ]
        clear z0
        refine wpAnyH_ready (rs := [8]) (by kernel_rfl) (by simp) (AllReadyH.cons ((nth_eq _ 8).trans rfl) ?_ AllReadyH.nil)
        intro K2' hK2
        have b7 : Below w6.heap.size w6 (w6.alloc (.cells #[.int .i64 0, .int .i64 3, .int .i64 0, .int .i64 x.2.2.1, .int .i64 x.2.2.2.2.1, .int .i64 x.2.2.2.2.2, .int .i64 x.2.2.2.1.1, .int .i64 x.2.2.2.1.2, .int .i64 (-1)] 41)) := below_new (Below.refl _ _) _
        have L7 := list_one (f := jobL) (S := 9) w6 (agJ x) 41 rfl
        have T7 : Below V'.heap.size V' (w6.alloc (.cells #[.int .i64 0, .int .i64 3, .int .i64 0, .int .i64 x.2.2.1, .int .i64 x.2.2.2.2.1, .int .i64 x.2.2.2.2.2, .int .i64 x.2.2.2.1.1, .int .i64 x.2.2.2.1.2, .int .i64 (-1)] 41)) := bcat T6 b7 (Nat.le_refl _)
        refine value_in hK2 (by kernel_rfl) (.slice (some ⟨w6.heap.size, 0, none⟩) 1 1) (w6.alloc (.cells #[.int .i64 0, .int .i64 3, .int .i64 0, .int .i64 x.2.2.1, .int .i64 x.2.2.2.2.1, .int .i64 x.2.2.2.2.2, .int .i64 x.2.2.2.1.1, .int .i64 x.2.2.2.1.2, .int .i64 (-1)] 41)) (by go_simp; try rfl) (T7.block _ (by omega)) ?_
        change ListAt 9 (ElL jobL) (fun b => b = w6.heap.size) [agJ x] (.slice (some ⟨w6.heap.size, 0, none⟩) 1 1) (w6.alloc (.cells #[.int .i64 0, .int .i64 3, .int .i64 0, .int .i64 x.2.2.1, .int .i64 x.2.2.2.2.1, .int .i64 x.2.2.2.2.2, .int .i64 x.2.2.2.1.1, .int .i64 x.2.2.2.1.2, .int .i64 (-1)] 41)) at L7
        generalize hw7 : w6.alloc (.cells #[.int .i64 0, .int .i64 3, .int .i64 0, .int .i64 x.2.2.1, .int .i64 x.2.2.2.2.1, .int .i64 x.2.2.2.2.2, .int .i64 x.2.2.2.1.1, .int .i64 x.2.2.2.1.2, .int .i64 (-1)] 41) = w7 at *
        clear hw7
        simp only [Act.put, List.setIfInBounds_toArray, List.set_cons_zero, List.set_cons_succ]
        refine wpAnyH_ready (rs := [9]) (by kernel_rfl) (by simp) (AllReadyH.cons ((nth_eq _ 9).trans rfl) ?_ AllReadyH.nil)
        intro K3' hK3
        have t7 := T7.size
        obtain ⟨v8, w8, hrun, own8, hgrow, hat⟩ := run_app kindJob (owns_go HRow.out T7) L7 (by rw [List.length_map]; simp; omega) (by rw [List.length_map]; unfold maxLen; simp; omega) (by omega) 32
        have S8 : w8.heap[Bx]? = V'.heap[Bx]? := (hgrow.block _ (by omega) (fun e => hnx e.symm)).trans (T7.block _ (by omega))
        refine value_in hK3 (by kernel_rfl) v8 w8 (run_app_op (t := 32) (.tmp 10) (.tmp 18) rfl v (.slice (some ⟨w6.heap.size, 0, none⟩) 1 1) v8 rfl rfl hrun) S8 ?_
        simp only [Act.put, List.setIfInBounds_toArray, List.set_cons_zero, List.set_cons_succ]
        obtain ⟨a8, c8, hv8, _⟩ := own_form own8
        have h8 : w8.heap[w.heap.size]? = some (.cells #[v] 32 (0, 0)) := (hgrow.block _ (by omega) (fun e => hno e.symm)).trans ((T7.block _ (by omega)).trans HVb.out)
        have z8 : w8.cell? ⟨w.heap.size, 0, none⟩ = some v := (cell_of h8 0).trans rfl
        have f8 := frozen_of h8 0
        have hno8 : v8.ownBlock ≠ some w.heap.size := own_not_typed (cs := []) own8 h8 (by decide)
        obtain ⟨n8, hn8⟩ : ∃ n8, (List.map agJ pre ++ [agJ x]).length = n8 := ⟨_, rfl⟩
        rw [hn8] at hv8
        have HE : Hid (∃ u9 : World, u9 = w8.setCell ⟨w.heap.size, 0, none⟩ (.slice a8 n8 c8) ∧ KeepsFrom w5.heap.size V' u9 ∧ K2 (w.heap.size + 1) p.block V' u9 ∧ AgI w (w.heap.size + 1) w5.heap.size (.slice ja jn jc) (pre ++ [x]) u9) := by
          refine ⟨_, rfl, ?_, ?_, ?_⟩
          · exact ⟨by simp; have := hgrow.size; omega, fun k o hk ho _ => (heap_setCell_other _ _ _ _ (by simp; omega)).trans ((hgrow.block k (by have := lt_of_heap ho; omega) (fun e => HNk.out k o ho (by assumption) e.symm)).trans ((T7.block k (lt_of_heap ho)).trans ho))⟩
          · exact ⟨(heap_setCell_other _ _ _ _ (by simp)).trans ((hgrow.block _ (by omega) (fun e => hnb e.symm)).trans (T7.block _ (by omega))), (heap_setCell_other _ _ _ _ (by simp; omega)).trans ((hgrow.block _ (by omega) (fun e => hnp e.symm)).trans (T7.block _ (by omega)))⟩
          · refine ⟨⟨.slice a8 n8 c8, set_ptr h8, ?_⟩, (heap_setCell_other _ _ _ _ (by simp)).trans ((hgrow.block _ (by omega) (fun e => hnb e.symm)).trans ((T7.block _ (by omega)).trans HI.out.box)), below_set (HI.out.below.trans ((T7.mono HI.out.below.size).grown hgrow (by omega) (fun k e => (own_since HRow.out k e).1))) (Nat.le_refl _) _ _, by simp; have := hgrow.size; omega⟩
            rw [List.map_append]
            rw [hv8] at own8 hno8
            exact owns_same own8 fun k hk => heap_setCell_other _ _ _ _ (by intro q; simp at q; rw [q] at hk; exact hno8 hk)
        subst hv8
        obtain ⟨u9, hu9, HE1, HE2, HE3⟩ := HE.out
        refine store_held 10 rfl (by kernel_rfl) (by kernel_rfl) u9 (by rw [hu9]; clear hu9 HE hrun own8 hgrow hat L7 hn8 hvf; go_simp; try rfl) (by rw [hu9]; exact (heap_setCell_other _ _ _ _ (by simp; omega)).trans S8) ?_
        clear hu9
        simp only [Act.put, List.setIfInBounds_toArray, List.set_cons_zero, List.set_cons_succ]
        refine done_held (by kernel_rfl) ?_ _
        exact ⟨HE1, HE2, HE3⟩
      · intro K2' hK2
        have b7 : Below w6.heap.size w6 (w6.alloc (.cells #[.int .i64 0, .int .i64 3, .int .i64 0, .int .i64 x.2.2.1, .int .i64 x.2.2.2.2.1, .int .i64 x.2.2.2.2.2, .int .i64 x.2.2.2.1.1, .int .i64 x.2.2.2.1.2, .int .i64 (-1)] 41)) := below_new (Below.refl _ _) _
        have L7 := list_one (f := jobL) (S := 9) w6 (agJ x) 41 rfl
        have T7 : Below V'.heap.size V' (w6.alloc (.cells #[.int .i64 0, .int .i64 3, .int .i64 0, .int .i64 x.2.2.1, .int .i64 x.2.2.2.2.1, .int .i64 x.2.2.2.2.2, .int .i64 x.2.2.2.1.1, .int .i64 x.2.2.2.1.2, .int .i64 (-1)] 41)) := bcat T6 b7 (Nat.le_refl _)
        refine value_in hK2 (by kernel_rfl) (.slice (some ⟨w6.heap.size, 0, none⟩) 1 1) (w6.alloc (.cells #[.int .i64 0, .int .i64 3, .int .i64 0, .int .i64 x.2.2.1, .int .i64 x.2.2.2.2.1, .int .i64 x.2.2.2.2.2, .int .i64 x.2.2.2.1.1, .int .i64 x.2.2.2.1.2, .int .i64 (-1)] 41)) (by go_simp; try rfl) (T7.block _ (by omega)) ?_
        change ListAt 9 (ElL jobL) (fun b => b = w6.heap.size) [agJ x] (.slice (some ⟨w6.heap.size, 0, none⟩) 1 1) (w6.alloc (.cells #[.int .i64 0, .int .i64 3, .int .i64 0, .int .i64 x.2.2.1, .int .i64 x.2.2.2.2.1, .int .i64 x.2.2.2.2.2, .int .i64 x.2.2.2.1.1, .int .i64 x.2.2.2.1.2, .int .i64 (-1)] 41)) at L7
        generalize hw7 : w6.alloc (.cells #[.int .i64 0, .int .i64 3, .int .i64 0, .int .i64 x.2.2.1, .int .i64 x.2.2.2.2.1, .int .i64 x.2.2.2.2.2, .int .i64 x.2.2.2.1.1, .int .i64 x.2.2.2.1.2, .int .i64 (-1)] 41) = w7 at *
        clear hw7
        simp only [Act.put, List.setIfInBounds_toArray, List.set_cons_zero, List.set_cons_succ]
        refine wpAnyH_ready (rs := [0]) (by kernel_rfl) (by simp) (AllReadyH.cons ((nth_eq _ 0).trans rfl) ?_ AllReadyH.nil)
        intro K0 hK0
        have z0 : w7.cell? ⟨w.heap.size, 0, none⟩ = some v := HV0.out _ (T7.block _ (by omega))
        refine value_in hK0 (by kernel_rfl) v w7 (by clear hvf; go_simp; try rfl) (T7.block _ (by omega)) ?_
        simp only [Act.put, List.setIfInBounds_toArray, List.set_cons_zero, List.set_cons_succ]
        clear z0
        refine wpAnyH_ready (rs := [9]) (by kernel_rfl) (by simp) (AllReadyH.cons ((nth_eq _ 9).trans rfl) ?_ AllReadyH.nil)
        intro K3' hK3
        have t7 := T7.size
        obtain ⟨v8, w8, hrun, own8, hgrow, hat⟩ := run_app kindJob (owns_go HRow.out T7) L7 (by rw [List.length_map]; simp; omega) (by rw [List.length_map]; unfold maxLen; simp; omega) (by omega) 32
        have S8 : w8.heap[Bx]? = V'.heap[Bx]? := (hgrow.block _ (by omega) (fun e => hnx e.symm)).trans (T7.block _ (by omega))
        refine value_in hK3 (by kernel_rfl) v8 w8 (run_app_op (t := 32) (.tmp 10) (.tmp 18) rfl v (.slice (some ⟨w6.heap.size, 0, none⟩) 1 1) v8 rfl rfl hrun) S8 ?_
        simp only [Act.put, List.setIfInBounds_toArray, List.set_cons_zero, List.set_cons_succ]
        obtain ⟨a8, c8, hv8, _⟩ := own_form own8
        have h8 : w8.heap[w.heap.size]? = some (.cells #[v] 32 (0, 0)) := (hgrow.block _ (by omega) (fun e => hno e.symm)).trans ((T7.block _ (by omega)).trans HVb.out)
        have z8 : w8.cell? ⟨w.heap.size, 0, none⟩ = some v := (cell_of h8 0).trans rfl
        have f8 := frozen_of h8 0
        have hno8 : v8.ownBlock ≠ some w.heap.size := own_not_typed (cs := []) own8 h8 (by decide)
        obtain ⟨n8, hn8⟩ : ∃ n8, (List.map agJ pre ++ [agJ x]).length = n8 := ⟨_, rfl⟩
        rw [hn8] at hv8
        have HE : Hid (∃ u9 : World, u9 = w8.setCell ⟨w.heap.size, 0, none⟩ (.slice a8 n8 c8) ∧ KeepsFrom w5.heap.size V' u9 ∧ K2 (w.heap.size + 1) p.block V' u9 ∧ AgI w (w.heap.size + 1) w5.heap.size (.slice ja jn jc) (pre ++ [x]) u9) := by
          refine ⟨_, rfl, ?_, ?_, ?_⟩
          · exact ⟨by simp; have := hgrow.size; omega, fun k o hk ho _ => (heap_setCell_other _ _ _ _ (by simp; omega)).trans ((hgrow.block k (by have := lt_of_heap ho; omega) (fun e => HNk.out k o ho (by assumption) e.symm)).trans ((T7.block k (lt_of_heap ho)).trans ho))⟩
          · exact ⟨(heap_setCell_other _ _ _ _ (by simp)).trans ((hgrow.block _ (by omega) (fun e => hnb e.symm)).trans (T7.block _ (by omega))), (heap_setCell_other _ _ _ _ (by simp; omega)).trans ((hgrow.block _ (by omega) (fun e => hnp e.symm)).trans (T7.block _ (by omega)))⟩
          · refine ⟨⟨.slice a8 n8 c8, set_ptr h8, ?_⟩, (heap_setCell_other _ _ _ _ (by simp)).trans ((hgrow.block _ (by omega) (fun e => hnb e.symm)).trans ((T7.block _ (by omega)).trans HI.out.box)), below_set (HI.out.below.trans ((T7.mono HI.out.below.size).grown hgrow (by omega) (fun k e => (own_since HRow.out k e).1))) (Nat.le_refl _) _ _, by simp; have := hgrow.size; omega⟩
            rw [List.map_append]
            rw [hv8] at own8 hno8
            exact owns_same own8 fun k hk => heap_setCell_other _ _ _ _ (by intro q; simp at q; rw [q] at hk; exact hno8 hk)
        subst hv8
        obtain ⟨u9, hu9, HE1, HE2, HE3⟩ := HE.out
        refine store_held 10 rfl (by kernel_rfl) (by kernel_rfl) u9 (by rw [hu9]; clear hu9 HE hrun own8 hgrow hat L7 hn8 hvf; go_simp; try rfl) (by rw [hu9]; exact (heap_setCell_other _ _ _ _ (by simp; omega)).trans S8) ?_
        clear hu9
        simp only [Act.put, List.setIfInBounds_toArray, List.set_cons_zero, List.set_cons_succ]
        refine done_held (by kernel_rfl) ?_ _
        exact ⟨HE1, HE2, HE3⟩
end Go.Proofs.Ytebfjldbhmmmlaa.Dig
