/-
  The stack cells beside one that nobody works at, in order.
-/
import Derived.Test.YtebfjldbhmmmlaaDgL
import Derived.Test.YtebfjldbhmmmlaaDgN
namespace Go.Proofs.Ytebfjldbhmmmlaa.Dig
set_option linter.unusedVariables false
set_option linter.unusedSimpArgs false
open Go Go.RowKit Go.Shelf Go.Proofs Go.Proofs.Ytebfjldbhmmmlaa.Grid
attribute [local go_sem] Oper.semAt_some

/- Those of a list that are not that cell, and not touched. -/
def flt (f : Cell) (tl : List Cell) (l : List Cell) : List Cell := l.filter (fun x => !decide (x = f) && !decide (x ∈ tl))
theorem flt_yes {f : Cell} {tl l : List Cell} {c : Cell} (h1 : c ≠ f) (h2 : c ∉ tl) : flt f tl (l ++ [c]) = flt f tl l ++ [c] := by
  unfold flt
  rw [List.filter_append, List.filter_cons_of_pos (by simp [h1, h2])]
  rfl
theorem flt_no {f : Cell} {tl l : List Cell} {c : Cell} (h : c = f ∨ c ∈ tl) : flt f tl (l ++ [c]) = flt f tl l := by
  unfold flt
  rw [List.filter_append, List.filter_cons_of_neg (by rcases h with h | h <;> simp [h])]
  simp
theorem flt_len (f : Cell) (tl l : List Cell) : (flt f tl l).length ≤ l.length := List.length_filter_le _ _
/- While cells are gone through: what was gathered, the iterator's variable, all that is old. -/
structure FrI (w2 : World) (base Bo Bg g : Nat) (f : Cell) (tl : List Cell) (pre : List Cell) (V : World) : Prop where
  row : ∃ v, Boxed V Bo 22 v ∧ V.ownsRow base 30 2 v (flt f tl pre).length (rowL cellL (flt f tl pre))
  box : V.heap[Bg]? = some (.cells #[.pointer (some ⟨g, 0, none⟩)] 52 (0, 0))
  below : Below base w2 V
theorem fri_own {w2 : World} {base Bo Bg g N : Nat} {f : Cell} {tl : List Cell} (hb : base ≤ w2.heap.size) (hN : base ≤ N) : OwnFrom N (fun (pre : List Cell) V => FrI w2 base Bo Bg g f tl pre V) := by
  intro pre X Y row h hg hr
  have hr' := fun r e => (hr r e).2
  obtain ⟨v, h1, h2⟩ := h.row
  exact ⟨⟨v, box_kept h1 hg hr', row_kept h2 hg hr'⟩, cells_kept h.box hg hr', h.below.grown hg (Nat.le_trans hb h.below.size) (fun k e => Nat.le_trans hN (hr k e).1)⟩
theorem FrI.grow {w2 : World} {base Bo Bg g : Nat} {f : Cell} {tl pre : List Cell} {V V' : World} (h : FrI w2 base Bo Bg g f tl pre V) (hb : base ≤ w2.heap.size) (b : Below V.heap.size V V') : FrI w2 base Bo Bg g f tl pre V' := by
  obtain ⟨v, h1, h2⟩ := h.row
  exact ⟨⟨v, (b.block _ (lt_of_heap h1)).trans h1, owns_go h2 b⟩, (b.block _ (lt_of_heap h.box)).trans h.box, h.below.trans (b.mono (Nat.le_trans hb h.below.size))⟩
theorem keeps_below {V V' : World} (b : Below V.heap.size V V') : KeepsOthers V V' := KeepsOthers.of_grownBy (grown_of_below b) (fun j o ej => by cases ej)
set_option maxRecDepth 100000 in
set_option maxHeartbeats 4000000 in
theorem free_in (yb pb g u : Nat) (W H height : Int) (us : List Int) (vp : Value) (F : Nat → Prop) (stks : List Stk) (tl : List Cell) (ta : Option Addr) (tn tc : Nat) (Ft : Nat → Prop) (f : Cell) (w : World) (hY : YardAt w yb pb g u W H height us vp F stks) (hT : ListAt 2 cellEl Ft tl (.slice ta tn tc) w) (hFt : ∀ b, Ft b → b < w.heap.size) (htn : tn ≤ 1000000) :
    CallsIn Fence.wide 9 Try.prog 42 #[.pointer (some ⟨yb, 0, none⟩), .slice ta tn tc, .agg #[.int .i64 f.1, .int .i64 f.2]] w fun e w' => ∃ v, e = .returned v ∧ w'.ownsRow w.heap.size 30 2 v (flt f tl (stkUpTo W us us.length)).length (rowL cellL (flt f tl (stkUpTo W us us.length))) ∧ Below w.heap.size w w' := by
  obtain ⟨i0, hi, hz0, hz1, hz2⟩ := info_parts infoCell3
  have htl : tl.length = tn := by
    obtain ⟨a, cap, e, _⟩ := hT.form
    injection e with _ e2 _
    exact e2.symm
  have hus := hY.grid.le
  have lg0 := hY.grid.ltg
  have lu0 := hY.grid.ltu
  obtain ⟨w2, hw2⟩ : ∃ w2, w2 = (w.alloc (.cells #[.slice ta tn tc] 22)).alloc (.cells #[.int .i64 f.1, .int .i64 f.2] 30) := ⟨_, rfl⟩
  have s2 : w2.heap.size = w.heap.size + 2 := by rw [hw2]; simp
  have bw2 : Below w.heap.size w w2 := by rw [hw2]; exact below_two _ _ _
  have hbt : w2.heap[w.heap.size]? = some (.cells #[.slice ta tn tc] 22 (0, 0)) := by rw [hw2]; exact (alloc_old _ _ _ (by simp)).trans (heap_alloc_new w _)
  have hbf : w2.heap[w.heap.size + 1]? = some (.cells #[.int .i64 f.1, .int .i64 f.2] 30 (0, 0)) := by rw [hw2]; exact heap_new2 _ _ _
  obtain ⟨w3, hw3⟩ : ∃ w3, w3 = w2.alloc (.cells #[.slice none 0 0] 22) := ⟨_, rfl⟩
  have s3 : w3.heap.size = w.heap.size + 3 := by rw [hw3]; simp [s2]
  have bw3 : Below w2.heap.size w2 w3 := by rw [hw3]; exact below_new (Below.refl _ _) _
  have xo : Boxed w3 (w.heap.size + 2) 22 (.slice none 0 0) := by rw [hw3, ← s2]; exact Boxed.new _ _ _
  have bw23 := bcat bw2 bw3 (Nat.le_refl _)
  have hY3 := hY.go bw23
  have y0 : w3.cell? ⟨yb, 0, none⟩ = some (.pointer (some ⟨g, 0, none⟩)) := (cell_of hY3.hd 0).trans rfl
  have cS := stacksG_any g u W H us vp w3 hY3.grid
  have HY3 : Hid (YardAt w3 yb pb g u W H height us vp F stks) := hY3
  have HW : Hid (Below w.heap.size w w2 ∧ Below w2.heap.size w2 w3) := ⟨bw2, bw3⟩
  have HTw : Hid (∀ V, Below w2.heap.size w2 V → ListAt 2 cellEl Ft tl (.slice ta tn tc) V) := fun V b => hT.go heldCell hFt (bcat bw2 b (Nat.le_refl _))
  have HBt : Hid (∀ V, Below w2.heap.size w2 V → V.heap[w.heap.size]? = some (.cells #[.slice ta tn tc] 22 (0, 0)) ∧ V.heap[w.heap.size + 1]? = some (.cells #[.int .i64 f.1, .int .i64 f.2] 30 (0, 0))) := fun V b => ⟨(b.block _ (lt_of_heap hbt)).trans hbt, (b.block _ (lt_of_heap hbf)).trans hbf⟩
  have HTl : Hid (tl.length = tn) := htl
  have HUs : Hid (us.length ≤ 256) := hus
  clear hY hY3 hT hbt hbf bw2 bw3 bw23 htl hus
  refine callsIn_of_wp_marks Try.func42 rfl trivial ?_ rfl
  simp only [Try.ntmps42, List.size_toArray, List.length_cons, List.length_nil, Nat.reduceAdd, Nat.reduceSub, Array.replicate_succ, Array.replicate_zero, List.push_toArray, List.append_toArray, List.nil_append, List.cons_append]
  gi_wp2
  refine wpIn_scope_straight ?_
  gi_wp2
  rw [← hw2, ← hw3]
  clear hw2 hw3
  refine wpIn_label ?_
  gi_wp2_with (refine ⟨trivial, ?_⟩; gi_at_call 39; refine (callsIn_wide.2 cS).mono ?_; rintro e w5 ⟨rfl, C5, b5⟩)
  have HB5 : Hid (Below w2.heap.size w2 w5) := bcat HW.out.2 b5 (Nat.le_refl _)
  have xo5 : Boxed w5 (w.heap.size + 2) 22 (.slice none 0 0) := (b5.block _ (lt_of_heap xo)).trans xo
  have lg5 : w.heap.size + 3 < w5.heap.size := by have := lt_of_heap C5.bg; omega
  rw [s3] at C5
  have hG5 := C5.grid
  have lgg := hG5.ltg
  have lgu := hG5.ltu
  try rw [s3]
  refine wpIn_rangeFunc_ownH rfl (by omega) (gf := 56) (lb := #[.pointer (some ⟨w.heap.size + 3, 0, none⟩)]) rfl trivial (enters_of Try.func56 (by kernel_rfl) rfl)
    (stacks_stops 8 (by omega) (w.heap.size + 3) g u W H us vp w5 C5) K3.trans ?kb (Below.refl _ _) (fun _ => rfl)
    (fun pre V' => FrI w2 w2.heap.size (w.heap.size + 2) (w.heap.size + 3) g f tl pre V') (fun _ _ _ => False)
    (fri_own (Nat.le_refl _) (by omega)) (fun _ _ _ _ _ hs _ _ => hs)
    ⟨⟨_, xo5, World.ownsRow_nil _ _ _ _⟩, C5.bg, HB5.out⟩
    (fun c a' V => ∃ Bx, V.heap[Bx]? = some (.cells #[.int .i64 c.1, .int .i64 c.2] 30 (0, 0)) ∧ a' = { tmps := #[.pointer (some ⟨yb, 0, none⟩), .slice ta tn tc, .agg #[.int .i64 f.1, .int .i64 f.2], undef, .pointer (some ⟨w.heap.size, 0, none⟩), .pointer (some ⟨w.heap.size + 1, 0, none⟩), .slice none 0 0, .pointer (some ⟨w.heap.size + 2, 0, none⟩), .pointer (some ⟨Bx, 0, none⟩), undef, undef, .pointer (some ⟨yb, 0, none⟩), .pointer (some ⟨yb, 0, none⟩), .pointer (some ⟨yb, 0, none⟩), .pointer (some ⟨g, 0, none⟩), .func (.func 56) #[] #[.pointer (some ⟨w.heap.size + 3, 0, none⟩)], .agg #[.int .i64 c.1, .int .i64 c.2], undef, undef, undef, undef, undef, undef, undef, undef, undef, undef, undef, undef, undef, undef, undef, undef, undef, undef], defers := [] })
    ?ax ?assign ?body ?done ?stop
  case kb =>
    intro W' l o o' hl ho _ _
    have hg := grownBy_putObj' W' l o'
    have lw := lt_of_heap ho
    exact ⟨hg.block _ (by omega) (fun e => by cases e; omega), hg.block _ (by omega) (fun e => by cases e; omega), hg.block _ (by omega) (fun e => by cases e; omega)⟩
  case ax =>
    rintro c a' _ X Y row ⟨Bx, h1, h2⟩ hg hr
    exact ⟨Bx, cells_kept h1 hg (fun r e => (hr r e).2), h2⟩
  case assign =>
    rintro l pre c V K hI hK
    simp only [encC]
    gi_wp2
    obtain ⟨v, hv, hrow⟩ := hI.row
    exact hK _ _ ((KeepsOthers.alloc _ _).from _) ⟨Below.heap_alloc _ _ _ (lt_of_heap hI.box), Below.heap_alloc _ _ _ (by have := hI.below.size; omega), Below.heap_alloc _ _ _ (by have := hI.below.size; omega)⟩ ⟨⟨v, hv.alloc _, hrow.alloc _⟩, (Below.heap_alloc _ _ _ (lt_of_heap hI.box)).trans hI.box, hI.below.alloc hI.below.size _⟩ ⟨V.heap.size, World.alloc_heap_new _ _, rfl⟩
  case done =>
    rintro D ys V' hD rfl hI hKD
    obtain ⟨v, hv, hrow⟩ := hI.row
    obtain ⟨va, vc, rfl, _⟩ := own_form hrow
    have hc := hv.cell
    gi_wp2
    refine ⟨by simp, .inl ⟨_, _, rfl, run_takeDeferred hKD, ?_⟩⟩
    refine ⟨_, results_tmp rfl _ _ _, _, rfl, own_lower (ownsRow_putObj hrow _ hKD rfl) (by omega), ?_⟩
    exact HW.out.1.trans ((hI.below.trans (belowK_b (w := w2) (Nat.le_refl _) V' D _ _ (by omega) hKD rfl rfl)).mono (by omega))
  case stop =>
    rintro D c pre V' _ _ h _
    exact h.elim
  case body =>
    rintro l pre c a' V' hl ⟨r, hr⟩ hI ⟨Bx, hBx, rfl⟩ hlt
    have HI : Hid (FrI w2 w2.heap.size (w.heap.size + 2) (w.heap.size + 3) g f tl pre V') := hI
    obtain ⟨t1, t2⟩ := HBt.out V' hI.below
    have q0 : V'.cell? ⟨w.heap.size, 0, none⟩ = some (.slice ta tn tc) := cell_of t1 0
    have hx := row_below hBx (Below.refl V'.heap.size V')
    have hf := row_below t2 (Below.refl V'.heap.size V')
    have lv := hI.below.size
    have HGu : Hid (∀ V2, Below V'.heap.size V' V2 → K3 (w.heap.size + 3) g u V' V2) := fun V2 b => ⟨b.block _ (lt_of_heap HI.out.box), b.block _ (by omega), b.block _ (by omega)⟩
    by_cases hcf : c = f
    · have hd := decide_eq_true hcf
      have HNo : Hid (flt f tl (pre ++ [c]) = flt f tl pre) := flt_no (Or.inl hcf)
      have HCF : Hid (c = f) := hcf
      clear hcf hI t1 t2
      gi_wp2_with (first
        | (refine wpListIn_loadCell rfl (.tmp 8) rfl ⟨Bx, 0, none⟩ c rfl hx ?_)
        | (refine wpListIn_loadCell rfl (.tmp 5) rfl ⟨w.heap.size + 1, 0, none⟩ f rfl hf ?_)
        | (refine wpListIn_eqlCell rfl (.tmp 17) (.tmp 18) rfl c f rfl rfl true hd ?_))
      refine ⟨(keeps_below (Below.refl _ _)).from _, HGu.out _ (Below.refl _ _), ?_⟩
      have := HI.out
      obtain ⟨v, h1, h2⟩ := this.row
      exact ⟨⟨v, h1, by rw [HNo.out]; exact h2⟩, this.box, this.below⟩
    · have hd := decide_eq_false hcf
      have HCF : Hid (c ≠ f) := hcf
      clear hcf hI t1 t2
      gi_wp2_with (first
        | (refine wpListIn_loadCell rfl (.tmp 8) rfl ⟨Bx, 0, none⟩ c rfl hx ?_)
        | (refine wpListIn_loadCell rfl (.tmp 5) rfl ⟨w.heap.size + 1, 0, none⟩ f rfl hf ?_)
        | (refine wpListIn_eqlCell rfl (.tmp 17) (.tmp 18) rfl c f rfl rfl false hd ?_))
      have HBx : Hid (V'.heap[Bx]? = some (.cells #[.int .i64 c.1, .int .i64 c.2] 30 (0, 0))) := hBx
      clear hx hf q0 hBx hd
      gi_loopw [22] (fun v wr => ∃ k : Nat, k ≤ tn ∧ v = .int .i64 k ∧ Hid (Below V'.heap.size V' wr) ∧ Hid (∀ x ∈ tl.take k, x ≠ c)) (fun v _ => tn - (intOf v).toNat)
      case atStart => exact ⟨0, Nat.zero_le _, rfl, Below.refl _ _, fun x hx => by simp at hx⟩
      case round =>
        obtain ⟨k, hk, rfl, HB, HN⟩ := hrel
        have hbx : wr.heap[Bx]? = some (.cells #[.int .i64 c.1, .int .i64 c.2] 30 (0, 0)) := (HB.out.block _ (lt_of_heap HBx.out)).trans HBx.out
        have hIw := HI.out.grow (Nat.le_refl _) HB.out
        by_cases hkt : k < tn
        · have hkl : k < tl.length := by rw [HTl.out]; exact hkt
          obtain ⟨p, cs, cap2, hv, _, hcs, hrd⟩ := (HTw.out wr hIw.below).item hkl
          have e2 : cs = #[Value.int .i64 (tl[k]'hkl).1, .int .i64 (tl[k]'hkl).2] := hcs
          subst e2
          have HTk : Hid (tl.take (k + 1) = tl.take k ++ [tl[k]'hkl]) := by show _ = _; rw [List.take_add_one, List.getElem?_eq_getElem hkl]; rfl
          have HMm : Hid (tl[k]'hkl ∈ tl) := List.getElem_mem hkl
          generalize tl[k]'hkl = tk at *
          obtain ⟨rfl, rfl⟩ : ta = some p ∧ tc = cap2 := by injection hv with h1 h2 h3; exact ⟨h1, h3⟩
          have hkn : (k : Int) < (tn : Int) := by omega
          have ba := (Below.refl wr.heap.size wr).alloc (Nat.le_refl _) (.cells #[.int .i64 tk.1, .int .i64 tk.2] 30)
          have hn9 := row_below (heap_alloc_new wr (.cells #[.int .i64 tk.1, .int .i64 tk.2] 30)) (Below.refl _ _)
          have hx9 := row_below hbx ba
          have HBa : Hid (Below V'.heap.size V' (wr.alloc (.cells #[.int .i64 tk.1, .int .i64 tk.2] 30))) := bcat HB.out ba (Nat.le_refl _)
          clear hv hcs ba hIw hbx
          by_cases htc : tk = c
          · have hd := decide_eq_true htc
            have HNo : Hid (flt f tl (pre ++ [c]) = flt f tl pre) := flt_no (Or.inr (by rw [← htc]; exact HMm.out))
            clear htc
            gi_wp2_with (first
              | (refine wpListIn_loadCell rfl (.tmp 24) rfl (p.add (k * 2)) tk rfl hrd ?_)
              | (refine wpListIn_loadCell rfl (.tmp 10) rfl ⟨wr.heap.size, 0, none⟩ tk rfl hn9 ?_)
              | (refine wpListIn_loadCell rfl (.tmp 8) rfl ⟨Bx, 0, none⟩ c rfl hx9 ?_)
              | (refine wpListIn_eqlCell rfl (.tmp 26) (.tmp 27) rfl tk c rfl rfl true hd ?_))
            refine ⟨(keeps_below HBa.out).from _, HGu.out _ HBa.out, ?_⟩
            have := HI.out.grow (Nat.le_refl _) HBa.out
            obtain ⟨v, h1, h2⟩ := this.row
            exact ⟨⟨v, h1, by rw [HNo.out]; exact h2⟩, this.box, this.below⟩
          · have hd := decide_eq_false htc
            have HNx : Hid (∀ x ∈ tl.take (k + 1), x ≠ c) := fun x hx => by
              rw [HTk.out, List.mem_append, List.mem_singleton] at hx
              rcases hx with hx | rfl
              · exact HN.out x hx
              · exact htc
            clear htc
            gi_wp2_with (first
              | (refine wpListIn_loadCell rfl (.tmp 24) rfl (p.add (k * 2)) tk rfl hrd ?_)
              | (refine wpListIn_loadCell rfl (.tmp 10) rfl ⟨wr.heap.size, 0, none⟩ tk rfl hn9 ?_)
              | (refine wpListIn_loadCell rfl (.tmp 8) rfl ⟨Bx, 0, none⟩ c rfl hx9 ?_)
              | (refine wpListIn_eqlCell rfl (.tmp 26) (.tmp 27) rfl tk c rfl rfl false hd ?_))
            go_roundw
            case rel => exact ⟨k + 1, by omega, by go_num, HBa, HNx⟩
            case measure => simp [intOf]; omega
        · have hkk : k = tn := by omega
          have HCn : Hid (c ∉ tl) := fun hc => HN.out c (by rw [List.take_of_length_le (by rw [HTl.out]; omega)]; exact hc) rfl
          have HYe : Hid (flt f tl (pre ++ [c]) = flt f tl pre ++ [c]) := flt_yes HCF.out HCn.out
          have hkn : ¬ (k : Int) < (tn : Int) := by omega
          obtain ⟨v, hv, hrow⟩ := hIw.row
          have hc := hv.cell
          have hx9 := row_below hbx (Below.refl wr.heap.size wr)
          obtain ⟨kk, hkk2⟩ : ∃ kk, (flt f tl pre).length = kk := ⟨_, rfl⟩
          have HK : Hid ((flt f tl pre).length = kk) := hkk2
          have hkl : kk ≤ 1000000 := by
            have a1 := flt_len f tl pre
            have a2 := stkUpTo_len W us us.length
            have a3 := HUs.out
            omega
          rw [hkk2] at hrow
          have HIw : Hid (FrI w2 w2.heap.size (w.heap.size + 2) (w.heap.size + 3) g f tl pre wr) := hIw
          have hsz := hIw.below.size
          clear hkk2 hIw hbx hkk
          gi_wp2_with (first
            | (refine wpListIn_loadCell rfl (.tmp 8) rfl ⟨Bx, 0, none⟩ c rfl hx9 ?_)
            | (gi_at_builtin; refine wpListIn_append_own _ rfl _ _ 22 rfl w2.heap.size 30 i0 (.agg #[.int .i64 0, .int .i64 0]) 2 16 Try.underlying22 hi hz0 hz1 hz2 rfl (by decide) v kk _ rfl (hrow.alloc _) ⟨wr.heap.size, 0, none⟩ 1 1 [.int .i64 c.1, .int .i64 c.2] rfl rfl (two_cells _ _ _ _) (by intro y hy; simp at hy; rcases hy with rfl | rfl <;> rfl) (by unfold maxLen; omega) (by omega) (by simp; omega) ?_; intro v' w1 hown' hgrow _; obtain ⟨g', cap', rfl⟩ := ownsRow_succ hown'; obtain ⟨hv1, hv2, hr2, hk2, hb2⟩ := hv.appended (by decide) hrow (by omega) (by omega) hown' hgrow; have hc1 := hv1.cell; have hf1 := hv1.frozen))
          have hnb : v.ownBlock ≠ some (w.heap.size + 3) := fun e => by
            rcases hrow.2 with ⟨e', _⟩ | ⟨g2, cap2, cur2, e', _, hg2, _⟩
            · rw [e'] at e; cases e
            · rw [e'] at e; cases e; have := HIw.out.box; rw [hg2] at this; cases this
          have hold : ∀ b, b < wr.heap.size → b ≠ w.heap.size + 2 → v.ownBlock ≠ some b → (w1.setCell ⟨w.heap.size + 2, 0, none⟩ (.slice (some ⟨g', 0, none⟩) (kk + 1) cap')).heap[b]? = wr.heap[b]? := fun b hb hb2 hb3 => by
            refine (Below.heap_setCell _ _ _ _ hb2).trans ?_
            refine (hgrow.block b (by simp; omega) (fun e => hb3 e.symm)).trans ?_
            exact Below.heap_alloc _ _ _ hb
          have hob : ∀ b, b < w2.heap.size → v.ownBlock ≠ some b := fun b hb e => by
            have := (own_since hrow b e).1
            omega
          have hl9 := lt_of_heap HIw.out.box
          have hlV := HB.out.size
          refine ⟨((keeps_below HB.out).trans hk2).from _, (HGu.out _ HB.out).trans ⟨hold _ hl9 (by omega) hnb, hold _ (by omega) (by omega) (hob _ (by omega)), hold _ (by omega) (by omega) (hob _ (by omega))⟩, ⟨_, hv2, ?_⟩, (hold _ hl9 (by omega) hnb).trans HIw.out.box, (by have q9 := HIw.out.below.trans hb2; first | exact q9 | (rw [s2] at q9; exact q9))⟩
          rw [HYe.out, List.length_append, HK.out]
          have e : rowL cellL (flt f tl pre ++ [c]) = rowL cellL (flt f tl pre) ++ [.int .i64 c.1, .int .i64 c.2] := by unfold rowL; rw [List.flatMap_append]; rfl
          rw [e]
          first | exact hr2 | (rw [s2] at hr2; exact hr2)
end Go.Proofs.Ytebfjldbhmmmlaa.Dig
