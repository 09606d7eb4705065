/-
  Go-aheads of an older epoch are refused for ever.
-/
import Derived.Test.YtodghfkmnnejaaaGreatRobPlace
import Derived.Test.YtodghfkmnnejaaaGreatRobTick
namespace Go.Proofs.YtodghfkmnnejaaaGreat.Rob
set_option linter.unusedVariables false
set_option linter.unusedSimpArgs false
open Go Go.RowKit Go.Shelf Go.Proofs Go.Proofs.YtodghfkmnnejaaaGreat.Lk Go.Proofs.YtodghfkmnnejaaaGreat.Plain
attribute [local go_sem] Oper.semAt_some

theorem set_cell {w : World} {g : Nat} {cs : Array Value} {T : TypeId} (h : w.heap[g]? = some (.cells cs T (0, 0))) (o : Nat) (v : Value) : (w.setCell ⟨g, o, none⟩ v).heap[g]? = some (.cells (cs.setIfInBounds o v) T (0, 0)) := by
  unfold World.setCell
  simp [Array.getElem?_modify, h]
theorem set_kd {w : World} {g : Nat} {t : Tl} {T : TypeId} (h : w.heap[g]? = some (.cells (tlA t) T (0, 0))) (v : Int) : (w.setCell ⟨g, 0, none⟩ (.int .i64 v)).heap[g]? = some (.cells (tlA { t with kd := v }) T (0, 0)) := by
  rw [set_cell h]; cases t; rfl
theorem set_rb {w : World} {g : Nat} {t : Tl} {T : TypeId} (h : w.heap[g]? = some (.cells (tlA t) T (0, 0))) (v : Int) : (w.setCell ⟨g, 1, none⟩ (.int .i64 v)).heap[g]? = some (.cells (tlA { t with rb := v }) T (0, 0)) := by
  rw [set_cell h]; cases t; rfl
theorem set_ep {w : World} {g : Nat} {t : Tl} {T : TypeId} (h : w.heap[g]? = some (.cells (tlA t) T (0, 0))) (v : Int) : (w.setCell ⟨g, 2, none⟩ (.int .i64 v)).heap[g]? = some (.cells (tlA { t with ep := v }) T (0, 0)) := by
  rw [set_cell h]; cases t; rfl
theorem eqMv0 (w : World) : (Op.equalIn 10000 44 (.agg (mvA mv0)) (.agg (mvA mv0))).run Tryz.prog w = .ok true w := by
  simp only [mvA, mvL, mv0]
  go_simp
theorem gMv : Tryz.prog.eqGuardType Tryz.prog.depth 44 = false := by kernel_rfl
theorem builtPo0 : Tryz.prog.built 42 [] = some (poA 0 0 false) := by kernel_rfl
theorem wpList_neq_agg {ops : Array Oper} {rest : List Oper} {o : Oper} {a : Act} {w : World} {Q : Exit → Act → World → Prop} (hw : Region.wanted o (yielded ops a.tmps) = true) (T : TypeId) (x y : Operand) (ho : o.op = .binOp .neq T x y T) (hg : Tryz.prog.eqGuardType Tryz.prog.depth T = false) (xs ys : Array Value) (b : Bool) (hx : a.eval x = .agg xs) (hy : a.eval y = .agg ys)
    (hq : (Op.equalIn 10000 T (.agg xs) (.agg ys)).run Tryz.prog w = .ok b w) (h : wpList Tryz.prog ops Q rest (a.put o.dst (.bool (!b))) w) : wpList Tryz.prog ops Q (o :: rest) a w :=
  BigFrame.wpList_want hw fun _ hK => by
    unfold Oper.wp
    rw [run_neq_agg T x y ho hg xs ys b hx hy hq]
    exact hK _ _ h
theorem wpList_build_w {ops : Array Oper} {rest : List Oper} {o : Oper} {a : Act} {w : World} {Q : Exit → Act → World → Prop} (hw : Region.wanted o (yielded ops a.tmps) = true) (t : TypeId) (ho : o.op = .build t #[]) (cs : Array Value) (hf : Tryz.prog.built t [] = some cs)
    (h : wpList Tryz.prog ops Q rest (a.put o.dst (.agg cs)) w) : wpList Tryz.prog ops Q (o :: rest) a w :=
  BigFrame.wpList_want hw fun _ hK => by
    unfold Oper.wp
    rw [run_build_op t #[] ho [] cs (by simp) hf]
    exact hK _ _ h
set_option maxRecDepth 100000 in
set_option maxHeartbeats 8000000 in
theorem old_all (e0 : Int) (a : Option Addr) (n cap : Nat) (ts : Nat → Tl) (w : World) (hT : InT w a n ts) : Calls Tryz.prog 6 #[.int .i64 e0, .slice a n cap] w fun e w' => e = .returned (.bool true) ∧ Below w.heap.size w w' := by
  have pE := place_bd e0 1099511627776 (by decide)
  have cP := fun w => place_any e0 1099511627776 w (by decide) (by decide)
  obtain ⟨ep, hep⟩ : ∃ ep : Int, ep = 1 + place e0 1099511627776 := ⟨_, rfl⟩
  have hw1 : IntKind.i64.wrap (1 + place e0 1099511627776) = ep := by rw [IntKind.wrap_i64]; omega
  have HE : Hid (0 < ep ∧ ep ≤ 1099511627776) := ⟨by omega, by omega⟩
  clear pE hep
  have cC := confB_any w
  have HIn : Hid (∀ u, Below w.heap.size w u → InT u a n ts) := fun u hu => hT.go hu
  obtain ⟨B, hB⟩ : ∃ B, w.heap.size = B := ⟨_, rfl⟩
  rw [hB] at cC HIn ⊢
  have HX : Hid (w.heap.size = B) := hB
  clear hB hT
  go_enter Tryz.func6, Tryz.ntmps6
  go_wp2_with (first
    | (go_at_call 26; refine cC.mono ?_; rintro e w1 ⟨b, rfl, hb, hcb, b1⟩)
    | (go_at_call 11; refine (madeB_any b _ hcb).mono ?_; rintro e w2 ⟨R, rfl, hR, hp, hk, b2⟩; have bw : Below B w w2 := b1.trans (b2.mono (by have := b1.size; have := HX.out; omega)); have HPK : Hid (B ≤ R.p ∧ B ≤ R.k) := ⟨by have := b1.size; have := HX.out; omega, by have := b1.size; have := HX.out; omega⟩; clear hp hk b2 hcb hb b1 cC)
    | (go_at_call 20; refine (cP _).mono ?_; rintro e yp ⟨rfl, hyp⟩; rw [hyp]; clear hyp)
    | (refine wpList_buildAs rfl 46 _ rfl (tlA (tlG 2 ep 0)) _ (by simp only [List.map_toArray, List.map_cons, List.map_nil]; rfl) (built_stop ep) ?_)
    | (go_at_call 24; have q := stop_first R ep HE.out.1; refine (hear_at hR (n := 0) (by decide) (OkR.first 0 0 0 false) q.1 q.2.1 q.2.2).mono ?_; rintro e w4 ⟨v1, rfl, lv1, hR4, T4⟩; have bw4 : Below B w w4 := bel_tn bw T4 HPK.out.1 HPK.out.2 (by have := bw.size; have := HX.out; omega); clear hR bw T4 lv1 q))
  have HOK : Hid (OkR 0 (newEp (firstR 0 0 0 false) ep)) := stop_ok ep HE.out.1
  go_loopw [7] (fun c wr => ∃ (i : Nat), c = .int .i64 i ∧ i ≤ 40 ∧ RbAt wr R (newEp (firstR 0 0 0 false) ep) ∧ Below B w wr) (fun c _ => 40 - (intOf c).toNat)
  case atStart => exact ⟨0, rfl, by omega, hR4, bw4⟩
  case round =>
    clear hR4 bw4
    obtain ⟨i, rfl, hi, hR, bw⟩ := hrel
    have hs : B ≤ wr.heap.size := by have := bw.size; have := HX.out; omega
    by_cases hin : i < n
    · have g1 : (i : Int) < (n : Int) := by omega
      by_cases hi40 : i < 40
      · have g2 : (i : Int) < 40 := by omega
        obtain ⟨p, rfl, hld⟩ := (HIn.out wr bw).load hin
        obtain ⟨t, ht⟩ : ∃ t, ts i = t := ⟨_, rfl⟩
        rw [ht] at hld
        obtain ⟨pe, hpe⟩ : ∃ pe, place t.ep ep = pe := ⟨_, rfl⟩
        have ppe := place_bd t.ep ep HE.out.1
        have cQ := fun w => place_any t.ep ep w HE.out.1 (by have := HE.out.2; omega)
        rw [hpe] at ppe cQ
        obtain ⟨x1, hx1⟩ : ∃ x1, x1 = wr.alloc (.cells (tlA t) 46) := ⟨_, rfl⟩
        have b1 : Below wr.heap.size wr x1 := by rw [hx1]; exact (Below.refl _ _).alloc (Nat.le_refl _) _
        have h1 : x1.heap[wr.heap.size]? = some (.cells (tlA t) 46 (0, 0)) := by rw [hx1]; exact World.alloc_heap_new _ _
        obtain ⟨x2, hx2⟩ : ∃ x2, x1.setCell ⟨wr.heap.size, 0, none⟩ (.int .i64 1) = x2 := ⟨_, rfl⟩
        have h2 : x2.heap[wr.heap.size]? = some (.cells (tlA { t with kd := 1 }) 46 (0, 0)) := by rw [← hx2]; exact set_kd h1 1
        have b2 : Below wr.heap.size wr x2 := by rw [← hx2]; exact b1.setCell (Nat.le_refl _) _
        obtain ⟨x3, hx3⟩ : ∃ x3, x2.setCell ⟨wr.heap.size, 1, none⟩ (.int .i64 0) = x3 := ⟨_, rfl⟩
        have h3 : x3.heap[wr.heap.size]? = some (.cells (tlA { t with kd := 1, rb := 0 }) 46 (0, 0)) := by rw [← hx3]; exact set_rb h2 0
        have b3 : Below wr.heap.size wr x3 := by rw [← hx3]; exact b2.setCell (Nat.le_refl _) _
        obtain ⟨x4, hx4⟩ : ∃ x4, x3.setCell ⟨wr.heap.size, 2, none⟩ (.int .i64 pe) = x4 := ⟨_, rfl⟩
        have h4 : x4.heap[wr.heap.size]? = some (.cells (tlA { t with kd := 1, rb := 0, ep := pe }) 46 (0, 0)) := by rw [← hx4]; exact set_ep h3 pe
        have b4 : Below wr.heap.size wr x4 := by rw [← hx4]; exact b3.setCell (Nat.le_refl _) _
        have k1 := tl_kd h1
        have f1 : x1.frozen? ⟨wr.heap.size, 0, none⟩ = false := by simp [World.frozen?, h1]
        have k2 := tl_rb h2
        have f2 : x2.frozen? ⟨wr.heap.size, 1, none⟩ = false := by simp [World.frozen?, h2]
        have k3 : x3.cell? ⟨wr.heap.size, 2, none⟩ = some (.int .i64 t.ep) := tl_ep (t := { t with kd := 1, rb := 0 }) h3
        have f3 : x3.frozen? ⟨wr.heap.size, 2, none⟩ = false := by simp [World.frozen?, h3]
        simp only at k2
        have hq := old_go (R := R) (r := (newEp (firstR 0 0 0 false) ep)) (t := { t with kd := 1, rb := 0, ep := pe }) rfl rfl ppe.2
        have HLT : Hid ((loadVar 46 ⟨wr.heap.size, 0, none⟩).run Tryz.prog x4 = .ok (.agg (tlA { t with kd := 1, rb := 0, ep := pe })) x4) := load_tele h4
        have HR4 : Hid (RbAt x4 R (newEp (firstR 0 0 0 false) ep)) := hR.go b4
        have HB4 : Hid (Below B w x4) := bw.trans (b4.mono hs)
        clear b1 b2 b3 b4 h1 h2 h3 h4 hR bw ht hpe ppe
        go_wp2_with (first
          | (refine wpList_load_at rfl 46 (.tmp 43) rfl (p.add (i * 19)) rfl (tlA t) hld ?_)
          | (refine wpList_new rfl rfl 46 8 (.tmp 44) rfl rfl rfl rfl (tlA tl0) (tlA t) (zeroTele _) rfl rfl infoTele rfl (tlA_one _) ?_; rw [← hx1]; clear hx1)
          | (go_at_call 20; refine (cQ _).mono ?_; rintro e yp ⟨rfl, hyp⟩; rw [hyp]; clear hyp)
          | (refine wpList_load_at rfl 46 (.tmp 8) rfl ⟨wr.heap.size, 0, none⟩ rfl (tlA { t with kd := 1, rb := 0, ep := pe }) HLT.out ?_)
          | (go_at_call 24; refine (hear_at HR4.out (n := 0) (by decide) HOK.out hq.1 hq.2.1 hq.2.2).mono ?_; rintro e x5 ⟨v, rfl, hv, hR5, T5⟩; have hv : v = .slice none 0 0 := hv; subst hv; have HB5 : Hid (Below B w x5) := bel_tn HB4.out T5 HPK.out.1 HPK.out.2 (by have := HB4.out.size; have := HX.out; omega); have HR5 : Hid (RbAt x5 R (newEp (firstR 0 0 0 false) ep)) := hR5; have cT := tick_any hR5 (n := 0) (by decide) HOK.out; clear hR5 T5)
          | (go_at_call 21; refine cT.mono ?_; rintro e x6 ⟨rfl, hR6, T6⟩; clear cT; have HR6 : Hid (RbAt x6 R (newEp (firstR 0 0 0 false) ep)) := hR6; have HB6 : Hid (Below B w x6) := bel_tn HB5.out T6 HPK.out.1 HPK.out.2 (by have := HB5.out.size; have := HX.out; omega); obtain ⟨x7, hx7⟩ : ∃ x7, x7 = x6.alloc (.cells (mvA mv0) 44) := ⟨_, rfl⟩; have d7 : Below x6.heap.size x6 x7 := (by rw [hx7]; exact (Below.refl _ _).alloc (Nat.le_refl _) _); have HM7 : Hid (x7.heap[x6.heap.size]? = some (.cells (mvA mv0) 44 (0, 0))) := (by rw [hx7]; exact World.alloc_heap_new _ _); have HR7 : Hid (RbAt x7 R (newEp (firstR 0 0 0 false) ep)) := hR6.go d7; have HB7 : Hid (Below B w x7) := HB6.out.trans (d7.mono (by have := HB6.out.size; have := HX.out; omega)); have cO := pose_any (hR6.go d7); clear d7 hR6 T6)
          | (refine wpList_new rfl rfl 44 11 (.tmp 68) rfl rfl rfl rfl (mvA mv0) (mvA mv0) (zeroMove _) rfl rfl infoMove rfl (mvA_one _) ?_; rw [← hx7]; clear hx7)
          | (refine wpList_load_at rfl 44 (.tmp 11) rfl ⟨x6.heap.size, 0, none⟩ rfl (mvA mv0) (mv_all HM7.out) ?_)
          | (refine wpList_buildAs rfl 44 _ rfl (mvA mv0) _ rfl builtMv0 ?_)
          | (refine wpList_neq_agg (by kernel_rfl) 44 (.tmp 70) (.tmp 71) rfl gMv (mvA mv0) (mvA mv0) true rfl rfl (eqMv0 _) ?_)
          | (go_at_call 22; refine cO.mono ?_; rintro e x8 ⟨rfl, d8⟩; clear cO; have HR8 : Hid (RbAt x8 R (newEp (firstR 0 0 0 false) ep)) := HR7.out.go d8; have HB8 : Hid (Below B w x8) := HB7.out.trans (d8.mono (by have := HB7.out.size; have := HX.out; omega)); clear d8)
          | (refine wpList_build_w (by kernel_rfl) 42 rfl (poA 0 0 false) builtPo0 ?_)
          | (refine wpList_neq_agg (by kernel_rfl) 42 (.tmp 79) (.tmp 80) rfl guardPo (poA 0 0 false) (poA 0 0 false) true rfl rfl (eqPo (by decide) _) ?_))
        go_roundw
        case rel => exact ⟨i + 1, by go_num, by omega, HR8.out, HB8.out⟩
        case measure => simp [intOf]; omega
      · have g2 : ¬ (i : Int) < 40 := by omega
        go_wp2_with (first | (go_at_call 14; refine (awake18_any _).mono ?_; rintro e w9 ⟨rfl, b9⟩))
        go_ret
        exact ⟨rfl, bw.trans (b9.mono hs)⟩
    · have g1 : ¬ (i : Int) < (n : Int) := by omega
      go_wp2_with (first | (go_at_call 14; refine (awake18_any _).mono ?_; rintro e w9 ⟨rfl, b9⟩))
      go_ret
      exact ⟨rfl, bw.trans (b9.mono hs)⟩
end Go.Proofs.YtodghfkmnnejaaaGreat.Rob
