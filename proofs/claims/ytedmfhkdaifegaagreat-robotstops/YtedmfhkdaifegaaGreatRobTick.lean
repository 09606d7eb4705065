/-
  A tick.
-/
import Derived.Test.YtedmfhkdaifegaaGreatRobEnd
namespace Go.Proofs.YtedmfhkdaifegaaGreat.Rob
set_option linter.unusedVariables false
set_option linter.unusedSimpArgs false
open Go Go.RowKit Go.Shelf Go.Proofs Go.Proofs.YtedmfhkdaifegaaGreat.Lk Go.Proofs.YtedmfhkdaifegaaGreat.Plain
attribute [local go_sem] Oper.semAt_some

set_option maxRecDepth 100000 in
set_option maxHeartbeats 2000000 in
theorem tick_any {w : World} {R : Wh} {r : Rb} (h : RbAt w R r) {n : Int} (hn : n ≤ 1000000000000) (ok : OkR n r) : Calls Tryz.prog 19 #[.pointer (some ⟨R.p, 0, none⟩)] w fun e w' => e = .returned (.tuple #[.agg (mvA (tickM r)), .int .i64 (tickH r)]) ∧ RbAt w' R (tickR r) ∧ Tn R w w' := by
  have l0 := ok.lt0
  have l1 : r.lt ≤ 4000000000000000000 := by have := ok.ltn; omega
  have g0 := ok.gn0
  have g1 : r.gn ≤ 4000000000000000000 := by have := ok.gnn; omega
  have f0 := ok.lf0
  have f1 := ok.lf1
  have a0 := ok.la0
  have a1 := ok.la1
  have OFF := h.off (N := w.heap.size) (Nat.le_refl _)
  obtain ⟨w1, hw1⟩ : ∃ w1, w1 = w.alloc (.cells (mvA mv0) 44) := ⟨_, rfl⟩
  have b1 : Below w.heap.size w w1 := by rw [hw1]; exact (Below.refl _ _).alloc (Nat.le_refl _) _
  have w1m : w1.heap[w.heap.size]? = some (.cells (mvA mv0) 44 (0, 0)) := by rw [hw1]; exact World.alloc_heap_new _ _
  have w1R := h.go b1
  have T1 : Tn R w w1 := Tn.below b1
  clear b1
  unfold tickM tickH tickR
  cases hu : under r with
  | false =>
    have HC := moves_any w1R
    rw [hu] at HC
    rw [if_pos (show false = false from rfl), if_pos (show false = false from rfl), if_pos (show false = false from rfl)]
    clear hu
    have HM : Hid (w1.heap[w.heap.size]? = some (.cells (mvA mv0) 44 (0, 0))) := w1m
    have HE : Hid (RbAt (w1.setRow w.heap.size (mvA mv0)) R r ∧ Tn R w (w1.setRow w.heap.size (mvA mv0))) := ⟨w1R.row OFF w1m (by decide) _, T1.row (Nat.le_refl _) _⟩
    clear h w1R OFF T1 w1m
    go_enter Tryz.func19, Tryz.ntmps19
    go_wp2_with (first | (refine wpList_allocAs rfl 44 rfl (mvA mv0) (zeroMove _) ?_; rw [← hw1]; clear hw1) | (go_at_call 48; refine HC.mono ?_; rintro e wq ⟨rfl, hwq⟩; rw [hwq]; clear hwq) | (refine wpList_buildAs rfl 44 _ rfl (mvA mv0) _ rfl builtMv0 ?_) | (refine wpList_store_row rfl 44 (.tmp 2) (.tmp 49) rfl w.heap.size (mvA mv0) rfl rfl 44 (mvA mv0) HM.out infoMove rfl (mvA_one _) ?_))
    exact bodyPost_ret (Lk.results_cell_tmp Tryz.results19 _ _ w.heap.size (mvA mv0) rfl (load_row_of (cs := mvA mv0) (setRow_heap _ _ _ _ _ _ HM.out) (aggMove _) infoMove)) rfl ⟨rfl, HE.out⟩
  | true =>
    have HC := moves_any w1R
    rw [hu] at HC
    rw [if_neg (show ¬ (true = false) by decide), if_neg (show ¬ (true = false) by decide), if_neg (show ¬ (true = false) by decide)]
    clear hu
    by_cases h1 : 0 < r.la
    · rw [if_pos h1, if_pos h1, if_pos h1]
      obtain ⟨w2, hw2⟩ : ∃ w2, w2 = w1.setCell ⟨R.p, 22, none⟩ (.int .i64 (r.la - 1)) := ⟨_, rfl⟩
      have w2R : RbAt w2 R { r with la := r.la - 1 } := by
        have : w2 = w1.setCells R.p 22 [.int .i64 (r.la - 1)] := hw2
        rw [this]
        exact w1R.set 22 [.int .i64 (r.la - 1)] (rb_late _ _ r _)
      have o2 : Only R.p w1 w2 := by rw [hw2]; exact Only.setCell _ _ _ _
      have w2m : w2.heap[w.heap.size]? = some (.cells (mvA mv0) 44 (0, 0)) := (o2.block _ (Ne.symm OFF.1)).trans w1m
      have T2 := T1.trans (Tn.only o2)
      have c22 := w1R.c22
      have f22 := w1R.froz 22
      have HM : Hid (w2.heap[w.heap.size]? = some (.cells (mvA mv0) 44 (0, 0))) := w2m
      have HE : Hid (RbAt (w2.setRow w.heap.size (mvA mv0)) R { r with la := r.la - 1 } ∧ Tn R w (w2.setRow w.heap.size (mvA mv0))) := ⟨w2R.row OFF w2m (by decide) _, T2.row (Nat.le_refl _) _⟩
      clear h w1R w2R OFF T1 T2 w1m w2m o2
      subst hw2
      go_enter Tryz.func19, Tryz.ntmps19
      go_wp2_with (first | (refine wpList_allocAs rfl 44 rfl (mvA mv0) (zeroMove _) ?_; rw [← hw1]; clear hw1) | (go_at_call 48; refine HC.mono ?_; rintro e wq ⟨rfl, hwq⟩; rw [hwq]; clear hwq) | (refine wpList_buildAs rfl 44 _ rfl (mvA mv0) _ rfl builtMv0 ?_) | (refine wpList_store_row rfl 44 (.tmp 2) (.tmp 49) rfl w.heap.size (mvA mv0) rfl rfl 44 (mvA mv0) HM.out infoMove rfl (mvA_one _) ?_))
      exact bodyPost_ret (Lk.results_cell_tmp Tryz.results19 _ _ w.heap.size (mvA mv0) rfl (load_row_of (cs := mvA mv0) (setRow_heap _ _ _ _ _ _ HM.out) (aggMove _) infoMove)) rfl ⟨rfl, HE.out⟩
    · rw [if_neg h1, if_neg h1, if_neg h1]
      by_cases h2 : 1 < r.lf
      · rw [if_pos h2, if_pos h2, if_pos h2]
        obtain ⟨w2, hw2⟩ : ∃ w2, w2 = w1.setCell ⟨R.p, 21, none⟩ (.int .i64 (r.lf - 1)) := ⟨_, rfl⟩
        have w2R : RbAt w2 R { r with lf := r.lf - 1 } := by
          have : w2 = w1.setCells R.p 21 [.int .i64 (r.lf - 1)] := hw2
          rw [this]
          exact w1R.set 21 [.int .i64 (r.lf - 1)] (rb_left _ _ r _)
        have o2 : Only R.p w1 w2 := by rw [hw2]; exact Only.setCell _ _ _ _
        obtain ⟨w3, hw3⟩ : ∃ w3, w3 = w2.setCell ⟨R.p, 20, none⟩ (.int .i64 (r.gn + 1)) := ⟨_, rfl⟩
        have w3R : RbAt w3 R { r with lf := r.lf - 1, gn := r.gn + 1 } := by
          have : w3 = w2.setCells R.p 20 [.int .i64 (r.gn + 1)] := hw3
          rw [this]
          exact w2R.set 20 [.int .i64 (r.gn + 1)] (rb_gone _ _ { r with lf := r.lf - 1 } _)
        have o3 : Only R.p w2 w3 := by rw [hw3]; exact Only.setCell _ _ _ _
        have w3m : w3.heap[w.heap.size]? = some (.cells (mvA mv0) 44 (0, 0)) := (o3.block _ (Ne.symm OFF.1)).trans ((o2.block _ (Ne.symm OFF.1)).trans w1m)
        have T3 := (T1.trans (Tn.only o2)).trans (Tn.only o3)
        have c22 := w1R.c22
        have c21 := w1R.c21
        have f21 := w1R.froz 21
        have c20 : w2.cell? ⟨R.p, 20, none⟩ = some (.int .i64 r.gn) := w2R.c20
        have f20 := w2R.froz 20
        have HM : Hid (w3.heap[w.heap.size]? = some (.cells (mvA mv0) 44 (0, 0))) := w3m
        have HE : Hid (RbAt (w3.setRow w.heap.size (mvA mv0)) R { r with lf := r.lf - 1, gn := r.gn + 1 } ∧ Tn R w (w3.setRow w.heap.size (mvA mv0))) := ⟨w3R.row OFF w3m (by decide) _, T3.row (Nat.le_refl _) _⟩
        clear h w1R w2R w3R OFF T1 T3 w1m w3m o2 o3
        subst hw3
        subst hw2
        go_enter Tryz.func19, Tryz.ntmps19
        go_wp2_with (first | (refine wpList_allocAs rfl 44 rfl (mvA mv0) (zeroMove _) ?_; rw [← hw1]; clear hw1) | (go_at_call 48; refine HC.mono ?_; rintro e wq ⟨rfl, hwq⟩; rw [hwq]; clear hwq) | (refine wpList_buildAs rfl 44 _ rfl (mvA mv0) _ rfl builtMv0 ?_) | (refine wpList_store_row rfl 44 (.tmp 2) (.tmp 49) rfl w.heap.size (mvA mv0) rfl rfl 44 (mvA mv0) HM.out infoMove rfl (mvA_one _) ?_))
        exact bodyPost_ret (Lk.results_cell_tmp Tryz.results19 _ _ w.heap.size (mvA mv0) rfl (load_row_of (cs := mvA mv0) (setRow_heap _ _ _ _ _ _ HM.out) (aggMove _) infoMove)) rfl ⟨rfl, HE.out⟩
      · rw [if_neg h2, if_neg h2, if_neg h2]
        have c22 := w1R.c22
        have c21 := w1R.c21
        have HEN : Hid (Calls Tryz.prog 49 #[.pointer (some ⟨R.p, 0, none⟩)] w1 fun e w' => e = .returned (.tuple #[.agg (mvA r.mv), .int .i64 (if r.st then 2 else 1)]) ∧ RbAt w' R (ended r) ∧ Tn R w1 w') := end_any w1R l0 l1
        have HO : Hid (Off R w.heap.size ∧ Tn R w w1 ∧ w1.heap[w.heap.size]? = some (.cells (mvA mv0) 44 (0, 0))) := ⟨OFF, T1, w1m⟩
        obtain ⟨hw_, hhw⟩ : ∃ q : Int, (if r.st then 2 else 1) = q := ⟨_, rfl⟩
        rw [hhw] at HEN ⊢
        clear hhw h w1R OFF T1 w1m
        go_enter Tryz.func19, Tryz.ntmps19
        go_wp2_with (first | (refine wpList_allocAs rfl 44 rfl (mvA mv0) (zeroMove _) ?_; rw [← hw1]; clear hw1) | (go_at_call 48; refine HC.mono ?_; rintro e wq ⟨rfl, hwq⟩; rw [hwq]; clear hwq) | (go_at_call 49; refine HEN.out.mono ?_; rintro e w5 ⟨rfl, w5R, T5⟩; have w5m : w5.heap[w.heap.size]? = some (.cells (mvA mv0) 44 (0, 0)) := (T5.block _ (Array.getElem?_eq_some_iff.1 HO.out.2.2).1 (Ne.symm HO.out.1.1) (Ne.symm HO.out.1.2.2.2)).trans HO.out.2.2; have HM : Hid (w5.heap[w.heap.size]? = some (.cells (mvA mv0) 44 (0, 0))) := w5m; have HE : Hid (RbAt (w5.setRow w.heap.size (mvA r.mv)) R (ended r) ∧ Tn R w (w5.setRow w.heap.size (mvA r.mv))) := ⟨w5R.row HO.out.1 w5m (by decide) _, (HO.out.2.1.trans T5).row (Nat.le_refl _) _⟩; clear w5R T5 w5m) | (refine wpList_store_row rfl 44 (.tmp 2) (.tmp 10) rfl w.heap.size (mvA r.mv) rfl rfl 44 (mvA mv0) HM.out infoMove rfl (mvA_one _) ?_))
        exact bodyPost_ret (Lk.results_cell_tmp Tryz.results19 _ _ w.heap.size (mvA r.mv) rfl (load_row_of (cs := mvA r.mv) (setRow_heap _ _ _ _ _ _ HM.out) (aggMove _) infoMove)) rfl ⟨rfl, HE.out⟩
end Go.Proofs.YtedmfhkdaifegaaGreat.Rob
