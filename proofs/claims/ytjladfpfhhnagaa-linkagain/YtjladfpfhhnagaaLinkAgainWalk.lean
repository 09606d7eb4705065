/-
  What waits is told over and over, till it is got; then never.
-/
import Derived.Test.YtjladfpfhhnagaaLinkRow
namespace Go.Proofs.Ytjladfpfhhnagaa.Lk
set_option linter.unusedVariables false
set_option linter.unusedSimpArgs false
open Go Go.RowKit Go.Shelf Go.Proofs Go.Proofs.Ytjladfpfhhnagaa.Tick Go.Proofs.Ytjladfpfhhnagaa.Plain
attribute [local go_sem] Oper.semAt_some

set_option maxRecDepth 100000 in
set_option maxHeartbeats 8000000 in
theorem again_all (rv : Int) (a : Option Addr) (n cap : Nat) (zs : Nat → Int) (gv : Int) (w : World) (hI : InN w a n zs) : Calls Try.prog 5 #[.int .i64 rv, .slice a n cap, .int .i64 gv] w fun e w' => e = .returned (.bool true) ∧ Below w.heap.size w w' := by
  have cR := fun w => place_any rv 50 w (by decide) (by decide)
  have pR := place_bd rv 50 (by decide)
  have cGo := fun w => place_any gv 60 w (by decide) (by decide)
  have pG := place_bd gv 60 (by decide)
  generalize place rv 50 = r50 at *
  generalize place gv 60 = gn at *
  have HIn : Hid (∀ u, Below w.heap.size w u → InN u a n zs) := fun u hu => hI.go hu
  have n1 := fun w => new_ok 1 (1 + r50) w (by decide) (by decide) (by omega)
  obtain ⟨B, hB⟩ : ∃ B, w.heap.size = B := ⟨_, rfl⟩
  rw [hB] at HIn ⊢
  have HX : Hid (w.heap.size = B) := hB
  clear hB hI
  go_enter Try.func5, Try.ntmps5
  go_wp2_with (first
    | (have X' := G2; go_at_call 12; refine (cGo _).mono ?_; rintro e yp ⟨rfl, hyp⟩; rw [hyp]; clear hyp)
    | (go_at_call 12; refine (cR _).mono ?_; rintro e yp ⟨rfl, hyp⟩; rw [hyp]; clear hyp)
    | (go_at_call 9; refine (n1 w).mono ?_; rintro e x1 ⟨rfl, G1, b1⟩; clear n1; rw [HX.out] at G1 b1 ⊢)
    | (refine wpList_buildAs rfl 37 _ rfl (tlA (tlG 1 0 4 9)) _ rfl builtG ?_)
    | (go_at_call 13; refine (send_ok G1 (tlG 1 0 4 9) 100 (by decide) (by decide) (Or.inl rfl) (wf64_of (by decide) (by decide)) (by decide)).mono ?_; rintro e x2 ⟨rfl, G2, q2⟩; obtain ⟨x3, hx3⟩ : ∃ x3, x3 = x2.alloc (.cells (tlA (tlG 1 0 4 9)) 37) := ⟨_, rfl⟩; have b3' : Below x2.heap.size x2 x3 := (by rw [hx3]; exact (Below.refl _ _).alloc (Nat.le_refl _) _); have h93 : x3.heap[x2.heap.size]? = some (.cells (tlA (tlG 1 0 4 9)) 37 (0, 0)) := (by rw [hx3]; exact World.alloc_heap_new _ _))
    | (refine wpList_new rfl rfl 37 9 (.tmp 34) rfl rfl rfl rfl (tlA tl0) (tlA (tlG 1 0 4 9)) (zeroTele _) rfl rfl infoTele rfl (tlA_one _) ?_; rw [← hx3]; clear hx3))
  have b2 : Below B w x2 := b1.grown q2 (by have := b1.size; have := HX.out; omega) (fun k hk => by cases hk; exact Nat.le_refl _)
  have G3 : LkAt x3 (B + 1) B 1 1 (1 + r50) (MW (tlG 1 0 4 9) 100) := G2.go b3'
  have b3 : Below B w x3 := b2.trans (b3'.mono (by have := b2.size; have := HX.out; omega))
  have l9 : B < x2.heap.size := G2.blt
  obtain ⟨gb, hgb⟩ : ∃ gb, x2.heap.size = gb := ⟨_, rfl⟩
  rw [hgb] at h93 l9
  try rw [hgb]
  clear b3' hgb G2 q2 b1 b2 G1
  go_loopw [14, 11, 12] (fun ci cn cl wr => ∃ (i n' : Nat) (now ls : Int) (M : Mp), ci = .int .i64 i ∧ cn = .int .i64 now ∧ cl = .int .i64 ls ∧ i ≤ 60 ∧ 100 ≤ ls ∧ ls ≤ now ∧ now ≤ 100 + 40 * i ∧ LkAt wr (B + 1) B n' 1 (1 + r50) M ∧ n' ≤ 1 + 8 * i ∧ ((i : Int) ≤ gn → M = MW (tlG 1 0 4 9) ls) ∧ (gn < i → M = fun _ => none) ∧ wr.heap[gb]? = some (.cells (tlA (tlG 1 0 4 9)) 37 (0, 0)) ∧ Below B w wr) (fun ci _ _ _ => 60 - (intOf ci).toNat)
  case atStart => exact ⟨0, 1, 100, 100, _, rfl, rfl, rfl, by omega, by omega, by omega, by omega, G3, by omega, fun _ => rfl, fun h => by omega, h93, b3⟩
  case round =>
    clear G3 b3 h93
    obtain ⟨i, n', now, ls, M, rfl, rfl, rfl, hi, l1, l2, l3, G, hn', hM1, hM2, H9, bw⟩ := hrel
    have hs : B ≤ wr.heap.size := by have := bw.size; have := HX.out; omega
    have HG : Hid (LkAt wr (B + 1) B n' 1 (1 + r50) M) := G
    have HBW : Hid (Below B w wr) := bw
    have H9' : Hid (wr.heap[gb]? = some (.cells (tlA (tlG 1 0 4 9)) 37 (0, 0))) := H9
    have lg : gb < wr.heap.size := (Array.getElem?_eq_some_iff.1 H9).1
    by_cases hin : i < n
    · have g1 : (i : Int) < (n : Int) := by omega
      by_cases hi60 : i < 60
      · have g2 : (i : Int) < 60 := by omega
        obtain ⟨p, rfl, hz⟩ := HIn.out wr bw i hin
        have cZ := fun w => place_any (zs i) 40 w (by decide) (by decide)
        have pZ := place_bd (zs i) 40 (by decide)
        generalize place (zs i) 40 = pz at *
        have i60 : (i : Int) ≤ 60 := by omega
        rcases Int.lt_trichotomy (i : Int) gn with hc | hc | hc
        · have HM : Hid (M = MW (tlG 1 0 4 9) ls) := hM1 (by omega)
          have e1 : ((i : Int) == gn) = false := by simp; omega
          have e2 : ¬ gn ≤ (i : Int) := by omega
          have cD := due_any (N := 1) HG.out (now + pz) (by decide) (by omega)
          rw [HM.out, MW_dueL _ _ _ _ (by omega) (by omega) (by omega), MW_dueM _ _ _ _ (by omega) (by omega) (by omega)] at cD
          clear G bw hM1 hM2 H9
          by_cases hd : 1 + r50 ≤ now + pz - ls
          · rw [if_pos hd, if_pos hd] at cD
            go_wp2_with (first
              | (go_at_call 12; refine (cZ _).mono ?_; rintro e yp ⟨rfl, hyp⟩; rw [hyp]; clear hyp)
              | (go_at_call 18; refine cD.mono ?_; rintro e x2 ⟨v2, rfl, n2, O2, G2, m2, q2⟩; obtain ⟨dg, k2, rfl, hdl, hld⟩ := own_item (n := 1) O2 rfl (k := 0) (by simp); have H9x : x2.heap[gb]? = some (.cells (tlA (tlG 1 0 4 9)) 37 (0, 0)) := (q2.block _ lg (fun e => by cases e; omega)).trans H9'.out; have bx : Below B w x2 := HBW.out.grown q2 hs (fun k hk => by cases hk; exact Nat.le_refl _); clear cD q2 O2 hz)
              )
            refine start_any (S := fun u => u.heap[gb]? = some (.cells (tlA (tlG 1 0 4 9)) 37 (0, 0)) ∧ u.heap[dg]? = x2.heap[dg]?) 10 rfl (by kernel_rfl) (fun u su => ⟨by rw [su.heap]; exact H9x, by rw [su.heap]⟩) ?_
            intro x3 sx
            have HS1 : x3.heap[gb]? = some (.cells (tlA (tlG 1 0 4 9)) 37 (0, 0)) ∧ x3.heap[dg]? = x2.heap[dg]? := ⟨by rw [sx.heap]; exact H9x, by rw [sx.heap]⟩
            simp only [Array.replicate_succ, Array.replicate_zero, List.push_toArray, List.nil_append, List.cons_append]
            refine take_held 0 HS1 rfl (by kernel_rfl) (by kernel_rfl) (by kernel_rfl) (fun _ _ _ h => h) (by kernel_rfl) (v := ?v301) ?y301 ?r301
            case y301 => (intro u hu; go_simp; try rfl)
            simp only [Act.put, List.setIfInBounds_toArray, List.set_cons_zero, List.set_cons_succ]
            refine take_held 1 HS1 rfl (by kernel_rfl) (by kernel_rfl) (by kernel_rfl) (fun _ _ _ h => h) (by kernel_rfl) (v := ?v302) ?y302 ?r302
            case y302 => (intro u hu; go_simp; try rfl)
            simp only [Act.put, List.setIfInBounds_toArray, List.set_cons_zero, List.set_cons_succ]
            refine take_held 2 HS1 rfl (by kernel_rfl) (by kernel_rfl) (by kernel_rfl) (fun _ _ _ h => h) (by kernel_rfl) (v := ?v303) ?y303 ?r303
            case y303 => (intro u hu; go_simp; try rfl)
            simp only [Act.put, List.setIfInBounds_toArray, List.set_cons_zero, List.set_cons_succ]
            refine take_held 3 HS1 rfl (by kernel_rfl) (by kernel_rfl) (by kernel_rfl) (fun _ _ _ h => h) (by kernel_rfl) (v := ?v304) ?y304 ?r304
            case y304 => (intro u hu; go_simp; try rfl)
            simp only [Act.put, List.setIfInBounds_toArray, List.set_cons_zero, List.set_cons_succ]
            refine take_held 4 HS1 rfl (by kernel_rfl) (by kernel_rfl) (by kernel_rfl) (fun _ _ _ h => h) (by kernel_rfl) (v := ?v305) ?y305 ?r305
            case y305 => (intro u hu; go_simp; try rfl)
            simp only [Act.put, List.setIfInBounds_toArray, List.set_cons_zero, List.set_cons_succ]
            refine take_held 5 HS1 rfl (by kernel_rfl) (by kernel_rfl) (by kernel_rfl) (fun _ _ _ h => h) (by kernel_rfl) (v := ?v306) ?y306 ?r306
            case y306 => (intro u hu; go_simp; try rfl)
            simp only [Act.put, List.setIfInBounds_toArray, List.set_cons_zero, List.set_cons_succ]
            refine take_held 6 HS1 rfl (by kernel_rfl) (by kernel_rfl) (by kernel_rfl) (fun _ _ _ h => h) (by kernel_rfl) (v := .agg (tlA (tlG 1 0 4 9))) ?y307 ?r307
            case y307 => (intro u hu; exact run_load_at 37 (.tmp 88) rfl ⟨dg, 0, none⟩ rfl _ (hld u hu.2))
            simp only [Act.put, List.setIfInBounds_toArray, List.set_cons_zero, List.set_cons_succ]
            refine take_held 7 HS1 rfl (by kernel_rfl) (by kernel_rfl) (by kernel_rfl) (fun _ _ _ h => h) (by kernel_rfl) (v := .agg (tlA (tlG 1 0 4 9))) ?y308 ?r308
            case y308 => (intro u hu; exact run_load_at 37 (.tmp 9) rfl ⟨gb, 0, none⟩ rfl _ (load_tele hu.1))
            simp only [Act.put, List.setIfInBounds_toArray, List.set_cons_zero, List.set_cons_succ]
            refine take_held 8 HS1 rfl (by kernel_rfl) (by kernel_rfl) (by kernel_rfl) (fun _ _ _ h => h) (by kernel_rfl) (v := .bool false) ?y309 ?r309
            case y309 => (intro u hu; exact run_neq_tele _ (.tmp 89) (.tmp 90) rfl (tlG 1 0 4 9) rfl rfl)
            simp only [Act.put, List.setIfInBounds_toArray, List.set_cons_zero, List.set_cons_succ]
            refine take_held 9 HS1 rfl (by kernel_rfl) (by kernel_rfl) (by kernel_rfl) (fun _ _ _ h => h) (by kernel_rfl) (v := ?v310) ?y310 ?r310
            case y310 => (intro u hu; go_simp; try rfl)
            simp only [Act.put, List.setIfInBounds_toArray, List.set_cons_zero, List.set_cons_succ]
            refine done_held (by kernel_rfl) ?_ _
            go_wp2
            go_roundw
            case rel => exact ⟨i + 1, n2, now + pz, now + pz, _, by go_num, by go_num, by go_num, by omega, by omega, by omega, by omega, G2.same (by rw [sx.heap]) (by rw [sx.heap]), by omega, fun _ => rfl, fun h => by omega, by rw [sx.heap]; exact H9x, bx.trans (sx.below _)⟩
            case measure => simp [intOf]; omega
          · rw [if_neg hd, if_neg hd] at cD
            go_wp2_with (first
              | (go_at_call 12; refine (cZ _).mono ?_; rintro e yp ⟨rfl, hyp⟩; rw [hyp]; clear hyp)
              | (go_at_call 18; refine cD.mono ?_; rintro e x2 ⟨v2, rfl, n2, O2, G2, m2, q2⟩; obtain ⟨da, k2, rfl⟩ := own_slice (n := 0) O2 rfl; have H9x : x2.heap[gb]? = some (.cells (tlA (tlG 1 0 4 9)) 37 (0, 0)) := (q2.block _ lg (fun e => by cases e; omega)).trans H9'.out; have bx : Below B w x2 := HBW.out.grown q2 hs (fun k hk => by cases hk; exact Nat.le_refl _); clear cD q2 O2 hz)
              )
            go_roundw
            case rel => exact ⟨i + 1, n2, now + pz, ls, _, by go_num, by go_num, by go_num, by omega, by omega, by omega, by omega, G2, by omega, fun _ => rfl, fun h => by omega, H9x, bx⟩
            case measure => simp [intOf]; omega
        · have HM : Hid (M = MW (tlG 1 0 4 9) ls) := hM1 (by omega)
          have e1 : ((i : Int) == gn) = true := by simp; omega
          have e2 : gn ≤ (i : Int) := by omega
          have HC : Hid ((i : Int) = gn) := hc
          clear hc
          have cG1 := got_any HG.out 0 (wf64_of (by decide) (by decide))
          rw [HM.out, MW_got] at cG1
          have cG2 : ∀ (u : World) (k : Nat), LkAt u (B + 1) B k 1 (1 + r50) (fun _ => none) → _ := fun u k h => got_any h 0 (wf64_of (by decide) (by decide))
          have cD : ∀ (u : World) (k : Nat), LkAt u (B + 1) B k 1 (1 + r50) (fun _ => none) → k ≤ 900000 → _ := fun u k h hk => due_any (N := 1) h (now + pz) (by decide) hk
          simp only [upd_none] at cG2
          simp only [dueL_none, dueM_none] at cD
          clear G bw hM1 hM2 H9
          go_wp2_with (first
            | (have X' := G2; go_at_call 15; refine (cG2 _ _ G2).mono ?_; rintro e y3 ⟨rfl, G3, q3⟩; have by3 : Below B w y3 := by2.grown q3 (by have := by2.size; have := HX.out; omega) (fun k hk => by cases hk; exact Nat.le_refl _); have hz3 : y3.cell? (p.add i) = some (.int .i64 (zs i)) := (by obtain ⟨x, hx, h⟩ := HIn.out y3 by3 i hin; cases hx; exact h); have H93 : y3.heap[gb]? = some (.cells (tlA (tlG 1 0 4 9)) 37 (0, 0)) := (q3.block _ (by have := q2.size; omega) (fun e => by cases e; omega)).trans H92)
            | (go_at_call 15; refine cG1.mono ?_; rintro e y2 ⟨rfl, G2, q2⟩; have by2 : Below B w y2 := HBW.out.grown q2 hs (fun k hk => by cases hk; exact Nat.le_refl _); have H92 : y2.heap[gb]? = some (.cells (tlA (tlG 1 0 4 9)) 37 (0, 0)) := (q2.block _ lg (fun e => by cases e; omega)).trans H9'.out; clear cG1)
            | (go_at_call 12; refine (cZ _).mono ?_; rintro e yp ⟨rfl, hyp⟩; rw [hyp]; clear hyp)
            | (go_at_call 18; refine (cD _ _ G3 (by omega)).mono ?_; rintro e y4 ⟨v2, rfl, n2, O2, G4, m2, q4⟩; obtain ⟨da, k2, rfl⟩ := own_slice (n := 0) O2 rfl; have by4 : Below B w y4 := by3.grown q4 (by have := by3.size; have := HX.out; omega) (fun k hk => by cases hk; exact Nat.le_refl _); have H94 : y4.heap[gb]? = some (.cells (tlA (tlG 1 0 4 9)) 37 (0, 0)) := (q4.block _ (by have := q2.size; have := q3.size; omega) (fun e => by cases e; omega)).trans H93))
          go_roundw
          case rel => exact ⟨i + 1, n2, now + pz, ls, _, by go_num, by go_num, by go_num, by omega, by omega, by omega, by omega, G4, by omega, fun h => by have := HC.out; omega, fun _ => rfl, H94, by4⟩
          case measure => simp [intOf]; omega
        · have HM : Hid (M = fun _ => none) := hM2 (by omega)
          have e1 : ((i : Int) == gn) = false := by simp; omega
          have e2 : gn ≤ (i : Int) := by omega
          have cD := due_any (N := 1) HG.out (now + pz) (by decide) (by omega)
          rw [HM.out, dueL_none, dueM_none] at cD
          clear G bw hM1 hM2 H9
          go_wp2_with (first
            | (go_at_call 12; refine (cZ _).mono ?_; rintro e yp ⟨rfl, hyp⟩; rw [hyp]; clear hyp)
            | (go_at_call 18; refine cD.mono ?_; rintro e x2 ⟨v2, rfl, n2, O2, G2, m2, q2⟩; obtain ⟨da, k2, rfl⟩ := own_slice (n := 0) O2 rfl; have H9x : x2.heap[gb]? = some (.cells (tlA (tlG 1 0 4 9)) 37 (0, 0)) := (q2.block _ lg (fun e => by cases e; omega)).trans H9'.out; have bx : Below B w x2 := HBW.out.grown q2 hs (fun k hk => by cases hk; exact Nat.le_refl _); clear cD q2 O2 hz))
          go_roundw
          case rel => exact ⟨i + 1, n2, now + pz, ls, _, by go_num, by go_num, by go_num, by omega, by omega, by omega, by omega, G2, by omega, fun h => by omega, fun _ => rfl, H9x, bx⟩
          case measure => simp [intOf]; omega
      · have g2 : ¬ (i : Int) < 60 := by omega
        go_wp2_with (go_at_call 11; refine (awake17 _).mono ?_; rintro e x9 ⟨rfl, b9⟩)
        go_ret
        exact ⟨rfl, bw.trans (b9.mono hs)⟩
    · have g1 : ¬ (i : Int) < (n : Int) := by omega
      go_wp2_with (go_at_call 11; refine (awake17 _).mono ?_; rintro e x9 ⟨rfl, b9⟩)
      go_ret
      exact ⟨rfl, bw.trans (b9.mono hs)⟩
end Go.Proofs.Ytjladfpfhhnagaa.Lk
