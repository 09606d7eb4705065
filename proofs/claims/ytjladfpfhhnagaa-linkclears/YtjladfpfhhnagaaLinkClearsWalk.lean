/-
  Behind Clear nothing waits.
-/
import Derived.Test.YtjladfpfhhnagaaLinkIn
namespace Go.Proofs.Ytjladfpfhhnagaa.Lk
set_option linter.unusedVariables false
set_option linter.unusedSimpArgs false
open Go Go.RowKit Go.Shelf Go.Proofs Go.Proofs.Ytjladfpfhhnagaa.Tick Go.Proofs.Ytjladfpfhhnagaa.Plain
attribute [local go_sem] Oper.semAt_some

set_option maxRecDepth 100000 in
set_option maxHeartbeats 8000000 in
theorem clears_all (a : Option Addr) (n cap : Nat) (ts : Nat → Tl) (now : Int) (w : World) (hT : InT w a n ts) : Calls Try.prog 7 #[.slice a n cap, .int .i64 now] w fun e w' => e = .returned (.bool true) ∧ Below w.heap.size w w' := by
  have n1 := new_ok 8 1 w (by decide) (by decide) (by decide)
  have cN := fun w => place_any now 1000 w (by decide) (by decide)
  have HIn : Hid (∀ u, Below w.heap.size w u → InT u a n ts) := fun u hu => hT.go hu
  obtain ⟨B, hB⟩ : ∃ B, w.heap.size = B := ⟨_, rfl⟩
  rw [hB] at n1 HIn ⊢
  have HX : Hid (w.heap.size = B) := hB
  clear hB hT
  go_enter Try.func7, Try.ntmps7
  go_wp2_with (first
    | (go_at_call 9; refine n1.mono ?_; rintro e x1 ⟨rfl, G1, b1⟩; clear n1))
  go_loopw [7] (fun c wr => ∃ (i n' : Nat) (M : Mp), c = .int .i64 i ∧ i ≤ 40 ∧ LkAt wr (B + 1) B n' 8 1 M ∧ n' ≤ i ∧ Below B w wr) (fun c _ => 40 - (intOf c).toNat)
  case atStart => exact ⟨0, 0, _, rfl, by omega, G1, by omega, b1⟩
  case round =>
    clear G1 b1
    obtain ⟨i, n', M, rfl, hi, G, hn', bw⟩ := hrel
    have hs : B ≤ wr.heap.size := by have := bw.size; have := HX.out; omega
    have HG : Hid (LkAt wr (B + 1) B n' 8 1 M) := G
    clear G
    by_cases hin : i < n
    · have g1 : (i : Int) < (n : Int) := by omega
      by_cases hi40 : i < 40
      · have g2 : (i : Int) < 40 := by omega
        obtain ⟨p, rfl, hld⟩ := (HIn.out wr bw).load hin
        obtain ⟨t, ht⟩ : ∃ t, ts i = t := ⟨_, rfl⟩
        rw [ht] at hld
        obtain ⟨rb, hrb⟩ : ∃ rb, place t.rb 8 = rb := ⟨_, rfl⟩
        have prb := place_bd t.rb 8 (by decide)
        have cP := fun w => place_any t.rb 8 w (by decide) (by decide)
        rw [hrb] at prb cP
        obtain ⟨x1, hx1⟩ : ∃ x1, x1 = wr.alloc (.cells (tlA t) 37) := ⟨_, rfl⟩
        have b1 : Below wr.heap.size wr x1 := by rw [hx1]; exact (Below.refl _ _).alloc (Nat.le_refl _) _
        have h1 : x1.heap[wr.heap.size]? = some (.cells (tlA t) 37 (0, 0)) := by rw [hx1]; exact World.alloc_heap_new _ _
        obtain ⟨x2, hx2⟩ : ∃ x2, x1.setCell ⟨wr.heap.size, 1, none⟩ (.int .i64 rb) = x2 := ⟨_, rfl⟩
        have h2 : x2.heap[wr.heap.size]? = some (.cells (tlA { t with rb := rb }) 37 (0, 0)) := by rw [← hx2]; exact set_rb h1 rb
        have b2 : Below wr.heap.size wr x2 := by rw [← hx2]; exact b1.setCell (Nat.le_refl _) _
        have h1r := tl_rb h1
        have f1r := thaw (j := 1) h1
        have h2k := tl_kd h2
        have f2k := thaw (j := 0) h2
        simp only at h2k
        obtain ⟨kd, hkd⟩ : ∃ kd : Int, kd = 2 := ⟨_, rfl⟩
        obtain ⟨x3, hx3⟩ : ∃ x3, x2.setCell ⟨wr.heap.size, 0, none⟩ (.int .i64 kd) = x3 := ⟨_, rfl⟩
        have h3 : x3.heap[wr.heap.size]? = some (.cells (tlA { t with rb := rb, kd := kd }) 37 (0, 0)) := by rw [← hx3]; exact set_kd h2 kd
        have b3 : Below wr.heap.size wr x3 := by rw [← hx3]; exact b2.setCell (Nat.le_refl _) _
        have HB3 : Hid (Below wr.heap.size wr x3) := b3
        have H3 : Hid (x3.heap[wr.heap.size]? = some (.cells (tlA { t with rb := rb, kd := kd }) 37 (0, 0))) := h3
        have HBW : Hid (Below B w wr) := bw
        have HKD : Hid (kd = 2) := hkd
        have HPR : Hid (0 ≤ rb ∧ rb < 8) := prb
        rw [hkd] at hx3
        clear b1 b2 b3 h1 h2 h3 bw hkd hrb ht prb
        go_wp2_with (first
          | (refine wpList_load_at rfl 37 (.tmp 34) rfl (p.add (i * 19)) rfl (tlA t) hld ?_)
          | (refine wpList_new rfl rfl 37 8 (.tmp 35) rfl rfl rfl rfl (tlA tl0) (tlA t) (zeroTele _) rfl rfl infoTele rfl (tlA_one _) ?_; rw [← hx1]; clear hx1)
          | (go_at_call 12; refine (cP _).mono ?_; rintro e yp ⟨rfl, hyp⟩; rw [hyp]; clear hyp))
        refine start_any (S := fun u => u.heap[wr.heap.size]? = some (.cells (tlA { t with rb := rb, kd := kd }) 37 (0, 0))) 5 rfl (by kernel_rfl) (fun u su => by rw [su.heap]; exact H3.out) ?_
        intro x0 sx
        have HS1 : x0.heap[wr.heap.size]? = some (.cells (tlA { t with rb := rb, kd := kd }) 37 (0, 0)) := by rw [sx.heap]; exact H3.out
        simp only [Array.replicate_succ, Array.replicate_zero, List.push_toArray, List.nil_append, List.cons_append]
        refine take_held 0 HS1 rfl (by kernel_rfl) (by kernel_rfl) (by kernel_rfl) (fun _ _ _ h => h) (by kernel_rfl) (v := ?v301) ?y301 ?r301
        case y301 => (intro u hu; go_simp; try rfl)
        simp only [Act.put, List.setIfInBounds_toArray, List.set_cons_zero, List.set_cons_succ]
        refine take_held 1 HS1 rfl (by kernel_rfl) (by kernel_rfl) (by kernel_rfl) (fun _ _ _ h => h) (by kernel_rfl) (v := .agg (tlA { t with rb := rb, kd := kd })) ?y302 ?r302
        case y302 => (intro u hu; exact run_load_at 37 (.tmp 8) rfl ⟨wr.heap.size, 0, none⟩ rfl _ (load_tele hu))
        simp only [Act.put, List.setIfInBounds_toArray, List.set_cons_zero, List.set_cons_succ]
        refine take_held 2 HS1 rfl (by kernel_rfl) (by kernel_rfl) (by kernel_rfl) (fun _ _ _ h => h) (by kernel_rfl) (v := ?v303) ?y303 ?r303
        case y303 => (intro u hu; go_simp; try rfl)
        simp only [Act.put, List.setIfInBounds_toArray, List.set_cons_zero, List.set_cons_succ]
        refine call_held 3 rfl (by kernel_rfl) (by kernel_rfl) 12 #[.int .i64 now, .int .i64 1000] (by go_simp; try rfl) _ (cN x0) ?_
        rintro e x4 ⟨rfl, hx4⟩
        rw [hx4]
        clear hx4
        refine Or.inl ⟨_, rfl, HS1, ?_⟩
        simp only [Act.put, List.setIfInBounds_toArray, List.set_cons_zero, List.set_cons_succ]
        have b0 : Below wr.heap.size wr x0 := HB3.out.trans (sx.below _)
        have G0 := HG.out.go b0
        refine call_held 4 rfl (by kernel_rfl) (by kernel_rfl) 13 #[.pointer (some ⟨B + 1, 0, none⟩), .agg (tlA { t with rb := rb, kd := kd }), .int .i64 (place now 1000)] (by go_simp; try rfl) _ (send_ok G0 { t with rb := rb, kd := kd } (place now 1000) HPR.out.1 HPR.out.2 (Or.inr HKD.out) (wf64_of (by have := HPR.out; simp only; omega) (by have := HPR.out; simp only; omega)) (by omega)) ?_
        rintro e x5 ⟨rfl, G5, q5⟩
        have lx : wr.heap.size < x0.heap.size := (Array.getElem?_eq_some_iff.1 HS1).1
        have hb : B < wr.heap.size := HG.out.blt
        have HS5 : x5.heap[wr.heap.size]? = some (.cells (tlA { t with rb := rb, kd := kd }) 37 (0, 0)) := (q5.block _ lx (fun e => by cases e; omega)).trans HS1
        refine Or.inl ⟨_, rfl, HS5, ?_⟩
        simp only [Act.put, List.setIfInBounds_toArray, List.set_cons_zero, List.set_cons_succ]
        refine done_held (by kernel_rfl) ?_ _
        have bw5 : Below B w x5 := (HBW.out.trans (b0.mono hs)).grown q5 (by omega) (fun k hk => by cases hk; exact Nat.le_refl _)
        clear b0 G0 q5 HS5 HS1 sx lx
        go_wp2
        go_roundw
        case rel => exact ⟨i + 1, n' + 1, _, by go_num, by omega, G5, by omega, bw5⟩
        case measure => simp [intOf]; omega
      · have g2 : ¬ (i : Int) < 40 := by omega
        go_wp2_with (first
          | (go_at_call 20; refine (clear_any HG.out).mono ?_; rintro e y1 ⟨rfl, G1, q1⟩))
        have c1 : Below B w y1 := bw.grown q1 hs (fun k hk => by cases hk; exact Nat.le_refl _)
        clear q1
        go_loopw [9] (fun c wz => ∃ (k : Nat), c = .int .i64 k ∧ k ≤ 8 ∧ LkAt wz (B + 1) B 0 8 1 (fun _ => none) ∧ Below B w wz) (fun c _ => 8 - (intOf c).toNat)
        case atStart => exact ⟨0, rfl, by omega, G1, c1⟩
        case round =>
          clear G1 c1
          obtain ⟨k, rfl, hk, G, cw⟩ := hrel
          have sz : B ≤ wr.heap.size := by have := cw.size; have := HX.out; omega
          by_cases hk8 : k < 8
          · have g8 : (k : Int) < 8 := by omega
            have hwf : wf64 (k : Int) := wf64_of (by omega) (by omega)
            have cW := waits_any G k hwf
            simp only [Option.isSome_none] at cW
            have HGk : Hid (LkAt wr (B + 1) B 0 8 1 (fun _ => none)) := G
            have HCW : Hid (Below B w wr) := cw
            clear G cw
            go_wp2_with (first
              | (go_at_call 22; refine cW.mono ?_; rintro e z1 ⟨rfl, d1⟩; clear cW; obtain ⟨z2, hz2⟩ : ∃ z2, z2 = z1.alloc (.cells (tlA (tlOf none)) 37) := ⟨_, rfl⟩; have d2 : Below wr.heap.size wr z2 := d1.trans ((by rw [hz2]; exact (Below.refl _ _).alloc (Nat.le_refl _) _ : Below z1.heap.size z1 z2).mono d1.size); have cG := got_any (HGk.out.go d2) k hwf; rw [upd_none] at cG; simp only [Option.isSome_none] at cG)
              | (refine wpList_new rfl rfl 37 10 (.tmp 56) rfl rfl rfl rfl (tlA tl0) (tlA (tlOf none)) (zeroTele _) rfl rfl infoTele rfl (tlA_one _) ?_; rw [← hz2]; clear hz2)
              | (go_at_call 15; refine cG.mono ?_; rintro e z3 ⟨rfl, G3, q3⟩))
            have cw2 : Below B w z2 := HCW.out.trans (d2.mono sz)
            have cw3 : Below B w z3 := cw2.grown q3 (by have := d2.size; omega) (fun k hk => by cases hk; exact Nat.le_refl _)
            go_roundw
            case rel => exact ⟨k + 1, by go_num, by omega, G3, cw3⟩
            case measure => simp [intOf]; omega
          · have g8 : ¬ (k : Int) < 8 := by omega
            have cD := due_any (N := 8) G 1099511627776 (by decide) (by decide)
            rw [dueL_none, dueM_none] at cD
            go_wp2_with (first
              | (go_at_call 18; refine cD.mono ?_; rintro e z1 ⟨v2, rfl, n2, O2, G2, m2, q2⟩; obtain ⟨a2, k2, rfl⟩ := own_slice (n := 0) O2 rfl; have d1 : Below B w z1 := cw.grown q2 sz (fun k hk => by cases hk; exact Nat.le_refl _))
              | (go_at_call 11; refine (awake17 _).mono ?_; rintro e x9 ⟨rfl, b9⟩))
            go_ret
            exact ⟨rfl, d1.trans (b9.mono (by have := d1.size; have := HX.out; omega))⟩
    · have g1 : ¬ (i : Int) < (n : Int) := by omega
      go_wp2_with (first
        | (go_at_call 20; refine (clear_any HG.out).mono ?_; rintro e y1 ⟨rfl, G1, q1⟩))
      have c1 : Below B w y1 := bw.grown q1 hs (fun k hk => by cases hk; exact Nat.le_refl _)
      clear q1
      go_loopw [9] (fun c wz => ∃ (k : Nat), c = .int .i64 k ∧ k ≤ 8 ∧ LkAt wz (B + 1) B 0 8 1 (fun _ => none) ∧ Below B w wz) (fun c _ => 8 - (intOf c).toNat)
      case atStart => exact ⟨0, rfl, by omega, G1, c1⟩
      case round =>
        clear G1 c1
        obtain ⟨k, rfl, hk, G, cw⟩ := hrel
        have sz : B ≤ wr.heap.size := by have := cw.size; have := HX.out; omega
        by_cases hk8 : k < 8
        · have g8 : (k : Int) < 8 := by omega
          have hwf : wf64 (k : Int) := wf64_of (by omega) (by omega)
          have cW := waits_any G k hwf
          simp only [Option.isSome_none] at cW
          have HGk : Hid (LkAt wr (B + 1) B 0 8 1 (fun _ => none)) := G
          have HCW : Hid (Below B w wr) := cw
          clear G cw
          go_wp2_with (first
            | (go_at_call 22; refine cW.mono ?_; rintro e z1 ⟨rfl, d1⟩; clear cW; obtain ⟨z2, hz2⟩ : ∃ z2, z2 = z1.alloc (.cells (tlA (tlOf none)) 37) := ⟨_, rfl⟩; have d2 : Below wr.heap.size wr z2 := d1.trans ((by rw [hz2]; exact (Below.refl _ _).alloc (Nat.le_refl _) _ : Below z1.heap.size z1 z2).mono d1.size); have cG := got_any (HGk.out.go d2) k hwf; rw [upd_none] at cG; simp only [Option.isSome_none] at cG)
            | (refine wpList_new rfl rfl 37 10 (.tmp 56) rfl rfl rfl rfl (tlA tl0) (tlA (tlOf none)) (zeroTele _) rfl rfl infoTele rfl (tlA_one _) ?_; rw [← hz2]; clear hz2)
            | (go_at_call 15; refine cG.mono ?_; rintro e z3 ⟨rfl, G3, q3⟩))
          have cw2 : Below B w z2 := HCW.out.trans (d2.mono sz)
          have cw3 : Below B w z3 := cw2.grown q3 (by have := d2.size; omega) (fun k hk => by cases hk; exact Nat.le_refl _)
          go_roundw
          case rel => exact ⟨k + 1, by go_num, by omega, G3, cw3⟩
          case measure => simp [intOf]; omega
        · have g8 : ¬ (k : Int) < 8 := by omega
          have cD := due_any (N := 8) G 1099511627776 (by decide) (by decide)
          rw [dueL_none, dueM_none] at cD
          go_wp2_with (first
            | (go_at_call 18; refine cD.mono ?_; rintro e z1 ⟨v2, rfl, n2, O2, G2, m2, q2⟩; obtain ⟨a2, k2, rfl⟩ := own_slice (n := 0) O2 rfl; have d1 : Below B w z1 := cw.grown q2 sz (fun k hk => by cases hk; exact Nat.le_refl _))
            | (go_at_call 11; refine (awake17 _).mono ?_; rintro e x9 ⟨rfl, b9⟩))
          go_ret
          exact ⟨rfl, d1.trans (b9.mono (by have := d1.size; have := HX.out; omega))⟩
end Go.Proofs.Ytjladfpfhhnagaa.Lk
