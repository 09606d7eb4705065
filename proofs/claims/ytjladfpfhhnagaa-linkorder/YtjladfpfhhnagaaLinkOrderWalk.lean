/-
  What is due comes by robots; each robot has one that waits, the last one.
-/
import Derived.Test.YtjladfpfhhnagaaLinkArr
namespace Go.Proofs.Ytjladfpfhhnagaa.Lk
set_option linter.unusedVariables false
set_option linter.unusedSimpArgs false
open Go Go.RowKit Go.Shelf Go.Proofs Go.Proofs.Ytjladfpfhhnagaa.Tick Go.Proofs.Ytjladfpfhhnagaa.Plain
attribute [local go_sem] Oper.semAt_some

theorem dueL_pre (now rsd : Int) (M : Mp) (i : Nat) : ∀ n, i ≤ n → ∃ r, dueL now rsd M n = dueL now rsd M i ++ r
  | 0, h => ⟨[], by obtain rfl : i = 0 := by omega
                    simp⟩
  | n + 1, h => by
    by_cases e : i = n + 1
    · subst e; exact ⟨[], by simp⟩
    · obtain ⟨r, hr⟩ := dueL_pre now rsd M i n (by omega)
      exact ⟨r ++ due1 now rsd (M (n : Int)), by rw [dueL_succ, hr, List.append_assoc]⟩
theorem dueL_hit {now rsd : Int} {M : Mp} {i : Nat} {t : Tl} (hi : i < 8) (h : due1 now rsd (M (i : Int)) = [t]) : ∃ hk : (dueL now rsd M i).length < (dueL now rsd M 8).length, (dueL now rsd M 8)[(dueL now rsd M i).length]'hk = t := by
  obtain ⟨r, hr⟩ := dueL_pre now rsd M (i + 1) 8 (by omega)
  rw [dueL_succ now rsd M i, h] at hr
  have hk : (dueL now rsd M i).length < (dueL now rsd M 8).length := by rw [hr]; simp
  refine ⟨hk, ?_⟩
  have : (dueL now rsd M 8)[(dueL now rsd M i).length]? = some t := by rw [hr]; simp
  exact (List.getElem?_eq_some_iff.1 this).2
set_option maxRecDepth 100000 in
set_option maxHeartbeats 8000000 in
theorem order_all (a : Option Addr) (n cap : Nat) (ts : Nat → Tl) (now : Int) (w : World) (hT : InT w a n ts) : Calls Try.prog 6 #[.slice a n cap, .int .i64 now] w fun e w' => e = .returned (.bool true) ∧ Below w.heap.size w w' := by
  have n1 := new_ok 8 5 w (by decide) (by decide) (by decide)
  have pN := place_bd now 1000 (by decide)
  obtain ⟨nw, hnw⟩ : ∃ nw, place now 1000 = nw := ⟨_, rfl⟩
  rw [hnw] at pN
  have HIn : Hid (∀ u, Below w.heap.size w u → InT u a n ts) := fun u hu => hT.go hu
  obtain ⟨B, hB⟩ : ∃ B, w.heap.size = B := ⟨_, rfl⟩
  rw [hB] at n1 HIn ⊢
  have HX : Hid (w.heap.size = B) := hB
  clear hB hT
  go_enter Try.func6, Try.ntmps6
  go_wp2_with (first
    | (go_at_call 12; refine (place_any _ _ _ (by decide) (by decide)).mono ?_; rintro e yp ⟨rfl, hyp⟩; rw [hyp]; clear hyp)
    | (go_at_call 9; refine n1.mono ?_; rintro e x1 ⟨rfl, G1, b1⟩; clear n1; have A1 := ar_new x1 53; obtain ⟨x2, hx2⟩ : ∃ x2, x2 = x1.alloc (.cells z152 53) := ⟨_, rfl⟩; rw [← hx2] at A1; have b2 : Below x1.heap.size x1 x2 := (by rw [hx2]; exact (Below.refl _ _).alloc (Nat.le_refl _) _))
    | (refine wpList_allocArr rfl rfl ?_; rw [← hx2]; clear hx2))
  have G2 := G1.go b2
  have lb0 : B < x1.heap.size := G1.blt
  have b3 : Below B w x2 := b1.trans (b2.mono (by omega))
  obtain ⟨gb, hgb⟩ : ∃ gb, x1.heap.size = gb := ⟨_, rfl⟩
  rw [hgb] at A1 lb0
  try rw [hgb]
  have gbp : Hid (B + 1 < gb) := by have := G1.lt; show _ < _; omega
  clear hgb b2 b1 G1 hnw
  go_loopw [8] (fun c wr => ∃ (i n' : Nat) (M : Mp) (f : Nat → Tl), c = .int .i64 i ∧ i ≤ 40 ∧ LkAt wr (B + 1) B n' 8 5 M ∧ n' ≤ i ∧ Ar wr gb f ∧ (∀ j, j < 8 → ((f j).kd = 0 → M (j : Int) = none) ∧ ((f j).kd ≠ 0 → M (j : Int) = some (f j, nw))) ∧ Below B w wr) (fun c _ => 40 - (intOf c).toNat)
  case atStart => exact ⟨0, 0, _, _, rfl, by omega, G2, by omega, A1, fun j _ => ⟨fun _ => rfl, fun h => absurd rfl h⟩, b3⟩
  case round =>
    clear G2 b3 A1
    obtain ⟨i, n', M, f, rfl, hi, G, hn', hA, hMf, bw⟩ := hrel
    have hs : B ≤ wr.heap.size := by have := bw.size; have := HX.out; omega
    have HG : Hid (LkAt wr (B + 1) B n' 8 5 M) := G
    have HA : Hid (Ar wr gb f) := hA
    have HMf : Hid (∀ j, j < 8 → ((f j).kd = 0 → M (j : Int) = none) ∧ ((f j).kd ≠ 0 → M (j : Int) = some (f j, nw))) := hMf
    have lb : B < wr.heap.size := G.blt
    have lg : gb < wr.heap.size := hA.lt
    have HGP : Hid (B + 1 < gb) := gbp.out
    clear G hA hMf
    by_cases hin : i < n
    · have g1 : (i : Int) < (n : Int) := by omega
      by_cases hi40 : i < 40
      · have g2 : (i : Int) < 40 := by omega
        have HBW : Hid (Below B w wr) := bw
        obtain ⟨p, rfl, hld⟩ := (HIn.out wr bw).load hin
        obtain ⟨t, ht⟩ : ∃ t, ts i = t := ⟨_, rfl⟩
        rw [ht] at hld
        obtain ⟨rn, hrb⟩ : ∃ rn : Nat, place t.rb 8 = (rn : Int) := ⟨(place t.rb 8).toNat, by have := place_bd t.rb 8 (by decide); omega⟩
        have prb := place_bd t.rb 8 (by decide)
        rw [hrb] at prb
        obtain ⟨x1, hx1⟩ : ∃ x1, x1 = wr.alloc (.cells (tlA t) 37) := ⟨_, rfl⟩
        have b1 : Below wr.heap.size wr x1 := by rw [hx1]; exact (Below.refl _ _).alloc (Nat.le_refl _) _
        have h1 : x1.heap[wr.heap.size]? = some (.cells (tlA t) 37 (0, 0)) := by rw [hx1]; exact World.alloc_heap_new _ _
        obtain ⟨x2, hx2⟩ : ∃ x2, x1.setCell ⟨wr.heap.size, 1, none⟩ (.int .i64 (rn : Int)) = x2 := ⟨_, rfl⟩
        have h2 : x2.heap[wr.heap.size]? = some (.cells (tlA { t with rb := (rn : Int) }) 37 (0, 0)) := by rw [← hx2]; exact set_rb h1 (rn : Int)
        have b2 : Below wr.heap.size wr x2 := by rw [← hx2]; exact b1.setCell (Nat.le_refl _) _
        have h1r := tl_rb h1
        have f1r := thaw (j := 1) h1
        have h2k := tl_kd h2
        have f2k := thaw (j := 0) h2
        simp only at h2k
        obtain ⟨kd, hkd⟩ : ∃ kd : Int, kd = 1 + place t.kd 2 := ⟨_, rfl⟩
        obtain ⟨x3, hx3⟩ : ∃ x3, x2.setCell ⟨wr.heap.size, 0, none⟩ (.int .i64 kd) = x3 := ⟨_, rfl⟩
        have h3 : x3.heap[wr.heap.size]? = some (.cells (tlA { t with rb := (rn : Int), kd := kd }) 37 (0, 0)) := by rw [← hx3]; exact set_kd h2 kd
        have b3 : Below wr.heap.size wr x3 := by rw [← hx3]; exact b2.setCell (Nat.le_refl _) _
        have pkd := place_bd t.kd 2 (by decide)
        obtain ⟨kq, hkq⟩ : ∃ kq, place t.kd 2 = kq := ⟨_, rfl⟩
        rw [hkq] at pkd hkd
        have HKD : Hid (kd = 1 ∨ kd = 2) := by show _ ∨ _; omega
        have HB3 : Hid (Below wr.heap.size wr x3) := b3
        have H3 : Hid (x3.heap[wr.heap.size]? = some (.cells (tlA { t with rb := (rn : Int), kd := kd }) 37 (0, 0))) := h3
        have HPR : Hid (0 ≤ (rn : Int) ∧ (rn : Int) < 8) := prb
        have h3r := tl_rb h3
        have kd0 : kd ≠ 0 := by omega
        rw [hkd] at hx3
        simp only at h3r
        have ld3 := load_tele h3
        have L3 : Hid (wr.heap.size < x3.heap.size) := (Array.getElem?_eq_some_iff.1 h3).1
        have G3 := HG.out.go b3
        have A3 := HA.out.same (b3.block _ lg)
        clear b1 b2 b3 h1 h2 h3 bw hkd ht
        go_wp2_with (first
          | (go_at_call 12; refine (place_any _ _ _ (by decide) (by decide)).mono ?_; rintro e yp ⟨rfl, hyp⟩; rw [hyp]; clear hyp)
          | (refine wpList_load_at rfl 37 (.tmp 39) rfl (p.add (i * 19)) rfl (tlA t) hld ?_)
          | (refine wpList_new rfl rfl 37 9 (.tmp 40) rfl rfl rfl rfl (tlA tl0) (tlA t) (zeroTele _) rfl rfl infoTele rfl (tlA_one _) ?_; rw [← hx1]; clear hx1)
          | (refine wpList_load_at rfl 37 (.tmp 9) rfl ⟨wr.heap.size, 0, none⟩ rfl _ ld3 ?_; clear ld3)
          | (go_at_call 13; refine (send_ok G3 { t with rb := (rn : Int), kd := kd } nw HPR.out.1 HPR.out.2 HKD.out (wf64_of (by have := HPR.out; simp only; omega) (by have := HPR.out; simp only; omega)) (by omega)).mono ?_; rintro e x4 ⟨rfl, G4, q4⟩; obtain ⟨x5, hx5⟩ : ∃ x5, x5 = x4.alloc (.cells (tlA { t with rb := (rn : Int), kd := kd }) 37) := ⟨_, rfl⟩; have b5 : Below x4.heap.size x4 x5 := (by rw [hx5]; exact (Below.refl _ _).alloc (Nat.le_refl _) _); have H5 : x5.heap[wr.heap.size]? = some (.cells (tlA { t with rb := (rn : Int), kd := kd }) 37 (0, 0)) := (b5.block _ (by have := q4.size; have := L3.out; omega)).trans ((q4.block _ L3.out (fun e => by cases e; omega)).trans H3.out); have z5 := tl_rb H5; have ld5 := load_tele H5; have G5 := G4.go b5; have A5 := (A3.same (q4.block _ A3.lt (fun e => by cases e; omega))).same (b5.block _ (by have := q4.size; have := A3.lt; omega)); have bw5 : Below B w x5 := ((HBW.out.trans (HB3.out.mono hs)).grown q4 (by have := L3.out; omega) (fun k hk => by cases hk; exact Nat.le_refl _)).trans (b5.mono (by have := q4.size; have := L3.out; omega)); clear q4 b5 G4)
          | (refine wpList_new rfl rfl 37 10 (.tmp 55) rfl rfl rfl rfl (tlA tl0) (tlA { t with rb := (rn : Int), kd := kd }) (zeroTele _) rfl rfl infoTele rfl (tlA_one _) ?_; rw [← hx5]; clear hx5)
          | (refine wpList_load_at rfl 37 (.tmp 9) rfl ⟨wr.heap.size, 0, none⟩ rfl _ ld5 ?_; clear ld5)
          | (refine wpList_putArr rfl (.tmp 62) (.tmp 61) rfl gb rn (by have := HPR.out; omega) f A5 { t with rb := (rn : Int), kd := kd } rfl rfl ?_; intro x6 A6 q6))
        have bw6 : Below B w x6 := bw5.grown q6 (by have := bw5.size; have := HX.out; omega) (fun k hk => by cases hk; omega)
        have G6 := G5.same (q6.block _ G5.lt (fun e => by have := HGP.out; cases e; omega)) (q6.block _ G5.blt (fun e => by cases e; omega))
        go_roundw
        case rel =>
          refine ⟨i + 1, n' + 1, _, _, by go_num, by omega, G6, by omega, A6, fun j hj => ?_, bw6⟩
          unfold setAt upd
          by_cases ej : j = rn
          · subst ej
            simp only [if_pos]
            exact ⟨fun h => absurd h kd0, fun _ => by first | trivial | rfl⟩
          · have ej' : ¬ (j : Int) = (rn : Int) := by omega
            simp only [if_neg ej, if_neg ej']
            exact HMf.out j hj
        case measure => simp [intOf]; omega
      · have g2 : ¬ (i : Int) < 40 := by omega
        have HBW : Hid (Below B w wr) := bw
        clear bw
        have cD := due_any (N := 8) HG.out (nw + 5) (by decide) (by omega)
        go_wp2_with (first
          | (go_at_call 18; refine cD.mono ?_; rintro e y1 ⟨v2, rfl, n2, O2, G2, m2, q2⟩; clear cD))
        have c1 : Below B w y1 := HBW.out.grown q2 hs (fun k hk => by cases hk; exact Nat.le_refl _)
        have A1 : Ar y1 gb f := HA.out.same (q2.block _ HA.out.lt (fun e => by cases e; omega))
        obtain ⟨dn, hdn⟩ : ∃ dn, (dueL (nw + 5) 5 M 8).length = dn := ⟨_, rfl⟩
        have HDn : Hid ((dueL (nw + 5) 5 M 8).length = dn) := hdn
        obtain ⟨da, dc, rfl⟩ := own_slice O2 hdn
        have HO : Hid (Own y1 wr.heap.size (.slice da dn dc) (dueL (nw + 5) 5 M 8)) := O2
        have d8 : dn ≤ 8 := by rw [← hdn]; exact dueL_len _ _ _ _
        have s1 : wr.heap.size ≤ y1.heap.size := q2.size
        clear hdn O2 G2 q2 m2
        go_loopw [14, 13] (fun ci ck wz => ∃ (j k : Nat), ci = .int .i64 j ∧ ck = .int .i64 k ∧ j ≤ 8 ∧ k = (dueL (nw + 5) 5 M j).length ∧ (∀ g, g < y1.heap.size → wz.heap[g]? = y1.heap[g]?) ∧ Below B w wz) (fun ci _ _ => 8 - (intOf ci).toNat)
        case atStart => exact ⟨0, 0, rfl, rfl, by omega, rfl, fun _ _ => rfl, c1⟩
        case round =>
          clear c1
          obtain ⟨i, k, rfl, rfl, hi, hkk, hsame, cw⟩ := hrel
          have HK : Hid (k = (dueL (nw + 5) 5 M i).length) := hkk
          have HS : Hid (∀ g, g < y1.heap.size → wr.heap[g]? = y1.heap[g]?) := hsame
          have HCW : Hid (Below B w wr) := cw
          have A2 : Ar wr gb f := A1.same (hsame gb A1.lt)
          have HA' : Hid (Ar wr gb f) := A2
          have kl : k ≤ i := by rw [hkk]; exact dueL_len _ _ _ _
          clear hkk hsame cw
          by_cases hi8 : i < 8
          · have g8 : (i : Int) < 8 := by omega
            have hkd := A2.kd hi8
            clear A2
            by_cases hz : (f i).kd = 0
            · have HZ : Hid (due1 (nw + 5) 5 (M (i : Int)) = []) := by show _ = _; rw [(HMf.out i hi8).1 hz]; rfl
              rw [hz] at hkd
              go_wp2
              go_roundw
              case rel => exact ⟨i + 1, k, by go_num, by go_num, by omega, by rw [dueL_succ, HZ.out, List.append_nil]; exact HK.out, HS.out, HCW.out⟩
              case measure => simp [intOf]; omega
            · have HZ : Hid (due1 (nw + 5) 5 (M (i : Int)) = [f i]) := by show _ = _; rw [(HMf.out i hi8).2 hz]; unfold due1; simp only; rw [less_id (by omega) (by omega) (by omega), if_pos (by omega)]
              have hz' : ((f i).kd == 0) = false := by simp; exact hz
              have hit := dueL_hit (now := nw + 5) (rsd := 5) (M := M) hi8 HZ.out
              rw [← HK.out] at hit
              obtain ⟨hk8, hat⟩ := hit
              obtain ⟨dg, dc', hdv, hdl, hld'⟩ := own_item HO.out HDn.out hk8
              have hld : ∀ u : World, u.heap[dg]? = wr.heap[dg]? → (loadVar 37 ⟨dg, k * 19, none⟩).run Try.prog u = .ok (.agg (tlA (f i))) u := fun u hu => by
                have := hld' u (hu.trans (HS.out dg hdl))
                rw [hat] at this
                exact this
              have hkn : (k : Int) < (dn : Int) := by have := HDn.out; omega
              have hknN : k < dn := by omega
              have hkn' : decide ((dn : Int) ≤ (k : Int)) = false := by simp; omega
              simp only [Value.slice.injEq, true_and] at hdv
              obtain ⟨rfl, rfl⟩ := hdv
              have HA : Hid (Ar wr gb f) := HA'
              generalize hkq : (f i).kd = kq at *
              clear hkq hat hld' hk8
              go_wp2_with fail
              refine start_any (S := fun u => u.heap[dg]? = wr.heap[dg]? ∧ Ar u gb f) 14 rfl (by kernel_rfl) (fun u su => ⟨by rw [su.heap], HA.out.same (by rw [su.heap])⟩) ?_
              intro x3 sx
              have HS1 : x3.heap[dg]? = wr.heap[dg]? ∧ Ar x3 gb f := ⟨by rw [sx.heap], HA.out.same (by rw [sx.heap])⟩
              simp only [Array.replicate_succ, Array.replicate_zero, List.push_toArray, List.nil_append, List.cons_append]
              refine take_held 0 HS1 rfl (by kernel_rfl) (by kernel_rfl) (by kernel_rfl) (fun _ _ _ h => h) (by kernel_rfl) (v := ?v315) ?y315 ?r315
              case y315 => (intro u hu; go_simp; try rfl)
              simp only [Act.put, List.setIfInBounds_toArray, List.set_cons_zero, List.set_cons_succ]
              refine take_held 1 HS1 rfl (by kernel_rfl) (by kernel_rfl) (by kernel_rfl) (fun _ _ _ h => h) (by kernel_rfl) (v := ?v316) ?y316 ?r316
              case y316 => (intro u hu; go_simp; try rfl)
              simp only [Act.put, List.setIfInBounds_toArray, List.set_cons_zero, List.set_cons_succ]
              refine take_held 2 HS1 rfl (by kernel_rfl) (by kernel_rfl) (by kernel_rfl) (fun _ _ _ h => h) (by kernel_rfl) (v := ?v317) ?y317 ?r317
              case y317 => (intro u hu; go_simp; try rfl)
              simp only [Act.put, List.setIfInBounds_toArray, List.set_cons_zero, List.set_cons_succ]
              refine take_held 3 HS1 rfl (by kernel_rfl) (by kernel_rfl) (by kernel_rfl) (fun _ _ _ h => h) (by kernel_rfl) (v := .bool false) ?y318 ?r318
              case y318 => (intro u hu; go_simp; try rfl)
              simp only [Act.put, List.setIfInBounds_toArray, List.set_cons_zero, List.set_cons_succ]
              refine take_held 4 HS1 rfl (by kernel_rfl) (by kernel_rfl) (by kernel_rfl) (fun _ _ _ h => h) (by kernel_rfl) (v := .bool false) ?y319 ?r319
              case y319 => (intro u hu; go_simp; try rfl)
              simp only [Act.put, List.setIfInBounds_toArray, List.set_cons_zero, List.set_cons_succ]
              refine take_held 5 HS1 rfl (by kernel_rfl) (by kernel_rfl) (by kernel_rfl) (fun _ _ _ h => h) (by kernel_rfl) (v := ?v320) ?y320 ?r320
              case y320 => (intro u hu; go_simp; try rfl)
              simp only [Act.put, List.setIfInBounds_toArray, List.set_cons_zero, List.set_cons_succ]
              refine take_held 6 HS1 rfl (by kernel_rfl) (by kernel_rfl) (by kernel_rfl) (fun _ _ _ h => h) (by kernel_rfl) (v := ?v321) ?y321 ?r321
              case y321 => (intro u hu; go_simp; try rfl)
              simp only [Act.put, List.setIfInBounds_toArray, List.set_cons_zero, List.set_cons_succ]
              refine take_held 7 HS1 rfl (by kernel_rfl) (by kernel_rfl) (by kernel_rfl) (fun _ _ _ h => h) (by kernel_rfl) (v := ?v322) ?y322 ?r322
              case y322 => (intro u hu; go_simp; try rfl)
              simp only [Act.put, List.setIfInBounds_toArray, List.set_cons_zero, List.set_cons_succ]
              refine take_held 8 HS1 rfl (by kernel_rfl) (by kernel_rfl) (by kernel_rfl) (fun _ _ _ h => h) (by kernel_rfl) (v := .agg (tlA (f i))) ?y323 ?r323
              case y323 => (intro u hu; exact run_load_at 37 (.tmp 83) rfl ⟨dg, k * 19, none⟩ (by go_simp; try rfl) _ (hld u hu.1))
              simp only [Act.put, List.setIfInBounds_toArray, List.set_cons_zero, List.set_cons_succ]
              refine take_held 9 HS1 rfl (by kernel_rfl) (by kernel_rfl) (by kernel_rfl) (fun _ _ _ h => h) (by kernel_rfl) (v := ?v324) ?y324 ?r324
              case y324 => (intro u hu; go_simp; try rfl)
              simp only [Act.put, List.setIfInBounds_toArray, List.set_cons_zero, List.set_cons_succ]
              refine take_held 10 HS1 rfl (by kernel_rfl) (by kernel_rfl) (by kernel_rfl) (fun _ _ _ h => h) (by kernel_rfl) (v := ?v325) ?y325 ?r325
              case y325 => (intro u hu; go_simp; try rfl)
              simp only [Act.put, List.setIfInBounds_toArray, List.set_cons_zero, List.set_cons_succ]
              refine take_held 11 HS1 rfl (by kernel_rfl) (by kernel_rfl) (by kernel_rfl) (fun _ _ _ h => h) (by kernel_rfl) (v := .agg (tlA (f i))) ?y326 ?r326
              case y326 => (intro u hu; exact run_load_at 37 (.tmp 86) rfl ⟨gb, i * 19, none⟩ (by go_simp; try rfl) _ (hu.2.load hi8))
              simp only [Act.put, List.setIfInBounds_toArray, List.set_cons_zero, List.set_cons_succ]
              refine take_held 12 HS1 rfl (by kernel_rfl) (by kernel_rfl) (by kernel_rfl) (fun _ _ _ h => h) (by kernel_rfl) (v := .bool false) ?y327 ?r327
              case y327 => (intro u hu; exact run_neq_tele _ (.tmp 84) (.tmp 87) rfl (f i) rfl rfl)
              simp only [Act.put, List.setIfInBounds_toArray, List.set_cons_zero, List.set_cons_succ]
              refine take_held 13 HS1 rfl (by kernel_rfl) (by kernel_rfl) (by kernel_rfl) (fun _ _ _ h => h) (by kernel_rfl) (v := ?v328) ?y328 ?r328
              case y328 => (intro u hu; go_simp; try rfl)
              simp only [Act.put, List.setIfInBounds_toArray, List.set_cons_zero, List.set_cons_succ]
              refine done_held (by kernel_rfl) ?_ _
              go_wp2
              go_roundw
              case rel => exact ⟨i + 1, k + 1, by go_num, by go_num, by omega, by rw [dueL_succ, HZ.out, List.length_append, ← HK.out]; rfl, fun g hg => by rw [sx.heap]; exact HS.out g hg, HCW.out.trans (sx.below _)⟩
              case measure => simp [intOf]; omega
          · obtain rfl : i = 8 := by omega
            obtain rfl : k = dn := by rw [HK.out]; exact HDn.out
            have g8 : ¬ ((8 : Nat) : Int) < 8 := by omega
            have b8 : B ≤ wr.heap.size := by have := HCW.out.size; have := HX.out; omega
            go_wp2_with (go_at_call 11; refine (awake17 _).mono ?_; rintro e x9 ⟨rfl, b9⟩)
            go_ret
            exact ⟨rfl, HCW.out.trans (b9.mono b8)⟩
    · have g1 : ¬ (i : Int) < (n : Int) := by omega
      have HBW : Hid (Below B w wr) := bw
      clear bw
      have cD := due_any (N := 8) HG.out (nw + 5) (by decide) (by omega)
      go_wp2_with (first
        | (go_at_call 18; refine cD.mono ?_; rintro e y1 ⟨v2, rfl, n2, O2, G2, m2, q2⟩; clear cD))
      have c1 : Below B w y1 := HBW.out.grown q2 hs (fun k hk => by cases hk; exact Nat.le_refl _)
      have A1 : Ar y1 gb f := HA.out.same (q2.block _ HA.out.lt (fun e => by cases e; omega))
      obtain ⟨dn, hdn⟩ : ∃ dn, (dueL (nw + 5) 5 M 8).length = dn := ⟨_, rfl⟩
      have HDn : Hid ((dueL (nw + 5) 5 M 8).length = dn) := hdn
      obtain ⟨da, dc, rfl⟩ := own_slice O2 hdn
      have HO : Hid (Own y1 wr.heap.size (.slice da dn dc) (dueL (nw + 5) 5 M 8)) := O2
      have d8 : dn ≤ 8 := by rw [← hdn]; exact dueL_len _ _ _ _
      have s1 : wr.heap.size ≤ y1.heap.size := q2.size
      clear hdn O2 G2 q2 m2
      go_loopw [14, 13] (fun ci ck wz => ∃ (j k : Nat), ci = .int .i64 j ∧ ck = .int .i64 k ∧ j ≤ 8 ∧ k = (dueL (nw + 5) 5 M j).length ∧ (∀ g, g < y1.heap.size → wz.heap[g]? = y1.heap[g]?) ∧ Below B w wz) (fun ci _ _ => 8 - (intOf ci).toNat)
      case atStart => exact ⟨0, 0, rfl, rfl, by omega, rfl, fun _ _ => rfl, c1⟩
      case round =>
        clear c1
        obtain ⟨i, k, rfl, rfl, hi, hkk, hsame, cw⟩ := hrel
        have HK : Hid (k = (dueL (nw + 5) 5 M i).length) := hkk
        have HS : Hid (∀ g, g < y1.heap.size → wr.heap[g]? = y1.heap[g]?) := hsame
        have HCW : Hid (Below B w wr) := cw
        have A2 : Ar wr gb f := A1.same (hsame gb A1.lt)
        have HA' : Hid (Ar wr gb f) := A2
        have kl : k ≤ i := by rw [hkk]; exact dueL_len _ _ _ _
        clear hkk hsame cw
        by_cases hi8 : i < 8
        · have g8 : (i : Int) < 8 := by omega
          have hkd := A2.kd hi8
          clear A2
          by_cases hz : (f i).kd = 0
          · have HZ : Hid (due1 (nw + 5) 5 (M (i : Int)) = []) := by show _ = _; rw [(HMf.out i hi8).1 hz]; rfl
            rw [hz] at hkd
            go_wp2
            go_roundw
            case rel => exact ⟨i + 1, k, by go_num, by go_num, by omega, by rw [dueL_succ, HZ.out, List.append_nil]; exact HK.out, HS.out, HCW.out⟩
            case measure => simp [intOf]; omega
          · have HZ : Hid (due1 (nw + 5) 5 (M (i : Int)) = [f i]) := by show _ = _; rw [(HMf.out i hi8).2 hz]; unfold due1; simp only; rw [less_id (by omega) (by omega) (by omega), if_pos (by omega)]
            have hz' : ((f i).kd == 0) = false := by simp; exact hz
            have hit := dueL_hit (now := nw + 5) (rsd := 5) (M := M) hi8 HZ.out
            rw [← HK.out] at hit
            obtain ⟨hk8, hat⟩ := hit
            obtain ⟨dg, dc', hdv, hdl, hld'⟩ := own_item HO.out HDn.out hk8
            have hld : ∀ u : World, u.heap[dg]? = wr.heap[dg]? → (loadVar 37 ⟨dg, k * 19, none⟩).run Try.prog u = .ok (.agg (tlA (f i))) u := fun u hu => by
              have := hld' u (hu.trans (HS.out dg hdl))
              rw [hat] at this
              exact this
            have hkn : (k : Int) < (dn : Int) := by have := HDn.out; omega
            have hknN : k < dn := by omega
            have hkn' : decide ((dn : Int) ≤ (k : Int)) = false := by simp; omega
            simp only [Value.slice.injEq, true_and] at hdv
            obtain ⟨rfl, rfl⟩ := hdv
            have HA : Hid (Ar wr gb f) := HA'
            generalize hkq : (f i).kd = kq at *
            clear hkq hat hld' hk8
            go_wp2_with fail
            refine start_any (S := fun u => u.heap[dg]? = wr.heap[dg]? ∧ Ar u gb f) 14 rfl (by kernel_rfl) (fun u su => ⟨by rw [su.heap], HA.out.same (by rw [su.heap])⟩) ?_
            intro x3 sx
            have HS1 : x3.heap[dg]? = wr.heap[dg]? ∧ Ar x3 gb f := ⟨by rw [sx.heap], HA.out.same (by rw [sx.heap])⟩
            simp only [Array.replicate_succ, Array.replicate_zero, List.push_toArray, List.nil_append, List.cons_append]
            refine take_held 0 HS1 rfl (by kernel_rfl) (by kernel_rfl) (by kernel_rfl) (fun _ _ _ h => h) (by kernel_rfl) (v := ?v301) ?y301 ?r301
            case y301 => (intro u hu; go_simp; try rfl)
            simp only [Act.put, List.setIfInBounds_toArray, List.set_cons_zero, List.set_cons_succ]
            refine take_held 1 HS1 rfl (by kernel_rfl) (by kernel_rfl) (by kernel_rfl) (fun _ _ _ h => h) (by kernel_rfl) (v := ?v302) ?y302 ?r302
            case y302 => (intro u hu; go_simp; try rfl)
            simp only [Act.put, List.setIfInBounds_toArray, List.set_cons_zero, List.set_cons_succ]
            refine take_held 2 HS1 rfl (by kernel_rfl) (by kernel_rfl) (by kernel_rfl) (fun _ _ _ h => h) (by kernel_rfl) (v := ?v303) ?y303 ?r303
            case y303 => (intro u hu; go_simp; try rfl)
            simp only [Act.put, List.setIfInBounds_toArray, List.set_cons_zero, List.set_cons_succ]
            refine take_held 3 HS1 rfl (by kernel_rfl) (by kernel_rfl) (by kernel_rfl) (fun _ _ _ h => h) (by kernel_rfl) (v := .bool false) ?y304 ?r304
            case y304 => (intro u hu; go_simp; try rfl)
            simp only [Act.put, List.setIfInBounds_toArray, List.set_cons_zero, List.set_cons_succ]
            refine take_held 4 HS1 rfl (by kernel_rfl) (by kernel_rfl) (by kernel_rfl) (fun _ _ _ h => h) (by kernel_rfl) (v := .bool false) ?y305 ?r305
            case y305 => (intro u hu; go_simp; try rfl)
            simp only [Act.put, List.setIfInBounds_toArray, List.set_cons_zero, List.set_cons_succ]
            refine take_held 5 HS1 rfl (by kernel_rfl) (by kernel_rfl) (by kernel_rfl) (fun _ _ _ h => h) (by kernel_rfl) (v := ?v306) ?y306 ?r306
            case y306 => (intro u hu; go_simp; try rfl)
            simp only [Act.put, List.setIfInBounds_toArray, List.set_cons_zero, List.set_cons_succ]
            refine take_held 6 HS1 rfl (by kernel_rfl) (by kernel_rfl) (by kernel_rfl) (fun _ _ _ h => h) (by kernel_rfl) (v := ?v307) ?y307 ?r307
            case y307 => (intro u hu; go_simp; try rfl)
            simp only [Act.put, List.setIfInBounds_toArray, List.set_cons_zero, List.set_cons_succ]
            refine take_held 7 HS1 rfl (by kernel_rfl) (by kernel_rfl) (by kernel_rfl) (fun _ _ _ h => h) (by kernel_rfl) (v := ?v308) ?y308 ?r308
            case y308 => (intro u hu; go_simp; try rfl)
            simp only [Act.put, List.setIfInBounds_toArray, List.set_cons_zero, List.set_cons_succ]
            refine take_held 8 HS1 rfl (by kernel_rfl) (by kernel_rfl) (by kernel_rfl) (fun _ _ _ h => h) (by kernel_rfl) (v := .agg (tlA (f i))) ?y309 ?r309
            case y309 => (intro u hu; exact run_load_at 37 (.tmp 83) rfl ⟨dg, k * 19, none⟩ (by go_simp; try rfl) _ (hld u hu.1))
            simp only [Act.put, List.setIfInBounds_toArray, List.set_cons_zero, List.set_cons_succ]
            refine take_held 9 HS1 rfl (by kernel_rfl) (by kernel_rfl) (by kernel_rfl) (fun _ _ _ h => h) (by kernel_rfl) (v := ?v310) ?y310 ?r310
            case y310 => (intro u hu; go_simp; try rfl)
            simp only [Act.put, List.setIfInBounds_toArray, List.set_cons_zero, List.set_cons_succ]
            refine take_held 10 HS1 rfl (by kernel_rfl) (by kernel_rfl) (by kernel_rfl) (fun _ _ _ h => h) (by kernel_rfl) (v := ?v311) ?y311 ?r311
            case y311 => (intro u hu; go_simp; try rfl)
            simp only [Act.put, List.setIfInBounds_toArray, List.set_cons_zero, List.set_cons_succ]
            refine take_held 11 HS1 rfl (by kernel_rfl) (by kernel_rfl) (by kernel_rfl) (fun _ _ _ h => h) (by kernel_rfl) (v := .agg (tlA (f i))) ?y312 ?r312
            case y312 => (intro u hu; exact run_load_at 37 (.tmp 86) rfl ⟨gb, i * 19, none⟩ (by go_simp; try rfl) _ (hu.2.load hi8))
            simp only [Act.put, List.setIfInBounds_toArray, List.set_cons_zero, List.set_cons_succ]
            refine take_held 12 HS1 rfl (by kernel_rfl) (by kernel_rfl) (by kernel_rfl) (fun _ _ _ h => h) (by kernel_rfl) (v := .bool false) ?y313 ?r313
            case y313 => (intro u hu; exact run_neq_tele _ (.tmp 84) (.tmp 87) rfl (f i) rfl rfl)
            simp only [Act.put, List.setIfInBounds_toArray, List.set_cons_zero, List.set_cons_succ]
            refine take_held 13 HS1 rfl (by kernel_rfl) (by kernel_rfl) (by kernel_rfl) (fun _ _ _ h => h) (by kernel_rfl) (v := ?v314) ?y314 ?r314
            case y314 => (intro u hu; go_simp; try rfl)
            simp only [Act.put, List.setIfInBounds_toArray, List.set_cons_zero, List.set_cons_succ]
            refine done_held (by kernel_rfl) ?_ _
            go_wp2
            go_roundw
            case rel => exact ⟨i + 1, k + 1, by go_num, by go_num, by omega, by rw [dueL_succ, HZ.out, List.length_append, ← HK.out]; rfl, fun g hg => by rw [sx.heap]; exact HS.out g hg, HCW.out.trans (sx.below _)⟩
            case measure => simp [intOf]; omega
        · obtain rfl : i = 8 := by omega
          obtain rfl : k = dn := by rw [HK.out]; exact HDn.out
          have g8 : ¬ ((8 : Nat) : Int) < 8 := by omega
          have b8 : B ≤ wr.heap.size := by have := HCW.out.size; have := HX.out; omega
          go_wp2_with (go_at_call 11; refine (awake17 _).mono ?_; rintro e x9 ⟨rfl, b9⟩)
          go_ret
          exact ⟨rfl, HCW.out.trans (b9.mono b8)⟩
end Go.Proofs.Ytjladfpfhhnagaa.Lk
