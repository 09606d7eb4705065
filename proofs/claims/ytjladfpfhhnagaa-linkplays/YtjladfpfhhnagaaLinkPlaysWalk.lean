/-
  Any calls: each answers what the chapter's own link says.
-/
import Derived.Test.YtjladfpfhhnagaaLinkPlaysPlain
import Derived.Deep.DeepCutAuto
import Derived.Deep.CutRange
namespace Go.Proofs.Ytjladfpfhhnagaa.Lk
set_option linter.unusedVariables false
set_option linter.unusedSimpArgs false
open Go Go.RowKit Go.Shelf Go.Proofs Go.Proofs.Ytjladfpfhhnagaa.Tick Go.Proofs.Ytjladfpfhhnagaa.Plain
attribute [local go_sem] Oper.semAt_some

set_option maxHeartbeats 1000000 in
theorem plays_bad0 (rs rsd : Int) (a : Option Addr) (n cap : Nat) (w : World) (g1 : rs < 0) : Calls Try.prog 3 #[.int .i64 rs, .int .i64 rsd, .slice a n cap] w fun e w' => e = .returned (.bool true) ∧ Below w.heap.size w w' := by
  have h : rs < 0 ∨ 8 < rs ∨ rsd < 1 := by omega
  have cRN := fun u => rnew_no0 rs rsd u g1
  go_enter Try.func3, Try.ntmps3
  go_wp2_with (first
    | (go_at_call 9; refine (new_no rs rsd _ h).mono ?_; rintro e x1 ⟨rfl, hx⟩; have hx' := hx.symm; subst hx')
    | (go_at_call 10; refine (cRN _).mono ?_; rintro e x1 ⟨rfl, hx⟩; have hx' := hx.symm; subst hx')
    | (go_at_call 11; refine (awake17 _).mono ?_; rintro e x9 ⟨rfl, b9⟩))
  go_ret
  exact ⟨rfl, b9⟩
set_option maxHeartbeats 1000000 in
theorem plays_bad1 (rs rsd : Int) (a : Option Addr) (n cap : Nat) (w : World) (g1 : ¬ rs < 0) (g2 : 8 < rs) : Calls Try.prog 3 #[.int .i64 rs, .int .i64 rsd, .slice a n cap] w fun e w' => e = .returned (.bool true) ∧ Below w.heap.size w w' := by
  have h : rs < 0 ∨ 8 < rs ∨ rsd < 1 := by omega
  have cRN := fun u => rnew_no1 rs rsd u g1 g2
  go_enter Try.func3, Try.ntmps3
  go_wp2_with (first
    | (go_at_call 9; refine (new_no rs rsd _ h).mono ?_; rintro e x1 ⟨rfl, hx⟩; have hx' := hx.symm; subst hx')
    | (go_at_call 10; refine (cRN _).mono ?_; rintro e x1 ⟨rfl, hx⟩; have hx' := hx.symm; subst hx')
    | (go_at_call 11; refine (awake17 _).mono ?_; rintro e x9 ⟨rfl, b9⟩))
  go_ret
  exact ⟨rfl, b9⟩
set_option maxHeartbeats 1000000 in
theorem plays_bad2 (rs rsd : Int) (a : Option Addr) (n cap : Nat) (w : World) (g1 : ¬ rs < 0) (g2 : ¬ 8 < rs) (g3 : rsd < 1) : Calls Try.prog 3 #[.int .i64 rs, .int .i64 rsd, .slice a n cap] w fun e w' => e = .returned (.bool true) ∧ Below w.heap.size w w' := by
  have h : rs < 0 ∨ 8 < rs ∨ rsd < 1 := by omega
  have cRN := fun u => rnew_no2 rs rsd u g1 g2 g3
  go_enter Try.func3, Try.ntmps3
  go_wp2_with (first
    | (go_at_call 9; refine (new_no rs rsd _ h).mono ?_; rintro e x1 ⟨rfl, hx⟩; have hx' := hx.symm; subst hx')
    | (go_at_call 10; refine (cRN _).mono ?_; rintro e x1 ⟨rfl, hx⟩; have hx' := hx.symm; subst hx')
    | (go_at_call 11; refine (awake17 _).mono ?_; rintro e x9 ⟨rfl, b9⟩))
  go_ret
  exact ⟨rfl, b9⟩
set_option maxRecDepth 100000 in
set_option maxHeartbeats 16000000 in
theorem plays_good (N : Nat) (rsd : Int) (a : Option Addr) (n cap : Nat) (cs : Nat → Cl) (w : World) (hN : N ≤ 8) (hr : 1 ≤ rsd) (hI : InS w a n cs) : Calls Try.prog 3 #[.int .i64 (N : Int), .int .i64 rsd, .slice a n cap] w fun e w' => e = .returned (.bool true) ∧ Below w.heap.size w w' := by
  have n1 := new_ok (N : Int) rsd w (by omega) (by omega) hr
  have HIn : Hid (∀ u, Below w.heap.size w u → InS u a n cs) := fun u hu => hI.go hu
  obtain ⟨B, hB⟩ : ∃ B, w.heap.size = B := ⟨_, rfl⟩
  rw [hB] at n1 HIn ⊢
  have HX : Hid (w.heap.size = B) := hB
  clear hB hI
  go_enter Try.func3, Try.ntmps3
  go_wp2_with (first
    | (go_at_call 9; refine n1.mono ?_; rintro e x1 ⟨rfl, G1, b1⟩; clear n1)
    | (go_at_call 10; refine (rnew_ok N rsd x1 hN hr).mono ?_; rintro e x2 ⟨rfl, R2, b2⟩))
  have G2 := G1.go b2
  have lp : B + 1 < x1.heap.size := G1.lt
  have b3 : Below B w x2 := b1.trans (b2.mono (by omega))
  obtain ⟨g0, hg0⟩ : ∃ g0, x1.heap.size = g0 := ⟨_, rfl⟩
  rw [hg0] at R2 lp
  try rw [hg0]
  obtain ⟨r, hrr⟩ : ∃ r, g0 + 1 = r := ⟨_, rfl⟩
  rw [hrr] at R2
  try rw [hrr]
  have lr : B + 1 < r := by omega
  clear hg0 hrr b1 b2 G1
  go_loopw [10] (fun ci wr => ∃ (i n' g : Nat) (M : Mp), ci = .int .i64 i ∧ i ≤ 80 ∧ LkAt wr (B + 1) B n' (N : Int) rsd M ∧ n' ≤ 9 * i ∧ RAt wr r g N rsd M ∧ B + 1 < g ∧ In N M ∧ Below B w wr) (fun ci _ => 80 - (intOf ci).toNat)
  case atStart => exact ⟨0, 0, g0, _, rfl, by omega, G2, by omega, R2, lp, fun _ _ => rfl, b3⟩
  case round =>
    clear G2 R2 b3
    obtain ⟨i, n', g, M, rfl, hi, G, hn', R, hgl, hIM, bw⟩ := hrel
    have HI : Hid (In N M) := hIM
    have HGL : Hid (B + 1 < g) := hgl
    clear hIM hgl
    by_cases hgo : i < n ∧ i < 80
    · obtain ⟨hin, hi80⟩ := hgo
      have v1 : (i : Int) < (n : Int) := by omega
      have v2 : (i : Int) < 80 := by omega
      obtain ⟨p, rfl, hld, hwf'⟩ := (HIn.out wr bw).load hin
      obtain ⟨c, hc⟩ : ∃ c, cs i = c := ⟨_, rfl⟩
      rw [hc] at hld hwf'
      have hwf : wf64 c.rb := hwf'
      have cP := fun w => place_any c.kd 5 w (by decide) (by decide)
      have pP := place_bd c.kd 5 (by decide)
      generalize place c.kd 5 = k5 at *
      obtain ⟨x2, hx2⟩ : ∃ x2, x2 = wr.alloc (.cells (clA c) 39) := ⟨_, rfl⟩
      have bx : Below wr.heap.size wr x2 := by rw [hx2]; exact (Below.refl _ _).alloc (Nat.le_refl _) _
      have X2 : x2.heap[wr.heap.size]? = some (.cells (clA c) 39 (0, 0)) := by rw [hx2]; exact World.alloc_heap_new _ _
      have kd2 := cl_kd X2
      have G2 := G.go bx
      have R2 := R.go bx
      have lw : B + 1 < wr.heap.size := G.lt
      have b2 : Below B w x2 := bw.trans (bx.mono (by omega))
      have sx2 : wr.heap.size ≤ x2.heap.size := bx.size
      have lgw : g < wr.heap.size := R.lt
      have lrw : r < wr.heap.size := R.rlt
      obtain ⟨gx, hgx⟩ : ∃ gx, wr.heap.size = gx := ⟨_, rfl⟩
      rw [hgx] at X2 kd2 lw sx2 lgw lrw
      clear G R bw hc bx hwf'
      have hk5 : k5 = 0 ∨ k5 = 1 ∨ k5 = 2 ∨ k5 = 3 ∨ k5 = 4 := by omega
      rcases hk5 with rfl | rfl | rfl | rfl | rfl
      · obtain ⟨ta, te, M', hsn⟩ := snd_ex N M c.te c.now
        have cS := send_any G2 c.te c.now hN (by omega) hsn
        have cQ : ∀ u, RAt u r g N rsd M → _ := fun u hu => rsend_any hu c.te c.now hsn
        have IM' := hsn.inn HI.out
        have tl2 := cl_te X2
        have no2 := cl_now X2
        have lx2 : gx < x2.heap.size := (Array.getElem?_eq_some_iff.1 X2).1
        have HRw : Hid (RAt x2 r g N rsd M) := R2
        have HX2 : Hid (x2.heap[gx]? = some (.cells (clA c) 39 (0, 0))) := X2
        have gg := HGL.out
        clear G2 R2 hsn
        go_wp2_with (first
          | (refine wpList_load_at rfl 39 (.tmp 58) rfl (p.add (i * 22)) rfl (clA c) hld ?_; clear hld)
          | (refine wpList_new rfl rfl 39 11 (.tmp 59) rfl rfl rfl rfl (clA cl0) (clA c) (zeroCl _) rfl rfl infoCl rfl (clA_one _) ?_; rw [← hx2]; clear hx2; try rw [hgx])
          | (go_at_call 12; refine (cP _).mono ?_; rintro e yp ⟨rfl, hyp⟩; rw [hyp]; clear hyp cP)
          | (refine wpList_load_at rfl 37 (.tmp 68) rfl ⟨gx, 3, none⟩ rfl _ tl2 ?_; clear tl2)
          | (go_at_call 13; refine cS.mono ?_; rintro e y1 ⟨rfl, G3, q3⟩; clear cS; obtain ⟨y2, hy2⟩ : ∃ y2, y2 = y1.alloc (.cells (tlA ta) 37) := ⟨_, rfl⟩; have by2 : Below y1.heap.size y1 y2 := (by rw [hy2]; exact (Below.refl _ _).alloc (Nat.le_refl _) _); have ny2 : y2.heap[y1.heap.size]? = some (.cells (tlA ta) 37 (0, 0)) := (by rw [hy2]; exact World.alloc_heap_new _ _); have sy := q3.size; have X3 := (q3.block _ lx2 (fun e => by cases e; omega)).trans HX2.out; have X4 := (by2.block _ (by omega)).trans X3; have R3 := (HRw.out.same (q3.block _ HRw.out.rlt (fun e => by cases e; omega)) (q3.block _ HRw.out.lt (fun e => by cases e; omega))).go by2; have tl4 := cl_te X4; have no4 := cl_now X4; have cQ2 := cQ y2 R3)
          | (refine wpList_new rfl rfl 37 12 (.tmp 73) rfl rfl rfl rfl (tlA tl0) (tlA ta) (zeroTele _) rfl rfl infoTele rfl (tlA_one _) ?_; rw [← hy2]; clear hy2)
          | (refine wpList_load_at rfl 37 (.tmp 77) rfl ⟨gx, 3, none⟩ rfl _ tl4 ?_; clear tl4)
          | (go_at_call 14; refine cQ2.mono ?_; rintro e y3 ⟨rfl, R4, q4⟩; clear cQ2; obtain ⟨y4, hy4⟩ : ∃ y4, y4 = y3.alloc (.cells (tlA ta) 37) := ⟨_, rfl⟩; have by4 : Below y3.heap.size y3 y4 := (by rw [hy4]; exact (Below.refl _ _).alloc (Nat.le_refl _) _); have ny4 : y4.heap[y3.heap.size]? = some (.cells (tlA ta) 37 (0, 0)) := (by rw [hy4]; exact World.alloc_heap_new _ _); have sy4 := q4.size; have n3 : y3.heap[y1.heap.size]? = some (.cells (tlA ta) 37 (0, 0)) := (q4.block _ (Array.getElem?_eq_some_iff.1 ny2).1 (fun e => by cases e; have := HRw.out.lt; omega)).trans ny2; have n4 := (by4.block _ (Array.getElem?_eq_some_iff.1 n3).1).trans n3; have la := load_tele n4; have lc := load_tele ny4; have ly2 : y1.heap.size ≤ y2.heap.size := by2.size; have X5 := (by4.block _ (by omega)).trans ((q4.block _ (by omega) (fun e => by cases e; omega)).trans X4); have rb5 := cl_rb X5)
          | (refine wpList_new rfl rfl 37 14 (.tmp 82) rfl rfl rfl rfl (tlA tl0) (tlA ta) (zeroTele _) rfl rfl infoTele rfl (tlA_one _) ?_; rw [← hy4]; clear hy4)
          | (refine wpList_load_at rfl 37 (.tmp 12) rfl ⟨y1.heap.size, 0, none⟩ rfl _ la ?_; clear la)
          | (refine wpList_load_at rfl 37 (.tmp 14) rfl ⟨y3.heap.size, 0, none⟩ rfl _ lc ?_; clear lc)
          | (refine wpList_neq_tele (.tmp 84) (.tmp 85) _ rfl ta rfl rfl rfl ?_)
          | (go_at_call 22; have G4 := ((G3.go by2).same (q4.block _ (G3.go by2).lt (fun e => by cases e; omega)) (q4.block _ (G3.go by2).blt (fun e => by cases e; omega))).go by4; have R5 := R4.go by4; have be : Below B w y4 := ((((b2.grown q3 (by omega) (fun k hk => by cases hk; omega)).trans (by2.mono (by omega))).grown q4 (by omega) (fun k hk => by cases hk; omega)).trans (by4.mono (by omega))); obtain ⟨tw, htw⟩ : ∃ tw, tlOf (M' c.rb) = tw := ⟨_, rfl⟩; obtain ⟨ow, how⟩ : ∃ ow, (M' c.rb).isSome = ow := ⟨_, rfl⟩; have cW := waits_any G4 c.rb hwf; have cR : ∀ u, Below y4.heap.size y4 u → _ := fun u hu => rwaits_any (R5.go hu) IM' c.rb; rw [htw, how] at cW; simp only [htw, how] at cR; have HXx : Hid (y4.heap[gx]? = some (.cells (clA c) 39 (0, 0))) := X5; have lxx : gx < y4.heap.size := (Array.getElem?_eq_some_iff.1 X5).1; have HGx : Hid (LkAt y4 (B + 1) B (n' + 1) (N : Int) rsd M') := G4; have HRx : Hid (RAt y4 r g N rsd M') := R5; have HBx : Hid (Below B w y4) := be; have HIx : Hid (In N M') := IM'; have hly : B + 1 < y4.heap.size := HGx.out.lt; clear htw how; refine cW.mono ?_; rintro e z1 ⟨rfl, d1⟩; clear cW; obtain ⟨z2, hz2⟩ : ∃ z2, z2 = z1.alloc (.cells (tlA tw) 37) := ⟨_, rfl⟩; have bz2 : Below z1.heap.size z1 z2 := (by rw [hz2]; exact (Below.refl _ _).alloc (Nat.le_refl _) _); have nz2 : z2.heap[z1.heap.size]? = some (.cells (tlA tw) 37 (0, 0)) := (by rw [hz2]; exact World.alloc_heap_new _ _); have d2 : Below y4.heap.size y4 z2 := d1.trans (bz2.mono d1.size); have X2' := (d2.block _ lxx).trans HXx.out; have rb2 := cl_rb X2'; have cR2 := cR z2 d2; clear cR)
          | (refine wpList_new rfl rfl 37 16 (.tmp 126) rfl rfl rfl rfl (tlA tl0) (tlA tw) (zeroTele _) rfl rfl infoTele rfl (tlA_one _) ?_; rw [← hz2]; clear hz2)
          | (go_at_call 23; refine cR2.mono ?_; rintro e z3 ⟨rfl, d3⟩; clear cR2; obtain ⟨z4, hz4⟩ : ∃ z4, z4 = z3.alloc (.cells (tlA tw) 37) := ⟨_, rfl⟩; have bz4 : Below z3.heap.size z3 z4 := (by rw [hz4]; exact (Below.refl _ _).alloc (Nat.le_refl _) _); have nz4 : z4.heap[z3.heap.size]? = some (.cells (tlA tw) 37 (0, 0)) := (by rw [hz4]; exact World.alloc_heap_new _ _); have d4 : Below z2.heap.size z2 z4 := d3.trans (bz4.mono d3.size); have m2 := (d4.block _ (Array.getElem?_eq_some_iff.1 nz2).1).trans nz2; have la' := load_tele m2; have lc' := load_tele nz4)
          | (refine wpList_new rfl rfl 37 18 (.tmp 133) rfl rfl rfl rfl (tlA tl0) (tlA tw) (zeroTele _) rfl rfl infoTele rfl (tlA_one _) ?_; rw [← hz4]; clear hz4)
          | (refine wpList_load_at rfl 37 (.tmp 16) rfl ⟨z1.heap.size, 0, none⟩ rfl _ la' ?_; clear la')
          | (refine wpList_load_at rfl 37 (.tmp 18) rfl ⟨z3.heap.size, 0, none⟩ rfl _ lc' ?_; clear lc')
          | (refine wpList_neq_tele (.tmp 135) (.tmp 136) _ rfl tw rfl rfl rfl ?_))
        have dz : Below y4.heap.size y4 z4 := d2.trans (d4.mono d2.size)
        go_roundw
        case rel => exact ⟨i + 1, (n' + 1), g, M', by go_num, by omega, HGx.out.go dz, by have := hn'; omega, HRx.out.go dz, HGL.out, HIx.out, HBx.out.trans (dz.mono (by omega))⟩
        case measure => simp [intOf]; omega
      · obtain ⟨ta, te, M', hsn⟩ := snd_ex N M c.te c.now
        have cS := send_any G2 c.te c.now hN (by omega) hsn
        have cQ : ∀ u, RAt u r g N rsd M → _ := fun u hu => rsend_any hu c.te c.now hsn
        have IM' := hsn.inn HI.out
        have tl2 := cl_te X2
        have no2 := cl_now X2
        have lx2 : gx < x2.heap.size := (Array.getElem?_eq_some_iff.1 X2).1
        have HRw : Hid (RAt x2 r g N rsd M) := R2
        have HX2 : Hid (x2.heap[gx]? = some (.cells (clA c) 39 (0, 0))) := X2
        have gg := HGL.out
        clear G2 R2 hsn
        go_wp2_with (first
          | (refine wpList_load_at rfl 39 (.tmp 58) rfl (p.add (i * 22)) rfl (clA c) hld ?_; clear hld)
          | (refine wpList_new rfl rfl 39 11 (.tmp 59) rfl rfl rfl rfl (clA cl0) (clA c) (zeroCl _) rfl rfl infoCl rfl (clA_one _) ?_; rw [← hx2]; clear hx2; try rw [hgx])
          | (go_at_call 12; refine (cP _).mono ?_; rintro e yp ⟨rfl, hyp⟩; rw [hyp]; clear hyp cP)
          | (refine wpList_load_at rfl 37 (.tmp 68) rfl ⟨gx, 3, none⟩ rfl _ tl2 ?_; clear tl2)
          | (go_at_call 13; refine cS.mono ?_; rintro e y1 ⟨rfl, G3, q3⟩; clear cS; obtain ⟨y2, hy2⟩ : ∃ y2, y2 = y1.alloc (.cells (tlA ta) 37) := ⟨_, rfl⟩; have by2 : Below y1.heap.size y1 y2 := (by rw [hy2]; exact (Below.refl _ _).alloc (Nat.le_refl _) _); have ny2 : y2.heap[y1.heap.size]? = some (.cells (tlA ta) 37 (0, 0)) := (by rw [hy2]; exact World.alloc_heap_new _ _); have sy := q3.size; have X3 := (q3.block _ lx2 (fun e => by cases e; omega)).trans HX2.out; have X4 := (by2.block _ (by omega)).trans X3; have R3 := (HRw.out.same (q3.block _ HRw.out.rlt (fun e => by cases e; omega)) (q3.block _ HRw.out.lt (fun e => by cases e; omega))).go by2; have tl4 := cl_te X4; have no4 := cl_now X4; have cQ2 := cQ y2 R3)
          | (refine wpList_new rfl rfl 37 12 (.tmp 73) rfl rfl rfl rfl (tlA tl0) (tlA ta) (zeroTele _) rfl rfl infoTele rfl (tlA_one _) ?_; rw [← hy2]; clear hy2)
          | (refine wpList_load_at rfl 37 (.tmp 77) rfl ⟨gx, 3, none⟩ rfl _ tl4 ?_; clear tl4)
          | (go_at_call 14; refine cQ2.mono ?_; rintro e y3 ⟨rfl, R4, q4⟩; clear cQ2; obtain ⟨y4, hy4⟩ : ∃ y4, y4 = y3.alloc (.cells (tlA ta) 37) := ⟨_, rfl⟩; have by4 : Below y3.heap.size y3 y4 := (by rw [hy4]; exact (Below.refl _ _).alloc (Nat.le_refl _) _); have ny4 : y4.heap[y3.heap.size]? = some (.cells (tlA ta) 37 (0, 0)) := (by rw [hy4]; exact World.alloc_heap_new _ _); have sy4 := q4.size; have n3 : y3.heap[y1.heap.size]? = some (.cells (tlA ta) 37 (0, 0)) := (q4.block _ (Array.getElem?_eq_some_iff.1 ny2).1 (fun e => by cases e; have := HRw.out.lt; omega)).trans ny2; have n4 := (by4.block _ (Array.getElem?_eq_some_iff.1 n3).1).trans n3; have la := load_tele n4; have lc := load_tele ny4; have ly2 : y1.heap.size ≤ y2.heap.size := by2.size; have X5 := (by4.block _ (by omega)).trans ((q4.block _ (by omega) (fun e => by cases e; omega)).trans X4); have rb5 := cl_rb X5)
          | (refine wpList_new rfl rfl 37 14 (.tmp 82) rfl rfl rfl rfl (tlA tl0) (tlA ta) (zeroTele _) rfl rfl infoTele rfl (tlA_one _) ?_; rw [← hy4]; clear hy4)
          | (refine wpList_load_at rfl 37 (.tmp 12) rfl ⟨y1.heap.size, 0, none⟩ rfl _ la ?_; clear la)
          | (refine wpList_load_at rfl 37 (.tmp 14) rfl ⟨y3.heap.size, 0, none⟩ rfl _ lc ?_; clear lc)
          | (refine wpList_neq_tele (.tmp 84) (.tmp 85) _ rfl ta rfl rfl rfl ?_)
          | (go_at_call 22; have G4 := ((G3.go by2).same (q4.block _ (G3.go by2).lt (fun e => by cases e; omega)) (q4.block _ (G3.go by2).blt (fun e => by cases e; omega))).go by4; have R5 := R4.go by4; have be : Below B w y4 := ((((b2.grown q3 (by omega) (fun k hk => by cases hk; omega)).trans (by2.mono (by omega))).grown q4 (by omega) (fun k hk => by cases hk; omega)).trans (by4.mono (by omega))); obtain ⟨tw, htw⟩ : ∃ tw, tlOf (M' c.rb) = tw := ⟨_, rfl⟩; obtain ⟨ow, how⟩ : ∃ ow, (M' c.rb).isSome = ow := ⟨_, rfl⟩; have cW := waits_any G4 c.rb hwf; have cR : ∀ u, Below y4.heap.size y4 u → _ := fun u hu => rwaits_any (R5.go hu) IM' c.rb; rw [htw, how] at cW; simp only [htw, how] at cR; have HXx : Hid (y4.heap[gx]? = some (.cells (clA c) 39 (0, 0))) := X5; have lxx : gx < y4.heap.size := (Array.getElem?_eq_some_iff.1 X5).1; have HGx : Hid (LkAt y4 (B + 1) B (n' + 1) (N : Int) rsd M') := G4; have HRx : Hid (RAt y4 r g N rsd M') := R5; have HBx : Hid (Below B w y4) := be; have HIx : Hid (In N M') := IM'; have hly : B + 1 < y4.heap.size := HGx.out.lt; clear htw how; refine cW.mono ?_; rintro e z1 ⟨rfl, d1⟩; clear cW; obtain ⟨z2, hz2⟩ : ∃ z2, z2 = z1.alloc (.cells (tlA tw) 37) := ⟨_, rfl⟩; have bz2 : Below z1.heap.size z1 z2 := (by rw [hz2]; exact (Below.refl _ _).alloc (Nat.le_refl _) _); have nz2 : z2.heap[z1.heap.size]? = some (.cells (tlA tw) 37 (0, 0)) := (by rw [hz2]; exact World.alloc_heap_new _ _); have d2 : Below y4.heap.size y4 z2 := d1.trans (bz2.mono d1.size); have X2' := (d2.block _ lxx).trans HXx.out; have rb2 := cl_rb X2'; have cR2 := cR z2 d2; clear cR)
          | (refine wpList_new rfl rfl 37 16 (.tmp 126) rfl rfl rfl rfl (tlA tl0) (tlA tw) (zeroTele _) rfl rfl infoTele rfl (tlA_one _) ?_; rw [← hz2]; clear hz2)
          | (go_at_call 23; refine cR2.mono ?_; rintro e z3 ⟨rfl, d3⟩; clear cR2; obtain ⟨z4, hz4⟩ : ∃ z4, z4 = z3.alloc (.cells (tlA tw) 37) := ⟨_, rfl⟩; have bz4 : Below z3.heap.size z3 z4 := (by rw [hz4]; exact (Below.refl _ _).alloc (Nat.le_refl _) _); have nz4 : z4.heap[z3.heap.size]? = some (.cells (tlA tw) 37 (0, 0)) := (by rw [hz4]; exact World.alloc_heap_new _ _); have d4 : Below z2.heap.size z2 z4 := d3.trans (bz4.mono d3.size); have m2 := (d4.block _ (Array.getElem?_eq_some_iff.1 nz2).1).trans nz2; have la' := load_tele m2; have lc' := load_tele nz4)
          | (refine wpList_new rfl rfl 37 18 (.tmp 133) rfl rfl rfl rfl (tlA tl0) (tlA tw) (zeroTele _) rfl rfl infoTele rfl (tlA_one _) ?_; rw [← hz4]; clear hz4)
          | (refine wpList_load_at rfl 37 (.tmp 16) rfl ⟨z1.heap.size, 0, none⟩ rfl _ la' ?_; clear la')
          | (refine wpList_load_at rfl 37 (.tmp 18) rfl ⟨z3.heap.size, 0, none⟩ rfl _ lc' ?_; clear lc')
          | (refine wpList_neq_tele (.tmp 135) (.tmp 136) _ rfl tw rfl rfl rfl ?_))
        have dz : Below y4.heap.size y4 z4 := d2.trans (d4.mono d2.size)
        go_roundw
        case rel => exact ⟨i + 1, (n' + 1), g, M', by go_num, by omega, HGx.out.go dz, by have := hn'; omega, HRx.out.go dz, HGL.out, HIx.out, HBx.out.trans (dz.mono (by omega))⟩
        case measure => simp [intOf]; omega
      · have lx2 : gx < x2.heap.size := (Array.getElem?_eq_some_iff.1 X2).1
        have gg := HGL.out
        go_wp2_with (first
          | (refine wpList_load_at rfl 39 (.tmp 58) rfl (p.add (i * 22)) rfl (clA c) hld ?_; clear hld)
          | (refine wpList_new rfl rfl 39 11 (.tmp 59) rfl rfl rfl rfl (clA cl0) (clA c) (zeroCl _) rfl rfl infoCl rfl (clA_one _) ?_; rw [← hx2]; clear hx2; try rw [hgx])
          | (go_at_call 12; refine (cP _).mono ?_; rintro e yp ⟨rfl, hyp⟩; rw [hyp]; clear hyp cP))
        obtain ⟨ob, hob⟩ : ∃ ob, (M c.rb).isSome = ob := ⟨_, rfl⟩
        refine start_any (S := fun u => u.heap[gx]? = some (.cells (clA c) 39 (0, 0))) 9 rfl (by kernel_rfl) (fun u su => by rw [su.heap]; exact X2) ?_
        intro x0 sx
        have HS1 : x0.heap[gx]? = some (.cells (clA c) 39 (0, 0)) := by rw [sx.heap]; exact X2
        simp only [Array.replicate_succ, Array.replicate_zero, List.push_toArray, List.nil_append, List.cons_append]
        refine take_held 0 HS1 rfl (by kernel_rfl) (by kernel_rfl) (by kernel_rfl) (fun _ _ _ h => h) (by kernel_rfl) (v := ?v701) ?y701 ?r701
        case y701 => (intro u hu; go_simp; try rfl)
        simp only [Act.put, List.setIfInBounds_toArray, List.set_cons_zero, List.set_cons_succ]
        refine take_held 1 HS1 rfl (by kernel_rfl) (by kernel_rfl) (by kernel_rfl) (fun _ _ _ h => h) (by kernel_rfl) (v := ?v702) ?y702 ?r702
        case y702 => (intro u hu; go_simp; try rfl)
        simp only [Act.put, List.setIfInBounds_toArray, List.set_cons_zero, List.set_cons_succ]
        refine take_held 2 HS1 rfl (by kernel_rfl) (by kernel_rfl) (by kernel_rfl) (fun _ _ _ h => h) (by kernel_rfl) (v := .int .i64 c.rb) ?y703 ?r703
        case y703 => (intro u hu; have zz := cl_rb hu; go_simp; try rfl)
        simp only [Act.put, List.setIfInBounds_toArray, List.set_cons_zero, List.set_cons_succ]
        refine take_held 4 HS1 rfl (by kernel_rfl) (by kernel_rfl) (by kernel_rfl) (fun _ _ _ h => h) (by kernel_rfl) (v := ?v704) ?y704 ?r704
        case y704 => (intro u hu; go_simp; try rfl)
        simp only [Act.put, List.setIfInBounds_toArray, List.set_cons_zero, List.set_cons_succ]
        refine take_held 5 HS1 rfl (by kernel_rfl) (by kernel_rfl) (by kernel_rfl) (fun _ _ _ h => h) (by kernel_rfl) (v := ?v705) ?y705 ?r705
        case y705 => (intro u hu; go_simp; try rfl)
        simp only [Act.put, List.setIfInBounds_toArray, List.set_cons_zero, List.set_cons_succ]
        refine take_held 6 HS1 rfl (by kernel_rfl) (by kernel_rfl) (by kernel_rfl) (fun _ _ _ h => h) (by kernel_rfl) (v := .int .i64 c.rb) ?y706 ?r706
        case y706 => (intro u hu; have zz := cl_rb hu; go_simp; try rfl)
        simp only [Act.put, List.setIfInBounds_toArray, List.set_cons_zero, List.set_cons_succ]
        have cG := got_any (G2.same (w' := x0) (by rw [sx.heap]) (by rw [sx.heap])) c.rb hwf
        rw [hob] at cG
        have s0 : x0.heap.size = x2.heap.size := by rw [sx.heap]
        refine call_held 3 rfl (by kernel_rfl) (by kernel_rfl) 15 #[.pointer (some ⟨B + 1, 0, none⟩), .int .i64 c.rb] (by go_simp; try rfl) _ cG ?_
        rintro e y1 ⟨rfl, G3, q3⟩
        have sy := q3.size
        have X3 := (q3.block _ (by omega) (fun e => by cases e; omega)).trans HS1
        have R3 := (R2.same (w' := x0) (by rw [sx.heap]) (by rw [sx.heap])).same (q3.block _ (by omega) (fun e => by cases e; omega)) (q3.block _ (by omega) (fun e => by cases e; omega))
        refine Or.inl ⟨_, rfl, X3, ?_⟩
        simp only [Act.put, List.setIfInBounds_toArray, List.set_cons_zero, List.set_cons_succ]
        have cQ := rgot_any R3 HI.out c.rb
        rw [hob] at cQ
        refine call_held 7 rfl (by kernel_rfl) (by kernel_rfl) 16 #[.pointer (some ⟨r, 0, none⟩), .int .i64 c.rb] (by go_simp; try rfl) _ cQ ?_
        rintro e y2 ⟨rfl, R4, q4⟩
        have X4 := (q4.block _ (by omega) (fun e => by cases e; omega)).trans X3
        have G4 := G3.same (q4.block _ (by have := G3.lt; omega) (fun e => by cases e; omega)) (q4.block _ (by have := G3.lt; omega) (fun e => by cases e; omega))
        have be : Below B w y2 := ((b2.trans (sx.below _)).grown q3 (by omega) (fun k hk => by cases hk; omega)).grown q4 (by omega) (fun k hk => by cases hk; omega)
        refine Or.inl ⟨_, rfl, X4, ?_⟩
        simp only [Act.put, List.setIfInBounds_toArray, List.set_cons_zero, List.set_cons_succ]
        refine take_held 8 X4 rfl (by kernel_rfl) (by kernel_rfl) (by kernel_rfl) (fun _ _ _ h => h) (by kernel_rfl) (v := .bool false) ?y707 ?r707
        case y707 => (intro u hu; cases ob <;> (go_simp; try rfl))
        simp only [Act.put, List.setIfInBounds_toArray, List.set_cons_zero, List.set_cons_succ]
        refine done_held (by kernel_rfl) ?_ _
        have IM' := in_got HI.out c.rb
        have rb4 := cl_rb X4
        clear sx HS1 X3 X2 G2 R2 R3 G3 q3 q4 cG cQ hob b2
        go_wp2_with (first
          | (go_at_call 22; obtain ⟨tw, htw⟩ : ∃ tw, tlOf ((upd M c.rb none) c.rb) = tw := ⟨_, rfl⟩; obtain ⟨ow, how⟩ : ∃ ow, ((upd M c.rb none) c.rb).isSome = ow := ⟨_, rfl⟩; have cW := waits_any G4 c.rb hwf; have cR : ∀ u, Below y2.heap.size y2 u → _ := fun u hu => rwaits_any (R4.go hu) IM' c.rb; rw [htw, how] at cW; simp only [htw, how] at cR; have HXx : Hid (y2.heap[gx]? = some (.cells (clA c) 39 (0, 0))) := X4; have lxx : gx < y2.heap.size := (Array.getElem?_eq_some_iff.1 X4).1; have HGx : Hid (LkAt y2 (B + 1) B n' (N : Int) rsd (upd M c.rb none)) := G4; have HRx : Hid (RAt y2 r g N rsd (upd M c.rb none)) := R4; have HBx : Hid (Below B w y2) := be; have HIx : Hid (In N (upd M c.rb none)) := IM'; have hly : B + 1 < y2.heap.size := HGx.out.lt; clear htw how; refine cW.mono ?_; rintro e z1 ⟨rfl, d1⟩; clear cW; obtain ⟨z2, hz2⟩ : ∃ z2, z2 = z1.alloc (.cells (tlA tw) 37) := ⟨_, rfl⟩; have bz2 : Below z1.heap.size z1 z2 := (by rw [hz2]; exact (Below.refl _ _).alloc (Nat.le_refl _) _); have nz2 : z2.heap[z1.heap.size]? = some (.cells (tlA tw) 37 (0, 0)) := (by rw [hz2]; exact World.alloc_heap_new _ _); have d2 : Below y2.heap.size y2 z2 := d1.trans (bz2.mono d1.size); have X2' := (d2.block _ lxx).trans HXx.out; have rb2 := cl_rb X2'; have cR2 := cR z2 d2; clear cR)
          | (refine wpList_new rfl rfl 37 16 (.tmp 126) rfl rfl rfl rfl (tlA tl0) (tlA tw) (zeroTele _) rfl rfl infoTele rfl (tlA_one _) ?_; rw [← hz2]; clear hz2)
          | (go_at_call 23; refine cR2.mono ?_; rintro e z3 ⟨rfl, d3⟩; clear cR2; obtain ⟨z4, hz4⟩ : ∃ z4, z4 = z3.alloc (.cells (tlA tw) 37) := ⟨_, rfl⟩; have bz4 : Below z3.heap.size z3 z4 := (by rw [hz4]; exact (Below.refl _ _).alloc (Nat.le_refl _) _); have nz4 : z4.heap[z3.heap.size]? = some (.cells (tlA tw) 37 (0, 0)) := (by rw [hz4]; exact World.alloc_heap_new _ _); have d4 : Below z2.heap.size z2 z4 := d3.trans (bz4.mono d3.size); have m2 := (d4.block _ (Array.getElem?_eq_some_iff.1 nz2).1).trans nz2; have la' := load_tele m2; have lc' := load_tele nz4)
          | (refine wpList_new rfl rfl 37 18 (.tmp 133) rfl rfl rfl rfl (tlA tl0) (tlA tw) (zeroTele _) rfl rfl infoTele rfl (tlA_one _) ?_; rw [← hz4]; clear hz4)
          | (refine wpList_load_at rfl 37 (.tmp 16) rfl ⟨z1.heap.size, 0, none⟩ rfl _ la' ?_; clear la')
          | (refine wpList_load_at rfl 37 (.tmp 18) rfl ⟨z3.heap.size, 0, none⟩ rfl _ lc' ?_; clear lc')
          | (refine wpList_neq_tele (.tmp 135) (.tmp 136) _ rfl tw rfl rfl rfl ?_))
        have dz : Below y2.heap.size y2 z4 := d2.trans (d4.mono d2.size)
        go_roundw
        case rel => exact ⟨i + 1, n', g, (upd M c.rb none), by go_num, by omega, HGx.out.go dz, by have := hn'; omega, HRx.out.go dz, HGL.out, HIx.out, HBx.out.trans (dz.mono (by omega))⟩
        case measure => simp [intOf]; omega
      · have lx2 : gx < x2.heap.size := (Array.getElem?_eq_some_iff.1 X2).1
        have gg := HGL.out
        go_wp2_with (first
          | (refine wpList_load_at rfl 39 (.tmp 58) rfl (p.add (i * 22)) rfl (clA c) hld ?_; clear hld)
          | (refine wpList_new rfl rfl 39 11 (.tmp 59) rfl rfl rfl rfl (clA cl0) (clA c) (zeroCl _) rfl rfl infoCl rfl (clA_one _) ?_; rw [← hx2]; clear hx2; try rw [hgx])
          | (go_at_call 12; refine (cP _).mono ?_; rintro e yp ⟨rfl, hyp⟩; rw [hyp]; clear hyp cP))
        refine start_any (S := fun u => u.heap[gx]? = some (.cells (clA c) 39 (0, 0))) 10 rfl (by kernel_rfl) (fun u su => by rw [su.heap]; exact X2) ?_
        intro x0 sx
        have HS1 : x0.heap[gx]? = some (.cells (clA c) 39 (0, 0)) := by rw [sx.heap]; exact X2
        simp only [Array.replicate_succ, Array.replicate_zero, List.push_toArray, List.nil_append, List.cons_append]
        refine take_held 0 HS1 rfl (by kernel_rfl) (by kernel_rfl) (by kernel_rfl) (fun _ _ _ h => h) (by kernel_rfl) (v := ?v708) ?y708 ?r708
        case y708 => (intro u hu; go_simp; try rfl)
        simp only [Act.put, List.setIfInBounds_toArray, List.set_cons_zero, List.set_cons_succ]
        refine take_held 1 HS1 rfl (by kernel_rfl) (by kernel_rfl) (by kernel_rfl) (fun _ _ _ h => h) (by kernel_rfl) (v := ?v709) ?y709 ?r709
        case y709 => (intro u hu; go_simp; try rfl)
        simp only [Act.put, List.setIfInBounds_toArray, List.set_cons_zero, List.set_cons_succ]
        refine take_held 2 HS1 rfl (by kernel_rfl) (by kernel_rfl) (by kernel_rfl) (fun _ _ _ h => h) (by kernel_rfl) (v := .int .i64 c.now) ?y710 ?r710
        case y710 => (intro u hu; have zz := cl_now hu; go_simp; try rfl)
        simp only [Act.put, List.setIfInBounds_toArray, List.set_cons_zero, List.set_cons_succ]
        refine take_held 4 HS1 rfl (by kernel_rfl) (by kernel_rfl) (by kernel_rfl) (fun _ _ _ h => h) (by kernel_rfl) (v := ?v711) ?y711 ?r711
        case y711 => (intro u hu; go_simp; try rfl)
        simp only [Act.put, List.setIfInBounds_toArray, List.set_cons_zero, List.set_cons_succ]
        refine take_held 5 HS1 rfl (by kernel_rfl) (by kernel_rfl) (by kernel_rfl) (fun _ _ _ h => h) (by kernel_rfl) (v := ?v712) ?y712 ?r712
        case y712 => (intro u hu; go_simp; try rfl)
        simp only [Act.put, List.setIfInBounds_toArray, List.set_cons_zero, List.set_cons_succ]
        refine take_held 6 HS1 rfl (by kernel_rfl) (by kernel_rfl) (by kernel_rfl) (fun _ _ _ h => h) (by kernel_rfl) (v := .int .i64 c.now) ?y713 ?r713
        case y713 => (intro u hu; have zz := cl_now hu; go_simp; try rfl)
        simp only [Act.put, List.setIfInBounds_toArray, List.set_cons_zero, List.set_cons_succ]
        have cG := due_any (G2.same (w' := x0) (by rw [sx.heap]) (by rw [sx.heap])) c.now hN (by omega)
        have s0 : x0.heap.size = x2.heap.size := by rw [sx.heap]
        refine call_held 3 rfl (by kernel_rfl) (by kernel_rfl) 18 #[.pointer (some ⟨B + 1, 0, none⟩), .int .i64 c.now] (by go_simp; try rfl) _ cG ?_
        rintro e y1 ⟨va, rfl, n2, O1, G3, m2, q3⟩
        have sy := q3.size
        have X3 := (q3.block _ (by omega) (fun e => by cases e; omega)).trans HS1
        have R3 := (R2.same (w' := x0) (by rw [sx.heap]) (by rw [sx.heap])).same (q3.block _ (by omega) (fun e => by cases e; omega)) (q3.block _ (by omega) (fun e => by cases e; omega))
        refine Or.inl ⟨_, rfl, X3, ?_⟩
        simp only [Act.put, List.setIfInBounds_toArray, List.set_cons_zero, List.set_cons_succ]
        have cQ := rdue_any R3 c.now hN
        refine call_held 7 rfl (by kernel_rfl) (by kernel_rfl) 19 #[.pointer (some ⟨r, 0, none⟩), .int .i64 c.now] (by go_simp; try rfl) _ cQ ?_
        rintro e y2 ⟨vb, rfl, O2, R4, q4⟩
        have sy2 := q4.size
        have X4 := (q4.block _ (by omega) (fun e => by cases e; omega)).trans X3
        have G4 := G3.same (q4.block _ (by have := G3.lt; omega) (fun e => by cases e; omega)) (q4.block _ (by have := G3.lt; omega) (fun e => by cases e; omega))
        have O3 := owns_same O1 (fun j hj => q4.block j (own_since O1 j hj).2 (fun e => by have := (own_since O1 j hj).1; cases e; omega))
        refine Or.inl ⟨_, rfl, X4, ?_⟩
        simp only [Act.put, List.setIfInBounds_toArray, List.set_cons_zero, List.set_cons_succ]
        refine call_held 8 rfl (by kernel_rfl) (by kernel_rfl) 17 #[va, vb] (by go_simp; try rfl) _ (sameTeles_any O3 O2 (by have := dueL_len c.now rsd M N; omega)) ?_
        rintro e y3 ⟨rfl, d3⟩
        have X5 := (d3.block _ (by omega)).trans X4
        refine Or.inl ⟨_, rfl, X5, ?_⟩
        simp only [Act.put, List.setIfInBounds_toArray, List.set_cons_zero, List.set_cons_succ]
        have G5 := G4.go d3
        have R5 := R4.go d3
        have be : Below B w y3 := (((b2.trans (sx.below _)).grown q3 (by omega) (fun k hk => by cases hk; omega)).grown q4 (by omega) (fun k hk => by cases hk; omega)).trans (d3.mono (by omega))
        refine take_held 9 X5 rfl (by kernel_rfl) (by kernel_rfl) (by kernel_rfl) (fun _ _ _ h => h) (by kernel_rfl) (v := .bool false) ?y714 ?r714
        case y714 => (intro u hu; go_simp; try rfl)
        simp only [Act.put, List.setIfInBounds_toArray, List.set_cons_zero, List.set_cons_succ]
        refine done_held (by kernel_rfl) ?_ _
        have IM' := in_due HI.out c.now rsd
        have rb4 := cl_rb X5
        clear sx HS1 X3 X4 X2 G2 R2 R3 R4 G3 G4 q3 q4 cG cQ O1 O2 O3 d3 b2
        go_wp2_with (first
          | (go_at_call 22; obtain ⟨tw, htw⟩ : ∃ tw, tlOf ((dueM c.now rsd M N) c.rb) = tw := ⟨_, rfl⟩; obtain ⟨ow, how⟩ : ∃ ow, ((dueM c.now rsd M N) c.rb).isSome = ow := ⟨_, rfl⟩; have cW := waits_any G5 c.rb hwf; have cR : ∀ u, Below y3.heap.size y3 u → _ := fun u hu => rwaits_any (R5.go hu) IM' c.rb; rw [htw, how] at cW; simp only [htw, how] at cR; have HXx : Hid (y3.heap[gx]? = some (.cells (clA c) 39 (0, 0))) := X5; have lxx : gx < y3.heap.size := (Array.getElem?_eq_some_iff.1 X5).1; have HGx : Hid (LkAt y3 (B + 1) B n2 (N : Int) rsd (dueM c.now rsd M N)) := G5; have HRx : Hid (RAt y3 r g N rsd (dueM c.now rsd M N)) := R5; have HBx : Hid (Below B w y3) := be; have HIx : Hid (In N (dueM c.now rsd M N)) := IM'; have hly : B + 1 < y3.heap.size := HGx.out.lt; clear htw how; refine cW.mono ?_; rintro e z1 ⟨rfl, d1⟩; clear cW; obtain ⟨z2, hz2⟩ : ∃ z2, z2 = z1.alloc (.cells (tlA tw) 37) := ⟨_, rfl⟩; have bz2 : Below z1.heap.size z1 z2 := (by rw [hz2]; exact (Below.refl _ _).alloc (Nat.le_refl _) _); have nz2 : z2.heap[z1.heap.size]? = some (.cells (tlA tw) 37 (0, 0)) := (by rw [hz2]; exact World.alloc_heap_new _ _); have d2 : Below y3.heap.size y3 z2 := d1.trans (bz2.mono d1.size); have X2' := (d2.block _ lxx).trans HXx.out; have rb2 := cl_rb X2'; have cR2 := cR z2 d2; clear cR)
          | (refine wpList_new rfl rfl 37 16 (.tmp 126) rfl rfl rfl rfl (tlA tl0) (tlA tw) (zeroTele _) rfl rfl infoTele rfl (tlA_one _) ?_; rw [← hz2]; clear hz2)
          | (go_at_call 23; refine cR2.mono ?_; rintro e z3 ⟨rfl, d3⟩; clear cR2; obtain ⟨z4, hz4⟩ : ∃ z4, z4 = z3.alloc (.cells (tlA tw) 37) := ⟨_, rfl⟩; have bz4 : Below z3.heap.size z3 z4 := (by rw [hz4]; exact (Below.refl _ _).alloc (Nat.le_refl _) _); have nz4 : z4.heap[z3.heap.size]? = some (.cells (tlA tw) 37 (0, 0)) := (by rw [hz4]; exact World.alloc_heap_new _ _); have d4 : Below z2.heap.size z2 z4 := d3.trans (bz4.mono d3.size); have m2 := (d4.block _ (Array.getElem?_eq_some_iff.1 nz2).1).trans nz2; have la' := load_tele m2; have lc' := load_tele nz4)
          | (refine wpList_new rfl rfl 37 18 (.tmp 133) rfl rfl rfl rfl (tlA tl0) (tlA tw) (zeroTele _) rfl rfl infoTele rfl (tlA_one _) ?_; rw [← hz4]; clear hz4)
          | (refine wpList_load_at rfl 37 (.tmp 16) rfl ⟨z1.heap.size, 0, none⟩ rfl _ la' ?_; clear la')
          | (refine wpList_load_at rfl 37 (.tmp 18) rfl ⟨z3.heap.size, 0, none⟩ rfl _ lc' ?_; clear lc')
          | (refine wpList_neq_tele (.tmp 135) (.tmp 136) _ rfl tw rfl rfl rfl ?_))
        have dz : Below y3.heap.size y3 z4 := d2.trans (d4.mono d2.size)
        go_roundw
        case rel => exact ⟨i + 1, n2, g, (dueM c.now rsd M N), by go_num, by omega, HGx.out.go dz, by have := hn'; omega, HRx.out.go dz, HGL.out, HIx.out, HBx.out.trans (dz.mono (by omega))⟩
        case measure => simp [intOf]; omega
      · have lx2 : gx < x2.heap.size := (Array.getElem?_eq_some_iff.1 X2).1
        have gg := HGL.out
        have HG2 : Hid (LkAt x2 (B + 1) B n' (N : Int) rsd M) := G2
        have HR2 : Hid (RAt x2 r g N rsd M) := R2
        have HX2 : Hid (x2.heap[gx]? = some (.cells (clA c) 39 (0, 0))) := X2
        clear G2 R2
        go_wp2_with (first
          | (refine wpList_load_at rfl 39 (.tmp 58) rfl (p.add (i * 22)) rfl (clA c) hld ?_; clear hld)
          | (refine wpList_new rfl rfl 39 11 (.tmp 59) rfl rfl rfl rfl (clA cl0) (clA c) (zeroCl _) rfl rfl infoCl rfl (clA_one _) ?_; rw [← hx2]; clear hx2; try rw [hgx])
          | (go_at_call 12; refine (cP _).mono ?_; rintro e yp ⟨rfl, hyp⟩; rw [hyp]; clear hyp cP)
          | (go_at_call 20; refine (clear_any HG2.out).mono ?_; rintro e y1 ⟨rfl, G3, q3⟩; have sy := q3.size; have X3 := (q3.block _ lx2 (fun e => by cases e; omega)).trans HX2.out; have R3 := HR2.out.same (q3.block _ (by omega) (fun e => by cases e; omega)) (q3.block _ (by omega) (fun e => by cases e; omega)))
          | (go_at_call 21; refine (rclear_any R3 hN).mono ?_; rintro e y2 ⟨rfl, R4, q4⟩; have sy2 := q4.size; have X4 := (q4.block _ (by omega) (fun e => by cases e; omega)).trans X3; have G4 := G3.same (q4.block _ (by omega) (fun e => by cases e; omega)) (q4.block _ (by omega) (fun e => by cases e; omega)); have be : Below B w y2 := (b2.grown q3 (by omega) (fun k hk => by cases hk; omega)).grown q4 (by omega) (fun k hk => by cases hk; omega); have IM' : In N (fun _ => none) := (fun _ _ => rfl); have rb4 := cl_rb X4)
          | (go_at_call 22; obtain ⟨tw, htw⟩ : ∃ tw, tlOf ((fun _ => none) c.rb) = tw := ⟨_, rfl⟩; obtain ⟨ow, how⟩ : ∃ ow, ((fun _ => none) c.rb).isSome = ow := ⟨_, rfl⟩; have cW := waits_any G4 c.rb hwf; have cR : ∀ u, Below y2.heap.size y2 u → _ := fun u hu => rwaits_any (R4.go hu) IM' c.rb; rw [htw, how] at cW; simp only [htw, how] at cR; have HXx : Hid (y2.heap[gx]? = some (.cells (clA c) 39 (0, 0))) := X4; have lxx : gx < y2.heap.size := (Array.getElem?_eq_some_iff.1 X4).1; have HGx : Hid (LkAt y2 (B + 1) B 0 (N : Int) rsd (fun _ => none)) := G4; have HRx : Hid (RAt y2 r y1.heap.size N rsd (fun _ => none)) := R4; have HBx : Hid (Below B w y2) := be; have HIx : Hid (In N (fun _ => none)) := IM'; have hly : B + 1 < y2.heap.size := HGx.out.lt; clear htw how; refine cW.mono ?_; rintro e z1 ⟨rfl, d1⟩; clear cW; obtain ⟨z2, hz2⟩ : ∃ z2, z2 = z1.alloc (.cells (tlA tw) 37) := ⟨_, rfl⟩; have bz2 : Below z1.heap.size z1 z2 := (by rw [hz2]; exact (Below.refl _ _).alloc (Nat.le_refl _) _); have nz2 : z2.heap[z1.heap.size]? = some (.cells (tlA tw) 37 (0, 0)) := (by rw [hz2]; exact World.alloc_heap_new _ _); have d2 : Below y2.heap.size y2 z2 := d1.trans (bz2.mono d1.size); have X2' := (d2.block _ lxx).trans HXx.out; have rb2 := cl_rb X2'; have cR2 := cR z2 d2; clear cR)
          | (refine wpList_new rfl rfl 37 16 (.tmp 126) rfl rfl rfl rfl (tlA tl0) (tlA tw) (zeroTele _) rfl rfl infoTele rfl (tlA_one _) ?_; rw [← hz2]; clear hz2)
          | (go_at_call 23; refine cR2.mono ?_; rintro e z3 ⟨rfl, d3⟩; clear cR2; obtain ⟨z4, hz4⟩ : ∃ z4, z4 = z3.alloc (.cells (tlA tw) 37) := ⟨_, rfl⟩; have bz4 : Below z3.heap.size z3 z4 := (by rw [hz4]; exact (Below.refl _ _).alloc (Nat.le_refl _) _); have nz4 : z4.heap[z3.heap.size]? = some (.cells (tlA tw) 37 (0, 0)) := (by rw [hz4]; exact World.alloc_heap_new _ _); have d4 : Below z2.heap.size z2 z4 := d3.trans (bz4.mono d3.size); have m2 := (d4.block _ (Array.getElem?_eq_some_iff.1 nz2).1).trans nz2; have la' := load_tele m2; have lc' := load_tele nz4)
          | (refine wpList_new rfl rfl 37 18 (.tmp 133) rfl rfl rfl rfl (tlA tl0) (tlA tw) (zeroTele _) rfl rfl infoTele rfl (tlA_one _) ?_; rw [← hz4]; clear hz4)
          | (refine wpList_load_at rfl 37 (.tmp 16) rfl ⟨z1.heap.size, 0, none⟩ rfl _ la' ?_; clear la')
          | (refine wpList_load_at rfl 37 (.tmp 18) rfl ⟨z3.heap.size, 0, none⟩ rfl _ lc' ?_; clear lc')
          | (refine wpList_neq_tele (.tmp 135) (.tmp 136) _ rfl tw rfl rfl rfl ?_))
        have dz : Below y2.heap.size y2 z4 := d2.trans (d4.mono d2.size)
        go_roundw
        case rel => exact ⟨i + 1, 0, y1.heap.size, (fun _ => none), by go_num, by omega, HGx.out.go dz, by have := hn'; omega, HRx.out.go dz, by omega, HIx.out, HBx.out.trans (dz.mono (by omega))⟩
        case measure => simp [intOf]; omega

    · have hs : B ≤ wr.heap.size := by have := G.lt; omega
      by_cases hin : i < n
      · have v1 : (i : Int) < (n : Int) := by omega
        have v2 : ¬ (i : Int) < 80 := by omega
        go_wp2_with (go_at_call 11; refine (awake17 _).mono ?_; rintro e x9 ⟨rfl, b9⟩)
        go_ret
        exact ⟨rfl, bw.trans (b9.mono hs)⟩
      · have v1 : ¬ (i : Int) < (n : Int) := by omega
        go_wp2_with (go_at_call 11; refine (awake17 _).mono ?_; rintro e x9 ⟨rfl, b9⟩)
        go_ret
        exact ⟨rfl, bw.trans (b9.mono hs)⟩
theorem plays_all (rs rsd : Int) (a : Option Addr) (n cap : Nat) (cs : Nat → Cl) (w : World) (hI : InS w a n cs) : Calls Try.prog 3 #[.int .i64 rs, .int .i64 rsd, .slice a n cap] w fun e w' => e = .returned (.bool true) ∧ Below w.heap.size w w' := by
  by_cases g1 : rs < 0
  · exact plays_bad0 rs rsd a n cap w g1
  · by_cases g2 : 8 < rs
    · exact plays_bad1 rs rsd a n cap w g1 g2
    · by_cases g3 : rsd < 1
      · exact plays_bad2 rs rsd a n cap w g1 g2 g3
      · obtain ⟨N, rfl⟩ : ∃ N : Nat, rs = (N : Int) := ⟨rs.toNat, by omega⟩
        exact plays_good N rsd a n cap cs w (by omega) (by omega) hI
end Go.Proofs.Ytjladfpfhhnagaa.Lk
