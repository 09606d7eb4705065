/-
  The law CodecTeles: any telegram's bytes; any bytes as a telegram.
-/
import Derived.Test.YthdgpadakmdlkaaCodecTeleEq
namespace Go.Proofs.Ythdgpadakmdlkaa.Codec
set_option linter.unusedVariables false
set_option linter.unusedSimpArgs false
open Go Go.RowKit

set_option maxRecDepth 100000 in
set_option maxHeartbeats 8000000 in
theorem teles_all (o : TTele) (a : Option Addr) (n cap : Nat) (zs : List Int) (w : World) (ho : cTele.ok o) (hr : Row w a n zs) (h0 : a = none → n = 0 ∧ cap = 0) (hnc : n ≤ cap) (hc2 : cap ≤ 9223372036854775807) (hn : n ≤ 140737488351232) :
    Calls Try.prog 4 #[.agg ((tCells o).toArray), .slice a n cap] w fun e w' => e = .returned (.bool true) ∧ Below w.heap.size w w' := by
  have cW := awake_any
  have h0' : a = none → cap = 0 := fun h => (h0 h).2
  have cP := fun u : World => PutTele_any u o ho
  have cQ := fun u : World => refPutTele_all u o ho
  have hlen := tele_len o
  have hwhole : cTele.whole (cTele.put o) = some o := gTele.whole_put o ho
  have cY := fun (u : World) (b : Option Addr) (m c : Nat) (h1 : Row u b m (cTele.put o)) (h2 : m ≤ c ∧ c ≤ 9223372036854775807 ∧ (b = none → c = 0)) => GetTele_det u b m c _ _ hwhole h1 h2.1 h2.2.1 h2.2.2
  have cZ := fun (u : World) (b : Option Addr) (c : Nat) (h1 : Row u b n zs) (h2 : n ≤ c ∧ c ≤ 9223372036854775807 ∧ (b = none → c = 0)) => GetTele_det u b n c _ _ rfl h1 h2.1 h2.2.1 h2.2.2
  have cV := fun (u : World) (h1 : Row u a n zs) => refGetTele_det u a n cap _ _ rfl h1 hnc hc2 h0'
  have eO := fun u : World => eqTele_self o u
  have eZ := fun u : World => eqTele_self (teleOr (cTele.whole zs)) u
  change ∀ u : World, Calls Try.prog _ #[.agg ((tCells o).toArray)] u (Made (cTele.put o) u) at cP
  change ∀ u : World, Calls Try.prog _ #[.agg ((tCells o).toArray)] u (Made (cTele.put o) u) at cQ
  change (cTele.put o).length ≤ 163 at hlen
  have zO : ((tCells o).toArray).size = 19 := rfl
  have zZ : ((tCells (teleOr (cTele.whole zs))).toArray).size = 19 := rfl
  have aO := heldTele.one (show Plain (fun t : TTele => (tCells t).toArray) (fun _ => True) o ((tCells o).toArray) w from rfl)
  have aZ := heldTele.one (show Plain (fun t : TTele => (tCells t).toArray) (fun _ => True) (teleOr (cTele.whole zs)) ((tCells (teleOr (cTele.whole zs))).toArray) w from rfl)
  have hres : (teleErr (cTele.whole zs) = 0 ∧ (cTele.whole zs).isSome = true) ∨ (teleErr (cTele.whole zs) = 4 ∧ (cTele.whole zs).isSome = false) := by
    unfold teleErr
    cases (cTele.whole zs).isSome
    · exact Or.inr ⟨rfl, rfl⟩
    · exact Or.inl ⟨rfl, rfl⟩
  have hY0 : teleErr (some o) = 0 := rfl
  have hY1 : teleOr (some o) = o := rfl
  rw [hY0, hY1] at cY
  clear hY0 hY1 hwhole
  generalize teleErr (cTele.whole zs) = G at *
  generalize (cTele.whole zs).isSome = OK at *
  generalize (tCells (teleOr (cTele.whole zs))).toArray = csZ at *
  generalize (tCells o).toArray = csO at *
  generalize cTele.put o = ZO at *
  have hi : (Try.prog.info? 44).map (·.size) = some csO.size := by rw [zO]; kernel_rfl
  have hiZ : (Try.prog.info? 44).map (·.size) = some csZ.size := by rw [zZ]; kernel_rfl
  have hcopy := fun (u : World) (hu : Below w.heap.size w u) => copy_any a n cap zs u (hr.after hu) (by omega) h0
  go_enter Try.func4, Try.ntmps4
  go_upto_region 2 with (first
    | (refine wpList_load_row rfl 44 (.tmp 2) rfl w.heap.size rfl 44 csO (0, 0) _ (heap_alloc_new w _) Try.underlying44 rfl hi ?_)
    | (go_at_call 14; refine (cP _).mono ?_; rintro e1 w1 ⟨b1, rfl, m1, B1, n1⟩; obtain ⟨a1, c1, rfl, r1, z1, l1, k1⟩ := m1.form))
  have B1w : Below w.heap.size w w1 := bcat ((Below.refl w.heap.size w).alloc (Nat.le_refl _) (.cells csO 44)) B1 (Nat.le_refl _)
  have hO : w1.heap[w.heap.size]? = some (.cells csO 44 (0, 0)) := (B1.block _ (by simp)).trans (heap_alloc_new w _)
  generalize hL : ZO.length = L at *
  clear B1 m1 n1 cP
  have k1' : c1 ≤ 9223372036854775807 := k1
  go_cut [6, 7] (fun p e wx => Below w1.heap.size w1 wx ∧ e = .int .i64 0 ∧ ∃ N, p = .pointer (some ⟨N, 0, none⟩) ∧ wx.heap[N]? = some (.cells csO 44 (0, 0)))
  case first =>
    have hc1 := copy_any a1 L c1 ZO w1 r1 (by omega) z1
    go_wp2_with (first
      | (go_at_call 9; refine hc1.mono ?_; rintro e2 x2 ⟨ca, cc, rfl, crow, cown, cbel⟩; have cf := own_form cown)
      | (have X' := cf; go_at_call 15; refine (cY _ ca L cc crow cf).mono ?_; rintro e3 x3 ⟨b3, rfl⟩)
      | (have X' := b3; refine wpList_store_row rfl 44 (.tmp 6) (.tmp 18) rfl x3.heap.size csO rfl rfl 44 #[.int .i64 0, .int .i64 0, .int .i64 0, .int .i64 0, .int .i64 0, .int .i64 0, .int .i64 0, .int .i64 0, .int .i64 0, .bool false, .int .i64 0, .int .i64 0, .bool false, .int .i64 0, .int .i64 0, .int .i64 0, .int .i64 0, .bool false, .int .i64 0] (heap_alloc_new x3 _) hi (by rw [zO]; rfl) aO ?_))
    go_meet
    have z2 := (bcat cbel b3 (Nat.le_refl _)).size
    exact ⟨below_row ((bcat cbel b3 (Nat.le_refl _)).alloc z2 _) z2 csO, rfl, x3.heap.size, rfl, setRow_heap _ _ _ _ _ _ (heap_alloc_new x3 _)⟩
  case rest =>
  obtain ⟨B2, rfl, NY, rfl, hY⟩ := hcut
  rename World => w2
  have B2w : Below w.heap.size w w2 := bcat B1w B2 (Nat.le_refl _)
  have hO2 := (B2.block _ (lt_of_heap hO)).trans hO
  have r2 := r1.after B2
  go_upto_region 3 with fail
  go_cut [8, 9] (fun p e wx => Below w2.heap.size w2 wx ∧ e = .int .i64 G ∧ ∃ N, p = .pointer (some ⟨N, 0, none⟩) ∧ wx.heap[N]? = some (.cells csZ 44 (0, 0)))
  case first =>
    have hc1 := hcopy w2 B2w
    go_wp2_with (first
      | (go_at_call 9; refine hc1.mono ?_; rintro e2 x2 ⟨ca, cc, rfl, crow, cown, cbel⟩; have cf := own_form cown)
      | (have X' := cf; go_at_call 15; refine (cZ _ ca cc crow cf).mono ?_; rintro e3 x3 ⟨b3, rfl⟩)
      | (have X' := b3; refine wpList_store_row rfl 44 (.tmp 8) (.tmp 24) rfl x3.heap.size csZ rfl rfl 44 #[.int .i64 0, .int .i64 0, .int .i64 0, .int .i64 0, .int .i64 0, .int .i64 0, .int .i64 0, .int .i64 0, .int .i64 0, .bool false, .int .i64 0, .int .i64 0, .bool false, .int .i64 0, .int .i64 0, .int .i64 0, .int .i64 0, .bool false, .int .i64 0] (heap_alloc_new x3 _) hiZ (by rw [zZ]; rfl) aZ ?_))
    go_meet
    have z2 := (bcat cbel b3 (Nat.le_refl _)).size
    exact ⟨below_row ((bcat cbel b3 (Nat.le_refl _)).alloc z2 _) z2 csZ, rfl, x3.heap.size, rfl, setRow_heap _ _ _ _ _ _ (heap_alloc_new x3 _)⟩
  case rest =>
  obtain ⟨B3, rfl, NZ, rfl, hZ⟩ := hcut
  rename World => w3
  have B3w : Below w.heap.size w w3 := bcat B2w B3 (Nat.le_refl _)
  have hO3 := (B3.block _ (lt_of_heap hO2)).trans hO2
  have hY3 := (B3.block _ (lt_of_heap hY)).trans hY
  have r3 := r2.after B3
  go_upto_region 4 with fail
  go_cut [10, 11] (fun p e wx => Below w3.heap.size w3 wx ∧ e = .bool OK ∧ ∃ N, p = .pointer (some ⟨N, 0, none⟩) ∧ wx.heap[N]? = some (.cells csZ 44 (0, 0)))
  case first =>
    have cV3 := cV w3 (hr.after B3w)
    go_wp2_with (first
      | (go_at_call 16; refine cV3.mono ?_; rintro e3 x3 ⟨b3, rfl⟩)
      | (have X' := b3; refine wpList_store_row rfl 44 (.tmp 10) (.tmp 29) rfl x3.heap.size csZ rfl rfl 44 #[.int .i64 0, .int .i64 0, .int .i64 0, .int .i64 0, .int .i64 0, .int .i64 0, .int .i64 0, .int .i64 0, .int .i64 0, .bool false, .int .i64 0, .int .i64 0, .bool false, .int .i64 0, .int .i64 0, .int .i64 0, .int .i64 0, .bool false, .int .i64 0] (heap_alloc_new x3 _) hiZ (by rw [zZ]; rfl) aZ ?_))
    go_meet
    have z2 := b3.size
    exact ⟨below_row (b3.alloc z2 _) z2 csZ, rfl, x3.heap.size, rfl, setRow_heap _ _ _ _ _ _ (heap_alloc_new x3 _)⟩
  case rest =>
  obtain ⟨B4, rfl, NW, rfl, hW⟩ := hcut
  rename World => w4
  have B4w : Below w.heap.size w w4 := bcat B3w B4 (Nat.le_refl _)
  have hO4 := (B4.block _ (lt_of_heap hO3)).trans hO3
  have hY4 := (B4.block _ (lt_of_heap hY3)).trans hY3
  have hZ4 := (B4.block _ (lt_of_heap hZ)).trans hZ
  have r4 := r3.after B4
  have hconv := fun (u : World) (hu : Below w4.heap.size w4 u) => conv_row (r4.after hu) c1
  have same : ((strOfNums ZO).toList == (strOfNums ZO).toList) = true := by simp
  go_upto_region 5 with fail
  go_cut [4] (fun v wx => v = .bool true ∧ Below w4.heap.size w4 wx)
  case first =>
    have S0 : Below w4.heap.size w4 w4.drew := drew_below4 w4
    rcases hres with ⟨rfl, rfl⟩ | ⟨rfl, rfl⟩
    · refine start_held (S := fun u => Below w4.heap.size w4 u) 37 rfl (by kernel_rfl) S0 ?_
      simp only [Array.replicate_succ, Array.replicate_zero, List.push_toArray, List.nil_append, List.cons_append]
      refine take_held 0 S0 rfl (by kernel_rfl) (by kernel_rfl) (by kernel_rfl) (fun _ _ _ h => h) (by kernel_rfl) (v := .slice a1 L c1) ?ya0 ?ra0
      case ya0 => (intro u hu; clear eO eZ; go_simp; try rfl)
      simp only [Act.put, List.setIfInBounds_toArray, List.set_cons_zero, List.set_cons_succ]
      refine take_held 1 S0 rfl (by kernel_rfl) (by kernel_rfl) (by kernel_rfl) (fun _ _ _ h => h) (by kernel_rfl) (v := .string (strOfNums ZO)) ?ya1 ?ra1
      case ya1 => (intro u hu; have hq := hconv u hu; clear eO eZ; go_simp; try rfl)
      simp only [Act.put, List.setIfInBounds_toArray, List.set_cons_zero, List.set_cons_succ]
      refine take_held 2 S0 rfl (by kernel_rfl) (by kernel_rfl) (by kernel_rfl) (fun _ _ _ h => h) (by kernel_rfl) (v := .agg csO) ?ya2 ?ra2
      case ya2 => (intro u hu; exact run_load_op3 44 (.tmp 2) rfl w.heap.size csO rfl (run_loadVar_row _ _ _ _ csO (0, 0) _ ((hu.block _ (lt_of_heap hO4)).trans hO4) Try.underlying44 rfl hi))
      simp only [Act.put, List.setIfInBounds_toArray, List.set_cons_zero, List.set_cons_succ]
      refine call_held 3 rfl (by kernel_rfl) (by kernel_rfl) 17 #[.agg csO] (by go_simp) _ (cQ _) ?_
      rintro e5 x5 ⟨b5, rfl, m5, l5, n5⟩
      have S5 : Below w4.heap.size w4 x5 := bcat S0 l5 (Nat.le_refl _)
      have v5 := m5.conv
      refine Or.inl ⟨_, rfl, S5, ?_⟩
      simp only [Act.put, List.setIfInBounds_toArray, List.set_cons_zero, List.set_cons_succ]
      refine read_held 4 rfl (by kernel_rfl) (by kernel_rfl) (.string (strOfNums ZO)) (by clear eO eZ; go_simp) S5 ?_
      simp only [Act.put, List.setIfInBounds_toArray, List.set_cons_zero, List.set_cons_succ]
      refine take_held 5 S5 rfl (by kernel_rfl) (by kernel_rfl) (by kernel_rfl) (fun _ _ _ h => h) (by kernel_rfl) (v := .bool true) ?ya3 ?ra3
      case ya3 => (intro u hu; clear eO eZ; go_simp; try rfl)
      simp only [Act.put, List.setIfInBounds_toArray, List.set_cons_zero, List.set_cons_succ]
      refine take_held 6 S5 rfl (by kernel_rfl) (by kernel_rfl) (by kernel_rfl) (fun _ _ _ h => h) (by kernel_rfl) (v := .bool true) ?ya4 ?ra4
      case ya4 => (intro u hu; clear eO eZ; go_simp; try rfl)
      simp only [Act.put, List.setIfInBounds_toArray, List.set_cons_zero, List.set_cons_succ]
      refine take_held 7 S5 rfl (by kernel_rfl) (by kernel_rfl) (by kernel_rfl) (fun _ _ _ h => h) (by kernel_rfl) (v := .int .i64 0) ?ya5 ?ra5
      case ya5 => (intro u hu; clear eO eZ; go_simp; try rfl)
      simp only [Act.put, List.setIfInBounds_toArray, List.set_cons_zero, List.set_cons_succ]
      refine take_held 8 S5 rfl (by kernel_rfl) (by kernel_rfl) (by kernel_rfl) (fun _ _ _ h => h) (by kernel_rfl) (v := .bool true) ?ya6 ?ra6
      case ya6 => (intro u hu; clear eO eZ; go_simp; try rfl)
      simp only [Act.put, List.setIfInBounds_toArray, List.set_cons_zero, List.set_cons_succ]
      refine take_held 9 S5 rfl (by kernel_rfl) (by kernel_rfl) (by kernel_rfl) (fun _ _ _ h => h) (by kernel_rfl) (v := .bool true) ?ya7 ?ra7
      case ya7 => (intro u hu; clear eO eZ; go_simp; try rfl)
      simp only [Act.put, List.setIfInBounds_toArray, List.set_cons_zero, List.set_cons_succ]
      refine take_held 10 S5 rfl (by kernel_rfl) (by kernel_rfl) (by kernel_rfl) (fun _ _ _ h => h) (by kernel_rfl) (v := .bool true) ?ya8 ?ra8
      case ya8 => (intro u hu; clear eO eZ; go_simp; try rfl)
      simp only [Act.put, List.setIfInBounds_toArray, List.set_cons_zero, List.set_cons_succ]
      refine take_held 11 S5 rfl (by kernel_rfl) (by kernel_rfl) (by kernel_rfl) (fun _ _ _ h => h) (by kernel_rfl) (v := .agg csO) ?ya9 ?ra9
      case ya9 => (intro u hu; exact run_load_op3 44 (.tmp 6) rfl NY csO rfl (run_loadVar_row _ _ _ _ csO (0, 0) _ ((hu.block _ (lt_of_heap hY4)).trans hY4) Try.underlying44 rfl hi))
      simp only [Act.put, List.setIfInBounds_toArray, List.set_cons_zero, List.set_cons_succ]
      refine take_held 12 S5 rfl (by kernel_rfl) (by kernel_rfl) (by kernel_rfl) (fun _ _ _ h => h) (by kernel_rfl) (v := .agg csO) ?ya10 ?ra10
      case ya10 => (intro u hu; exact run_load_op3 44 (.tmp 2) rfl w.heap.size csO rfl (run_loadVar_row _ _ _ _ csO (0, 0) _ ((hu.block _ (lt_of_heap hO4)).trans hO4) Try.underlying44 rfl hi))
      simp only [Act.put, List.setIfInBounds_toArray, List.set_cons_zero, List.set_cons_succ]
      refine take_held 13 S5 rfl (by kernel_rfl) (by kernel_rfl) (by kernel_rfl) (fun _ _ _ h => h) (by kernel_rfl) (v := .bool true) ?ya11 ?ra11
      case ya11 => (intro u hu; exact run_eql_op3 44 44 (.tmp 42) (.tmp 43) rfl csO csO rfl rfl true (eO u) gTeleT3)
      simp only [Act.put, List.setIfInBounds_toArray, List.set_cons_zero, List.set_cons_succ]
      refine take_held 14 S5 rfl (by kernel_rfl) (by kernel_rfl) (by kernel_rfl) (fun _ _ _ h => h) (by kernel_rfl) (v := .bool true) ?ya12 ?ra12
      case ya12 => (intro u hu; clear eO eZ; go_simp; try rfl)
      simp only [Act.put, List.setIfInBounds_toArray, List.set_cons_zero, List.set_cons_succ]
      refine take_held 15 S5 rfl (by kernel_rfl) (by kernel_rfl) (by kernel_rfl) (fun _ _ _ h => h) (by kernel_rfl) (v := .bool true) ?ya13 ?ra13
      case ya13 => (intro u hu; clear eO eZ; go_simp; try rfl)
      simp only [Act.put, List.setIfInBounds_toArray, List.set_cons_zero, List.set_cons_succ]
      refine take_held 16 S5 rfl (by kernel_rfl) (by kernel_rfl) (by kernel_rfl) (fun _ _ _ h => h) (by kernel_rfl) (v := .int .i64 0) ?ya14 ?ra14
      case ya14 => (intro u hu; clear eO eZ; go_simp; try rfl)
      simp only [Act.put, List.setIfInBounds_toArray, List.set_cons_zero, List.set_cons_succ]
      refine take_held 17 S5 rfl (by kernel_rfl) (by kernel_rfl) (by kernel_rfl) (fun _ _ _ h => h) (by kernel_rfl) (v := .bool true) ?ya15 ?ra15
      case ya15 => (intro u hu; clear eO eZ; go_simp; try rfl)
      simp only [Act.put, List.setIfInBounds_toArray, List.set_cons_zero, List.set_cons_succ]
      refine take_held 18 S5 rfl (by kernel_rfl) (by kernel_rfl) (by kernel_rfl) (fun _ _ _ h => h) (by kernel_rfl) (v := .bool true) ?ya16 ?ra16
      case ya16 => (intro u hu; clear eO eZ; go_simp; try rfl)
      simp only [Act.put, List.setIfInBounds_toArray, List.set_cons_zero, List.set_cons_succ]
      refine take_held 19 S5 rfl (by kernel_rfl) (by kernel_rfl) (by kernel_rfl) (fun _ _ _ h => h) (by kernel_rfl) (v := .bool true) ?ya17 ?ra17
      case ya17 => (intro u hu; clear eO eZ; go_simp; try rfl)
      simp only [Act.put, List.setIfInBounds_toArray, List.set_cons_zero, List.set_cons_succ]
      refine take_held 20 S5 rfl (by kernel_rfl) (by kernel_rfl) (by kernel_rfl) (fun _ _ _ h => h) (by kernel_rfl) (v := .bool true) ?ya18 ?ra18
      case ya18 => (intro u hu; clear eO eZ; go_simp; try rfl)
      simp only [Act.put, List.setIfInBounds_toArray, List.set_cons_zero, List.set_cons_succ]
      refine take_held 21 S5 rfl (by kernel_rfl) (by kernel_rfl) (by kernel_rfl) (fun _ _ _ h => h) (by kernel_rfl) (v := .bool true) ?ya19 ?ra19
      case ya19 => (intro u hu; clear eO eZ; go_simp; try rfl)
      simp only [Act.put, List.setIfInBounds_toArray, List.set_cons_zero, List.set_cons_succ]
      refine take_held 22 S5 rfl (by kernel_rfl) (by kernel_rfl) (by kernel_rfl) (fun _ _ _ h => h) (by kernel_rfl) (v := .bool true) ?ya20 ?ra20
      case ya20 => (intro u hu; clear eO eZ; go_simp; try rfl)
      simp only [Act.put, List.setIfInBounds_toArray, List.set_cons_zero, List.set_cons_succ]
      refine take_held 23 S5 rfl (by kernel_rfl) (by kernel_rfl) (by kernel_rfl) (fun _ _ _ h => h) (by kernel_rfl) (v := .bool true) ?ya21 ?ra21
      case ya21 => (intro u hu; clear eO eZ; go_simp; try rfl)
      simp only [Act.put, List.setIfInBounds_toArray, List.set_cons_zero, List.set_cons_succ]
      refine skip_held 24 S5 rfl (by kernel_rfl) (by kernel_rfl) (by kernel_rfl) (fun _ _ _ h => h) (by kernel_rfl) ?_
      simp only [Act.put, List.setIfInBounds_toArray, List.set_cons_zero, List.set_cons_succ]
      refine skip_held 25 S5 rfl (by kernel_rfl) (by kernel_rfl) (by kernel_rfl) (fun _ _ _ h => h) (by kernel_rfl) ?_
      simp only [Act.put, List.setIfInBounds_toArray, List.set_cons_zero, List.set_cons_succ]
      refine take_held 26 S5 rfl (by kernel_rfl) (by kernel_rfl) (by kernel_rfl) (fun _ _ _ h => h) (by kernel_rfl) (v := .bool true) ?ya22 ?ra22
      case ya22 => (intro u hu; clear eO eZ; go_simp; try rfl)
      simp only [Act.put, List.setIfInBounds_toArray, List.set_cons_zero, List.set_cons_succ]
      refine take_held 27 S5 rfl (by kernel_rfl) (by kernel_rfl) (by kernel_rfl) (fun _ _ _ h => h) (by kernel_rfl) (v := .bool true) ?ya23 ?ra23
      case ya23 => (intro u hu; clear eO eZ; go_simp; try rfl)
      simp only [Act.put, List.setIfInBounds_toArray, List.set_cons_zero, List.set_cons_succ]
      refine take_held 28 S5 rfl (by kernel_rfl) (by kernel_rfl) (by kernel_rfl) (fun _ _ _ h => h) (by kernel_rfl) (v := .bool true) ?ya24 ?ra24
      case ya24 => (intro u hu; clear eO eZ; go_simp; try rfl)
      simp only [Act.put, List.setIfInBounds_toArray, List.set_cons_zero, List.set_cons_succ]
      refine take_held 29 S5 rfl (by kernel_rfl) (by kernel_rfl) (by kernel_rfl) (fun _ _ _ h => h) (by kernel_rfl) (v := .agg csZ) ?ya25 ?ra25
      case ya25 => (intro u hu; exact run_load_op3 44 (.tmp 8) rfl NZ csZ rfl (run_loadVar_row _ _ _ _ csZ (0, 0) _ ((hu.block _ (lt_of_heap hZ4)).trans hZ4) Try.underlying44 rfl hiZ))
      simp only [Act.put, List.setIfInBounds_toArray, List.set_cons_zero, List.set_cons_succ]
      refine take_held 30 S5 rfl (by kernel_rfl) (by kernel_rfl) (by kernel_rfl) (fun _ _ _ h => h) (by kernel_rfl) (v := .agg csZ) ?ya26 ?ra26
      case ya26 => (intro u hu; exact run_load_op3 44 (.tmp 10) rfl NW csZ rfl (run_loadVar_row _ _ _ _ csZ (0, 0) _ ((hu.block _ (lt_of_heap hW)).trans hW) Try.underlying44 rfl hiZ))
      simp only [Act.put, List.setIfInBounds_toArray, List.set_cons_zero, List.set_cons_succ]
      refine take_held 31 S5 rfl (by kernel_rfl) (by kernel_rfl) (by kernel_rfl) (fun _ _ _ h => h) (by kernel_rfl) (v := .bool true) ?ya27 ?ra27
      case ya27 => (intro u hu; exact run_eql_op3 44 44 (.tmp 60) (.tmp 61) rfl csZ csZ rfl rfl true (eZ u) gTeleT3)
      simp only [Act.put, List.setIfInBounds_toArray, List.set_cons_zero, List.set_cons_succ]
      refine take_held 32 S5 rfl (by kernel_rfl) (by kernel_rfl) (by kernel_rfl) (fun _ _ _ h => h) (by kernel_rfl) (v := .bool true) ?ya28 ?ra28
      case ya28 => (intro u hu; clear eO eZ; go_simp; try rfl)
      simp only [Act.put, List.setIfInBounds_toArray, List.set_cons_zero, List.set_cons_succ]
      refine take_held 33 S5 rfl (by kernel_rfl) (by kernel_rfl) (by kernel_rfl) (fun _ _ _ h => h) (by kernel_rfl) (v := .bool true) ?ya29 ?ra29
      case ya29 => (intro u hu; clear eO eZ; go_simp; try rfl)
      simp only [Act.put, List.setIfInBounds_toArray, List.set_cons_zero, List.set_cons_succ]
      refine call_held 34 rfl (by kernel_rfl) (by kernel_rfl) 13 #[] (by go_simp) _ (cW _) ?_
      rintro e6 x6 ⟨rfl, l6⟩
      have S6 : Below w4.heap.size w4 x6 := bcat S5 l6 (Nat.le_refl _)
      refine Or.inl ⟨_, rfl, S6, ?_⟩
      simp only [Act.put, List.setIfInBounds_toArray, List.set_cons_zero, List.set_cons_succ]
      refine read_held 35 rfl (by kernel_rfl) (by kernel_rfl) (.bool true) (by clear eO eZ; go_simp) S6 ?_
      simp only [Act.put, List.setIfInBounds_toArray, List.set_cons_zero, List.set_cons_succ]
      refine read_held 36 rfl (by kernel_rfl) (by kernel_rfl) (.bool true) (by clear eO eZ; go_simp) S6 ?_
      simp only [Act.put, List.setIfInBounds_toArray, List.set_cons_zero, List.set_cons_succ]
      refine done_held (by kernel_rfl) ?_ _
      go_wp2_with fail
      go_meet
      exact ⟨rfl, S6⟩
    · refine start_held (S := fun u => Below w4.heap.size w4 u) 37 rfl (by kernel_rfl) S0 ?_
      simp only [Array.replicate_succ, Array.replicate_zero, List.push_toArray, List.nil_append, List.cons_append]
      refine take_held 0 S0 rfl (by kernel_rfl) (by kernel_rfl) (by kernel_rfl) (fun _ _ _ h => h) (by kernel_rfl) (v := .slice a1 L c1) ?yb0 ?rb0
      case yb0 => (intro u hu; clear eO eZ; go_simp; try rfl)
      simp only [Act.put, List.setIfInBounds_toArray, List.set_cons_zero, List.set_cons_succ]
      refine take_held 1 S0 rfl (by kernel_rfl) (by kernel_rfl) (by kernel_rfl) (fun _ _ _ h => h) (by kernel_rfl) (v := .string (strOfNums ZO)) ?yb1 ?rb1
      case yb1 => (intro u hu; have hq := hconv u hu; clear eO eZ; go_simp; try rfl)
      simp only [Act.put, List.setIfInBounds_toArray, List.set_cons_zero, List.set_cons_succ]
      refine take_held 2 S0 rfl (by kernel_rfl) (by kernel_rfl) (by kernel_rfl) (fun _ _ _ h => h) (by kernel_rfl) (v := .agg csO) ?yb2 ?rb2
      case yb2 => (intro u hu; exact run_load_op3 44 (.tmp 2) rfl w.heap.size csO rfl (run_loadVar_row _ _ _ _ csO (0, 0) _ ((hu.block _ (lt_of_heap hO4)).trans hO4) Try.underlying44 rfl hi))
      simp only [Act.put, List.setIfInBounds_toArray, List.set_cons_zero, List.set_cons_succ]
      refine call_held 3 rfl (by kernel_rfl) (by kernel_rfl) 17 #[.agg csO] (by go_simp) _ (cQ _) ?_
      rintro e5 x5 ⟨b5, rfl, m5, l5, n5⟩
      have S5 : Below w4.heap.size w4 x5 := bcat S0 l5 (Nat.le_refl _)
      have v5 := m5.conv
      refine Or.inl ⟨_, rfl, S5, ?_⟩
      simp only [Act.put, List.setIfInBounds_toArray, List.set_cons_zero, List.set_cons_succ]
      refine read_held 4 rfl (by kernel_rfl) (by kernel_rfl) (.string (strOfNums ZO)) (by clear eO eZ; go_simp) S5 ?_
      simp only [Act.put, List.setIfInBounds_toArray, List.set_cons_zero, List.set_cons_succ]
      refine take_held 5 S5 rfl (by kernel_rfl) (by kernel_rfl) (by kernel_rfl) (fun _ _ _ h => h) (by kernel_rfl) (v := .bool true) ?yb3 ?rb3
      case yb3 => (intro u hu; clear eO eZ; go_simp; try rfl)
      simp only [Act.put, List.setIfInBounds_toArray, List.set_cons_zero, List.set_cons_succ]
      refine take_held 6 S5 rfl (by kernel_rfl) (by kernel_rfl) (by kernel_rfl) (fun _ _ _ h => h) (by kernel_rfl) (v := .bool true) ?yb4 ?rb4
      case yb4 => (intro u hu; clear eO eZ; go_simp; try rfl)
      simp only [Act.put, List.setIfInBounds_toArray, List.set_cons_zero, List.set_cons_succ]
      refine take_held 7 S5 rfl (by kernel_rfl) (by kernel_rfl) (by kernel_rfl) (fun _ _ _ h => h) (by kernel_rfl) (v := .int .i64 0) ?yb5 ?rb5
      case yb5 => (intro u hu; clear eO eZ; go_simp; try rfl)
      simp only [Act.put, List.setIfInBounds_toArray, List.set_cons_zero, List.set_cons_succ]
      refine take_held 8 S5 rfl (by kernel_rfl) (by kernel_rfl) (by kernel_rfl) (fun _ _ _ h => h) (by kernel_rfl) (v := .bool true) ?yb6 ?rb6
      case yb6 => (intro u hu; clear eO eZ; go_simp; try rfl)
      simp only [Act.put, List.setIfInBounds_toArray, List.set_cons_zero, List.set_cons_succ]
      refine take_held 9 S5 rfl (by kernel_rfl) (by kernel_rfl) (by kernel_rfl) (fun _ _ _ h => h) (by kernel_rfl) (v := .bool true) ?yb7 ?rb7
      case yb7 => (intro u hu; clear eO eZ; go_simp; try rfl)
      simp only [Act.put, List.setIfInBounds_toArray, List.set_cons_zero, List.set_cons_succ]
      refine take_held 10 S5 rfl (by kernel_rfl) (by kernel_rfl) (by kernel_rfl) (fun _ _ _ h => h) (by kernel_rfl) (v := .bool true) ?yb8 ?rb8
      case yb8 => (intro u hu; clear eO eZ; go_simp; try rfl)
      simp only [Act.put, List.setIfInBounds_toArray, List.set_cons_zero, List.set_cons_succ]
      refine take_held 11 S5 rfl (by kernel_rfl) (by kernel_rfl) (by kernel_rfl) (fun _ _ _ h => h) (by kernel_rfl) (v := .agg csO) ?yb9 ?rb9
      case yb9 => (intro u hu; exact run_load_op3 44 (.tmp 6) rfl NY csO rfl (run_loadVar_row _ _ _ _ csO (0, 0) _ ((hu.block _ (lt_of_heap hY4)).trans hY4) Try.underlying44 rfl hi))
      simp only [Act.put, List.setIfInBounds_toArray, List.set_cons_zero, List.set_cons_succ]
      refine take_held 12 S5 rfl (by kernel_rfl) (by kernel_rfl) (by kernel_rfl) (fun _ _ _ h => h) (by kernel_rfl) (v := .agg csO) ?yb10 ?rb10
      case yb10 => (intro u hu; exact run_load_op3 44 (.tmp 2) rfl w.heap.size csO rfl (run_loadVar_row _ _ _ _ csO (0, 0) _ ((hu.block _ (lt_of_heap hO4)).trans hO4) Try.underlying44 rfl hi))
      simp only [Act.put, List.setIfInBounds_toArray, List.set_cons_zero, List.set_cons_succ]
      refine take_held 13 S5 rfl (by kernel_rfl) (by kernel_rfl) (by kernel_rfl) (fun _ _ _ h => h) (by kernel_rfl) (v := .bool true) ?yb11 ?rb11
      case yb11 => (intro u hu; exact run_eql_op3 44 44 (.tmp 42) (.tmp 43) rfl csO csO rfl rfl true (eO u) gTeleT3)
      simp only [Act.put, List.setIfInBounds_toArray, List.set_cons_zero, List.set_cons_succ]
      refine take_held 14 S5 rfl (by kernel_rfl) (by kernel_rfl) (by kernel_rfl) (fun _ _ _ h => h) (by kernel_rfl) (v := .bool true) ?yb12 ?rb12
      case yb12 => (intro u hu; clear eO eZ; go_simp; try rfl)
      simp only [Act.put, List.setIfInBounds_toArray, List.set_cons_zero, List.set_cons_succ]
      refine take_held 15 S5 rfl (by kernel_rfl) (by kernel_rfl) (by kernel_rfl) (fun _ _ _ h => h) (by kernel_rfl) (v := .bool true) ?yb13 ?rb13
      case yb13 => (intro u hu; clear eO eZ; go_simp; try rfl)
      simp only [Act.put, List.setIfInBounds_toArray, List.set_cons_zero, List.set_cons_succ]
      refine take_held 16 S5 rfl (by kernel_rfl) (by kernel_rfl) (by kernel_rfl) (fun _ _ _ h => h) (by kernel_rfl) (v := .int .i64 4) ?yb14 ?rb14
      case yb14 => (intro u hu; clear eO eZ; go_simp; try rfl)
      simp only [Act.put, List.setIfInBounds_toArray, List.set_cons_zero, List.set_cons_succ]
      refine take_held 17 S5 rfl (by kernel_rfl) (by kernel_rfl) (by kernel_rfl) (fun _ _ _ h => h) (by kernel_rfl) (v := .bool false) ?yb15 ?rb15
      case yb15 => (intro u hu; clear eO eZ; go_simp; try rfl)
      simp only [Act.put, List.setIfInBounds_toArray, List.set_cons_zero, List.set_cons_succ]
      refine take_held 18 S5 rfl (by kernel_rfl) (by kernel_rfl) (by kernel_rfl) (fun _ _ _ h => h) (by kernel_rfl) (v := .bool false) ?yb16 ?rb16
      case yb16 => (intro u hu; clear eO eZ; go_simp; try rfl)
      simp only [Act.put, List.setIfInBounds_toArray, List.set_cons_zero, List.set_cons_succ]
      refine take_held 19 S5 rfl (by kernel_rfl) (by kernel_rfl) (by kernel_rfl) (fun _ _ _ h => h) (by kernel_rfl) (v := .bool true) ?yb17 ?rb17
      case yb17 => (intro u hu; clear eO eZ; go_simp; try rfl)
      simp only [Act.put, List.setIfInBounds_toArray, List.set_cons_zero, List.set_cons_succ]
      refine take_held 20 S5 rfl (by kernel_rfl) (by kernel_rfl) (by kernel_rfl) (fun _ _ _ h => h) (by kernel_rfl) (v := .bool true) ?yb18 ?rb18
      case yb18 => (intro u hu; clear eO eZ; go_simp; try rfl)
      simp only [Act.put, List.setIfInBounds_toArray, List.set_cons_zero, List.set_cons_succ]
      refine take_held 21 S5 rfl (by kernel_rfl) (by kernel_rfl) (by kernel_rfl) (fun _ _ _ h => h) (by kernel_rfl) (v := .bool true) ?yb19 ?rb19
      case yb19 => (intro u hu; clear eO eZ; go_simp; try rfl)
      simp only [Act.put, List.setIfInBounds_toArray, List.set_cons_zero, List.set_cons_succ]
      refine take_held 22 S5 rfl (by kernel_rfl) (by kernel_rfl) (by kernel_rfl) (fun _ _ _ h => h) (by kernel_rfl) (v := .bool false) ?yb20 ?rb20
      case yb20 => (intro u hu; clear eO eZ; go_simp; try rfl)
      simp only [Act.put, List.setIfInBounds_toArray, List.set_cons_zero, List.set_cons_succ]
      refine take_held 23 S5 rfl (by kernel_rfl) (by kernel_rfl) (by kernel_rfl) (fun _ _ _ h => h) (by kernel_rfl) (v := .bool false) ?yb21 ?rb21
      case yb21 => (intro u hu; clear eO eZ; go_simp; try rfl)
      simp only [Act.put, List.setIfInBounds_toArray, List.set_cons_zero, List.set_cons_succ]
      refine take_held 24 S5 rfl (by kernel_rfl) (by kernel_rfl) (by kernel_rfl) (fun _ _ _ h => h) (by kernel_rfl) (v := .int .i64 4) ?yb22 ?rb22
      case yb22 => (intro u hu; clear eO eZ; go_simp; try rfl)
      simp only [Act.put, List.setIfInBounds_toArray, List.set_cons_zero, List.set_cons_succ]
      refine take_held 25 S5 rfl (by kernel_rfl) (by kernel_rfl) (by kernel_rfl) (fun _ _ _ h => h) (by kernel_rfl) (v := .bool true) ?yb23 ?rb23
      case yb23 => (intro u hu; clear eO eZ; go_simp; try rfl)
      simp only [Act.put, List.setIfInBounds_toArray, List.set_cons_zero, List.set_cons_succ]
      refine take_held 26 S5 rfl (by kernel_rfl) (by kernel_rfl) (by kernel_rfl) (fun _ _ _ h => h) (by kernel_rfl) (v := .bool true) ?yb24 ?rb24
      case yb24 => (intro u hu; clear eO eZ; go_simp; try rfl)
      simp only [Act.put, List.setIfInBounds_toArray, List.set_cons_zero, List.set_cons_succ]
      refine take_held 27 S5 rfl (by kernel_rfl) (by kernel_rfl) (by kernel_rfl) (fun _ _ _ h => h) (by kernel_rfl) (v := .bool true) ?yb25 ?rb25
      case yb25 => (intro u hu; clear eO eZ; go_simp; try rfl)
      simp only [Act.put, List.setIfInBounds_toArray, List.set_cons_zero, List.set_cons_succ]
      refine take_held 28 S5 rfl (by kernel_rfl) (by kernel_rfl) (by kernel_rfl) (fun _ _ _ h => h) (by kernel_rfl) (v := .bool true) ?yb26 ?rb26
      case yb26 => (intro u hu; clear eO eZ; go_simp; try rfl)
      simp only [Act.put, List.setIfInBounds_toArray, List.set_cons_zero, List.set_cons_succ]
      refine take_held 29 S5 rfl (by kernel_rfl) (by kernel_rfl) (by kernel_rfl) (fun _ _ _ h => h) (by kernel_rfl) (v := .agg csZ) ?yb27 ?rb27
      case yb27 => (intro u hu; exact run_load_op3 44 (.tmp 8) rfl NZ csZ rfl (run_loadVar_row _ _ _ _ csZ (0, 0) _ ((hu.block _ (lt_of_heap hZ4)).trans hZ4) Try.underlying44 rfl hiZ))
      simp only [Act.put, List.setIfInBounds_toArray, List.set_cons_zero, List.set_cons_succ]
      refine take_held 30 S5 rfl (by kernel_rfl) (by kernel_rfl) (by kernel_rfl) (fun _ _ _ h => h) (by kernel_rfl) (v := .agg csZ) ?yb28 ?rb28
      case yb28 => (intro u hu; exact run_load_op3 44 (.tmp 10) rfl NW csZ rfl (run_loadVar_row _ _ _ _ csZ (0, 0) _ ((hu.block _ (lt_of_heap hW)).trans hW) Try.underlying44 rfl hiZ))
      simp only [Act.put, List.setIfInBounds_toArray, List.set_cons_zero, List.set_cons_succ]
      refine take_held 31 S5 rfl (by kernel_rfl) (by kernel_rfl) (by kernel_rfl) (fun _ _ _ h => h) (by kernel_rfl) (v := .bool true) ?yb29 ?rb29
      case yb29 => (intro u hu; exact run_eql_op3 44 44 (.tmp 60) (.tmp 61) rfl csZ csZ rfl rfl true (eZ u) gTeleT3)
      simp only [Act.put, List.setIfInBounds_toArray, List.set_cons_zero, List.set_cons_succ]
      refine take_held 32 S5 rfl (by kernel_rfl) (by kernel_rfl) (by kernel_rfl) (fun _ _ _ h => h) (by kernel_rfl) (v := .bool true) ?yb30 ?rb30
      case yb30 => (intro u hu; clear eO eZ; go_simp; try rfl)
      simp only [Act.put, List.setIfInBounds_toArray, List.set_cons_zero, List.set_cons_succ]
      refine take_held 33 S5 rfl (by kernel_rfl) (by kernel_rfl) (by kernel_rfl) (fun _ _ _ h => h) (by kernel_rfl) (v := .bool true) ?yb31 ?rb31
      case yb31 => (intro u hu; clear eO eZ; go_simp; try rfl)
      simp only [Act.put, List.setIfInBounds_toArray, List.set_cons_zero, List.set_cons_succ]
      refine call_held 34 rfl (by kernel_rfl) (by kernel_rfl) 13 #[] (by go_simp) _ (cW _) ?_
      rintro e6 x6 ⟨rfl, l6⟩
      have S6 : Below w4.heap.size w4 x6 := bcat S5 l6 (Nat.le_refl _)
      refine Or.inl ⟨_, rfl, S6, ?_⟩
      simp only [Act.put, List.setIfInBounds_toArray, List.set_cons_zero, List.set_cons_succ]
      refine read_held 35 rfl (by kernel_rfl) (by kernel_rfl) (.bool true) (by clear eO eZ; go_simp) S6 ?_
      simp only [Act.put, List.setIfInBounds_toArray, List.set_cons_zero, List.set_cons_succ]
      refine read_held 36 rfl (by kernel_rfl) (by kernel_rfl) (.bool true) (by clear eO eZ; go_simp) S6 ?_
      simp only [Act.put, List.setIfInBounds_toArray, List.set_cons_zero, List.set_cons_succ]
      refine done_held (by kernel_rfl) ?_ _
      go_wp2_with fail
      go_meet
      exact ⟨rfl, S6⟩
  case rest =>
  obtain ⟨rfl, D⟩ := hcut
  go_wp2_with fail
  go_ret
  exact ⟨rfl, bcat B4w D (Nat.le_refl _)⟩
end Go.Proofs.Ythdgpadakmdlkaa.Codec
