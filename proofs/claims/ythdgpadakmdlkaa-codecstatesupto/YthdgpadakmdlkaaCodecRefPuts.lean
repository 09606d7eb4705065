/-
  The chapter's own answer: a bool, a cell, a pose, a move laid on bytes of one's own.
-/
import Derived.Test.YthdgpadakmdlkaaCodecRefOp
namespace Go.Proofs.Ythdgpadakmdlkaa.Codec
set_option linter.unusedVariables false
set_option linter.unusedSimpArgs false
open Go Go.RowKit

set_option maxHeartbeats 1000000 in
theorem refflag_any (w : World) (b : Value) (zs : List Int) (v : Bool) (hm : Mine w b zs) (hl : zs.length + 1 ≤ 140737488355328) :
    Calls Try.prog 54 #[b, .bool v] w fun e w' => ∃ b', e = .returned b' ∧ Mine w' b' (zs ++ cFlag.put v) ∧ Goes b w b' w' := by
  cases v with
  | true =>
    have e : cFlag.put true = [1] := rfl
    rw [e]
    have r1 := row_one w 1 5 (0, 0) (by decide) (by decide)
    go_enter Try.func54, Try.ntmps54
    go_wp2_with (at_builtin; refine wpList_append_mine rfl (.tmp 6) (.tmp 7) rfl _ zs rfl (hm.alloc _) _ 1 1 [1] rfl r1 (fun h => by cases h) (by omega) ?_; intro v1 w1 m1 b1)
    go_ret
    exact ⟨v1, rfl, m1, (goes_alloc _ _ _).trans b1⟩
  | false =>
    have e : cFlag.put false = [0] := rfl
    rw [e]
    have r1 := row_one w 0 5 (0, 0) (by decide) (by decide)
    go_enter Try.func54, Try.ntmps54
    go_wp2_with (at_builtin; refine wpList_append_mine rfl (.tmp 9) (.tmp 10) rfl _ zs rfl (hm.alloc _) _ 1 1 [0] rfl r1 (fun h => by cases h) (by omega) ?_; intro v1 w1 m1 b1)
    go_ret
    exact ⟨v1, rfl, m1, (goes_alloc _ _ _).trans b1⟩
/- A box of one's own beside bytes that grow: it stays. -/
theorem box_goes {b b' : Value} {w w' : World} {N : Nat} {o : Obj} (g : Goes b w b' w') (h : w.heap[N]? = some o) (hn : b.ownBlock ≠ some N) : w'.heap[N]? = some o ∧ b'.ownBlock ≠ some N := by
  have lt := lt_of_heap h
  refine ⟨(g.block N lt hn).trans h, fun e => ?_⟩
  rcases g.at_ N e with e1 | e1
  · exact hn e1
  · omega

set_option maxRecDepth 100000 in
set_option maxHeartbeats 4000000 in
theorem refcell_any (w : World) (b : Value) (zs : List Int) (x y : Int) (hm : Mine w b zs) (ho : cCell.ok (x, y)) (hl : zs.length + (cCell.put (x, y)).length + 10 ≤ 140737488355328) :
    Calls Try.prog 56 #[b, .agg #[.int .i64 x, .int .i64 y]] w fun e w' => ∃ b', e = .returned b' ∧ Mine w' b' (zs ++ cCell.put (x, y)) ∧ Goes b w b' w' := by
  obtain ⟨o1, o2⟩ := ho
  have e : zs ++ cCell.put (x, y) = (zs ++ num x) ++ num y := by
    show zs ++ (num x ++ num y) = _
    simp
  have e2 : (cCell.put (x, y)).length = (num x).length + (num y).length := by show (num x ++ num y).length = _; simp
  rw [e]
  have c1 := fun (u : World) (hm : Mine u b zs) => refnum_any u b zs x hm o1 (by omega)
  have c2 := fun (u : World) (b' : Value) (hm : Mine u b' (zs ++ num x)) => refnum_any u b' _ y hm o2 (by simp; omega)
  generalize zs ++ num x ++ num y = Z2 at *
  generalize zs ++ num x = Z1 at *
  obtain ⟨wc, hwc⟩ : ∃ wc, wc = w.alloc (.cells #[.int .i64 x, .int .i64 y] 23) := ⟨_, rfl⟩
  have h0 : wc.drew.heap[w.heap.size]? = some (.cells #[.int .i64 x, .int .i64 y] 23 (0, 0)) := by rw [hwc]; exact heap_alloc_new w _
  have g0 : Goes b w b wc.drew := by rw [hwc]; exact (goes_alloc b w _).drew
  have m0 : Mine wc.drew b zs := by rw [hwc]; exact (hm.alloc _).later (drew_below4 _)
  have n0 : b.ownBlock ≠ some w.heap.size := fun e => by have := hm.lt _ e; omega
  go_enter Try.func56, Try.ntmps56
  go_upto_region 1 with fail
  rw [← hwc]
  clear hwc
  go_cut [4] (fun v wx => Mine wx v Z2 ∧ Goes b w v wx)
  case first =>
    refine start_held (S := fun u => u.heap[w.heap.size]? = some (.cells #[.int .i64 x, .int .i64 y] 23 (0, 0))) 8 rfl (by kernel_rfl) h0 ?_
    simp only [Array.replicate_succ, Array.replicate_zero, List.push_toArray, List.nil_append, List.cons_append]
    refine take_held 0 h0 rfl (by kernel_rfl) (by kernel_rfl) (by kernel_rfl) (fun _ _ _ h => h) (by kernel_rfl) (v := b) ?y0 ?r0
    case y0 => (intro u hu; go_simp; try rfl)
    simp only [Act.put, List.setIfInBounds_toArray, List.set_cons_zero, List.set_cons_succ]
    refine take_held 1 h0 rfl (by kernel_rfl) (by kernel_rfl) (by kernel_rfl) (fun _ _ _ h => h) (by kernel_rfl) (v := .pointer (some ⟨w.heap.size, 0, none⟩)) ?y1 ?r1
    case y1 => (intro u hu; go_simp; try rfl)
    simp only [Act.put, List.setIfInBounds_toArray, List.set_cons_zero, List.set_cons_succ]
    refine take_held 2 h0 rfl (by kernel_rfl) (by kernel_rfl) (by kernel_rfl) (fun _ _ _ h => h) (by kernel_rfl) (v := .int .i64 x) ?y2 ?r2
    case y2 => (intro u hu; have hq : u.cell? ⟨w.heap.size, 0, none⟩ = some (.int .i64 x) := (cell_of_row _ _ _ _ _ _ hu).trans rfl; go_simp; try rfl)
    simp only [Act.put, List.setIfInBounds_toArray, List.set_cons_zero, List.set_cons_succ]
    refine take_held 4 h0 rfl (by kernel_rfl) (by kernel_rfl) (by kernel_rfl) (fun _ _ _ h => h) (by kernel_rfl) (v := .pointer (some ⟨w.heap.size, 1, none⟩)) ?y4 ?r4
    case y4 => (intro u hu; go_simp; try rfl)
    simp only [Act.put, List.setIfInBounds_toArray, List.set_cons_zero, List.set_cons_succ]
    refine take_held 5 h0 rfl (by kernel_rfl) (by kernel_rfl) (by kernel_rfl) (fun _ _ _ h => h) (by kernel_rfl) (v := .int .i64 y) ?y5 ?r5
    case y5 => (intro u hu; have hq : u.cell? ⟨w.heap.size, 1, none⟩ = some (.int .i64 y) := (cell_of_row _ _ _ _ _ _ hu).trans rfl; go_simp; try rfl)
    simp only [Act.put, List.setIfInBounds_toArray, List.set_cons_zero, List.set_cons_succ]
    refine call_held 3 rfl (by kernel_rfl) (by kernel_rfl) 33 #[b, .int .i64 x] (by go_simp) _ (c1 _ m0) ?_
    rintro e1 x1 ⟨b1, rfl, m1, g1⟩
    have bg1 := box_goes g1 h0 n0
    refine Or.inl ⟨_, rfl, bg1.1, ?_⟩
    simp only [Act.put, List.setIfInBounds_toArray, List.set_cons_zero, List.set_cons_succ]
    refine call_held 6 rfl (by kernel_rfl) (by kernel_rfl) 33 #[b1, .int .i64 y] (by go_simp) _ (c2 _ _ m1) ?_
    rintro e2 x2 ⟨b2, rfl, m2, g2⟩
    have bg2 := box_goes g2 bg1.1 bg1.2
    refine Or.inl ⟨_, rfl, bg2.1, ?_⟩
    simp only [Act.put, List.setIfInBounds_toArray, List.set_cons_zero, List.set_cons_succ]
    refine read_held 7 rfl (by kernel_rfl) (by kernel_rfl) (b2) (by go_simp) bg2.1 ?_
    simp only [Act.put, List.setIfInBounds_toArray, List.set_cons_zero, List.set_cons_succ]
    refine done_held (by kernel_rfl) ?_ _
    go_wp2_with fail
    go_meet
    exact ⟨m2, (g0.trans g1).trans g2⟩
  case rest =>
  obtain ⟨m, g⟩ := hcut
  go_wp2_with fail
  go_ret
  exact ⟨_, rfl, m, g⟩

set_option maxRecDepth 100000 in
set_option maxHeartbeats 4000000 in
theorem refpose_any (w : World) (b : Value) (zs : List Int) (x y : Int) (d : Bool) (hm : Mine w b zs) (ho : cPose.ok ((x, y), d)) (hl : zs.length + (cPose.put ((x, y), d)).length + 10 ≤ 140737488355328) :
    Calls Try.prog 32 #[b, .agg #[.int .i64 x, .int .i64 y, .bool d]] w fun e w' => ∃ b', e = .returned b' ∧ Mine w' b' (zs ++ cPose.put ((x, y), d)) ∧ Goes b w b' w' := by
  obtain ⟨o1, o2⟩ := ho
  have e : zs ++ cPose.put ((x, y), d) = ((zs ++ cCell.put (x, y)) ++ cFlag.put d) := by
    show zs ++ (cCell.put (x, y) ++ cFlag.put d) = _
    simp only [List.append_assoc]
  have e2 : (cPose.put ((x, y), d)).length = (cCell.put (x, y)).length + (cFlag.put d).length := by
    show (cCell.put (x, y) ++ cFlag.put d).length = _
    simp only [List.length_append]
    try omega
  rw [e]
  have c1 := fun (u : World) (b' : Value) (hm : Mine u b' zs) => refcell_any u b' _ x y hm o1 (by (try simp only [List.length_append]); omega)
  have c2 := fun (u : World) (b' : Value) (hm : Mine u b' (zs ++ cCell.put (x, y))) => refflag_any u b' _ d hm (by (try simp only [List.length_append]); omega)
  generalize ((zs ++ cCell.put (x, y)) ++ cFlag.put d) = Z2 at *
  generalize (zs ++ cCell.put (x, y)) = Z1 at *
  obtain ⟨wc, hwc⟩ : ∃ wc, wc = w.alloc (.cells #[.int .i64 x, .int .i64 y, .bool d] 25) := ⟨_, rfl⟩
  have h0 : wc.heap[w.heap.size]? = some (.cells #[.int .i64 x, .int .i64 y, .bool d] 25 (0, 0)) := by rw [hwc]; exact heap_alloc_new w _
  have g0 : Goes b w b wc := by rw [hwc]; exact goes_alloc b w _
  have m0 : Mine wc b zs := by rw [hwc]; exact hm.alloc _
  have n0 : b.ownBlock ≠ some w.heap.size := fun e => by have := hm.lt _ e; omega
  go_enter Try.func32, Try.ntmps32
  go_upto_region 1 with fail
  rw [← hwc]
  clear hwc
  go_cut [4] (fun v wx => Mine wx v Z2 ∧ Goes b w v wx ∧ wx.heap[w.heap.size]? = some (.cells #[.int .i64 x, .int .i64 y, .bool d] 25 (0, 0)) ∧ v.ownBlock ≠ some w.heap.size)
  case first =>
    have hd0 : wc.drew.heap[w.heap.size]? = some (.cells #[.int .i64 x, .int .i64 y, .bool d] 25 (0, 0)) := h0
    have md0 : Mine wc.drew b zs := m0.later (drew_below4 _)
    have gd0 : Goes b w b wc.drew := g0.drew
    refine start_held (S := fun u => u.heap[w.heap.size]? = some (.cells #[.int .i64 x, .int .i64 y, .bool d] 25 (0, 0))) 8 rfl (by kernel_rfl) hd0 ?_
    simp only [Array.replicate_succ, Array.replicate_zero, List.push_toArray, List.nil_append, List.cons_append]
    refine take_held 0 hd0 rfl (by kernel_rfl) (by kernel_rfl) (by kernel_rfl) (fun _ _ _ h => h) (by kernel_rfl) (v := b) ?y0_0 ?r0_0
    case y0_0 => (intro u hu; go_simp; try rfl)
    simp only [Act.put, List.setIfInBounds_toArray, List.set_cons_zero, List.set_cons_succ]
    refine take_held 1 hd0 rfl (by kernel_rfl) (by kernel_rfl) (by kernel_rfl) (fun _ _ _ h => h) (by kernel_rfl) (v := .pointer (some ⟨w.heap.size, 0, none⟩)) ?y0_1 ?r0_1
    case y0_1 => (intro u hu; go_simp; try rfl)
    simp only [Act.put, List.setIfInBounds_toArray, List.set_cons_zero, List.set_cons_succ]
    refine take_held 2 hd0 rfl (by kernel_rfl) (by kernel_rfl) (by kernel_rfl) (fun _ _ _ h => h) (by kernel_rfl) (v := .agg #[.int .i64 x, .int .i64 y]) ?y0_2 ?r0_2
    case y0_2 => (intro u hu; have hq0 : u.cell? ⟨w.heap.size, 0, none⟩ = some (.int .i64 x) := (cell_of_row _ _ _ _ _ _ hu).trans rfl; have hq1 : u.cell? ⟨w.heap.size, 1, none⟩ = some (.int .i64 y) := (cell_of_row _ _ _ _ _ _ hu).trans rfl; go_simp; try rfl)
    simp only [Act.put, List.setIfInBounds_toArray, List.set_cons_zero, List.set_cons_succ]
    refine take_held 4 hd0 rfl (by kernel_rfl) (by kernel_rfl) (by kernel_rfl) (fun _ _ _ h => h) (by kernel_rfl) (v := .pointer (some ⟨w.heap.size, 2, none⟩)) ?y0_4 ?r0_4
    case y0_4 => (intro u hu; go_simp; try rfl)
    simp only [Act.put, List.setIfInBounds_toArray, List.set_cons_zero, List.set_cons_succ]
    refine take_held 5 hd0 rfl (by kernel_rfl) (by kernel_rfl) (by kernel_rfl) (fun _ _ _ h => h) (by kernel_rfl) (v := .bool d) ?y0_5 ?r0_5
    case y0_5 => (intro u hu; have hq0 : u.cell? ⟨w.heap.size, 2, none⟩ = some (.bool d) := (cell_of_row _ _ _ _ _ _ hu).trans rfl; go_simp; try rfl)
    simp only [Act.put, List.setIfInBounds_toArray, List.set_cons_zero, List.set_cons_succ]
    refine call_held 3 rfl (by kernel_rfl) (by kernel_rfl) 56 #[b, .agg #[.int .i64 x, .int .i64 y]] (by go_simp) _ (c1 _ _ md0) ?_
    rintro e1 x1 ⟨b1, rfl, m1, g1⟩
    have bg1 := box_goes g1 hd0 n0
    refine Or.inl ⟨_, rfl, bg1.1, ?_⟩
    simp only [Act.put, List.setIfInBounds_toArray, List.set_cons_zero, List.set_cons_succ]
    refine call_held 6 rfl (by kernel_rfl) (by kernel_rfl) 54 #[b1, .bool d] (by go_simp) _ (c2 _ _ m1) ?_
    rintro e2 x2 ⟨b2, rfl, m2, g2⟩
    have bg2 := box_goes g2 bg1.1 bg1.2
    refine Or.inl ⟨_, rfl, bg2.1, ?_⟩
    simp only [Act.put, List.setIfInBounds_toArray, List.set_cons_zero, List.set_cons_succ]
    refine read_held 7 rfl (by kernel_rfl) (by kernel_rfl) (b2) (by go_simp) bg2.1 ?_
    simp only [Act.put, List.setIfInBounds_toArray, List.set_cons_zero, List.set_cons_succ]
    refine done_held (by kernel_rfl) ?_ _
    go_wp2_with fail
    go_meet
    exact ⟨m2, ((gd0.trans g1).trans g2), bg2.1, bg2.2⟩
  case rest =>
  clear h0 g0 m0 n0
  obtain ⟨m0, g0, h0, n0⟩ := hcut
  go_wp2_with fail
  go_ret
  exact ⟨_, rfl, m0, g0⟩

set_option maxRecDepth 100000 in
set_option maxHeartbeats 4000000 in
theorem refmove_any (w : World) (b : Value) (zs : List Int) (k d n fx fy : Int) (fd : Bool) (tx ty : Int) (td : Bool) (a e0 : Int) (hm : Mine w b zs) (ho : cMove.ok (k, d, n, ((fx, fy), fd), ((tx, ty), td), a, e0)) (hl : zs.length + (cMove.put (k, d, n, ((fx, fy), fd), ((tx, ty), td), a, e0)).length + 10 ≤ 140737488355328) :
    Calls Try.prog 43 #[b, .agg #[.int .i64 k, .int .i64 d, .int .i64 n, .int .i64 fx, .int .i64 fy, .bool fd, .int .i64 tx, .int .i64 ty, .bool td, .int .i64 a, .int .i64 e0]] w fun e w' => ∃ b', e = .returned b' ∧ Mine w' b' (zs ++ cMove.put (k, d, n, ((fx, fy), fd), ((tx, ty), td), a, e0)) ∧ Goes b w b' w' := by
  obtain ⟨o1, o2, o3, o4, o5, o6, o7⟩ := ho
  have e : zs ++ cMove.put (k, d, n, ((fx, fy), fd), ((tx, ty), td), a, e0) = (((((((zs ++ num k) ++ num d) ++ num n) ++ cPose.put ((fx, fy), fd)) ++ cPose.put ((tx, ty), td)) ++ num a) ++ num e0) := by
    show zs ++ (num k ++ (num d ++ (num n ++ (cPose.put ((fx, fy), fd) ++ (cPose.put ((tx, ty), td) ++ (num a ++ num e0)))))) = _
    simp only [List.append_assoc]
  have e2 : (cMove.put (k, d, n, ((fx, fy), fd), ((tx, ty), td), a, e0)).length = (num k).length + (num d).length + (num n).length + (cPose.put ((fx, fy), fd)).length + (cPose.put ((tx, ty), td)).length + (num a).length + (num e0).length := by
    show (num k ++ (num d ++ (num n ++ (cPose.put ((fx, fy), fd) ++ (cPose.put ((tx, ty), td) ++ (num a ++ num e0)))))).length = _
    simp only [List.length_append]
    try omega
  rw [e]
  have c1 := fun (u : World) (b' : Value) (hm : Mine u b' zs) => refnum_any u b' _ k hm o1 (by (try simp only [List.length_append]); omega)
  have c2 := fun (u : World) (b' : Value) (hm : Mine u b' (zs ++ num k)) => refnum_any u b' _ d hm o2 (by (try simp only [List.length_append]); omega)
  have c3 := fun (u : World) (b' : Value) (hm : Mine u b' ((zs ++ num k) ++ num d)) => refnum_any u b' _ n hm o3 (by (try simp only [List.length_append]); omega)
  have c4 := fun (u : World) (b' : Value) (hm : Mine u b' (((zs ++ num k) ++ num d) ++ num n)) => refpose_any u b' _ fx fy fd hm o4 (by (try simp only [List.length_append]); omega)
  have c5 := fun (u : World) (b' : Value) (hm : Mine u b' ((((zs ++ num k) ++ num d) ++ num n) ++ cPose.put ((fx, fy), fd))) => refpose_any u b' _ tx ty td hm o5 (by (try simp only [List.length_append]); omega)
  have c6 := fun (u : World) (b' : Value) (hm : Mine u b' (((((zs ++ num k) ++ num d) ++ num n) ++ cPose.put ((fx, fy), fd)) ++ cPose.put ((tx, ty), td))) => refnum_any u b' _ a hm o6 (by (try simp only [List.length_append]); omega)
  have c7 := fun (u : World) (b' : Value) (hm : Mine u b' ((((((zs ++ num k) ++ num d) ++ num n) ++ cPose.put ((fx, fy), fd)) ++ cPose.put ((tx, ty), td)) ++ num a)) => refnum_any u b' _ e0 hm o7 (by (try simp only [List.length_append]); omega)
  generalize (((((((zs ++ num k) ++ num d) ++ num n) ++ cPose.put ((fx, fy), fd)) ++ cPose.put ((tx, ty), td)) ++ num a) ++ num e0) = Z7 at *
  generalize ((((((zs ++ num k) ++ num d) ++ num n) ++ cPose.put ((fx, fy), fd)) ++ cPose.put ((tx, ty), td)) ++ num a) = Z6 at *
  generalize (((((zs ++ num k) ++ num d) ++ num n) ++ cPose.put ((fx, fy), fd)) ++ cPose.put ((tx, ty), td)) = Z5 at *
  generalize ((((zs ++ num k) ++ num d) ++ num n) ++ cPose.put ((fx, fy), fd)) = Z4 at *
  generalize (((zs ++ num k) ++ num d) ++ num n) = Z3 at *
  generalize ((zs ++ num k) ++ num d) = Z2 at *
  generalize (zs ++ num k) = Z1 at *
  obtain ⟨wc, hwc⟩ : ∃ wc, wc = w.alloc (.cells #[.int .i64 k, .int .i64 d, .int .i64 n, .int .i64 fx, .int .i64 fy, .bool fd, .int .i64 tx, .int .i64 ty, .bool td, .int .i64 a, .int .i64 e0] 42) := ⟨_, rfl⟩
  have h0 : wc.heap[w.heap.size]? = some (.cells #[.int .i64 k, .int .i64 d, .int .i64 n, .int .i64 fx, .int .i64 fy, .bool fd, .int .i64 tx, .int .i64 ty, .bool td, .int .i64 a, .int .i64 e0] 42 (0, 0)) := by rw [hwc]; exact heap_alloc_new w _
  have g0 : Goes b w b wc := by rw [hwc]; exact goes_alloc b w _
  have m0 : Mine wc b zs := by rw [hwc]; exact hm.alloc _
  have n0 : b.ownBlock ≠ some w.heap.size := fun e => by have := hm.lt _ e; omega
  go_enter Try.func43, Try.ntmps43
  go_upto_region 1 with fail
  rw [← hwc]
  clear hwc
  go_cut [0] (fun v wx => Mine wx v Z3 ∧ Goes b w v wx ∧ wx.heap[w.heap.size]? = some (.cells #[.int .i64 k, .int .i64 d, .int .i64 n, .int .i64 fx, .int .i64 fy, .bool fd, .int .i64 tx, .int .i64 ty, .bool td, .int .i64 a, .int .i64 e0] 42 (0, 0)) ∧ v.ownBlock ≠ some w.heap.size)
  case first =>
    have hd0 : wc.drew.heap[w.heap.size]? = some (.cells #[.int .i64 k, .int .i64 d, .int .i64 n, .int .i64 fx, .int .i64 fy, .bool fd, .int .i64 tx, .int .i64 ty, .bool td, .int .i64 a, .int .i64 e0] 42 (0, 0)) := h0
    have md0 : Mine wc.drew b zs := m0.later (drew_below4 _)
    have gd0 : Goes b w b wc.drew := g0.drew
    refine start_held (S := fun u => u.heap[w.heap.size]? = some (.cells #[.int .i64 k, .int .i64 d, .int .i64 n, .int .i64 fx, .int .i64 fy, .bool fd, .int .i64 tx, .int .i64 ty, .bool td, .int .i64 a, .int .i64 e0] 42 (0, 0))) 11 rfl (by kernel_rfl) hd0 ?_
    simp only [Array.replicate_succ, Array.replicate_zero, List.push_toArray, List.nil_append, List.cons_append]
    refine take_held 0 hd0 rfl (by kernel_rfl) (by kernel_rfl) (by kernel_rfl) (fun _ _ _ h => h) (by kernel_rfl) (v := b) ?y0_0 ?r0_0
    case y0_0 => (intro u hu; go_simp; try rfl)
    simp only [Act.put, List.setIfInBounds_toArray, List.set_cons_zero, List.set_cons_succ]
    refine take_held 1 hd0 rfl (by kernel_rfl) (by kernel_rfl) (by kernel_rfl) (fun _ _ _ h => h) (by kernel_rfl) (v := .pointer (some ⟨w.heap.size, 0, none⟩)) ?y0_1 ?r0_1
    case y0_1 => (intro u hu; go_simp; try rfl)
    simp only [Act.put, List.setIfInBounds_toArray, List.set_cons_zero, List.set_cons_succ]
    refine take_held 2 hd0 rfl (by kernel_rfl) (by kernel_rfl) (by kernel_rfl) (fun _ _ _ h => h) (by kernel_rfl) (v := .int .i64 k) ?y0_2 ?r0_2
    case y0_2 => (intro u hu; have hq0 : u.cell? ⟨w.heap.size, 0, none⟩ = some (.int .i64 k) := (cell_of_row _ _ _ _ _ _ hu).trans rfl; go_simp; try rfl)
    simp only [Act.put, List.setIfInBounds_toArray, List.set_cons_zero, List.set_cons_succ]
    refine take_held 4 hd0 rfl (by kernel_rfl) (by kernel_rfl) (by kernel_rfl) (fun _ _ _ h => h) (by kernel_rfl) (v := .pointer (some ⟨w.heap.size, 1, none⟩)) ?y0_4 ?r0_4
    case y0_4 => (intro u hu; go_simp; try rfl)
    simp only [Act.put, List.setIfInBounds_toArray, List.set_cons_zero, List.set_cons_succ]
    refine take_held 5 hd0 rfl (by kernel_rfl) (by kernel_rfl) (by kernel_rfl) (fun _ _ _ h => h) (by kernel_rfl) (v := .int .i64 d) ?y0_5 ?r0_5
    case y0_5 => (intro u hu; have hq0 : u.cell? ⟨w.heap.size, 1, none⟩ = some (.int .i64 d) := (cell_of_row _ _ _ _ _ _ hu).trans rfl; go_simp; try rfl)
    simp only [Act.put, List.setIfInBounds_toArray, List.set_cons_zero, List.set_cons_succ]
    refine take_held 7 hd0 rfl (by kernel_rfl) (by kernel_rfl) (by kernel_rfl) (fun _ _ _ h => h) (by kernel_rfl) (v := .pointer (some ⟨w.heap.size, 2, none⟩)) ?y0_7 ?r0_7
    case y0_7 => (intro u hu; go_simp; try rfl)
    simp only [Act.put, List.setIfInBounds_toArray, List.set_cons_zero, List.set_cons_succ]
    refine take_held 8 hd0 rfl (by kernel_rfl) (by kernel_rfl) (by kernel_rfl) (fun _ _ _ h => h) (by kernel_rfl) (v := .int .i64 n) ?y0_8 ?r0_8
    case y0_8 => (intro u hu; have hq0 : u.cell? ⟨w.heap.size, 2, none⟩ = some (.int .i64 n) := (cell_of_row _ _ _ _ _ _ hu).trans rfl; go_simp; try rfl)
    simp only [Act.put, List.setIfInBounds_toArray, List.set_cons_zero, List.set_cons_succ]
    refine call_held 3 rfl (by kernel_rfl) (by kernel_rfl) 33 #[b, .int .i64 k] (by go_simp) _ (c1 _ _ md0) ?_
    rintro e1 x1 ⟨b1, rfl, m1, g1⟩
    have bg1 := box_goes g1 hd0 n0
    refine Or.inl ⟨_, rfl, bg1.1, ?_⟩
    simp only [Act.put, List.setIfInBounds_toArray, List.set_cons_zero, List.set_cons_succ]
    refine call_held 6 rfl (by kernel_rfl) (by kernel_rfl) 33 #[b1, .int .i64 d] (by go_simp) _ (c2 _ _ m1) ?_
    rintro e2 x2 ⟨b2, rfl, m2, g2⟩
    have bg2 := box_goes g2 bg1.1 bg1.2
    refine Or.inl ⟨_, rfl, bg2.1, ?_⟩
    simp only [Act.put, List.setIfInBounds_toArray, List.set_cons_zero, List.set_cons_succ]
    refine call_held 9 rfl (by kernel_rfl) (by kernel_rfl) 33 #[b2, .int .i64 n] (by go_simp) _ (c3 _ _ m2) ?_
    rintro e3 x3 ⟨b3, rfl, m3, g3⟩
    have bg3 := box_goes g3 bg2.1 bg2.2
    refine Or.inl ⟨_, rfl, bg3.1, ?_⟩
    simp only [Act.put, List.setIfInBounds_toArray, List.set_cons_zero, List.set_cons_succ]
    refine read_held 10 rfl (by kernel_rfl) (by kernel_rfl) (b3) (by go_simp) bg3.1 ?_
    simp only [Act.put, List.setIfInBounds_toArray, List.set_cons_zero, List.set_cons_succ]
    refine done_held (by kernel_rfl) ?_ _
    go_wp2_with fail
    go_meet
    exact ⟨m3, (((gd0.trans g1).trans g2).trans g3), bg3.1, bg3.2⟩
  case rest =>
  clear h0 g0 m0 n0
  obtain ⟨m0, g0, h0, n0⟩ := hcut
  go_upto_region 2 with fail
  go_cut [0] (fun v wx => Mine wx v Z5 ∧ Goes b w v wx ∧ wx.heap[w.heap.size]? = some (.cells #[.int .i64 k, .int .i64 d, .int .i64 n, .int .i64 fx, .int .i64 fy, .bool fd, .int .i64 tx, .int .i64 ty, .bool td, .int .i64 a, .int .i64 e0] 42 (0, 0)) ∧ v.ownBlock ≠ some w.heap.size)
  case first =>
    have hd0 : wc.drew.heap[w.heap.size]? = some (.cells #[.int .i64 k, .int .i64 d, .int .i64 n, .int .i64 fx, .int .i64 fy, .bool fd, .int .i64 tx, .int .i64 ty, .bool td, .int .i64 a, .int .i64 e0] 42 (0, 0)) := h0
    have md0 : Mine wc.drew u0 Z3 := m0.later (drew_below4 _)
    have gd0 : Goes b w u0 wc.drew := g0.drew
    refine start_held (S := fun u => u.heap[w.heap.size]? = some (.cells #[.int .i64 k, .int .i64 d, .int .i64 n, .int .i64 fx, .int .i64 fy, .bool fd, .int .i64 tx, .int .i64 ty, .bool td, .int .i64 a, .int .i64 e0] 42 (0, 0))) 8 rfl (by kernel_rfl) hd0 ?_
    simp only [Array.replicate_succ, Array.replicate_zero, List.push_toArray, List.nil_append, List.cons_append]
    refine take_held 0 hd0 rfl (by kernel_rfl) (by kernel_rfl) (by kernel_rfl) (fun _ _ _ h => h) (by kernel_rfl) (v := u0) ?y1_0 ?r1_0
    case y1_0 => (intro u hu; go_simp; try rfl)
    simp only [Act.put, List.setIfInBounds_toArray, List.set_cons_zero, List.set_cons_succ]
    refine take_held 1 hd0 rfl (by kernel_rfl) (by kernel_rfl) (by kernel_rfl) (fun _ _ _ h => h) (by kernel_rfl) (v := .pointer (some ⟨w.heap.size, 3, none⟩)) ?y1_1 ?r1_1
    case y1_1 => (intro u hu; go_simp; try rfl)
    simp only [Act.put, List.setIfInBounds_toArray, List.set_cons_zero, List.set_cons_succ]
    refine take_held 2 hd0 rfl (by kernel_rfl) (by kernel_rfl) (by kernel_rfl) (fun _ _ _ h => h) (by kernel_rfl) (v := .agg #[.int .i64 fx, .int .i64 fy, .bool fd]) ?y1_2 ?r1_2
    case y1_2 => (intro u hu; have hq0 : u.cell? ⟨w.heap.size, 3, none⟩ = some (.int .i64 fx) := (cell_of_row _ _ _ _ _ _ hu).trans rfl; have hq1 : u.cell? ⟨w.heap.size, 4, none⟩ = some (.int .i64 fy) := (cell_of_row _ _ _ _ _ _ hu).trans rfl; have hq2 : u.cell? ⟨w.heap.size, 5, none⟩ = some (.bool fd) := (cell_of_row _ _ _ _ _ _ hu).trans rfl; go_simp; try rfl)
    simp only [Act.put, List.setIfInBounds_toArray, List.set_cons_zero, List.set_cons_succ]
    refine take_held 4 hd0 rfl (by kernel_rfl) (by kernel_rfl) (by kernel_rfl) (fun _ _ _ h => h) (by kernel_rfl) (v := .pointer (some ⟨w.heap.size, 6, none⟩)) ?y1_4 ?r1_4
    case y1_4 => (intro u hu; go_simp; try rfl)
    simp only [Act.put, List.setIfInBounds_toArray, List.set_cons_zero, List.set_cons_succ]
    refine take_held 5 hd0 rfl (by kernel_rfl) (by kernel_rfl) (by kernel_rfl) (fun _ _ _ h => h) (by kernel_rfl) (v := .agg #[.int .i64 tx, .int .i64 ty, .bool td]) ?y1_5 ?r1_5
    case y1_5 => (intro u hu; have hq0 : u.cell? ⟨w.heap.size, 6, none⟩ = some (.int .i64 tx) := (cell_of_row _ _ _ _ _ _ hu).trans rfl; have hq1 : u.cell? ⟨w.heap.size, 7, none⟩ = some (.int .i64 ty) := (cell_of_row _ _ _ _ _ _ hu).trans rfl; have hq2 : u.cell? ⟨w.heap.size, 8, none⟩ = some (.bool td) := (cell_of_row _ _ _ _ _ _ hu).trans rfl; go_simp; try rfl)
    simp only [Act.put, List.setIfInBounds_toArray, List.set_cons_zero, List.set_cons_succ]
    refine call_held 3 rfl (by kernel_rfl) (by kernel_rfl) 32 #[u0, .agg #[.int .i64 fx, .int .i64 fy, .bool fd]] (by go_simp) _ (c4 _ _ md0) ?_
    rintro e4 x4 ⟨b4, rfl, m4, g4⟩
    have bg4 := box_goes g4 hd0 n0
    refine Or.inl ⟨_, rfl, bg4.1, ?_⟩
    simp only [Act.put, List.setIfInBounds_toArray, List.set_cons_zero, List.set_cons_succ]
    refine call_held 6 rfl (by kernel_rfl) (by kernel_rfl) 32 #[b4, .agg #[.int .i64 tx, .int .i64 ty, .bool td]] (by go_simp) _ (c5 _ _ m4) ?_
    rintro e5 x5 ⟨b5, rfl, m5, g5⟩
    have bg5 := box_goes g5 bg4.1 bg4.2
    refine Or.inl ⟨_, rfl, bg5.1, ?_⟩
    simp only [Act.put, List.setIfInBounds_toArray, List.set_cons_zero, List.set_cons_succ]
    refine read_held 7 rfl (by kernel_rfl) (by kernel_rfl) (b5) (by go_simp) bg5.1 ?_
    simp only [Act.put, List.setIfInBounds_toArray, List.set_cons_zero, List.set_cons_succ]
    refine done_held (by kernel_rfl) ?_ _
    go_wp2_with fail
    go_meet
    exact ⟨m5, ((gd0.trans g4).trans g5), bg5.1, bg5.2⟩
  case rest =>
  clear h0 g0 m0 n0
  obtain ⟨m0, g0, h0, n0⟩ := hcut
  go_upto_region 3 with fail
  go_cut [4] (fun v wx => Mine wx v Z7 ∧ Goes b w v wx ∧ wx.heap[w.heap.size]? = some (.cells #[.int .i64 k, .int .i64 d, .int .i64 n, .int .i64 fx, .int .i64 fy, .bool fd, .int .i64 tx, .int .i64 ty, .bool td, .int .i64 a, .int .i64 e0] 42 (0, 0)) ∧ v.ownBlock ≠ some w.heap.size)
  case first =>
    have hd0 : wc.drew.heap[w.heap.size]? = some (.cells #[.int .i64 k, .int .i64 d, .int .i64 n, .int .i64 fx, .int .i64 fy, .bool fd, .int .i64 tx, .int .i64 ty, .bool td, .int .i64 a, .int .i64 e0] 42 (0, 0)) := h0
    have md0 : Mine wc.drew u0 Z5 := m0.later (drew_below4 _)
    have gd0 : Goes b w u0 wc.drew := g0.drew
    refine start_held (S := fun u => u.heap[w.heap.size]? = some (.cells #[.int .i64 k, .int .i64 d, .int .i64 n, .int .i64 fx, .int .i64 fy, .bool fd, .int .i64 tx, .int .i64 ty, .bool td, .int .i64 a, .int .i64 e0] 42 (0, 0))) 8 rfl (by kernel_rfl) hd0 ?_
    simp only [Array.replicate_succ, Array.replicate_zero, List.push_toArray, List.nil_append, List.cons_append]
    refine take_held 0 hd0 rfl (by kernel_rfl) (by kernel_rfl) (by kernel_rfl) (fun _ _ _ h => h) (by kernel_rfl) (v := u0) ?y2_0 ?r2_0
    case y2_0 => (intro u hu; go_simp; try rfl)
    simp only [Act.put, List.setIfInBounds_toArray, List.set_cons_zero, List.set_cons_succ]
    refine take_held 1 hd0 rfl (by kernel_rfl) (by kernel_rfl) (by kernel_rfl) (fun _ _ _ h => h) (by kernel_rfl) (v := .pointer (some ⟨w.heap.size, 9, none⟩)) ?y2_1 ?r2_1
    case y2_1 => (intro u hu; go_simp; try rfl)
    simp only [Act.put, List.setIfInBounds_toArray, List.set_cons_zero, List.set_cons_succ]
    refine take_held 2 hd0 rfl (by kernel_rfl) (by kernel_rfl) (by kernel_rfl) (fun _ _ _ h => h) (by kernel_rfl) (v := .int .i64 a) ?y2_2 ?r2_2
    case y2_2 => (intro u hu; have hq0 : u.cell? ⟨w.heap.size, 9, none⟩ = some (.int .i64 a) := (cell_of_row _ _ _ _ _ _ hu).trans rfl; go_simp; try rfl)
    simp only [Act.put, List.setIfInBounds_toArray, List.set_cons_zero, List.set_cons_succ]
    refine take_held 4 hd0 rfl (by kernel_rfl) (by kernel_rfl) (by kernel_rfl) (fun _ _ _ h => h) (by kernel_rfl) (v := .pointer (some ⟨w.heap.size, 10, none⟩)) ?y2_4 ?r2_4
    case y2_4 => (intro u hu; go_simp; try rfl)
    simp only [Act.put, List.setIfInBounds_toArray, List.set_cons_zero, List.set_cons_succ]
    refine take_held 5 hd0 rfl (by kernel_rfl) (by kernel_rfl) (by kernel_rfl) (fun _ _ _ h => h) (by kernel_rfl) (v := .int .i64 e0) ?y2_5 ?r2_5
    case y2_5 => (intro u hu; have hq0 : u.cell? ⟨w.heap.size, 10, none⟩ = some (.int .i64 e0) := (cell_of_row _ _ _ _ _ _ hu).trans rfl; go_simp; try rfl)
    simp only [Act.put, List.setIfInBounds_toArray, List.set_cons_zero, List.set_cons_succ]
    refine call_held 3 rfl (by kernel_rfl) (by kernel_rfl) 33 #[u0, .int .i64 a] (by go_simp) _ (c6 _ _ md0) ?_
    rintro e6 x6 ⟨b6, rfl, m6, g6⟩
    have bg6 := box_goes g6 hd0 n0
    refine Or.inl ⟨_, rfl, bg6.1, ?_⟩
    simp only [Act.put, List.setIfInBounds_toArray, List.set_cons_zero, List.set_cons_succ]
    refine call_held 6 rfl (by kernel_rfl) (by kernel_rfl) 33 #[b6, .int .i64 e0] (by go_simp) _ (c7 _ _ m6) ?_
    rintro e7 x7 ⟨b7, rfl, m7, g7⟩
    have bg7 := box_goes g7 bg6.1 bg6.2
    refine Or.inl ⟨_, rfl, bg7.1, ?_⟩
    simp only [Act.put, List.setIfInBounds_toArray, List.set_cons_zero, List.set_cons_succ]
    refine read_held 7 rfl (by kernel_rfl) (by kernel_rfl) (b7) (by go_simp) bg7.1 ?_
    simp only [Act.put, List.setIfInBounds_toArray, List.set_cons_zero, List.set_cons_succ]
    refine done_held (by kernel_rfl) ?_ _
    go_wp2_with fail
    go_meet
    exact ⟨m7, ((gd0.trans g6).trans g7), bg7.1, bg7.2⟩
  case rest =>
  clear h0 g0 m0 n0
  obtain ⟨m0, g0, h0, n0⟩ := hcut
  go_wp2_with fail
  go_ret
  exact ⟨_, rfl, m0, g0⟩

set_option maxRecDepth 100000 in
set_option maxHeartbeats 4000000 in
theorem refPutTele_any (w : World) (q r p s k d n fx fy : Int) (fd : Bool) (tx ty : Int) (td : Bool) (a e0 x y : Int) (pd : Bool) (l : Int) (ho : cTele.ok (q, r, p, s, (k, d, n, ((fx, fy), fd), ((tx, ty), td), a, e0), ((x, y), pd), l)) (hl : (cTele.put (q, r, p, s, (k, d, n, ((fx, fy), fd), ((tx, ty), td), a, e0), ((x, y), pd), l)).length + 10 ≤ 140737488355328) :
    Calls Try.prog 17 #[.agg #[.int .i64 q, .int .i64 r, .int .i64 p, .int .i64 s, .int .i64 k, .int .i64 d, .int .i64 n, .int .i64 fx, .int .i64 fy, .bool fd, .int .i64 tx, .int .i64 ty, .bool td, .int .i64 a, .int .i64 e0, .int .i64 x, .int .i64 y, .bool pd, .int .i64 l]] w (Made (cTele.put (q, r, p, s, (k, d, n, ((fx, fy), fd), ((tx, ty), td), a, e0), ((x, y), pd), l)) w) := by
  obtain ⟨o1, o2, o3, o4, o5, o6, o7⟩ := ho
  have hm : Mine w (.slice none 0 0) [] := Mine.nil w
  obtain ⟨b, hb⟩ : ∃ b, b = Value.slice none 0 0 := ⟨_, rfl⟩
  obtain ⟨zs, hzs⟩ : ∃ zs : List Int, zs = [] := ⟨_, rfl⟩
  have hzl : zs.length = 0 := by rw [hzs]; rfl
  rw [← hb, ← hzs] at hm
  have hfree : cTele.put (q, r, p, s, (k, d, n, ((fx, fy), fd), ((tx, ty), td), a, e0), ((x, y), pd), l) = zs ++ cTele.put (q, r, p, s, (k, d, n, ((fx, fy), fd), ((tx, ty), td), a, e0), ((x, y), pd), l) := by rw [hzs]; rfl
  rw [hfree]
  have e : zs ++ cTele.put (q, r, p, s, (k, d, n, ((fx, fy), fd), ((tx, ty), td), a, e0), ((x, y), pd), l) = (((((((zs ++ num q) ++ num r) ++ num p) ++ num s) ++ cMove.put (k, d, n, ((fx, fy), fd), ((tx, ty), td), a, e0)) ++ cPose.put ((x, y), pd)) ++ num l) := by
    show zs ++ (num q ++ (num r ++ (num p ++ (num s ++ (cMove.put (k, d, n, ((fx, fy), fd), ((tx, ty), td), a, e0) ++ (cPose.put ((x, y), pd) ++ num l)))))) = _
    simp only [List.append_assoc]
  have e2 : (cTele.put (q, r, p, s, (k, d, n, ((fx, fy), fd), ((tx, ty), td), a, e0), ((x, y), pd), l)).length = (num q).length + (num r).length + (num p).length + (num s).length + (cMove.put (k, d, n, ((fx, fy), fd), ((tx, ty), td), a, e0)).length + (cPose.put ((x, y), pd)).length + (num l).length := by
    show (num q ++ (num r ++ (num p ++ (num s ++ (cMove.put (k, d, n, ((fx, fy), fd), ((tx, ty), td), a, e0) ++ (cPose.put ((x, y), pd) ++ num l)))))).length = _
    simp only [List.length_append]
    try omega
  rw [e]
  have c1 := fun (u : World) (b' : Value) (hm : Mine u b' zs) => refnum_any u b' _ q hm o1 (by (try simp only [List.length_append]); omega)
  have c2 := fun (u : World) (b' : Value) (hm : Mine u b' (zs ++ num q)) => refnum_any u b' _ r hm o2 (by (try simp only [List.length_append]); omega)
  have c3 := fun (u : World) (b' : Value) (hm : Mine u b' ((zs ++ num q) ++ num r)) => refnum_any u b' _ p hm o3 (by (try simp only [List.length_append]); omega)
  have c4 := fun (u : World) (b' : Value) (hm : Mine u b' (((zs ++ num q) ++ num r) ++ num p)) => refnum_any u b' _ s hm o4 (by (try simp only [List.length_append]); omega)
  have c5 := fun (u : World) (b' : Value) (hm : Mine u b' ((((zs ++ num q) ++ num r) ++ num p) ++ num s)) => refmove_any u b' _ k d n fx fy fd tx ty td a e0 hm o5 (by (try simp only [List.length_append]); omega)
  have c6 := fun (u : World) (b' : Value) (hm : Mine u b' (((((zs ++ num q) ++ num r) ++ num p) ++ num s) ++ cMove.put (k, d, n, ((fx, fy), fd), ((tx, ty), td), a, e0))) => refpose_any u b' _ x y pd hm o6 (by (try simp only [List.length_append]); omega)
  have c7 := fun (u : World) (b' : Value) (hm : Mine u b' ((((((zs ++ num q) ++ num r) ++ num p) ++ num s) ++ cMove.put (k, d, n, ((fx, fy), fd), ((tx, ty), td), a, e0)) ++ cPose.put ((x, y), pd))) => refnum_any u b' _ l hm o7 (by (try simp only [List.length_append]); omega)
  generalize (((((((zs ++ num q) ++ num r) ++ num p) ++ num s) ++ cMove.put (k, d, n, ((fx, fy), fd), ((tx, ty), td), a, e0)) ++ cPose.put ((x, y), pd)) ++ num l) = Z7 at *
  generalize ((((((zs ++ num q) ++ num r) ++ num p) ++ num s) ++ cMove.put (k, d, n, ((fx, fy), fd), ((tx, ty), td), a, e0)) ++ cPose.put ((x, y), pd)) = Z6 at *
  generalize (((((zs ++ num q) ++ num r) ++ num p) ++ num s) ++ cMove.put (k, d, n, ((fx, fy), fd), ((tx, ty), td), a, e0)) = Z5 at *
  generalize ((((zs ++ num q) ++ num r) ++ num p) ++ num s) = Z4 at *
  generalize (((zs ++ num q) ++ num r) ++ num p) = Z3 at *
  generalize ((zs ++ num q) ++ num r) = Z2 at *
  generalize (zs ++ num q) = Z1 at *
  obtain ⟨wc, hwc⟩ : ∃ wc, wc = w.alloc (.cells #[.int .i64 q, .int .i64 r, .int .i64 p, .int .i64 s, .int .i64 k, .int .i64 d, .int .i64 n, .int .i64 fx, .int .i64 fy, .bool fd, .int .i64 tx, .int .i64 ty, .bool td, .int .i64 a, .int .i64 e0, .int .i64 x, .int .i64 y, .bool pd, .int .i64 l] 44) := ⟨_, rfl⟩
  have h0 : wc.heap[w.heap.size]? = some (.cells #[.int .i64 q, .int .i64 r, .int .i64 p, .int .i64 s, .int .i64 k, .int .i64 d, .int .i64 n, .int .i64 fx, .int .i64 fy, .bool fd, .int .i64 tx, .int .i64 ty, .bool td, .int .i64 a, .int .i64 e0, .int .i64 x, .int .i64 y, .bool pd, .int .i64 l] 44 (0, 0)) := by rw [hwc]; exact heap_alloc_new w _
  have g0 : Goes b w b wc := by rw [hwc]; exact goes_alloc b w _
  have m0 : Mine wc b zs := by rw [hwc]; exact hm.alloc _
  have n0 : b.ownBlock ≠ some w.heap.size := fun e => by have := hm.lt _ e; omega
  have hgo : True := trivial
  go_enter Try.func17, Try.ntmps17
  go_upto_region 1 with fail
  rw [← hwc]
  clear hwc
  go_cut [3] (fun v wx => Mine wx v Z4 ∧ Goes b w v wx ∧ wx.heap[w.heap.size]? = some (.cells #[.int .i64 q, .int .i64 r, .int .i64 p, .int .i64 s, .int .i64 k, .int .i64 d, .int .i64 n, .int .i64 fx, .int .i64 fy, .bool fd, .int .i64 tx, .int .i64 ty, .bool td, .int .i64 a, .int .i64 e0, .int .i64 x, .int .i64 y, .bool pd, .int .i64 l] 44 (0, 0)) ∧ v.ownBlock ≠ some w.heap.size)
  case first =>
    have hd0 : wc.drew.heap[w.heap.size]? = some (.cells #[.int .i64 q, .int .i64 r, .int .i64 p, .int .i64 s, .int .i64 k, .int .i64 d, .int .i64 n, .int .i64 fx, .int .i64 fy, .bool fd, .int .i64 tx, .int .i64 ty, .bool td, .int .i64 a, .int .i64 e0, .int .i64 x, .int .i64 y, .bool pd, .int .i64 l] 44 (0, 0)) := h0
    have md0 : Mine wc.drew b zs := m0.later (drew_below4 _)
    have gd0 : Goes b w b wc.drew := g0.drew
    refine start_held (S := fun u => u.heap[w.heap.size]? = some (.cells #[.int .i64 q, .int .i64 r, .int .i64 p, .int .i64 s, .int .i64 k, .int .i64 d, .int .i64 n, .int .i64 fx, .int .i64 fy, .bool fd, .int .i64 tx, .int .i64 ty, .bool td, .int .i64 a, .int .i64 e0, .int .i64 x, .int .i64 y, .bool pd, .int .i64 l] 44 (0, 0))) 13 rfl (by kernel_rfl) hd0 ?_
    simp only [Array.replicate_succ, Array.replicate_zero, List.push_toArray, List.nil_append, List.cons_append]
    refine take_held 0 hd0 rfl (by kernel_rfl) (by kernel_rfl) (by kernel_rfl) (fun _ _ _ h => h) (by kernel_rfl) (v := .pointer (some ⟨w.heap.size, 0, none⟩)) ?y0_0 ?r0_0
    case y0_0 => (intro u hu; go_simp; try rfl)
    simp only [Act.put, List.setIfInBounds_toArray, List.set_cons_zero, List.set_cons_succ]
    refine take_held 1 hd0 rfl (by kernel_rfl) (by kernel_rfl) (by kernel_rfl) (fun _ _ _ h => h) (by kernel_rfl) (v := .int .i64 q) ?y0_1 ?r0_1
    case y0_1 => (intro u hu; have hq0 : u.cell? ⟨w.heap.size, 0, none⟩ = some (.int .i64 q) := (cell_of_row _ _ _ _ _ _ hu).trans rfl; go_simp; try rfl)
    simp only [Act.put, List.setIfInBounds_toArray, List.set_cons_zero, List.set_cons_succ]
    refine take_held 3 hd0 rfl (by kernel_rfl) (by kernel_rfl) (by kernel_rfl) (fun _ _ _ h => h) (by kernel_rfl) (v := .pointer (some ⟨w.heap.size, 1, none⟩)) ?y0_3 ?r0_3
    case y0_3 => (intro u hu; go_simp; try rfl)
    simp only [Act.put, List.setIfInBounds_toArray, List.set_cons_zero, List.set_cons_succ]
    refine take_held 4 hd0 rfl (by kernel_rfl) (by kernel_rfl) (by kernel_rfl) (fun _ _ _ h => h) (by kernel_rfl) (v := .int .i64 r) ?y0_4 ?r0_4
    case y0_4 => (intro u hu; have hq0 : u.cell? ⟨w.heap.size, 1, none⟩ = some (.int .i64 r) := (cell_of_row _ _ _ _ _ _ hu).trans rfl; go_simp; try rfl)
    simp only [Act.put, List.setIfInBounds_toArray, List.set_cons_zero, List.set_cons_succ]
    refine take_held 6 hd0 rfl (by kernel_rfl) (by kernel_rfl) (by kernel_rfl) (fun _ _ _ h => h) (by kernel_rfl) (v := .pointer (some ⟨w.heap.size, 2, none⟩)) ?y0_6 ?r0_6
    case y0_6 => (intro u hu; go_simp; try rfl)
    simp only [Act.put, List.setIfInBounds_toArray, List.set_cons_zero, List.set_cons_succ]
    refine take_held 7 hd0 rfl (by kernel_rfl) (by kernel_rfl) (by kernel_rfl) (fun _ _ _ h => h) (by kernel_rfl) (v := .int .i64 p) ?y0_7 ?r0_7
    case y0_7 => (intro u hu; have hq0 : u.cell? ⟨w.heap.size, 2, none⟩ = some (.int .i64 p) := (cell_of_row _ _ _ _ _ _ hu).trans rfl; go_simp; try rfl)
    simp only [Act.put, List.setIfInBounds_toArray, List.set_cons_zero, List.set_cons_succ]
    refine take_held 9 hd0 rfl (by kernel_rfl) (by kernel_rfl) (by kernel_rfl) (fun _ _ _ h => h) (by kernel_rfl) (v := .pointer (some ⟨w.heap.size, 3, none⟩)) ?y0_9 ?r0_9
    case y0_9 => (intro u hu; go_simp; try rfl)
    simp only [Act.put, List.setIfInBounds_toArray, List.set_cons_zero, List.set_cons_succ]
    refine take_held 10 hd0 rfl (by kernel_rfl) (by kernel_rfl) (by kernel_rfl) (fun _ _ _ h => h) (by kernel_rfl) (v := .int .i64 s) ?y0_10 ?r0_10
    case y0_10 => (intro u hu; have hq0 : u.cell? ⟨w.heap.size, 3, none⟩ = some (.int .i64 s) := (cell_of_row _ _ _ _ _ _ hu).trans rfl; go_simp; try rfl)
    simp only [Act.put, List.setIfInBounds_toArray, List.set_cons_zero, List.set_cons_succ]
    refine call_held 2 rfl (by kernel_rfl) (by kernel_rfl) 33 #[b, .int .i64 q] (by go_simp) _ (c1 _ _ md0) ?_
    rintro e1 x1 ⟨b1, rfl, m1, g1⟩
    have bg1 := box_goes g1 hd0 n0
    refine Or.inl ⟨_, rfl, bg1.1, ?_⟩
    simp only [Act.put, List.setIfInBounds_toArray, List.set_cons_zero, List.set_cons_succ]
    refine call_held 5 rfl (by kernel_rfl) (by kernel_rfl) 33 #[b1, .int .i64 r] (by go_simp) _ (c2 _ _ m1) ?_
    rintro e2 x2 ⟨b2, rfl, m2, g2⟩
    have bg2 := box_goes g2 bg1.1 bg1.2
    refine Or.inl ⟨_, rfl, bg2.1, ?_⟩
    simp only [Act.put, List.setIfInBounds_toArray, List.set_cons_zero, List.set_cons_succ]
    refine call_held 8 rfl (by kernel_rfl) (by kernel_rfl) 33 #[b2, .int .i64 p] (by go_simp) _ (c3 _ _ m2) ?_
    rintro e3 x3 ⟨b3, rfl, m3, g3⟩
    have bg3 := box_goes g3 bg2.1 bg2.2
    refine Or.inl ⟨_, rfl, bg3.1, ?_⟩
    simp only [Act.put, List.setIfInBounds_toArray, List.set_cons_zero, List.set_cons_succ]
    refine call_held 11 rfl (by kernel_rfl) (by kernel_rfl) 33 #[b3, .int .i64 s] (by go_simp) _ (c4 _ _ m3) ?_
    rintro e4 x4 ⟨b4, rfl, m4, g4⟩
    have bg4 := box_goes g4 bg3.1 bg3.2
    refine Or.inl ⟨_, rfl, bg4.1, ?_⟩
    simp only [Act.put, List.setIfInBounds_toArray, List.set_cons_zero, List.set_cons_succ]
    refine read_held 12 rfl (by kernel_rfl) (by kernel_rfl) (b4) (by go_simp) bg4.1 ?_
    simp only [Act.put, List.setIfInBounds_toArray, List.set_cons_zero, List.set_cons_succ]
    refine done_held (by kernel_rfl) ?_ _
    go_wp2_with fail
    go_meet
    exact ⟨m4, ((((gd0.trans g1).trans g2).trans g3).trans g4), bg4.1, bg4.2⟩
  case rest =>
  clear h0 g0 m0 n0
  obtain ⟨m0, g0, h0, n0⟩ := hcut
  go_upto_region 2 with fail
  go_cut [2] (fun v wx => Mine wx v Z7 ∧ Goes b w v wx ∧ wx.heap[w.heap.size]? = some (.cells #[.int .i64 q, .int .i64 r, .int .i64 p, .int .i64 s, .int .i64 k, .int .i64 d, .int .i64 n, .int .i64 fx, .int .i64 fy, .bool fd, .int .i64 tx, .int .i64 ty, .bool td, .int .i64 a, .int .i64 e0, .int .i64 x, .int .i64 y, .bool pd, .int .i64 l] 44 (0, 0)) ∧ v.ownBlock ≠ some w.heap.size)
  case first =>
    have hd0 : wc.drew.heap[w.heap.size]? = some (.cells #[.int .i64 q, .int .i64 r, .int .i64 p, .int .i64 s, .int .i64 k, .int .i64 d, .int .i64 n, .int .i64 fx, .int .i64 fy, .bool fd, .int .i64 tx, .int .i64 ty, .bool td, .int .i64 a, .int .i64 e0, .int .i64 x, .int .i64 y, .bool pd, .int .i64 l] 44 (0, 0)) := h0
    have md0 : Mine wc.drew u3 Z4 := m0.later (drew_below4 _)
    have gd0 : Goes b w u3 wc.drew := g0.drew
    refine start_held (S := fun u => u.heap[w.heap.size]? = some (.cells #[.int .i64 q, .int .i64 r, .int .i64 p, .int .i64 s, .int .i64 k, .int .i64 d, .int .i64 n, .int .i64 fx, .int .i64 fy, .bool fd, .int .i64 tx, .int .i64 ty, .bool td, .int .i64 a, .int .i64 e0, .int .i64 x, .int .i64 y, .bool pd, .int .i64 l] 44 (0, 0))) 11 rfl (by kernel_rfl) hd0 ?_
    simp only [Array.replicate_succ, Array.replicate_zero, List.push_toArray, List.nil_append, List.cons_append]
    refine take_held 0 hd0 rfl (by kernel_rfl) (by kernel_rfl) (by kernel_rfl) (fun _ _ _ h => h) (by kernel_rfl) (v := u3) ?y1_0 ?r1_0
    case y1_0 => (intro u hu; go_simp; try rfl)
    simp only [Act.put, List.setIfInBounds_toArray, List.set_cons_zero, List.set_cons_succ]
    refine take_held 1 hd0 rfl (by kernel_rfl) (by kernel_rfl) (by kernel_rfl) (fun _ _ _ h => h) (by kernel_rfl) (v := .pointer (some ⟨w.heap.size, 4, none⟩)) ?y1_1 ?r1_1
    case y1_1 => (intro u hu; go_simp; try rfl)
    simp only [Act.put, List.setIfInBounds_toArray, List.set_cons_zero, List.set_cons_succ]
    refine take_held 2 hd0 rfl (by kernel_rfl) (by kernel_rfl) (by kernel_rfl) (fun _ _ _ h => h) (by kernel_rfl) (v := .agg #[.int .i64 k, .int .i64 d, .int .i64 n, .int .i64 fx, .int .i64 fy, .bool fd, .int .i64 tx, .int .i64 ty, .bool td, .int .i64 a, .int .i64 e0]) ?y1_2 ?r1_2
    case y1_2 => (intro u hu; have hq0 : u.cell? ⟨w.heap.size, 4, none⟩ = some (.int .i64 k) := (cell_of_row _ _ _ _ _ _ hu).trans rfl; have hq1 : u.cell? ⟨w.heap.size, 5, none⟩ = some (.int .i64 d) := (cell_of_row _ _ _ _ _ _ hu).trans rfl; have hq2 : u.cell? ⟨w.heap.size, 6, none⟩ = some (.int .i64 n) := (cell_of_row _ _ _ _ _ _ hu).trans rfl; have hq3 : u.cell? ⟨w.heap.size, 7, none⟩ = some (.int .i64 fx) := (cell_of_row _ _ _ _ _ _ hu).trans rfl; have hq4 : u.cell? ⟨w.heap.size, 8, none⟩ = some (.int .i64 fy) := (cell_of_row _ _ _ _ _ _ hu).trans rfl; have hq5 : u.cell? ⟨w.heap.size, 9, none⟩ = some (.bool fd) := (cell_of_row _ _ _ _ _ _ hu).trans rfl; have hq6 : u.cell? ⟨w.heap.size, 10, none⟩ = some (.int .i64 tx) := (cell_of_row _ _ _ _ _ _ hu).trans rfl; have hq7 : u.cell? ⟨w.heap.size, 11, none⟩ = some (.int .i64 ty) := (cell_of_row _ _ _ _ _ _ hu).trans rfl; have hq8 : u.cell? ⟨w.heap.size, 12, none⟩ = some (.bool td) := (cell_of_row _ _ _ _ _ _ hu).trans rfl; have hq9 : u.cell? ⟨w.heap.size, 13, none⟩ = some (.int .i64 a) := (cell_of_row _ _ _ _ _ _ hu).trans rfl; have hq10 : u.cell? ⟨w.heap.size, 14, none⟩ = some (.int .i64 e0) := (cell_of_row _ _ _ _ _ _ hu).trans rfl; go_simp; try rfl)
    simp only [Act.put, List.setIfInBounds_toArray, List.set_cons_zero, List.set_cons_succ]
    refine take_held 4 hd0 rfl (by kernel_rfl) (by kernel_rfl) (by kernel_rfl) (fun _ _ _ h => h) (by kernel_rfl) (v := .pointer (some ⟨w.heap.size, 15, none⟩)) ?y1_4 ?r1_4
    case y1_4 => (intro u hu; go_simp; try rfl)
    simp only [Act.put, List.setIfInBounds_toArray, List.set_cons_zero, List.set_cons_succ]
    refine take_held 5 hd0 rfl (by kernel_rfl) (by kernel_rfl) (by kernel_rfl) (fun _ _ _ h => h) (by kernel_rfl) (v := .agg #[.int .i64 x, .int .i64 y, .bool pd]) ?y1_5 ?r1_5
    case y1_5 => (intro u hu; have hq0 : u.cell? ⟨w.heap.size, 15, none⟩ = some (.int .i64 x) := (cell_of_row _ _ _ _ _ _ hu).trans rfl; have hq1 : u.cell? ⟨w.heap.size, 16, none⟩ = some (.int .i64 y) := (cell_of_row _ _ _ _ _ _ hu).trans rfl; have hq2 : u.cell? ⟨w.heap.size, 17, none⟩ = some (.bool pd) := (cell_of_row _ _ _ _ _ _ hu).trans rfl; go_simp; try rfl)
    simp only [Act.put, List.setIfInBounds_toArray, List.set_cons_zero, List.set_cons_succ]
    refine take_held 7 hd0 rfl (by kernel_rfl) (by kernel_rfl) (by kernel_rfl) (fun _ _ _ h => h) (by kernel_rfl) (v := .pointer (some ⟨w.heap.size, 18, none⟩)) ?y1_7 ?r1_7
    case y1_7 => (intro u hu; go_simp; try rfl)
    simp only [Act.put, List.setIfInBounds_toArray, List.set_cons_zero, List.set_cons_succ]
    refine take_held 8 hd0 rfl (by kernel_rfl) (by kernel_rfl) (by kernel_rfl) (fun _ _ _ h => h) (by kernel_rfl) (v := .int .i64 l) ?y1_8 ?r1_8
    case y1_8 => (intro u hu; have hq0 : u.cell? ⟨w.heap.size, 18, none⟩ = some (.int .i64 l) := (cell_of_row _ _ _ _ _ _ hu).trans rfl; go_simp; try rfl)
    simp only [Act.put, List.setIfInBounds_toArray, List.set_cons_zero, List.set_cons_succ]
    refine call_held 3 rfl (by kernel_rfl) (by kernel_rfl) 43 #[u3, .agg #[.int .i64 k, .int .i64 d, .int .i64 n, .int .i64 fx, .int .i64 fy, .bool fd, .int .i64 tx, .int .i64 ty, .bool td, .int .i64 a, .int .i64 e0]] (by go_simp) _ (c5 _ _ md0) ?_
    rintro e5 x5 ⟨b5, rfl, m5, g5⟩
    have bg5 := box_goes g5 hd0 n0
    refine Or.inl ⟨_, rfl, bg5.1, ?_⟩
    simp only [Act.put, List.setIfInBounds_toArray, List.set_cons_zero, List.set_cons_succ]
    refine call_held 6 rfl (by kernel_rfl) (by kernel_rfl) 32 #[b5, .agg #[.int .i64 x, .int .i64 y, .bool pd]] (by go_simp) _ (c6 _ _ m5) ?_
    rintro e6 x6 ⟨b6, rfl, m6, g6⟩
    have bg6 := box_goes g6 bg5.1 bg5.2
    refine Or.inl ⟨_, rfl, bg6.1, ?_⟩
    simp only [Act.put, List.setIfInBounds_toArray, List.set_cons_zero, List.set_cons_succ]
    refine call_held 9 rfl (by kernel_rfl) (by kernel_rfl) 33 #[b6, .int .i64 l] (by go_simp) _ (c7 _ _ m6) ?_
    rintro e7 x7 ⟨b7, rfl, m7, g7⟩
    have bg7 := box_goes g7 bg6.1 bg6.2
    refine Or.inl ⟨_, rfl, bg7.1, ?_⟩
    simp only [Act.put, List.setIfInBounds_toArray, List.set_cons_zero, List.set_cons_succ]
    refine read_held 10 rfl (by kernel_rfl) (by kernel_rfl) (b7) (by go_simp) bg7.1 ?_
    simp only [Act.put, List.setIfInBounds_toArray, List.set_cons_zero, List.set_cons_succ]
    refine done_held (by kernel_rfl) ?_ _
    go_wp2_with fail
    go_meet
    exact ⟨m7, (((gd0.trans g5).trans g6).trans g7), bg7.1, bg7.2⟩
  case rest =>
  clear h0 g0 m0 n0
  obtain ⟨m0, g0, h0, n0⟩ := hcut
  go_wp2_with fail
  go_ret
  subst hb
  exact made_nil m0 g0
end Go.Proofs.Ythdgpadakmdlkaa.Codec
