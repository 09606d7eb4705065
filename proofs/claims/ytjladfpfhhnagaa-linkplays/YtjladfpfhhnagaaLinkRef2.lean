/-
  The chapter's own link: Send, Got, Waits, Clear.
-/
import Derived.Test.YtjladfpfhhnagaaLinkRef
namespace Go.Proofs.Ytjladfpfhhnagaa.Lk
set_option linter.unusedVariables false
set_option linter.unusedSimpArgs false
open Go Go.RowKit Go.Shelf Go.Proofs Go.Proofs.Ytjladfpfhhnagaa.Tick Go.Proofs.Ytjladfpfhhnagaa.Plain
attribute [local go_sem] Oper.semAt_some

set_option maxRecDepth 100000 in
set_option maxHeartbeats 2000000 in
theorem rsend_ok1 {w : World} {r g N : Nat} {rsd : Int} {M : Mp} (G : RAt w r g N rsd M) (t : Tl) (now : Int) (k : Nat) (hrb : t.rb = (k : Int)) (hk : k < N) (hkd : t.kd = 1) :
    Calls Try.prog 14 #[.pointer (some ⟨r, 0, none⟩), .agg (tlA t), .int .i64 now] w fun e w' => e = .returned (.tuple #[.agg (tlA t), .int .i64 0]) ∧ RAt w' r g N rsd (upd M (k : Int) (some (t, now))) ∧ w.grownBy w' (some g) := by
  obtain ⟨w2, hw2⟩ : ∃ w2, w2 = (w.alloc (.cells (tlA t) 37)).alloc (.cells (tlA tl0) 37) := ⟨_, rfl⟩
  have b2 : Below w.heap.size w w2 := by rw [hw2]; exact ((Below.refl _ _).alloc (Nat.le_refl _) _).alloc (by simp) _
  have ht2 : w2.heap[w.heap.size]? = some (.cells (tlA t) 37 (0, 0)) := by rw [hw2, heap_old _ _ (by simp)]; exact World.alloc_heap_new _ _
  have hz2 : w2.heap[w.heap.size + 1]? = some (.cells (tlA tl0) 37 (0, 0)) := by
    rw [hw2, show w.heap.size + 1 = (w.alloc (.cells (tlA t) 37)).heap.size by simp]
    exact World.alloc_heap_new _ _
  have G2 := G.go b2
  have k0 := tl_kd ht2
  have k1 := tl_rb ht2
  have g0 := ref_c0 G2.at_
  have HT : Hid (w2.heap[w.heap.size]? = some (.cells (tlA t) 37 (0, 0))) := ht2
  have HZ : Hid (w2.heap[w.heap.size + 1]? = some (.cells (tlA tl0) 37 (0, 0))) := hz2
  have HG : Hid (RAt w2 r g N rsd M) := G2
  have HB : Hid (Below w.heap.size w w2) := b2
  have lr : r < w.heap.size := G.rlt
  have lg : g < w.heap.size := G.lt
  clear G G2 b2 ht2 hz2
  rw [hrb] at k1
  have HRB : Hid (t.rb = (k : Int)) := hrb
  have n1 : decide ((k : Int) < 0) = false := decide_eq_false (by omega)
  have n2 : decide ((N : Int) ≤ (k : Int)) = false := by simp; omega
  have n3 : (t.kd != 1) = false := by simp [hkd]
  clear hrb hkd
  go_enter Try.func14, Try.ntmps14
  go_wp2_with (first
    | (refine wpList_boxAt rfl 37 (.tmp 1) rfl (tlA t) rfl ?_)
    | (refine wpList_allocTele rfl rfl ?_))
  rw [← hw2]
  clear hw2
  go_quiet (fail)
  go_wp2_with fail
  refine start_any (S := fun u => u.heap[r]? = some (.cells #[.slice (some ⟨g, 0, none⟩) N N, .int .i64 rsd] 62 (0, 0)) ∧ u.heap[w.heap.size]? = some (.cells (tlA t) 37 (0, 0))) 11 rfl (by kernel_rfl) (fun u su => ⟨by rw [su.heap]; exact HG.out.at_, by rw [su.heap]; exact HT.out⟩) ?_
  intro x0 sx
  have HS1 : x0.heap[r]? = some (.cells #[.slice (some ⟨g, 0, none⟩) N N, .int .i64 rsd] 62 (0, 0)) ∧ x0.heap[w.heap.size]? = some (.cells (tlA t) 37 (0, 0)) := ⟨by rw [sx.heap]; exact HG.out.at_, by rw [sx.heap]; exact HT.out⟩
  simp only [Array.replicate_succ, Array.replicate_zero, List.push_toArray, List.nil_append, List.cons_append]
  refine take_held 0 HS1 rfl (by kernel_rfl) (by kernel_rfl) (by kernel_rfl) (fun _ _ _ h => h) (by kernel_rfl) (v := ?v701) ?y701 ?r701
  case y701 => (intro u hu; go_simp; try rfl)
  simp only [Act.put, List.setIfInBounds_toArray, List.set_cons_zero, List.set_cons_succ]
  refine take_held 1 HS1 rfl (by kernel_rfl) (by kernel_rfl) (by kernel_rfl) (fun _ _ _ h => h) (by kernel_rfl) (v := ?v702) ?y702 ?r702
  case y702 => (intro u hu; go_simp; try rfl)
  simp only [Act.put, List.setIfInBounds_toArray, List.set_cons_zero, List.set_cons_succ]
  refine take_held 2 HS1 rfl (by kernel_rfl) (by kernel_rfl) (by kernel_rfl) (fun _ _ _ h => h) (by kernel_rfl) (v := ?v703) ?y703 ?r703
  case y703 => (intro u hu; go_simp; try rfl)
  simp only [Act.put, List.setIfInBounds_toArray, List.set_cons_zero, List.set_cons_succ]
  refine take_held 3 HS1 rfl (by kernel_rfl) (by kernel_rfl) (by kernel_rfl) (fun _ _ _ h => h) (by kernel_rfl) (v := .slice (some ⟨g, 0, none⟩) N N) ?y704 ?r704
  case y704 => (intro u hu; have zz := ref_c0 hu.1; go_simp; try rfl)
  simp only [Act.put, List.setIfInBounds_toArray, List.set_cons_zero, List.set_cons_succ]
  refine take_held 4 HS1 rfl (by kernel_rfl) (by kernel_rfl) (by kernel_rfl) (fun _ _ _ h => h) (by kernel_rfl) (v := ?v705) ?y705 ?r705
  case y705 => (intro u hu; go_simp; try rfl)
  simp only [Act.put, List.setIfInBounds_toArray, List.set_cons_zero, List.set_cons_succ]
  refine take_held 5 HS1 rfl (by kernel_rfl) (by kernel_rfl) (by kernel_rfl) (fun _ _ _ h => h) (by kernel_rfl) (v := .int .i64 (k : Int)) ?y706 ?r706
  case y706 => (intro u hu; have zz := tl_rb hu.2; rw [HRB.out] at zz; go_simp; try rfl)
  simp only [Act.put, List.setIfInBounds_toArray, List.set_cons_zero, List.set_cons_succ]
  refine take_held 6 HS1 rfl (by kernel_rfl) (by kernel_rfl) (by kernel_rfl) (fun _ _ _ h => h) (by kernel_rfl) (v := .agg (tlA t)) ?y707 ?r707
  case y707 => (intro u hu; exact run_load_at 37 (.tmp 4) rfl ⟨w.heap.size, 0, none⟩ rfl (tlA t) (load_tele hu.2))
  simp only [Act.put, List.setIfInBounds_toArray, List.set_cons_zero, List.set_cons_succ]
  refine take_held 7 HS1 rfl (by kernel_rfl) (by kernel_rfl) (by kernel_rfl) (fun _ _ _ h => h) (by kernel_rfl) (v := ?v708) ?y708 ?r708
  case y708 => (intro u hu; go_simp; try rfl)
  simp only [Act.put, List.setIfInBounds_toArray, List.set_cons_zero, List.set_cons_succ]
  refine take_held 8 HS1 rfl (by kernel_rfl) (by kernel_rfl) (by kernel_rfl) (fun _ _ _ h => h) (by kernel_rfl) (v := .agg (wA (some (t, now)))) ?y709 ?r709
  case y709 => (intro u hu; exact run_build_w _ _ rfl t now rfl rfl)
  simp only [Act.put, List.setIfInBounds_toArray, List.set_cons_zero, List.set_cons_succ]
  refine take_held 9 HS1 rfl (by kernel_rfl) (by kernel_rfl) (by kernel_rfl) (fun _ _ _ h => h) (by kernel_rfl) (v := .pointer (some ⟨g, k * 21, none⟩)) ?y710 ?r710
  case y710 => (intro u hu; have hkN : (k : Int) < (N : Int) := (by omega); go_simp; try rfl)
  simp only [Act.put, List.setIfInBounds_toArray, List.set_cons_zero, List.set_cons_succ]
  have Gx : RAt x0 r g N rsd M := HG.out.same (by rw [sx.heap]; rfl) (by rw [sx.heap]; rfl)
  obtain ⟨w3, hw3⟩ : ∃ w3, w3 = x0.setCells g (k * 21) (wL (some (t, now))) := ⟨_, rfl⟩
  have G3 := Gx.put hk (some (t, now))
  have q3 := setCells_grown x0 g (k * 21) (wL (some (t, now)))
  rw [← hw3] at G3 q3
  have bx : Below w2.heap.size w2 x0 := ⟨sx.os, sx.tape, sx.output, by rw [sx.heap]; exact Nat.le_refl _, fun k _ => by rw [sx.heap]; rfl⟩
  have hz3 : x0.heap[w.heap.size + 1]? = some (.cells (tlA tl0) 37 (0, 0)) := by rw [sx.heap]; exact HZ.out
  have lz : w.heap.size + 1 < x0.heap.size := (Array.getElem?_eq_some_iff.1 hz3).1
  have e3 : ∀ b, b < x0.heap.size → b ≠ g → w3.heap[b]? = x0.heap[b]? := fun b h1 h2 => q3.block b h1 (fun e => h2 (by cases e; rfl))
  have ht4 : w3.heap[w.heap.size]? = some (.cells (tlA t) 37 (0, 0)) := (e3 _ (by omega) (by omega)).trans HS1.2
  have hz4 : w3.heap[w.heap.size + 1]? = some (.cells (tlA tl0) 37 (0, 0)) := (e3 _ lz (by omega)).trans hz3
  refine store_held 10 rfl (by kernel_rfl) (by kernel_rfl) w3 (by rw [hw3]; exact run_store_mid_op 66 (.tmp 41) (.tmp 40) rfl g (k * 21) (wA (some (t, now))) rfl rfl (Gx.there k hk) infoW (wA_one _)) ⟨G3.at_, ht4⟩ ?_
  simp only [Act.put, List.setIfInBounds_toArray, List.set_cons_zero, List.set_cons_succ]
  refine done_held (by kernel_rfl) ?_ _
  have HE : Hid (RAt (w3.setRow (w.heap.size + 1) (tlA t)) r g N rsd (upd M (k : Int) (some (t, now))) ∧ w.grownBy (w3.setRow (w.heap.size + 1) (tlA t)) (some g)) := by
    have q := below_row (Below.refl (w.heap.size + 1) w3) (Nat.le_refl _) (tlA t)
    refine ⟨G3.same (q.block _ (by omega)) (q.block _ (by omega)), ?_⟩
    have h1 : w.grownBy w3 (some g) := grown_trans (grown_of HB.out) (grown_trans (grown_of bx) q3)
    exact ⟨q.os.trans h1.os, q.tape.trans h1.tape, q.output.trans h1.output, Nat.le_trans h1.size q.size, fun i hi hr => (q.block i (by omega)).trans (h1.block i hi hr)⟩
  clear G3 q3 hw3 e3 Gx bx sx HS1 hz3
  go_wp2_with (first
    | (refine wpList_load_at rfl 37 (.tmp 4) rfl ⟨w.heap.size, 0, none⟩ rfl (tlA t) (load_tele ht4) ?_)
    | (refine wpList_store_row rfl 37 (.tmp 6) (.tmp 42) rfl (w.heap.size + 1) (tlA t) rfl rfl 37 (tlA tl0) hz4 infoTele rfl (tlA_one t) ?_))
  exact bodyPost_ret (results_cell_tmp Try.results14 _ _ (w.heap.size + 1) _ rfl (load_tele (setRow_heap _ _ _ _ _ _ hz4))) rfl ⟨rfl, HE.out⟩
set_option maxRecDepth 100000 in
set_option maxHeartbeats 2000000 in
theorem rsend_ok2 {w : World} {r g N : Nat} {rsd : Int} {M : Mp} (G : RAt w r g N rsd M) (t : Tl) (now : Int) (k : Nat) (hrb : t.rb = (k : Int)) (hk : k < N) (hkd : t.kd = 2) :
    Calls Try.prog 14 #[.pointer (some ⟨r, 0, none⟩), .agg (tlA t), .int .i64 now] w fun e w' => e = .returned (.tuple #[.agg (tlA t), .int .i64 0]) ∧ RAt w' r g N rsd (upd M (k : Int) (some (t, now))) ∧ w.grownBy w' (some g) := by
  obtain ⟨w2, hw2⟩ : ∃ w2, w2 = (w.alloc (.cells (tlA t) 37)).alloc (.cells (tlA tl0) 37) := ⟨_, rfl⟩
  have b2 : Below w.heap.size w w2 := by rw [hw2]; exact ((Below.refl _ _).alloc (Nat.le_refl _) _).alloc (by simp) _
  have ht2 : w2.heap[w.heap.size]? = some (.cells (tlA t) 37 (0, 0)) := by rw [hw2, heap_old _ _ (by simp)]; exact World.alloc_heap_new _ _
  have hz2 : w2.heap[w.heap.size + 1]? = some (.cells (tlA tl0) 37 (0, 0)) := by
    rw [hw2, show w.heap.size + 1 = (w.alloc (.cells (tlA t) 37)).heap.size by simp]
    exact World.alloc_heap_new _ _
  have G2 := G.go b2
  have k0 := tl_kd ht2
  have k1 := tl_rb ht2
  have g0 := ref_c0 G2.at_
  have HT : Hid (w2.heap[w.heap.size]? = some (.cells (tlA t) 37 (0, 0))) := ht2
  have HZ : Hid (w2.heap[w.heap.size + 1]? = some (.cells (tlA tl0) 37 (0, 0))) := hz2
  have HG : Hid (RAt w2 r g N rsd M) := G2
  have HB : Hid (Below w.heap.size w w2) := b2
  have lr : r < w.heap.size := G.rlt
  have lg : g < w.heap.size := G.lt
  clear G G2 b2 ht2 hz2
  rw [hrb] at k1
  have HRB : Hid (t.rb = (k : Int)) := hrb
  have n1 : decide ((k : Int) < 0) = false := decide_eq_false (by omega)
  have n2 : decide ((N : Int) ≤ (k : Int)) = false := by simp; omega
  have n3 : (t.kd != 1) = true := by simp [hkd]
  have n4 : (t.kd != 2) = false := by simp [hkd]
  clear hrb hkd
  go_enter Try.func14, Try.ntmps14
  go_wp2_with (first
    | (refine wpList_boxAt rfl 37 (.tmp 1) rfl (tlA t) rfl ?_)
    | (refine wpList_allocTele rfl rfl ?_))
  rw [← hw2]
  clear hw2
  go_quiet (fail)
  go_wp2_with fail
  refine start_any (S := fun u => u.heap[r]? = some (.cells #[.slice (some ⟨g, 0, none⟩) N N, .int .i64 rsd] 62 (0, 0)) ∧ u.heap[w.heap.size]? = some (.cells (tlA t) 37 (0, 0))) 11 rfl (by kernel_rfl) (fun u su => ⟨by rw [su.heap]; exact HG.out.at_, by rw [su.heap]; exact HT.out⟩) ?_
  intro x0 sx
  have HS1 : x0.heap[r]? = some (.cells #[.slice (some ⟨g, 0, none⟩) N N, .int .i64 rsd] 62 (0, 0)) ∧ x0.heap[w.heap.size]? = some (.cells (tlA t) 37 (0, 0)) := ⟨by rw [sx.heap]; exact HG.out.at_, by rw [sx.heap]; exact HT.out⟩
  simp only [Array.replicate_succ, Array.replicate_zero, List.push_toArray, List.nil_append, List.cons_append]
  refine take_held 0 HS1 rfl (by kernel_rfl) (by kernel_rfl) (by kernel_rfl) (fun _ _ _ h => h) (by kernel_rfl) (v := ?v711) ?y711 ?r711
  case y711 => (intro u hu; go_simp; try rfl)
  simp only [Act.put, List.setIfInBounds_toArray, List.set_cons_zero, List.set_cons_succ]
  refine take_held 1 HS1 rfl (by kernel_rfl) (by kernel_rfl) (by kernel_rfl) (fun _ _ _ h => h) (by kernel_rfl) (v := ?v712) ?y712 ?r712
  case y712 => (intro u hu; go_simp; try rfl)
  simp only [Act.put, List.setIfInBounds_toArray, List.set_cons_zero, List.set_cons_succ]
  refine take_held 2 HS1 rfl (by kernel_rfl) (by kernel_rfl) (by kernel_rfl) (fun _ _ _ h => h) (by kernel_rfl) (v := ?v713) ?y713 ?r713
  case y713 => (intro u hu; go_simp; try rfl)
  simp only [Act.put, List.setIfInBounds_toArray, List.set_cons_zero, List.set_cons_succ]
  refine take_held 3 HS1 rfl (by kernel_rfl) (by kernel_rfl) (by kernel_rfl) (fun _ _ _ h => h) (by kernel_rfl) (v := .slice (some ⟨g, 0, none⟩) N N) ?y714 ?r714
  case y714 => (intro u hu; have zz := ref_c0 hu.1; go_simp; try rfl)
  simp only [Act.put, List.setIfInBounds_toArray, List.set_cons_zero, List.set_cons_succ]
  refine take_held 4 HS1 rfl (by kernel_rfl) (by kernel_rfl) (by kernel_rfl) (fun _ _ _ h => h) (by kernel_rfl) (v := ?v715) ?y715 ?r715
  case y715 => (intro u hu; go_simp; try rfl)
  simp only [Act.put, List.setIfInBounds_toArray, List.set_cons_zero, List.set_cons_succ]
  refine take_held 5 HS1 rfl (by kernel_rfl) (by kernel_rfl) (by kernel_rfl) (fun _ _ _ h => h) (by kernel_rfl) (v := .int .i64 (k : Int)) ?y716 ?r716
  case y716 => (intro u hu; have zz := tl_rb hu.2; rw [HRB.out] at zz; go_simp; try rfl)
  simp only [Act.put, List.setIfInBounds_toArray, List.set_cons_zero, List.set_cons_succ]
  refine take_held 6 HS1 rfl (by kernel_rfl) (by kernel_rfl) (by kernel_rfl) (fun _ _ _ h => h) (by kernel_rfl) (v := .agg (tlA t)) ?y717 ?r717
  case y717 => (intro u hu; exact run_load_at 37 (.tmp 4) rfl ⟨w.heap.size, 0, none⟩ rfl (tlA t) (load_tele hu.2))
  simp only [Act.put, List.setIfInBounds_toArray, List.set_cons_zero, List.set_cons_succ]
  refine take_held 7 HS1 rfl (by kernel_rfl) (by kernel_rfl) (by kernel_rfl) (fun _ _ _ h => h) (by kernel_rfl) (v := ?v718) ?y718 ?r718
  case y718 => (intro u hu; go_simp; try rfl)
  simp only [Act.put, List.setIfInBounds_toArray, List.set_cons_zero, List.set_cons_succ]
  refine take_held 8 HS1 rfl (by kernel_rfl) (by kernel_rfl) (by kernel_rfl) (fun _ _ _ h => h) (by kernel_rfl) (v := .agg (wA (some (t, now)))) ?y719 ?r719
  case y719 => (intro u hu; exact run_build_w _ _ rfl t now rfl rfl)
  simp only [Act.put, List.setIfInBounds_toArray, List.set_cons_zero, List.set_cons_succ]
  refine take_held 9 HS1 rfl (by kernel_rfl) (by kernel_rfl) (by kernel_rfl) (fun _ _ _ h => h) (by kernel_rfl) (v := .pointer (some ⟨g, k * 21, none⟩)) ?y720 ?r720
  case y720 => (intro u hu; have hkN : (k : Int) < (N : Int) := (by omega); go_simp; try rfl)
  simp only [Act.put, List.setIfInBounds_toArray, List.set_cons_zero, List.set_cons_succ]
  have Gx : RAt x0 r g N rsd M := HG.out.same (by rw [sx.heap]; rfl) (by rw [sx.heap]; rfl)
  obtain ⟨w3, hw3⟩ : ∃ w3, w3 = x0.setCells g (k * 21) (wL (some (t, now))) := ⟨_, rfl⟩
  have G3 := Gx.put hk (some (t, now))
  have q3 := setCells_grown x0 g (k * 21) (wL (some (t, now)))
  rw [← hw3] at G3 q3
  have bx : Below w2.heap.size w2 x0 := ⟨sx.os, sx.tape, sx.output, by rw [sx.heap]; exact Nat.le_refl _, fun k _ => by rw [sx.heap]; rfl⟩
  have hz3 : x0.heap[w.heap.size + 1]? = some (.cells (tlA tl0) 37 (0, 0)) := by rw [sx.heap]; exact HZ.out
  have lz : w.heap.size + 1 < x0.heap.size := (Array.getElem?_eq_some_iff.1 hz3).1
  have e3 : ∀ b, b < x0.heap.size → b ≠ g → w3.heap[b]? = x0.heap[b]? := fun b h1 h2 => q3.block b h1 (fun e => h2 (by cases e; rfl))
  have ht4 : w3.heap[w.heap.size]? = some (.cells (tlA t) 37 (0, 0)) := (e3 _ (by omega) (by omega)).trans HS1.2
  have hz4 : w3.heap[w.heap.size + 1]? = some (.cells (tlA tl0) 37 (0, 0)) := (e3 _ lz (by omega)).trans hz3
  refine store_held 10 rfl (by kernel_rfl) (by kernel_rfl) w3 (by rw [hw3]; exact run_store_mid_op 66 (.tmp 41) (.tmp 40) rfl g (k * 21) (wA (some (t, now))) rfl rfl (Gx.there k hk) infoW (wA_one _)) ⟨G3.at_, ht4⟩ ?_
  simp only [Act.put, List.setIfInBounds_toArray, List.set_cons_zero, List.set_cons_succ]
  refine done_held (by kernel_rfl) ?_ _
  have HE : Hid (RAt (w3.setRow (w.heap.size + 1) (tlA t)) r g N rsd (upd M (k : Int) (some (t, now))) ∧ w.grownBy (w3.setRow (w.heap.size + 1) (tlA t)) (some g)) := by
    have q := below_row (Below.refl (w.heap.size + 1) w3) (Nat.le_refl _) (tlA t)
    refine ⟨G3.same (q.block _ (by omega)) (q.block _ (by omega)), ?_⟩
    have h1 : w.grownBy w3 (some g) := grown_trans (grown_of HB.out) (grown_trans (grown_of bx) q3)
    exact ⟨q.os.trans h1.os, q.tape.trans h1.tape, q.output.trans h1.output, Nat.le_trans h1.size q.size, fun i hi hr => (q.block i (by omega)).trans (h1.block i hi hr)⟩
  clear G3 q3 hw3 e3 Gx bx sx HS1 hz3
  go_wp2_with (first
    | (refine wpList_load_at rfl 37 (.tmp 4) rfl ⟨w.heap.size, 0, none⟩ rfl (tlA t) (load_tele ht4) ?_)
    | (refine wpList_store_row rfl 37 (.tmp 6) (.tmp 42) rfl (w.heap.size + 1) (tlA t) rfl rfl 37 (tlA tl0) hz4 infoTele rfl (tlA_one t) ?_))
  exact bodyPost_ret (results_cell_tmp Try.results14 _ _ (w.heap.size + 1) _ rfl (load_tele (setRow_heap _ _ _ _ _ _ hz4))) rfl ⟨rfl, HE.out⟩
set_option maxRecDepth 100000 in
set_option maxHeartbeats 2000000 in
theorem rsend_no1 {w : World} {r g N : Nat} {rsd : Int} {M : Mp} (G : RAt w r g N rsd M) (t : Tl) (now : Int) (h1 : t.rb < 0) :
    Calls Try.prog 14 #[.pointer (some ⟨r, 0, none⟩), .agg (tlA t), .int .i64 now] w fun e w' => e = .returned (.tuple #[.agg (tlA tl0), .int .i64 1]) ∧ Below w.heap.size w w' := by
  obtain ⟨w2, hw2⟩ : ∃ w2, w2 = (w.alloc (.cells (tlA t) 37)).alloc (.cells (tlA tl0) 37) := ⟨_, rfl⟩
  have b2 : Below w.heap.size w w2 := by rw [hw2]; exact ((Below.refl _ _).alloc (Nat.le_refl _) _).alloc (by simp) _
  have ht2 : w2.heap[w.heap.size]? = some (.cells (tlA t) 37 (0, 0)) := by rw [hw2, heap_old _ _ (by simp)]; exact World.alloc_heap_new _ _
  have hz2 : w2.heap[w.heap.size + 1]? = some (.cells (tlA tl0) 37 (0, 0)) := by
    rw [hw2, show w.heap.size + 1 = (w.alloc (.cells (tlA t) 37)).heap.size by simp]
    exact World.alloc_heap_new _ _
  have G2 := G.go b2
  have k0 := tl_kd ht2
  have k1 := tl_rb ht2
  have g0 := ref_c0 G2.at_
  have HT : Hid (w2.heap[w.heap.size]? = some (.cells (tlA t) 37 (0, 0))) := ht2
  have HZ : Hid (w2.heap[w.heap.size + 1]? = some (.cells (tlA tl0) 37 (0, 0))) := hz2
  have HG : Hid (RAt w2 r g N rsd M) := G2
  have HB : Hid (Below w.heap.size w w2) := b2
  have lr : r < w.heap.size := G.rlt
  have lg : g < w.heap.size := G.lt
  clear G G2 b2 ht2 hz2
  have n1 : decide (t.rb < 0) = true := by simp; omega
  go_enter Try.func14, Try.ntmps14
  go_wp2_with (first
    | (refine wpList_boxAt rfl 37 (.tmp 1) rfl (tlA t) rfl ?_)
    | (refine wpList_allocTele rfl rfl ?_))
  rw [← hw2]
  clear hw2
  go_quiet (fail)
  go_wp2_with (first
    | (refine wpList_build0 rfl rfl ?_)
    | (refine wpList_store_row rfl 37 (.tmp 6) (.tmp 31) rfl (w.heap.size + 1) (tlA tl0) rfl rfl 37 (tlA tl0) (HZ.out : (w2.drewN nq).heap[w.heap.size + 1]? = _) infoTele rfl (tlA_one tl0) ?_))
  exact bodyPost_ret (results_cell_tmp Try.results14 _ _ (w.heap.size + 1) _ rfl (load_tele (setRow_heap (w2.drewN nq) _ _ (tlA tl0) _ _ HZ.out))) rfl ⟨rfl, below_row (below_drewN HB.out nq) (by omega) _⟩
set_option maxRecDepth 100000 in
set_option maxHeartbeats 2000000 in
theorem rsend_no2 {w : World} {r g N : Nat} {rsd : Int} {M : Mp} (G : RAt w r g N rsd M) (t : Tl) (now : Int) (h1 : 0 ≤ t.rb) (h2 : (N : Int) ≤ t.rb) :
    Calls Try.prog 14 #[.pointer (some ⟨r, 0, none⟩), .agg (tlA t), .int .i64 now] w fun e w' => e = .returned (.tuple #[.agg (tlA tl0), .int .i64 1]) ∧ Below w.heap.size w w' := by
  obtain ⟨w2, hw2⟩ : ∃ w2, w2 = (w.alloc (.cells (tlA t) 37)).alloc (.cells (tlA tl0) 37) := ⟨_, rfl⟩
  have b2 : Below w.heap.size w w2 := by rw [hw2]; exact ((Below.refl _ _).alloc (Nat.le_refl _) _).alloc (by simp) _
  have ht2 : w2.heap[w.heap.size]? = some (.cells (tlA t) 37 (0, 0)) := by rw [hw2, heap_old _ _ (by simp)]; exact World.alloc_heap_new _ _
  have hz2 : w2.heap[w.heap.size + 1]? = some (.cells (tlA tl0) 37 (0, 0)) := by
    rw [hw2, show w.heap.size + 1 = (w.alloc (.cells (tlA t) 37)).heap.size by simp]
    exact World.alloc_heap_new _ _
  have G2 := G.go b2
  have k0 := tl_kd ht2
  have k1 := tl_rb ht2
  have g0 := ref_c0 G2.at_
  have HT : Hid (w2.heap[w.heap.size]? = some (.cells (tlA t) 37 (0, 0))) := ht2
  have HZ : Hid (w2.heap[w.heap.size + 1]? = some (.cells (tlA tl0) 37 (0, 0))) := hz2
  have HG : Hid (RAt w2 r g N rsd M) := G2
  have HB : Hid (Below w.heap.size w w2) := b2
  have lr : r < w.heap.size := G.rlt
  have lg : g < w.heap.size := G.lt
  clear G G2 b2 ht2 hz2
  have n1 : decide (t.rb < 0) = false := by simp; omega
  have n2 : decide ((N : Int) ≤ t.rb) = true := by simp; omega
  go_enter Try.func14, Try.ntmps14
  go_wp2_with (first
    | (refine wpList_boxAt rfl 37 (.tmp 1) rfl (tlA t) rfl ?_)
    | (refine wpList_allocTele rfl rfl ?_))
  rw [← hw2]
  clear hw2
  go_quiet (fail)
  go_wp2_with (first
    | (refine wpList_build0 rfl rfl ?_)
    | (refine wpList_store_row rfl 37 (.tmp 6) (.tmp 31) rfl (w.heap.size + 1) (tlA tl0) rfl rfl 37 (tlA tl0) (HZ.out : (w2.drewN nq).heap[w.heap.size + 1]? = _) infoTele rfl (tlA_one tl0) ?_))
  exact bodyPost_ret (results_cell_tmp Try.results14 _ _ (w.heap.size + 1) _ rfl (load_tele (setRow_heap (w2.drewN nq) _ _ (tlA tl0) _ _ HZ.out))) rfl ⟨rfl, below_row (below_drewN HB.out nq) (by omega) _⟩
set_option maxRecDepth 100000 in
set_option maxHeartbeats 2000000 in
theorem rsend_no3 {w : World} {r g N : Nat} {rsd : Int} {M : Mp} (G : RAt w r g N rsd M) (t : Tl) (now : Int) (h1 : 0 ≤ t.rb) (h2 : t.rb < (N : Int)) (hk : ¬ (t.kd = 1 ∨ t.kd = 2)) :
    Calls Try.prog 14 #[.pointer (some ⟨r, 0, none⟩), .agg (tlA t), .int .i64 now] w fun e w' => e = .returned (.tuple #[.agg (tlA tl0), .int .i64 1]) ∧ Below w.heap.size w w' := by
  obtain ⟨w2, hw2⟩ : ∃ w2, w2 = (w.alloc (.cells (tlA t) 37)).alloc (.cells (tlA tl0) 37) := ⟨_, rfl⟩
  have b2 : Below w.heap.size w w2 := by rw [hw2]; exact ((Below.refl _ _).alloc (Nat.le_refl _) _).alloc (by simp) _
  have ht2 : w2.heap[w.heap.size]? = some (.cells (tlA t) 37 (0, 0)) := by rw [hw2, heap_old _ _ (by simp)]; exact World.alloc_heap_new _ _
  have hz2 : w2.heap[w.heap.size + 1]? = some (.cells (tlA tl0) 37 (0, 0)) := by
    rw [hw2, show w.heap.size + 1 = (w.alloc (.cells (tlA t) 37)).heap.size by simp]
    exact World.alloc_heap_new _ _
  have G2 := G.go b2
  have k0 := tl_kd ht2
  have k1 := tl_rb ht2
  have g0 := ref_c0 G2.at_
  have HT : Hid (w2.heap[w.heap.size]? = some (.cells (tlA t) 37 (0, 0))) := ht2
  have HZ : Hid (w2.heap[w.heap.size + 1]? = some (.cells (tlA tl0) 37 (0, 0))) := hz2
  have HG : Hid (RAt w2 r g N rsd M) := G2
  have HB : Hid (Below w.heap.size w w2) := b2
  have lr : r < w.heap.size := G.rlt
  have lg : g < w.heap.size := G.lt
  clear G G2 b2 ht2 hz2
  have n1 : decide (t.rb < 0) = false := by simp; omega
  have n2 : decide ((N : Int) ≤ t.rb) = false := by simp; omega
  have n3 : (t.kd != 1) = true := by simp; omega
  have n4 : (t.kd != 2) = true := by simp; omega
  go_enter Try.func14, Try.ntmps14
  go_wp2_with (first
    | (refine wpList_boxAt rfl 37 (.tmp 1) rfl (tlA t) rfl ?_)
    | (refine wpList_allocTele rfl rfl ?_))
  rw [← hw2]
  clear hw2
  go_quiet (fail)
  go_wp2_with (first
    | (refine wpList_build0 rfl rfl ?_)
    | (refine wpList_store_row rfl 37 (.tmp 6) (.tmp 31) rfl (w.heap.size + 1) (tlA tl0) rfl rfl 37 (tlA tl0) (HZ.out : (w2.drewN nq).heap[w.heap.size + 1]? = _) infoTele rfl (tlA_one tl0) ?_))
  exact bodyPost_ret (results_cell_tmp Try.results14 _ _ (w.heap.size + 1) _ rfl (load_tele (setRow_heap (w2.drewN nq) _ _ (tlA tl0) _ _ HZ.out))) rfl ⟨rfl, below_row (below_drewN HB.out nq) (by omega) _⟩
theorem rsend_ok {w : World} {r g N : Nat} {rsd : Int} {M : Mp} (G : RAt w r g N rsd M) (t : Tl) (now : Int) (h1 : 0 ≤ t.rb) (h2 : t.rb < (N : Int)) (hk : t.kd = 1 ∨ t.kd = 2) :
    Calls Try.prog 14 #[.pointer (some ⟨r, 0, none⟩), .agg (tlA t), .int .i64 now] w fun e w' => e = .returned (.tuple #[.agg (tlA t), .int .i64 0]) ∧ RAt w' r g N rsd (upd M t.rb (some (t, now))) ∧ w.grownBy w' (some g) := by
  obtain ⟨k, hrb⟩ : ∃ k : Nat, t.rb = (k : Int) := ⟨t.rb.toNat, by omega⟩
  have hk' : k < N := by omega
  rcases hk with hk | hk
  · have := rsend_ok1 G t now k hrb hk' hk; rwa [← hrb] at this
  · have := rsend_ok2 G t now k hrb hk' hk; rwa [← hrb] at this
theorem rsend_no {w : World} {r g N : Nat} {rsd : Int} {M : Mp} (G : RAt w r g N rsd M) (t : Tl) (now : Int) (h : ¬ (0 ≤ t.rb ∧ t.rb < (N : Int) ∧ (t.kd = 1 ∨ t.kd = 2))) :
    Calls Try.prog 14 #[.pointer (some ⟨r, 0, none⟩), .agg (tlA t), .int .i64 now] w fun e w' => e = .returned (.tuple #[.agg (tlA tl0), .int .i64 1]) ∧ Below w.heap.size w w' := by
  by_cases h1 : t.rb < 0
  · exact rsend_no1 G t now h1
  · by_cases h2 : (N : Int) ≤ t.rb
    · exact rsend_no2 G t now (by omega) h2
    · exact rsend_no3 G t now (by omega) (by omega) (fun hk => h ⟨by omega, by omega, hk⟩)
theorem rgot_out {w : World} {r g N : Nat} {rsd : Int} {M : Mp} (G : RAt w r g N rsd M) (x : Int) (h : x < 0 ∨ (N : Int) ≤ x) : Calls Try.prog 16 #[.pointer (some ⟨r, 0, none⟩), .int .i64 x] w fun e w' => e = .returned (.bool false) ∧ w' = w := by
  have g0 := ref_c0 G.at_
  clear G
  by_cases h1 : x < 0
  · go_enter Try.func16, Try.ntmps16
    go_wp2
    go_ret
    exact ⟨rfl, rfl⟩
  · have h2 : (N : Int) ≤ x := by omega
    go_enter Try.func16, Try.ntmps16
    go_wp2
    go_ret
    exact ⟨rfl, rfl⟩
theorem rgot_off {w : World} {r g N : Nat} {rsd : Int} {M : Mp} (G : RAt w r g N rsd M) (k : Nat) (hk : k < N) (hM : M (k : Int) = none) : Calls Try.prog 16 #[.pointer (some ⟨r, 0, none⟩), .int .i64 (k : Int)] w fun e w' => e = .returned (.bool false) ∧ w' = w := by
  have g0 := ref_c0 G.at_
  have c0 := G.on hk
  rw [hM] at c0
  simp only [Option.isSome_none] at c0
  clear G hM
  have h1 : ¬ (k : Int) < 0 := by omega
  have h2 : ¬ (N : Int) ≤ (k : Int) := by omega
  have h3 : (k : Int) < (N : Int) := by omega
  go_enter Try.func16, Try.ntmps16
  go_wp2
  go_ret
  exact ⟨rfl, rfl⟩
theorem rgot_on {w : World} {r g N : Nat} {rsd : Int} {M : Mp} (G : RAt w r g N rsd M) (k : Nat) (hk : k < N) (hM : (M (k : Int)).isSome = true) : Calls Try.prog 16 #[.pointer (some ⟨r, 0, none⟩), .int .i64 (k : Int)] w fun e w' => e = .returned (.bool true) ∧ RAt w' r g N rsd (upd M (k : Int) none) ∧ w.grownBy w' (some g) := by
  have g0 := ref_c0 G.at_
  have c0 := G.on hk
  rw [hM] at c0
  have HE : Hid (RAt (w.setCells g (k * 21) (wL none)) r g N rsd (upd M (k : Int) none) ∧ w.grownBy (w.setCells g (k * 21) (wL none)) (some g)) := ⟨G.put hk none, setCells_grown _ _ _ _⟩
  have HT : Hid (w.there g (k * 21) 21) := G.there k hk
  clear G hM
  have h1 : ¬ (k : Int) < 0 := by omega
  have h2 : ¬ (N : Int) ≤ (k : Int) := by omega
  have h3 : (k : Int) < (N : Int) := by omega
  go_enter Try.func16, Try.ntmps16
  go_wp2_with (first
    | (refine wpList_buildAs rfl 66 _ rfl (wA none) _ rfl builtW0 ?_)
    | (refine wpList_store_mid rfl 66 (.tmp 33) (.tmp 32) rfl g (k * 21) (wA none) rfl rfl HT.out infoW (wA_one _) ?_))
  go_ret
  exact ⟨rfl, HE.out.1, HE.out.2⟩
end Go.Proofs.Ytjladfpfhhnagaa.Lk
