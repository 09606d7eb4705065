/-
  The chapter's own link: Waits, Clear, Due; two lists of telegrams held against each other.
-/
import Derived.Test.YtjladfpfhhnagaaLinkRef2
namespace Go.Proofs.Ytjladfpfhhnagaa.Lk
set_option linter.unusedVariables false
set_option linter.unusedSimpArgs false
open Go Go.RowKit Go.Shelf Go.Proofs Go.Proofs.Ytjladfpfhhnagaa.Tick Go.Proofs.Ytjladfpfhhnagaa.Plain
attribute [local go_sem] Oper.semAt_some

set_option maxHeartbeats 1000000 in
theorem rwaits_out0 {w : World} {r g N : Nat} {rsd : Int} {M : Mp} (G : RAt w r g N rsd M) (x : Int) (h1 : x < 0) : Calls Try.prog 23 #[.pointer (some ⟨r, 0, none⟩), .int .i64 x] w fun e w' => e = .returned (.tuple #[.agg (tlA tl0), .bool false]) ∧ Below w.heap.size w w' := by
  obtain ⟨w1, hw1⟩ : ∃ w1, w1 = w.alloc (.cells (tlA tl0) 37) := ⟨_, rfl⟩
  have b1 : Below w.heap.size w w1 := by rw [hw1]; exact (Below.refl _ _).alloc (Nat.le_refl _) _
  have hz1 : w1.heap[w.heap.size]? = some (.cells (tlA tl0) 37 (0, 0)) := by rw [hw1]; exact World.alloc_heap_new _ _
  have G1 := G.go b1
  have g0 := ref_c0 G1.at_
  have HZ : Hid (w1.heap[w.heap.size]? = some (.cells (tlA tl0) 37 (0, 0))) := hz1
  have HB : Hid (Below w.heap.size w w1) := b1
  have HG : Hid (RAt w1 r g N rsd M) := G1
  have lr : r < w.heap.size := G.rlt
  have lg : g < w.heap.size := G.lt
  clear G G1 b1 hz1
  have HE : Hid (Below w.heap.size w (w1.setRow w.heap.size (tlA tl0))) := below_row HB.out (Nat.le_refl _) _
  go_enter Try.func23, Try.ntmps23
  go_wp2_with (first
    | (refine wpList_allocTele rfl rfl ?_; rw [← hw1]; clear hw1)
    | (refine wpList_build0 rfl rfl ?_)
    | (refine wpList_store_row rfl 37 (.tmp 4) (.tmp 17) rfl w.heap.size (tlA tl0) rfl rfl 37 (tlA tl0) HZ.out infoTele rfl (tlA_one _) ?_))
  exact bodyPost_ret (results_cell_tmp Try.results23 _ _ w.heap.size _ rfl (load_tele (setRow_heap _ _ _ _ _ _ HZ.out))) rfl ⟨rfl, HE.out⟩
set_option maxHeartbeats 1000000 in
theorem rwaits_out1 {w : World} {r g N : Nat} {rsd : Int} {M : Mp} (G : RAt w r g N rsd M) (x : Int) (h1 : ¬ x < 0) (h2 : (N : Int) ≤ x) : Calls Try.prog 23 #[.pointer (some ⟨r, 0, none⟩), .int .i64 x] w fun e w' => e = .returned (.tuple #[.agg (tlA tl0), .bool false]) ∧ Below w.heap.size w w' := by
  obtain ⟨w1, hw1⟩ : ∃ w1, w1 = w.alloc (.cells (tlA tl0) 37) := ⟨_, rfl⟩
  have b1 : Below w.heap.size w w1 := by rw [hw1]; exact (Below.refl _ _).alloc (Nat.le_refl _) _
  have hz1 : w1.heap[w.heap.size]? = some (.cells (tlA tl0) 37 (0, 0)) := by rw [hw1]; exact World.alloc_heap_new _ _
  have G1 := G.go b1
  have g0 := ref_c0 G1.at_
  have HZ : Hid (w1.heap[w.heap.size]? = some (.cells (tlA tl0) 37 (0, 0))) := hz1
  have HB : Hid (Below w.heap.size w w1) := b1
  have HG : Hid (RAt w1 r g N rsd M) := G1
  have lr : r < w.heap.size := G.rlt
  have lg : g < w.heap.size := G.lt
  clear G G1 b1 hz1
  have HE : Hid (Below w.heap.size w (w1.setRow w.heap.size (tlA tl0))) := below_row HB.out (Nat.le_refl _) _
  go_enter Try.func23, Try.ntmps23
  go_wp2_with (first
    | (refine wpList_allocTele rfl rfl ?_; rw [← hw1]; clear hw1)
    | (refine wpList_build0 rfl rfl ?_)
    | (refine wpList_store_row rfl 37 (.tmp 4) (.tmp 17) rfl w.heap.size (tlA tl0) rfl rfl 37 (tlA tl0) HZ.out infoTele rfl (tlA_one _) ?_))
  exact bodyPost_ret (results_cell_tmp Try.results23 _ _ w.heap.size _ rfl (load_tele (setRow_heap _ _ _ _ _ _ HZ.out))) rfl ⟨rfl, HE.out⟩
set_option maxRecDepth 100000 in
set_option maxHeartbeats 2000000 in
theorem rwaits_in {w : World} {r g N : Nat} {rsd : Int} {M : Mp} (G : RAt w r g N rsd M) (k : Nat) (hk : k < N) : Calls Try.prog 23 #[.pointer (some ⟨r, 0, none⟩), .int .i64 (k : Int)] w fun e w' => e = .returned (.tuple #[.agg (tlA (tlOf (M (k : Int)))), .bool (M (k : Int)).isSome]) ∧ Below w.heap.size w w' := by
  obtain ⟨w1, hw1⟩ : ∃ w1, w1 = w.alloc (.cells (tlA tl0) 37) := ⟨_, rfl⟩
  have b1 : Below w.heap.size w w1 := by rw [hw1]; exact (Below.refl _ _).alloc (Nat.le_refl _) _
  have hz1 : w1.heap[w.heap.size]? = some (.cells (tlA tl0) 37 (0, 0)) := by rw [hw1]; exact World.alloc_heap_new _ _
  have G1 := G.go b1
  have g0 := ref_c0 G1.at_
  have HZ : Hid (w1.heap[w.heap.size]? = some (.cells (tlA tl0) 37 (0, 0))) := hz1
  have HB : Hid (Below w.heap.size w w1) := b1
  have HG : Hid (RAt w1 r g N rsd M) := G1
  have lr : r < w.heap.size := G.rlt
  have lg : g < w.heap.size := G.lt
  clear G G1 b1 hz1
  have h1 : ¬ (k : Int) < 0 := by omega
  have h2 : ¬ (N : Int) ≤ (k : Int) := by omega
  have h3 : (k : Int) < (N : Int) := by omega
  obtain ⟨tw, htw⟩ : ∃ tw, tlOf (M (k : Int)) = tw := ⟨_, rfl⟩
  obtain ⟨ow, how⟩ : ∃ ow, (M (k : Int)).isSome = ow := ⟨_, rfl⟩
  have HTW : Hid (tlOf (M (k : Int)) = tw) := htw
  have HOW : Hid ((M (k : Int)).isSome = ow) := how
  rw [htw, how]
  clear htw how
  go_enter Try.func23, Try.ntmps23
  go_wp2_with (refine wpList_allocTele rfl rfl ?_; rw [← hw1]; clear hw1)
  refine start_any (S := fun u => u.heap[r]? = w1.heap[r]? ∧ u.heap[g]? = w1.heap[g]?) 18 rfl (by kernel_rfl) (fun u su => ⟨by rw [su.heap], by rw [su.heap]⟩) ?_
  intro x0 sx
  have HS1 : x0.heap[r]? = w1.heap[r]? ∧ x0.heap[g]? = w1.heap[g]? := ⟨by rw [sx.heap], by rw [sx.heap]⟩
  simp only [Array.replicate_succ, Array.replicate_zero, List.push_toArray, List.nil_append, List.cons_append]
  refine take_held 0 HS1 rfl (by kernel_rfl) (by kernel_rfl) (by kernel_rfl) (fun _ _ _ h => h) (by kernel_rfl) (v := ?v701) ?y701 ?r701
  case y701 => (intro u hu; go_simp; try rfl)
  simp only [Act.put, List.setIfInBounds_toArray, List.set_cons_zero, List.set_cons_succ]
  refine take_held 1 HS1 rfl (by kernel_rfl) (by kernel_rfl) (by kernel_rfl) (fun _ _ _ h => h) (by kernel_rfl) (v := ?v702) ?y702 ?r702
  case y702 => (intro u hu; go_simp; try rfl)
  simp only [Act.put, List.setIfInBounds_toArray, List.set_cons_zero, List.set_cons_succ]
  refine take_held 2 HS1 rfl (by kernel_rfl) (by kernel_rfl) (by kernel_rfl) (fun _ _ _ h => h) (by kernel_rfl) (v := ?v703) ?y703 ?r703
  case y703 => (intro u hu; go_simp; try rfl)
  simp only [Act.put, List.setIfInBounds_toArray, List.set_cons_zero, List.set_cons_succ]
  refine take_held 3 HS1 rfl (by kernel_rfl) (by kernel_rfl) (by kernel_rfl) (fun _ _ _ h => h) (by kernel_rfl) (v := .slice (some ⟨g, 0, none⟩) N N) ?y704 ?r704
  case y704 => (intro u hu; have zz := ref_c0 ((HG.out.same hu.1 hu.2).at_); go_simp; try rfl)
  simp only [Act.put, List.setIfInBounds_toArray, List.set_cons_zero, List.set_cons_succ]
  refine take_held 4 HS1 rfl (by kernel_rfl) (by kernel_rfl) (by kernel_rfl) (fun _ _ _ h => h) (by kernel_rfl) (v := ?v705) ?y705 ?r705
  case y705 => (intro u hu; go_simp; try rfl)
  simp only [Act.put, List.setIfInBounds_toArray, List.set_cons_zero, List.set_cons_succ]
  refine take_held 5 HS1 rfl (by kernel_rfl) (by kernel_rfl) (by kernel_rfl) (fun _ _ _ h => h) (by kernel_rfl) (v := .pointer (some ⟨g, k * 21, none⟩)) ?y706 ?r706
  case y706 => (intro u hu; go_simp; try rfl)
  simp only [Act.put, List.setIfInBounds_toArray, List.set_cons_zero, List.set_cons_succ]
  refine take_held 6 HS1 rfl (by kernel_rfl) (by kernel_rfl) (by kernel_rfl) (fun _ _ _ h => h) (by kernel_rfl) (v := .pointer (some ⟨g, k * 21 + 1, none⟩)) ?y707 ?r707
  case y707 => (intro u hu; go_simp; try rfl)
  simp only [Act.put, List.setIfInBounds_toArray, List.set_cons_zero, List.set_cons_succ]
  refine take_held 7 HS1 rfl (by kernel_rfl) (by kernel_rfl) (by kernel_rfl) (fun _ _ _ h => h) (by kernel_rfl) (v := .agg (tlA tw)) ?y708 ?r708
  case y708 => (intro u hu; exact run_load_at 37 (.tmp 24) rfl ⟨g, k * 21 + 1, none⟩ rfl _ (by rw [← HTW.out]; exact (HG.out.same hu.1 hu.2).tele hk))
  simp only [Act.put, List.setIfInBounds_toArray, List.set_cons_zero, List.set_cons_succ]
  refine take_held 8 HS1 rfl (by kernel_rfl) (by kernel_rfl) (by kernel_rfl) (fun _ _ _ h => h) (by kernel_rfl) (v := ?v709) ?y709 ?r709
  case y709 => (intro u hu; go_simp; try rfl)
  simp only [Act.put, List.setIfInBounds_toArray, List.set_cons_zero, List.set_cons_succ]
  refine take_held 9 HS1 rfl (by kernel_rfl) (by kernel_rfl) (by kernel_rfl) (fun _ _ _ h => h) (by kernel_rfl) (v := ?v710) ?y710 ?r710
  case y710 => (intro u hu; go_simp; try rfl)
  simp only [Act.put, List.setIfInBounds_toArray, List.set_cons_zero, List.set_cons_succ]
  refine take_held 10 HS1 rfl (by kernel_rfl) (by kernel_rfl) (by kernel_rfl) (fun _ _ _ h => h) (by kernel_rfl) (v := ?v711) ?y711 ?r711
  case y711 => (intro u hu; go_simp; try rfl)
  simp only [Act.put, List.setIfInBounds_toArray, List.set_cons_zero, List.set_cons_succ]
  refine take_held 11 HS1 rfl (by kernel_rfl) (by kernel_rfl) (by kernel_rfl) (fun _ _ _ h => h) (by kernel_rfl) (v := .slice (some ⟨g, 0, none⟩) N N) ?y712 ?r712
  case y712 => (intro u hu; have zz := ref_c0 ((HG.out.same hu.1 hu.2).at_); go_simp; try rfl)
  simp only [Act.put, List.setIfInBounds_toArray, List.set_cons_zero, List.set_cons_succ]
  refine take_held 12 HS1 rfl (by kernel_rfl) (by kernel_rfl) (by kernel_rfl) (fun _ _ _ h => h) (by kernel_rfl) (v := ?v713) ?y713 ?r713
  case y713 => (intro u hu; go_simp; try rfl)
  simp only [Act.put, List.setIfInBounds_toArray, List.set_cons_zero, List.set_cons_succ]
  refine take_held 13 HS1 rfl (by kernel_rfl) (by kernel_rfl) (by kernel_rfl) (fun _ _ _ h => h) (by kernel_rfl) (v := .pointer (some ⟨g, k * 21, none⟩)) ?y714 ?r714
  case y714 => (intro u hu; go_simp; try rfl)
  simp only [Act.put, List.setIfInBounds_toArray, List.set_cons_zero, List.set_cons_succ]
  refine take_held 14 HS1 rfl (by kernel_rfl) (by kernel_rfl) (by kernel_rfl) (fun _ _ _ h => h) (by kernel_rfl) (v := .pointer (some ⟨g, k * 21, none⟩)) ?y715 ?r715
  case y715 => (intro u hu; go_simp; try rfl)
  simp only [Act.put, List.setIfInBounds_toArray, List.set_cons_zero, List.set_cons_succ]
  refine take_held 15 HS1 rfl (by kernel_rfl) (by kernel_rfl) (by kernel_rfl) (fun _ _ _ h => h) (by kernel_rfl) (v := .bool ow) ?y716 ?r716
  case y716 => (intro u hu; exact run_load_bool (.tmp 32) rfl ⟨g, k * 21, none⟩ rfl _ (by rw [← HOW.out]; exact (HG.out.same hu.1 hu.2).on hk))
  simp only [Act.put, List.setIfInBounds_toArray, List.set_cons_zero, List.set_cons_succ]
  have hz0 : x0.heap[w.heap.size]? = some (.cells (tlA tl0) 37 (0, 0)) := by rw [sx.heap]; exact HZ.out
  have hst := run_storeVar_row (P := Try.prog) x0 w.heap.size 37 37 (tlA tl0) (tlA tw) hz0 infoTele rfl (tlA_one _)
  have q := below_row (Below.refl w.heap.size x0) (Nat.le_refl _) (tlA tw)
  have HS2 : (x0.setRow w.heap.size (tlA tw)).heap[r]? = w1.heap[r]? ∧ (x0.setRow w.heap.size (tlA tw)).heap[g]? = w1.heap[g]? := ⟨(q.block _ lr).trans HS1.1, (q.block _ lg).trans HS1.2⟩
  refine store_held 16 rfl (by kernel_rfl) (by kernel_rfl) (x0.setRow w.heap.size (tlA tw)) (run_store_op 37 (.tmp 4) (.tmp 25) rfl w.heap.size (tlA tw) rfl rfl hst) HS2 ?_
  simp only [Act.put, List.setIfInBounds_toArray, List.set_cons_zero, List.set_cons_succ]
  refine take_held 17 HS2 rfl (by kernel_rfl) (by kernel_rfl) (by kernel_rfl) (fun _ _ _ h => h) (by kernel_rfl) (v := ?v717) ?y717 ?r717
  case y717 => (intro u hu; go_simp; try rfl)
  simp only [Act.put, List.setIfInBounds_toArray, List.set_cons_zero, List.set_cons_succ]
  refine done_held (by kernel_rfl) ?_ _
  have HE : Hid (Below w.heap.size w (x0.setRow w.heap.size (tlA tw))) := below_row (HB.out.trans ⟨sx.os, sx.tape, sx.output, by rw [sx.heap]; exact Nat.le_refl _, fun k _ => by rw [sx.heap]⟩) (Nat.le_refl _) _
  have HZ2 := setRow_heap _ _ _ (tlA tw) _ _ hz0
  clear HS1 HS2 sx q hst
  go_wp2_with fail
  exact bodyPost_ret (results_cell_tmp Try.results23 _ _ w.heap.size _ rfl (load_tele HZ2)) rfl ⟨rfl, HE.out⟩
set_option maxHeartbeats 1000000 in
theorem rclear_any {w : World} {r g N : Nat} {rsd : Int} {M : Mp} (G : RAt w r g N rsd M) (hN : N ≤ 8) : Calls Try.prog 21 #[.pointer (some ⟨r, 0, none⟩)] w fun e w' => e = .returned (.tuple #[]) ∧ RAt w' r w.heap.size N rsd (fun _ => none) ∧ w.grownBy w' (some r) := by
  have g0 := ref_c0 G.at_
  have lr : r < w.heap.size := G.rlt
  have hm := run_rows N hN w
  obtain ⟨x1, hx1⟩ : ∃ x1, x1 = w.alloc (.cells (zW N) 66) := ⟨_, rfl⟩
  have r1 := rows_at w N 66
  rw [← hx1] at hm r1
  have s1 : x1.heap.size = w.heap.size + 1 := by rw [hx1]; simp
  have b1 : Below w.heap.size w x1 := by rw [hx1]; exact (Below.refl _ _).alloc (Nat.le_refl _) _
  have h1 := (b1.block r lr).trans G.at_
  have c1 := ref_c0 h1
  have f1 := thaw (j := 0) h1
  have HE : Hid (RAt (x1.setCell ⟨r, 0, none⟩ (.slice (some ⟨w.heap.size, 0, none⟩) N N)) r w.heap.size N rsd (fun _ => none) ∧ w.grownBy (x1.setCell ⟨r, 0, none⟩ (.slice (some ⟨w.heap.size, 0, none⟩) N N)) (some r)) := by
    have e2 : ∀ b, b ≠ r → (x1.setCell ⟨r, 0, none⟩ (.slice (some ⟨w.heap.size, 0, none⟩) N N)).heap[b]? = x1.heap[b]? := fun b hb => RowKit.Below.heap_setCell _ _ _ _ hb
    have e3 := e2 w.heap.size (by omega)
    have ss : (x1.setCell ⟨r, 0, none⟩ (.slice (some ⟨w.heap.size, 0, none⟩) N N)).heap.size = x1.heap.size := by simp [World.setCell]
    refine ⟨⟨?_, fun i hi j v hv => (cell_same e3).trans (r1.1 i hi j v hv), fun i hi j hj => ⟨by rw [cell_same e3]; exact (r1.2 i hi j hj).1, by rw [frozen_same e3]; exact (r1.2 i hi j hj).2⟩, by omega, by omega⟩, ⟨b1.os, b1.tape, b1.output, by omega, fun i hi hr => (e2 i (fun e => hr (by rw [e]))).trans (b1.block i hi)⟩⟩
    rw [heap_setCell_same _ _ _ _ h1]
    rfl
  clear hx1 r1 b1 G h1
  go_enter Try.func21, Try.ntmps21
  go_wp2
  go_end0
  exact ⟨rfl, HE.out.1, HE.out.2⟩
set_option maxRecDepth 100000 in
set_option maxHeartbeats 2000000 in
theorem sameTeles_any {w : World} {B1 B2 : Nat} {v1 v2 : Value} {l : List Tl} (O1 : Own w B1 v1 l) (O2 : Own w B2 v2 l) (hl : l.length ≤ 1000000) : Calls Try.prog 17 #[v1, v2] w fun e w' => e = .returned (.bool true) ∧ Below w.heap.size w w' := by
  obtain ⟨n, hn⟩ : ∃ n, l.length = n := ⟨_, rfl⟩
  have HN : Hid (l.length = n) := hn
  obtain ⟨a1, c1, rfl⟩ := own_slice O1 hn
  obtain ⟨a2, c2, rfl⟩ := own_slice O2 hn
  have H1 : Hid (Own w B1 (.slice a1 n c1) l) := O1
  have H2 : Hid (Own w B2 (.slice a2 n c2) l) := O2
  have hln : n ≤ 1000000 := by omega
  clear hn O1 O2 hl
  go_enter Try.func17, Try.ntmps17
  go_wp2_with fail
  go_loopw [5] (fun c wr => ∃ k : Nat, c = .int .i64 k ∧ k ≤ n ∧ Below w.heap.size w wr) (fun c _ => n - (intOf c).toNat)
  case atStart => exact ⟨0, rfl, by omega, Below.refl _ _⟩
  case round =>
    obtain ⟨k, rfl, hk, bw⟩ := hrel
    by_cases hlt : k < n
    · have h3 : (k : Int) < (n : Int) := by omega
      have hk' : k < l.length := by rw [HN.out]; exact hlt
      obtain ⟨ga, ca, e1, l1, ld1⟩ := own_item H1.out HN.out hk'
      obtain ⟨gb, cb, e2, l2, ld2⟩ := own_item H2.out HN.out hk'
      simp only [Value.slice.injEq, true_and] at e1 e2
      obtain ⟨rfl, rfl⟩ := e1
      obtain ⟨rfl, rfl⟩ := e2
      have hb1 := bw.block ga l1
      have hb2 := bw.block gb l2
      obtain ⟨tw, htw⟩ : ∃ tw, l[k]'hk' = tw := ⟨_, rfl⟩
      rw [htw] at ld1 ld2
      have HB : Hid (Below w.heap.size w wr) := bw
      clear bw
      go_wp2_with fail
      refine start_any (S := fun u => u.heap[ga]? = wr.heap[ga]? ∧ u.heap[gb]? = wr.heap[gb]?) 9 rfl (by kernel_rfl) (fun u su => ⟨by rw [su.heap], by rw [su.heap]⟩) ?_
      intro x0 sx
      have HS1 : x0.heap[ga]? = wr.heap[ga]? ∧ x0.heap[gb]? = wr.heap[gb]? := ⟨by rw [sx.heap], by rw [sx.heap]⟩
      simp only [Array.replicate_succ, Array.replicate_zero, List.push_toArray, List.nil_append, List.cons_append]
      refine take_held 0 HS1 rfl (by kernel_rfl) (by kernel_rfl) (by kernel_rfl) (fun _ _ _ h => h) (by kernel_rfl) (v := ?v718) ?y718 ?r718
      case y718 => (intro u hu; go_simp; try rfl)
      simp only [Act.put, List.setIfInBounds_toArray, List.set_cons_zero, List.set_cons_succ]
      refine take_held 1 HS1 rfl (by kernel_rfl) (by kernel_rfl) (by kernel_rfl) (fun _ _ _ h => h) (by kernel_rfl) (v := ?v719) ?y719 ?r719
      case y719 => (intro u hu; go_simp; try rfl)
      simp only [Act.put, List.setIfInBounds_toArray, List.set_cons_zero, List.set_cons_succ]
      refine take_held 2 HS1 rfl (by kernel_rfl) (by kernel_rfl) (by kernel_rfl) (fun _ _ _ h => h) (by kernel_rfl) (v := .pointer (some ⟨ga, k * 19, none⟩)) ?y720 ?r720
      case y720 => (intro u hu; go_simp; try rfl)
      simp only [Act.put, List.setIfInBounds_toArray, List.set_cons_zero, List.set_cons_succ]
      refine take_held 3 HS1 rfl (by kernel_rfl) (by kernel_rfl) (by kernel_rfl) (fun _ _ _ h => h) (by kernel_rfl) (v := .agg (tlA tw)) ?y721 ?r721
      case y721 => (intro u hu; exact run_load_at 37 (.tmp 19) rfl ⟨ga, k * 19, none⟩ rfl _ (ld1 u (hu.1.trans hb1)))
      simp only [Act.put, List.setIfInBounds_toArray, List.set_cons_zero, List.set_cons_succ]
      refine take_held 4 HS1 rfl (by kernel_rfl) (by kernel_rfl) (by kernel_rfl) (fun _ _ _ h => h) (by kernel_rfl) (v := ?v722) ?y722 ?r722
      case y722 => (intro u hu; go_simp; try rfl)
      simp only [Act.put, List.setIfInBounds_toArray, List.set_cons_zero, List.set_cons_succ]
      refine take_held 5 HS1 rfl (by kernel_rfl) (by kernel_rfl) (by kernel_rfl) (fun _ _ _ h => h) (by kernel_rfl) (v := ?v723) ?y723 ?r723
      case y723 => (intro u hu; go_simp; try rfl)
      simp only [Act.put, List.setIfInBounds_toArray, List.set_cons_zero, List.set_cons_succ]
      refine take_held 6 HS1 rfl (by kernel_rfl) (by kernel_rfl) (by kernel_rfl) (fun _ _ _ h => h) (by kernel_rfl) (v := .pointer (some ⟨gb, k * 19, none⟩)) ?y724 ?r724
      case y724 => (intro u hu; go_simp; try rfl)
      simp only [Act.put, List.setIfInBounds_toArray, List.set_cons_zero, List.set_cons_succ]
      refine take_held 7 HS1 rfl (by kernel_rfl) (by kernel_rfl) (by kernel_rfl) (fun _ _ _ h => h) (by kernel_rfl) (v := .agg (tlA tw)) ?y725 ?r725
      case y725 => (intro u hu; exact run_load_at 37 (.tmp 23) rfl ⟨gb, k * 19, none⟩ rfl _ (ld2 u (hu.2.trans hb2)))
      simp only [Act.put, List.setIfInBounds_toArray, List.set_cons_zero, List.set_cons_succ]
      refine take_held 8 HS1 rfl (by kernel_rfl) (by kernel_rfl) (by kernel_rfl) (fun _ _ _ h => h) (by kernel_rfl) (v := .bool false) ?y726 ?r726
      case y726 => (intro u hu; exact run_neq_tele _ (.tmp 20) (.tmp 24) rfl tw rfl rfl)
      simp only [Act.put, List.setIfInBounds_toArray, List.set_cons_zero, List.set_cons_succ]
      refine done_held (by kernel_rfl) ?_ _
      go_wp2
      go_roundw
      case rel => exact ⟨k + 1, by go_num, by omega, HB.out.trans (sx.below _)⟩
      case measure => simp [intOf]; omega
    · obtain rfl : k = n := by omega
      have h3 : ¬ (k : Int) < (k : Int) := by omega
      go_wp2
      go_ret
      exact ⟨rfl, bw⟩
end Go.Proofs.Ytjladfpfhhnagaa.Lk
