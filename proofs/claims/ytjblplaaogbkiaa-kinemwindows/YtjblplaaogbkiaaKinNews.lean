/-
  The chapter's own Brake; which numbers may be; how far a robot goes until it can stand.
-/
import Derived.Test.YtjblplaaogbkiaaKinAwake
namespace Go.Proofs.Ytjblplaaogbkiaa.Kin
set_option linter.unusedVariables false
set_option linter.unusedSimpArgs false
open Go Go.RowKit Go.Shelf Go.Proofs
attribute [local go_sem] Oper.semAt_some

set_option maxHeartbeats 2000000 in
/- The chapter's brake, of a speed that is not too great. -/
theorem refbrake_any (u a v s : Nat) (w : World) (ha : 1 ≤ a) (ha2 : a ≤ 1000) (hs : s ≤ 1000) :
    Calls Try.prog 34 #[.agg #[.int .i64 u, .int .i64 a, .int .i64 v], .int .i64 s] w fun e w' => e = .returned (.int .i64 (brk a s : Nat)) ∧ Below w.heap.size w w' := by
  have HB : Hid (∀ t, t ≤ s → brk a t ≤ 1000000) := fun t ht => by have := brk_bound ha (show t ≤ 1000 by omega); omega
  have bb : Below w.heap.size w (w.alloc (.cells #[.int .i64 u, .int .i64 a, .int .i64 v] 24)) := (Below.refl _ _).alloc (Nat.le_refl _) _
  go_enter Try.func34, Try.ntmps34
  go_wp2
  go_loop [1, 5] (fun sl far => ∃ t f : Nat, t ≤ s ∧ Hid (f + brk a t = brk a s) ∧ far = .int .i64 f ∧ sl = .int .i64 ((t : Int) - a)) (fun sl _ => (intOf sl).toNat)
  case atStart => exact ⟨s, 0, Nat.le_refl _, Nat.zero_add _, rfl, rfl⟩
  case round =>
    obtain ⟨t, f, ht, hf, rfl, rfl⟩ := hrel
    have hB := HB.out t ht
    have hB0 := HB.out s (Nat.le_refl _)
    have hfb : f ≤ 1000000 := by have := hf.out; omega
    clear hB hB0 HB
    by_cases hlt : a < t
    · have HS : Hid (brk a t = (t - a) + brk a (t - a)) := brk_big ha hlt
      go_wp2
      go_round
      case rel => exact ⟨t - a, f + (t - a), by omega, by have := HS.out; have := hf.out; unfold Hid; omega, by go_num, by go_num⟩
      case measure => simp [intOf]; omega
    · have hs0 : Hid (brk a t = 0) := brk_small (by omega)
      go_wp2
      go_ret
      exact ⟨ret_int (by have := hs0.out; have := hf.out; omega), bb⟩
set_option maxHeartbeats 2000000 in
theorem refBrake_any (u a v : Nat) (s : Int) (w : World) (ok : Ok u a v) :
    Calls Try.prog 16 #[.agg #[.int .i64 u, .int .i64 a, .int .i64 v], .int .i64 s] w fun e w' => e = .returned (.int .i64 (brk a (cutS s v) : Nat)) ∧ Below w.heap.size w w' := by
  have hc := cutS_le s v
  have v2 := ok.v2
  have cB := fun w1 => refbrake_any u a v (cutS s v) w1 ok.a1 ok.a2 (by omega)
  have bb : Below w.heap.size w (w.alloc (.cells #[.int .i64 u, .int .i64 a, .int .i64 v] 24)) := (Below.refl _ _).alloc (Nat.le_refl _) _
  clear ok
  by_cases h1 : s < 0
  · have e : ((cutS s v : Nat) : Int) = 0 := by unfold cutS; omega
    rw [e] at cB
    have hv : ¬ ((v : Int) < 0) := by omega
    go_enter Try.func16, Try.ntmps16
    go_wp2_with (go_at_call 34; refine (cB _).mono ?_; rintro e w1 ⟨rfl, b1⟩)
    go_ret
    exact ⟨rfl, bb.trans (b1.mono bb.size)⟩
  · by_cases h2 : (v : Int) < s
    · have e : ((cutS s v : Nat) : Int) = v := by unfold cutS; omega
      rw [e] at cB
      go_enter Try.func16, Try.ntmps16
      go_wp2_with (go_at_call 34; refine (cB _).mono ?_; rintro e w1 ⟨rfl, b1⟩)
      go_ret
      exact ⟨rfl, bb.trans (b1.mono bb.size)⟩
    · have e : ((cutS s v : Nat) : Int) = s := by unfold cutS; omega
      rw [e] at cB
      go_enter Try.func16, Try.ntmps16
      go_wp2_with (go_at_call 34; refine (cB _).mono ?_; rintro e w1 ⟨rfl, b1⟩)
      go_ret
      exact ⟨rfl, bb.trans (b1.mono bb.size)⟩
set_option maxRecDepth 100000 in
set_option maxHeartbeats 4000000 in
theorem made_no (u a v : Int) (bad : badN u a v) (w : World) : Calls Try.prog 13 #[.int .i64 u, .int .i64 a, .int .i64 v] w fun e w' => e = .returned (.tuple #[.pointer none, .agg #[.int .i64 u, .int .i64 a, .int .i64 v], .bool true]) ∧ Below w.heap.size w w' := by
  have cN := fun w1 => new_no u a v bad w1
  have cM := fun w1 => may_no u a v bad w1
  clear bad
  have hnot : ∀ (x : Bool) (w : World), (Op.unary .not (.bool x)).run Try.prog w = .ok (.bool (!x)) w := fun _ _ => rfl
  go_enter Try.func13, Try.ntmps13
  go_wp2_with (first | (go_at_call 32; refine (cN _).mono ?_; rintro e w1 ⟨rfl, b1⟩) | (go_at_call 33; refine (cM _).mono ?_; rintro e w2 ⟨rfl, b2⟩))
  have sA : (w.alloc (.cells #[.int .i64 0, .int .i64 0, .int .i64 0] 24)).heap.size = w.heap.size + 1 := by simp
  have bA : Below w.heap.size w w1 := ((Below.refl _ _).alloc (Nat.le_refl _) _).trans (b1.mono (by rw [sA]; omega))
  have b12 : Below w1.heap.size w1 w2 := ((Below.refl _ _).alloc (Nat.le_refl _) _).trans (b2.mono (by simp))
  have hC : w2.heap[w1.heap.size]? = some (.cells #[.int .i64 u, .int .i64 a, .int .i64 v] 24 (0, 0)) := (b2.block _ (by simp)).trans (World.alloc_heap_new _ _)
  have hR : w2.heap[w.heap.size]? = some (.cells #[.int .i64 0, .int .i64 0, .int .i64 0] 24 (0, 0)) := (b12.block _ (by have := b1.size; omega)).trans ((b1.block _ (by rw [sA]; omega)).trans (World.alloc_heap_new _ _))
  have z1 := b1.size
  rw [sA] at z1
  clear b1 b2
  obtain ⟨IR, hIR⟩ : ∃ I : World → Prop, I = fun z => z.heap[w1.heap.size]? = some (.cells #[.int .i64 u, .int .i64 a, .int .i64 v] 24 (0, 0)) := ⟨_, rfl⟩
  have R0 : ∀ z, IR z → z.cell? ⟨w1.heap.size, 0, none⟩ = some (.int .i64 u) := fun z hz => by rw [hIR] at hz; exact cell_of hz 0
  have R1 : ∀ z, IR z → z.cell? ⟨w1.heap.size, 1, none⟩ = some (.int .i64 a) := fun z hz => by rw [hIR] at hz; exact cell_of hz 1
  have R2 : ∀ z, IR z → z.cell? ⟨w1.heap.size, 2, none⟩ = some (.int .i64 v) := fun z hz => by rw [hIR] at hz; exact cell_of hz 2
  have hSR : IR w2.drew := by rw [hIR]; exact hC
  have c0 : w2.cell? ⟨w.heap.size, 0, none⟩ = some (.int .i64 0) := cell_of hR 0
  have c1 : w2.cell? ⟨w.heap.size, 1, none⟩ = some (.int .i64 0) := cell_of hR 1
  have c2 : w2.cell? ⟨w.heap.size, 2, none⟩ = some (.int .i64 0) := cell_of hR 2
  have f0 := frozen_of hR
  obtain ⟨W9, hW9⟩ : ∃ W9, ((w2.drew.setCell ⟨w.heap.size, 0, none⟩ (.int .i64 u)).setCell ⟨w.heap.size, 1, none⟩ (.int .i64 a)).setCell ⟨w.heap.size, 2, none⟩ (.int .i64 v) = W9 := ⟨_, rfl⟩
  have same9 : ∀ k, k ≠ w.heap.size → W9.heap[k]? = w2.heap[k]? := fun k hk => by rw [← hW9]; exact (Below.heap_setCell _ _ _ k hk).trans ((Below.heap_setCell _ _ _ k hk).trans (Below.heap_setCell _ _ _ k hk))
  have d0 : W9.cell? ⟨w.heap.size, 0, none⟩ = some (.int .i64 u) := by rw [← hW9]; exact (World.cell?_setCell_other _ _ _ _ (by simp)).trans ((World.cell?_setCell_other _ _ _ _ (by simp)).trans (World.cell?_setCell_same _ _ _ (u := .int .i64 0) c0))
  have d1 : W9.cell? ⟨w.heap.size, 1, none⟩ = some (.int .i64 a) := by rw [← hW9]; exact (World.cell?_setCell_other _ _ _ _ (by simp)).trans (World.cell?_setCell_same _ _ _ (u := .int .i64 0) ((World.cell?_setCell_other _ _ _ _ (by simp)).trans c1))
  have d2 : W9.cell? ⟨w.heap.size, 2, none⟩ = some (.int .i64 v) := by rw [← hW9]; exact World.cell?_setCell_same _ _ _ (u := .int .i64 0) ((World.cell?_setCell_other _ _ _ _ (by simp)).trans ((World.cell?_setCell_other _ _ _ _ (by simp)).trans c2))
  have z2 := b12.size
  have hS9 : IR W9 := by rw [hIR]; exact (same9 _ (by omega)).trans hC
  have b29 : Below w.heap.size w W9 := by rw [← hW9]; exact (((bA.trans (b12.mono (by omega))).drew.setCell (p := ⟨w.heap.size, 0, none⟩) (Nat.le_refl _) _).setCell (p := ⟨w.heap.size, 1, none⟩) (Nat.le_refl _) _).setCell (p := ⟨w.heap.size, 2, none⟩) (Nat.le_refl _) _
  refine start_held (S := IR) 10 rfl (by kernel_rfl) (hSR) ?_
  simp only [Array.replicate_succ, Array.replicate_zero, List.push_toArray, List.nil_append, List.cons_append]
  refine take_held 0 (by assumption) rfl (by kernel_rfl) (by kernel_rfl) (by kernel_rfl) (fun _ _ _ h => h) (by kernel_rfl) (v := ?v0) ?y0 ?r0
  case y0 => (intro z hz; have zz0 := R0 z hz; have zz1 := R1 z hz; have zz2 := R2 z hz; go_simp; try rfl)
  simp only [Act.put, List.setIfInBounds_toArray, List.set_cons_zero, List.set_cons_succ]
  refine take_held 1 (by assumption) rfl (by kernel_rfl) (by kernel_rfl) (by kernel_rfl) (fun _ _ _ h => h) (by kernel_rfl) (v := ?v1) ?y1 ?r1
  case y1 => (intro u hu; go_simp; try rfl)
  simp only [Act.put, List.setIfInBounds_toArray, List.set_cons_zero, List.set_cons_succ]
  refine take_held 2 (by assumption) rfl (by kernel_rfl) (by kernel_rfl) (by kernel_rfl) (fun _ _ _ h => h) (by kernel_rfl) (v := ?v2) ?y2 ?r2
  case y2 => (intro u hu; go_simp; try rfl)
  simp only [Act.put, List.setIfInBounds_toArray, List.set_cons_zero, List.set_cons_succ]
  refine take_held 3 (by assumption) rfl (by kernel_rfl) (by kernel_rfl) (by kernel_rfl) (fun _ _ _ h => h) (by kernel_rfl) (v := ?v3) ?y3 ?r3
  case y3 => (intro u hu; go_simp; try rfl)
  simp only [Act.put, List.setIfInBounds_toArray, List.set_cons_zero, List.set_cons_succ]
  refine take_held 4 (by assumption) rfl (by kernel_rfl) (by kernel_rfl) (by kernel_rfl) (fun _ _ _ h => h) (by kernel_rfl) (v := ?v4) ?y4 ?r4
  case y4 => (intro u hu; go_simp; try rfl)
  simp only [Act.put, List.setIfInBounds_toArray, List.set_cons_zero, List.set_cons_succ]
  refine take_held 5 (by assumption) rfl (by kernel_rfl) (by kernel_rfl) (by kernel_rfl) (fun _ _ _ h => h) (by kernel_rfl) (v := ?v5) ?y5 ?r5
  case y5 => (intro u hu; go_simp; try rfl)
  simp only [Act.put, List.setIfInBounds_toArray, List.set_cons_zero, List.set_cons_succ]
  refine take_held 6 (by assumption) rfl (by kernel_rfl) (by kernel_rfl) (by kernel_rfl) (fun _ _ _ h => h) (by kernel_rfl) (v := ?v6) ?y6 ?r6
  case y6 => (intro u hu; go_simp; try rfl)
  simp only [Act.put, List.setIfInBounds_toArray, List.set_cons_zero, List.set_cons_succ]
  refine take_held 7 (by assumption) rfl (by kernel_rfl) (by kernel_rfl) (by kernel_rfl) (fun _ _ _ h => h) (by kernel_rfl) (v := ?v7) ?y7 ?r7
  case y7 => (intro u hu; go_simp; try rfl)
  simp only [Act.put, List.setIfInBounds_toArray, List.set_cons_zero, List.set_cons_succ]
  refine wpAnyH_ready (rs := [8]) (by kernel_rfl) (by simp) (AllReadyH.cons ((nth_eq _ 8).trans rfl) ?_ AllReadyH.nil)
  intro K' hK
  refine skip_in hK (by kernel_rfl) W9 (by rw [← hW9]; clear hW9; go_simp; try rfl) hS9 ?_
  simp only [Act.put, List.setIfInBounds_toArray, List.set_cons_zero, List.set_cons_succ]
  refine take_held 9 (by assumption) rfl (by kernel_rfl) (by kernel_rfl) (by kernel_rfl) (fun _ _ _ h => h) (by kernel_rfl) (v := ?v8) ?y8 ?r8
  case y8 => (intro u hu; go_simp; try rfl)
  simp only [Act.put, List.setIfInBounds_toArray, List.set_cons_zero, List.set_cons_succ]
  refine done_held (by kernel_rfl) ?_ _
  clear hW9
  go_wp2
  exact bodyPost_ret (v := .tuple #[.pointer none, .agg #[.int .i64 u, .int .i64 a, .int .i64 v], .bool true]) (by simp [results, Try.results13, go_sem, d0, d1, d2]) rfl ⟨rfl, b29⟩
set_option maxRecDepth 100000 in
set_option maxHeartbeats 4000000 in
theorem news_all (u a v s : Int) (w : World) : Calls Try.prog 3 #[.int .i64 u, .int .i64 a, .int .i64 v, .int .i64 s] w fun e w' => e = .returned (.bool true) ∧ Below w.heap.size w w' := by
  have hnot : ∀ (x : Bool) (w : World), (Op.unary .not (.bool x)).run Try.prog w = .ok (.bool (!x)) w := fun _ _ => rfl
  by_cases bad : badN u a v
  · have cM := made_no u a v bad w
    clear bad
    go_enter Try.func3, Try.ntmps3
    go_wp2_with (first | (go_at_call 13; refine cM.mono ?_; rintro e w1 ⟨rfl, b1⟩) | (go_at_call 14; refine (awake_any _).mono ?_; rintro e wz ⟨rfl, bz⟩))
    go_ret
    exact ⟨rfl, (b1.alloc b1.size _).trans (bz.mono (by have := b1.size; simp; omega))⟩
  · unfold badN at bad
    obtain ⟨U, rfl⟩ := Int.eq_ofNat_of_zero_le (show 0 ≤ u by omega)
    obtain ⟨A, rfl⟩ := Int.eq_ofNat_of_zero_le (show 0 ≤ a by omega)
    obtain ⟨V, rfl⟩ := Int.eq_ofNat_of_zero_le (show 0 ≤ v by omega)
    have ok : Ok U A V := ⟨by omega, by omega, by omega, by omega, by omega, by omega⟩
    have cM := made_yes U A V ok w
    clear bad
    go_enter Try.func3, Try.ntmps3
    go_wp2_with (first | (go_at_call 13; refine cM.mono ?_; rintro e w1 ⟨g, rfl, hg, k1, b1⟩))
    obtain ⟨w2, hw2⟩ : ∃ w2, w1.alloc (.cells #[.int .i64 U, .int .i64 A, .int .i64 V] 24) = w2 := ⟨_, rfl⟩
    have b12 : Below w1.heap.size w1 w2 := by rw [← hw2]; exact (Below.refl _ _).alloc (Nat.le_refl _) _
    have hC : w2.heap[w1.heap.size]? = some (.cells #[.int .i64 U, .int .i64 A, .int .i64 V] 24 (0, 0)) := by rw [← hw2]; exact World.alloc_heap_new _ _
    have k2 := k1.go b12
    try rw [hw2]
    clear hw2
    have lt2 : w1.heap.size < w2.heap.size := (Array.getElem?_eq_some_iff.1 hC).1
    have cz : ∀ (z : Cls (fun w' => Below w2.heap.size w2 w')) (o : Nat), z.w.cell? ⟨w1.heap.size, o, none⟩ = w2.cell? ⟨w1.heap.size, o, none⟩ := fun z o => cell_same (z.h.block _ lt2)
    have c0 : ∀ (z : Cls (fun w' => Below w2.heap.size w2 w')), z.w.cell? ⟨w1.heap.size, 0, none⟩ = some (.int .i64 U) := fun z => (cz z 0).trans (cell_of hC 0)
    have c1 : ∀ (z : Cls (fun w' => Below w2.heap.size w2 w')), z.w.cell? ⟨w1.heap.size, 1, none⟩ = some (.int .i64 A) := fun z => (cz z 1).trans (cell_of hC 1)
    have c2 : ∀ (z : Cls (fun w' => Below w2.heap.size w2 w')), z.w.cell? ⟨w1.heap.size, 2, none⟩ = some (.int .i64 V) := fun z => (cz z 2).trans (cell_of hC 2)
    have cB := fun (z : World) (hz : Below w2.heap.size w2 z) => brake_any g U A V s z (k2.nums.go hz) ok.a1 ok.a2 ok.v2
    have cR := fun (z : World) => refBrake_any U A V s z ok
    have ne : Nonempty (Cls (fun w' => Below w2.heap.size w2 w')) := ⟨⟨w2, Below.refl _ _⟩⟩
    clear cz
    generalize brk A (cutS s V) = B at *
    refine wp_region_cls (fun w' => Below w2.heap.size w2 w') (by kernel_rfl) (by kernel_rfl) (Below.refl _ _).drew ?_
    repeat (go_big_quiet_step (first | (go_at_call 15; exact cls_call (cB _ (Cls.h _)) (fun w' hw => bcat (Cls.h _) hw)) | (go_at_call 16; exact cls_call (cR _) (fun w' hw => bcat (Cls.h _) hw)) | (go_at_call 14; exact cls_call (awake_any _) (fun w' hw => bcat (Cls.h _) hw))))
    refine wpQuiet_nil ?_
    rintro z ⟨⟨_, bz⟩, rfl⟩
    clear c0 c1 c2 ne
    go_wp2
    go_ret
    exact ⟨rfl, b1.trans ((b12.trans (bz.mono b12.size)).mono b1.size)⟩
end Go.Proofs.Ytjblplaaogbkiaa.Kin
