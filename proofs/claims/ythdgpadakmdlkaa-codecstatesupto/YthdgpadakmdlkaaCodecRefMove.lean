/-
  The chapter's own answer: a move that its reader reads.
-/
import Derived.Test.YthdgpadakmdlkaaCodecRefThing
namespace Go.Proofs.Ythdgpadakmdlkaa.Codec
set_option linter.unusedVariables false
set_option linter.unusedSimpArgs false
open Go Go.RowKit

theorem zMove3 : (Try.prog.info? 42).map (·.size) = some 11 := by kernel_rfl
set_option maxRecDepth 100000 in
set_option maxHeartbeats 4000000 in
theorem move_one (w : World) (R : Nat) (a : Option Addr) (cap : Nat) (zs : List Int) (k : Nat) (bad : Bool) (h : RR w R a cap zs k bad) :
    Calls Try.prog 42 #[.pointer (some ⟨R, 0, none⟩)] w fun e w' => w.grownBy w' (some R) ∧ ∃ (x0 : Int) (x1 : Int) (x2 : Int) (x3 : Int) (x4 : Int) (x5 : Bool) (x6 : Int) (x7 : Int) (x8 : Bool) (x9 : Int) (x10 : Int) (k' : Nat) (bad' : Bool), e = .returned (.agg #[.int .i64 x0, .int .i64 x1, .int .i64 x2, .int .i64 x3, .int .i64 x4, .bool x5, .int .i64 x6, .int .i64 x7, .bool x8, .int .i64 x9, .int .i64 x10]) ∧ RR w' R a cap zs k' bad' ∧ Rd1 cMove zs k bad (x0, x1, x2, ((x3, x4), x5), ((x6, x7), x8), x9, x10) k' bad' := by
  have hR := h.lt
  obtain ⟨wc, hwc⟩ : ∃ wc, wc = (w.alloc (.cells #[.int .i64 0, .int .i64 0, .int .i64 0, .int .i64 0, .int .i64 0, .bool false, .int .i64 0, .int .i64 0, .bool false, .int .i64 0, .int .i64 0] 42)).alloc (.cells #[.int .i64 0, .int .i64 0, .int .i64 0, .int .i64 0, .int .i64 0, .bool false, .int .i64 0, .int .i64 0, .bool false, .int .i64 0, .int .i64 0] 42) := ⟨_, rfl⟩
  have hS0 : Ob w R w.heap.size (w.heap.size + 1) 42 #[.int .i64 0, .int .i64 0, .int .i64 0, .int .i64 0, .int .i64 0, .bool false, .int .i64 0, .int .i64 0, .bool false, .int .i64 0, .int .i64 0] a cap zs wc #[.int .i64 0, .int .i64 0, .int .i64 0, .int .i64 0, .int .i64 0, .bool false, .int .i64 0, .int .i64 0, .bool false, .int .i64 0, .int .i64 0] k bad := by
    have b1 : Below w.heap.size w (w.alloc (.cells #[.int .i64 0, .int .i64 0, .int .i64 0, .int .i64 0, .int .i64 0, .bool false, .int .i64 0, .int .i64 0, .bool false, .int .i64 0, .int .i64 0] 42)) := (Below.refl _ _).alloc (Nat.le_refl _) _
    rw [hwc]
    refine ⟨(World.grownBy_alloc _ _ _).trans (World.grownBy_alloc _ _ _), h.same (b1.alloc (by simp) _), ?_, ?_, Nat.le_refl _, by omega, by omega, by omega, by omega, fun x hx hn => h.row.lt x hx hn⟩
    · rw [alloc_old _ _ _ (by simp)]
      exact heap_alloc_new _ _
    · have := heap_alloc_new (w.alloc (.cells #[.int .i64 0, .int .i64 0, .int .i64 0, .int .i64 0, .int .i64 0, .bool false, .int .i64 0, .int .i64 0, .bool false, .int .i64 0, .int .i64 0] 42)) (.cells #[.int .i64 0, .int .i64 0, .int .i64 0, .int .i64 0, .int .i64 0, .bool false, .int .i64 0, .int .i64 0, .bool false, .int .i64 0, .int .i64 0] 42)
      simp only [World.size_alloc] at this
      exact this
  go_enter Try.func42, Try.ntmps42
  go_upto_region 2 with fail
  rw [← hwc]
  clear hwc h
  have cN := num_one _ _ _ _ _ _ _ hS0.rr
  go_cut [6] (fun v wx => ∃ (x0 : Int) (k1 : Nat) (b1 : Bool), Ob w R w.heap.size (w.heap.size + 1) 42 #[.int .i64 0, .int .i64 0, .int .i64 0, .int .i64 0, .int .i64 0, .bool false, .int .i64 0, .int .i64 0, .bool false, .int .i64 0, .int .i64 0] a cap zs wx #[.int .i64 x0, .int .i64 0, .int .i64 0, .int .i64 0, .int .i64 0, .bool false, .int .i64 0, .int .i64 0, .bool false, .int .i64 0, .int .i64 0] k1 b1 ∧ Rd1 cNum zs k bad x0 k1 b1)
  case first =>
    go_wp2_with (first
      | (go_at_call 27; refine cN.mono ?_; rintro e1 w1 ⟨g1, y0, k1', b1', rfl, r1, s1⟩; have hs1 := Ob.kept hS0 g1 r1; have hcl := hs1.cell 0 _ rfl; have hcl1 := hcl.1; have hcl2 := hcl.2))
    go_meet
    exact ⟨y0, k1', b1', hs1.put 0 _ _ rfl, s1⟩
  case rest =>
  obtain ⟨x0, k1, b1, hS1, st0⟩ := hcut
  clear cN hS0
  go_upto_region 3 with fail
  have cN := num_one _ _ _ _ _ _ _ hS1.rr
  go_cut [9] (fun v wx => ∃ (x1 : Int) (k2 : Nat) (b2 : Bool), Ob w R w.heap.size (w.heap.size + 1) 42 #[.int .i64 0, .int .i64 0, .int .i64 0, .int .i64 0, .int .i64 0, .bool false, .int .i64 0, .int .i64 0, .bool false, .int .i64 0, .int .i64 0] a cap zs wx #[.int .i64 x0, .int .i64 x1, .int .i64 0, .int .i64 0, .int .i64 0, .bool false, .int .i64 0, .int .i64 0, .bool false, .int .i64 0, .int .i64 0] k2 b2 ∧ Rd1 cNum zs k1 b1 x1 k2 b2)
  case first =>
    go_wp2_with (first
      | (go_at_call 27; refine cN.mono ?_; rintro e1 w1 ⟨g1, y1, k1', b1', rfl, r1, s1⟩; have hs1 := Ob.kept hS1 g1 r1; have hcl := hs1.cell 1 _ rfl; have hcl1 := hcl.1; have hcl2 := hcl.2))
    go_meet
    exact ⟨y1, k1', b1', hs1.put 1 _ _ rfl, s1⟩
  case rest =>
  obtain ⟨x1, k2, b2, hS2, st1⟩ := hcut
  clear cN hS1
  go_upto_region 4 with fail
  have cN := num_one _ _ _ _ _ _ _ hS2.rr
  go_cut [12] (fun v wx => ∃ (x2 : Int) (k3 : Nat) (b3 : Bool), Ob w R w.heap.size (w.heap.size + 1) 42 #[.int .i64 0, .int .i64 0, .int .i64 0, .int .i64 0, .int .i64 0, .bool false, .int .i64 0, .int .i64 0, .bool false, .int .i64 0, .int .i64 0] a cap zs wx #[.int .i64 x0, .int .i64 x1, .int .i64 x2, .int .i64 0, .int .i64 0, .bool false, .int .i64 0, .int .i64 0, .bool false, .int .i64 0, .int .i64 0] k3 b3 ∧ Rd1 cNum zs k2 b2 x2 k3 b3)
  case first =>
    go_wp2_with (first
      | (go_at_call 27; refine cN.mono ?_; rintro e1 w1 ⟨g1, y2, k1', b1', rfl, r1, s1⟩; have hs1 := Ob.kept hS2 g1 r1; have hcl := hs1.cell 2 _ rfl; have hcl1 := hcl.1; have hcl2 := hcl.2))
    go_meet
    exact ⟨y2, k1', b1', hs1.put 2 _ _ rfl, s1⟩
  case rest =>
  obtain ⟨x2, k3, b3, hS3, st2⟩ := hcut
  clear cN hS2
  go_upto_region 5 with fail
  have cN := pose_one _ _ _ _ _ _ _ hS3.rr
  go_cut [15] (fun v wx => ∃ (x3 : Int) (x4 : Int) (x5 : Bool) (k4 : Nat) (b4 : Bool), Ob w R w.heap.size (w.heap.size + 1) 42 #[.int .i64 0, .int .i64 0, .int .i64 0, .int .i64 0, .int .i64 0, .bool false, .int .i64 0, .int .i64 0, .bool false, .int .i64 0, .int .i64 0] a cap zs wx #[.int .i64 x0, .int .i64 x1, .int .i64 x2, .int .i64 x3, .int .i64 x4, .bool x5, .int .i64 0, .int .i64 0, .bool false, .int .i64 0, .int .i64 0] k4 b4 ∧ Rd1 cPose zs k3 b3 ((x3, x4), x5) k4 b4)
  case first =>
    go_wp2_with (first
      | (go_at_call 28; refine cN.mono ?_; rintro e1 w1 ⟨g1, y3, y4, y5, k1', b1', rfl, r1, s1⟩; have hs1 := Ob.kept hS3 g1 r1)
      | (have X' := hs1; refine wpList_store_mid rfl 25 (.tmp 16) (.tmp 15) rfl (w.heap.size + 1) 3 #[.int .i64 y3, .int .i64 y4, .bool y5] rfl rfl (hs1.there 3 3 (by simp)) zPose3 (by simp [Value.oneCell']) ?_))
    go_meet
    exact ⟨y3, y4, y5, k1', b1', Ob.puts [.int .i64 y3, .int .i64 y4, .bool y5] 3 _ _ #[.int .i64 x0, .int .i64 x1, .int .i64 x2, .int .i64 y3, .int .i64 y4, .bool y5, .int .i64 0, .int .i64 0, .bool false, .int .i64 0, .int .i64 0] hs1 (by simp only [putL, List.setIfInBounds_toArray, List.set_cons_zero, List.set_cons_succ]), s1⟩
  case rest =>
  obtain ⟨x3, x4, x5, k4, b4, hS4, st3⟩ := hcut
  clear cN hS3
  go_upto_region 6 with fail
  have cN := pose_one _ _ _ _ _ _ _ hS4.rr
  go_cut [18] (fun v wx => ∃ (x6 : Int) (x7 : Int) (x8 : Bool) (k5 : Nat) (b5 : Bool), Ob w R w.heap.size (w.heap.size + 1) 42 #[.int .i64 0, .int .i64 0, .int .i64 0, .int .i64 0, .int .i64 0, .bool false, .int .i64 0, .int .i64 0, .bool false, .int .i64 0, .int .i64 0] a cap zs wx #[.int .i64 x0, .int .i64 x1, .int .i64 x2, .int .i64 x3, .int .i64 x4, .bool x5, .int .i64 x6, .int .i64 x7, .bool x8, .int .i64 0, .int .i64 0] k5 b5 ∧ Rd1 cPose zs k4 b4 ((x6, x7), x8) k5 b5)
  case first =>
    go_wp2_with (first
      | (go_at_call 28; refine cN.mono ?_; rintro e1 w1 ⟨g1, y6, y7, y8, k1', b1', rfl, r1, s1⟩; have hs1 := Ob.kept hS4 g1 r1)
      | (have X' := hs1; refine wpList_store_mid rfl 25 (.tmp 19) (.tmp 18) rfl (w.heap.size + 1) 6 #[.int .i64 y6, .int .i64 y7, .bool y8] rfl rfl (hs1.there 6 3 (by simp)) zPose3 (by simp [Value.oneCell']) ?_))
    go_meet
    exact ⟨y6, y7, y8, k1', b1', Ob.puts [.int .i64 y6, .int .i64 y7, .bool y8] 6 _ _ #[.int .i64 x0, .int .i64 x1, .int .i64 x2, .int .i64 x3, .int .i64 x4, .bool x5, .int .i64 y6, .int .i64 y7, .bool y8, .int .i64 0, .int .i64 0] hs1 (by simp only [putL, List.setIfInBounds_toArray, List.set_cons_zero, List.set_cons_succ]), s1⟩
  case rest =>
  obtain ⟨x6, x7, x8, k5, b5, hS5, st4⟩ := hcut
  clear cN hS4
  go_upto_region 7 with fail
  have cN := num_one _ _ _ _ _ _ _ hS5.rr
  go_cut [21] (fun v wx => ∃ (x9 : Int) (k6 : Nat) (b6 : Bool), Ob w R w.heap.size (w.heap.size + 1) 42 #[.int .i64 0, .int .i64 0, .int .i64 0, .int .i64 0, .int .i64 0, .bool false, .int .i64 0, .int .i64 0, .bool false, .int .i64 0, .int .i64 0] a cap zs wx #[.int .i64 x0, .int .i64 x1, .int .i64 x2, .int .i64 x3, .int .i64 x4, .bool x5, .int .i64 x6, .int .i64 x7, .bool x8, .int .i64 x9, .int .i64 0] k6 b6 ∧ Rd1 cNum zs k5 b5 x9 k6 b6)
  case first =>
    go_wp2_with (first
      | (go_at_call 27; refine cN.mono ?_; rintro e1 w1 ⟨g1, y9, k1', b1', rfl, r1, s1⟩; have hs1 := Ob.kept hS5 g1 r1; have hcl := hs1.cell 9 _ rfl; have hcl1 := hcl.1; have hcl2 := hcl.2))
    go_meet
    exact ⟨y9, k1', b1', hs1.put 9 _ _ rfl, s1⟩
  case rest =>
  obtain ⟨x9, k6, b6, hS6, st5⟩ := hcut
  clear cN hS5
  go_upto_region 8 with fail
  have cN := num_one _ _ _ _ _ _ _ hS6.rr
  go_cut [24] (fun v wx => ∃ (x10 : Int) (k7 : Nat) (b7 : Bool), Ob w R w.heap.size (w.heap.size + 1) 42 #[.int .i64 0, .int .i64 0, .int .i64 0, .int .i64 0, .int .i64 0, .bool false, .int .i64 0, .int .i64 0, .bool false, .int .i64 0, .int .i64 0] a cap zs wx #[.int .i64 x0, .int .i64 x1, .int .i64 x2, .int .i64 x3, .int .i64 x4, .bool x5, .int .i64 x6, .int .i64 x7, .bool x8, .int .i64 x9, .int .i64 x10] k7 b7 ∧ Rd1 cNum zs k6 b6 x10 k7 b7)
  case first =>
    go_wp2_with (first
      | (go_at_call 27; refine cN.mono ?_; rintro e1 w1 ⟨g1, y10, k1', b1', rfl, r1, s1⟩; have hs1 := Ob.kept hS6 g1 r1; have hcl := hs1.cell 10 _ rfl; have hcl1 := hcl.1; have hcl2 := hcl.2))
    go_meet
    exact ⟨y10, k1', b1', hs1.put 10 _ _ rfl, s1⟩
  case rest =>
  obtain ⟨x10, k7, b7, hS7, st6⟩ := hcut
  clear cN hS6
  go_wp2_with (first
    | (refine wpList_load_row rfl 42 (.tmp 3) rfl (w.heap.size + 1) rfl 42 #[.int .i64 x0, .int .i64 x1, .int .i64 x2, .int .i64 x3, .int .i64 x4, .bool x5, .int .i64 x6, .int .i64 x7, .bool x8, .int .i64 x9, .int .i64 x10] (0, 0) _ hS7.so Try.underlying42 rfl zMove3 ?_)
    | (refine wpList_store_row rfl 42 (.tmp 2) (.tmp 26) rfl w.heap.size #[.int .i64 x0, .int .i64 x1, .int .i64 x2, .int .i64 x3, .int .i64 x4, .bool x5, .int .i64 x6, .int .i64 x7, .bool x8, .int .i64 x9, .int .i64 x10] rfl rfl 42 #[.int .i64 0, .int .i64 0, .int .i64 0, .int .i64 0, .int .i64 0, .bool false, .int .i64 0, .int .i64 0, .bool false, .int .i64 0, .int .i64 0] hS7.res zMove3 rfl (by simp [Value.oneCell']) ?_))
  refine bodyPost_ret (results_cell_row rfl _ _ w.heap.size 42 #[.int .i64 x0, .int .i64 x1, .int .i64 x2, .int .i64 x3, .int .i64 x4, .bool x5, .int .i64 x6, .int .i64 x7, .bool x8, .int .i64 x9, .int .i64 x10] (0, 0) _ rfl (setRow_heap _ _ _ _ _ _ hS7.res) Try.underlying42 rfl zMove3) rfl ?_
  exact ⟨grown_setRow hS7.grow (Nat.le_refl _) _, x0, x1, x2, x3, x4, x5, x6, x7, x8, x9, x10, k7, b7, rfl, hS7.rr.setRow _ _ hS7.mr (fun x hx hn => by have := hS7.old x hx hn; omega), Rd1.also st0 (Rd1.also st1 (Rd1.also st2 (Rd1.also st3 (Rd1.also st4 (Rd1.also st5 (st6))))))⟩
end Go.Proofs.Ythdgpadakmdlkaa.Codec
