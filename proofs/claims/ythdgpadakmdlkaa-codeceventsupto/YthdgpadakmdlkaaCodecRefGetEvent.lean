/-
  The chapter's own answer: bytes as an event.
-/
import Derived.Test.YthdgpadakmdlkaaCodecRefGetTele
import Derived.Test.YthdgpadakmdlkaaCodecRefMoves
namespace Go.Proofs.Ythdgpadakmdlkaa.Codec
set_option linter.unusedVariables false
set_option linter.unusedSimpArgs false
open Go Go.RowKit
theorem zEvent3 : (Try.prog.info? 28).map (·.size) = some 7 := by kernel_rfl
set_option maxRecDepth 100000 in
set_option maxHeartbeats 8000000 in
theorem refGetEvent_any (M : Nat) (hM24 : M ≤ 16777216) (w : World) (a : Option Addr) (n cap : Nat) (zs : List Int) (hM : zs.length ≤ M) (hr : Row w a n zs) (hc : n ≤ cap) (hc2 : cap ≤ 9223372036854775807) (h0 : a = none → cap = 0) :
    Calls Try.prog 10 #[.slice a n cap] w fun e w' => Below w.heap.size w w' ∧
      ((∃ x cs F, cEvent.whole zs = some x ∧ eventEl F x cs w' ∧ New F w.heap.size w' ∧ e = .returned (.tuple #[.agg cs, .bool true])) ∨ (cEvent.whole zs = none ∧ e = .returned (.tuple #[.agg #[.int .i64 0, .int .i64 0, .int .i64 0, .int .i64 0, .int .i64 0, .bool false, .slice none 0 0], .bool false]))) := by
  have hl := hr.len
  have hN0 : (((w.alloc (.cells #[.int .i64 0, .int .i64 0, .int .i64 0, .int .i64 0, .int .i64 0, .bool false, .slice none 0 0] 28)).alloc (.cells #[.slice a n cap, .int .i64 0, .bool false] 72)).alloc (.cells #[.int .i64 0, .int .i64 0, .int .i64 0, .int .i64 0, .int .i64 0, .bool false, .slice none 0 0] 28)).heap[w.heap.size + 1 + 1]? = some (.cells #[.int .i64 0, .int .i64 0, .int .i64 0, .int .i64 0, .int .i64 0, .bool false, .slice none 0 0] 28 (0, 0)) := by
    have := heap_alloc_new ((w.alloc (.cells #[.int .i64 0, .int .i64 0, .int .i64 0, .int .i64 0, .int .i64 0, .bool false, .slice none 0 0] 28)).alloc (.cells #[.slice a n cap, .int .i64 0, .bool false] 72)) (.cells #[.int .i64 0, .int .i64 0, .int .i64 0, .int .i64 0, .int .i64 0, .bool false, .slice none 0 0] 28)
    simp only [World.size_alloc] at this
    exact this
  obtain ⟨wc, hwc⟩ : ∃ wc, wc = (((w.alloc (.cells #[.int .i64 0, .int .i64 0, .int .i64 0, .int .i64 0, .int .i64 0, .bool false, .slice none 0 0] 28)).alloc (.cells #[.slice a n cap, .int .i64 0, .bool false] 72)).alloc (.cells #[.int .i64 0, .int .i64 0, .int .i64 0, .int .i64 0, .int .i64 0, .bool false, .slice none 0 0] 28)).setRow (w.heap.size + 1 + 1) #[.int .i64 0, .int .i64 0, .int .i64 0, .int .i64 0, .int .i64 0, .bool false, .slice none 0 0] := ⟨_, rfl⟩
  have hS0 : Ob w (w.heap.size + 1) w.heap.size (w.heap.size + 1 + 1) 28 #[.int .i64 0, .int .i64 0, .int .i64 0, .int .i64 0, .int .i64 0, .bool false, .slice none 0 0] a cap zs wc #[.int .i64 0, .int .i64 0, .int .i64 0, .int .i64 0, .int .i64 0, .bool false, .slice none 0 0] 0 false := by
    have b1 : Below w.heap.size w (w.alloc (.cells #[.int .i64 0, .int .i64 0, .int .i64 0, .int .i64 0, .int .i64 0, .bool false, .slice none 0 0] 28)) := (Below.refl _ _).alloc (Nat.le_refl _) _
    have r1 := rr_fresh _ a n cap zs 72 (hr.after b1) hc hc2 h0 (w.heap.size + 1) (by simp)
    have r2 := r1.same ((Below.refl _ _).alloc (Nat.le_refl _) (.cells #[.int .i64 0, .int .i64 0, .int .i64 0, .int .i64 0, .int .i64 0, .bool false, .slice none 0 0] 28))
    rw [hwc]
    refine ⟨grown_setRow ((World.grownBy_alloc _ _ _).trans ((World.grownBy_alloc _ _ _).trans (World.grownBy_alloc _ _ _))) (by omega) _, r2.setRow _ _ (by omega) (fun x hx hn => by have := hr.lt x hx (by omega); omega), ?_, setRow_heap _ _ _ _ _ _ hN0, Nat.le_refl _, by omega, by omega, by omega, by omega, fun x hx hn => hr.lt x hx (by omega)⟩
    rw [setRow_other _ _ _ _ (by omega), alloc_old _ _ _ (by simp; omega), alloc_old _ _ _ (by simp)]
    exact heap_alloc_new _ _
  go_enter Try.func10, Try.ntmps10
  go_upto_region 3 with (refine wpList_store_row rfl 28 (.tmp 5) (.tmp 9) rfl (w.heap.size + 1 + 1) #[.int .i64 0, .int .i64 0, .int .i64 0, .int .i64 0, .int .i64 0, .bool false, .slice none 0 0] rfl rfl 28 #[.int .i64 0, .int .i64 0, .int .i64 0, .int .i64 0, .int .i64 0, .bool false, .slice none 0 0] hN0 zEvent3 rfl (by simp [Value.oneCell']) ?_)
  simp only [Act.put]
  rw [← hwc]
  clear hwc hN0
  have cN := num_one _ _ _ _ _ _ _ hS0.rr
  go_cut [11] (fun v wx => ∃ (x0 : Int) (k1 : Nat) (b1 : Bool), Ob w (w.heap.size + 1) w.heap.size (w.heap.size + 1 + 1) 28 #[.int .i64 0, .int .i64 0, .int .i64 0, .int .i64 0, .int .i64 0, .bool false, .slice none 0 0] a cap zs wx #[.int .i64 x0, .int .i64 0, .int .i64 0, .int .i64 0, .int .i64 0, .bool false, .slice none 0 0] k1 b1 ∧ Rd1 cNum zs 0 false x0 k1 b1)
  case first =>
    go_wp2_with (first
      | (go_at_call 27; refine cN.mono ?_; rintro e1 w1 ⟨g1, y0, k1', b1', rfl, r1, s1⟩; have hs1 := Ob.kept hS0 g1 r1; have hcl := hs1.cell 0 _ rfl; have hcl1 := hcl.1; have hcl2 := hcl.2))
    go_meet
    exact ⟨y0, k1', b1', hs1.put 0 _ _ rfl, s1⟩
  case rest =>
  obtain ⟨x0, k1, b1, hS1, st0⟩ := hcut
  clear cN hS0
  go_upto_region 4 with fail
  have cN := num_one _ _ _ _ _ _ _ hS1.rr
  go_cut [14] (fun v wx => ∃ (x1 : Int) (k2 : Nat) (b2 : Bool), Ob w (w.heap.size + 1) w.heap.size (w.heap.size + 1 + 1) 28 #[.int .i64 0, .int .i64 0, .int .i64 0, .int .i64 0, .int .i64 0, .bool false, .slice none 0 0] a cap zs wx #[.int .i64 x0, .int .i64 x1, .int .i64 0, .int .i64 0, .int .i64 0, .bool false, .slice none 0 0] k2 b2 ∧ Rd1 cNum zs k1 b1 x1 k2 b2)
  case first =>
    go_wp2_with (first
      | (go_at_call 27; refine cN.mono ?_; rintro e1 w1 ⟨g1, y1, k1', b1', rfl, r1, s1⟩; have hs1 := Ob.kept hS1 g1 r1; have hcl := hs1.cell 1 _ rfl; have hcl1 := hcl.1; have hcl2 := hcl.2))
    go_meet
    exact ⟨y1, k1', b1', hs1.put 1 _ _ rfl, s1⟩
  case rest =>
  obtain ⟨x1, k2, b2, hS2, st1⟩ := hcut
  clear cN hS1
  go_upto_region 5 with fail
  have cN := num_one _ _ _ _ _ _ _ hS2.rr
  go_cut [17] (fun v wx => ∃ (x2 : Int) (k3 : Nat) (b3 : Bool), Ob w (w.heap.size + 1) w.heap.size (w.heap.size + 1 + 1) 28 #[.int .i64 0, .int .i64 0, .int .i64 0, .int .i64 0, .int .i64 0, .bool false, .slice none 0 0] a cap zs wx #[.int .i64 x0, .int .i64 x1, .int .i64 x2, .int .i64 0, .int .i64 0, .bool false, .slice none 0 0] k3 b3 ∧ Rd1 cNum zs k2 b2 x2 k3 b3)
  case first =>
    go_wp2_with (first
      | (go_at_call 27; refine cN.mono ?_; rintro e1 w1 ⟨g1, y2, k1', b1', rfl, r1, s1⟩; have hs1 := Ob.kept hS2 g1 r1; have hcl := hs1.cell 2 _ rfl; have hcl1 := hcl.1; have hcl2 := hcl.2))
    go_meet
    exact ⟨y2, k1', b1', hs1.put 2 _ _ rfl, s1⟩
  case rest =>
  obtain ⟨x2, k3, b3, hS3, st2⟩ := hcut
  clear cN hS2
  go_upto_region 6 with fail
  have cN := pose_one _ _ _ _ _ _ _ hS3.rr
  go_cut [20] (fun v wx => ∃ (x3 : Int) (x4 : Int) (x5 : Bool) (k4 : Nat) (b4 : Bool), Ob w (w.heap.size + 1) w.heap.size (w.heap.size + 1 + 1) 28 #[.int .i64 0, .int .i64 0, .int .i64 0, .int .i64 0, .int .i64 0, .bool false, .slice none 0 0] a cap zs wx #[.int .i64 x0, .int .i64 x1, .int .i64 x2, .int .i64 x3, .int .i64 x4, .bool x5, .slice none 0 0] k4 b4 ∧ Rd1 cPose zs k3 b3 ((x3, x4), x5) k4 b4)
  case first =>
    go_wp2_with (first
      | (go_at_call 28; refine cN.mono ?_; rintro e1 w1 ⟨g1, y3, y4, y5, k1', b1', rfl, r1, s1⟩; have hs1 := Ob.kept hS3 g1 r1)
      | (have X' := hs1; refine wpList_store_mid rfl 25 (.tmp 21) (.tmp 20) rfl (w.heap.size + 1 + 1) 3 #[.int .i64 y3, .int .i64 y4, .bool y5] rfl rfl (hs1.there 3 3 (by simp)) zPose3 (by simp [Value.oneCell']) ?_))
    go_meet
    exact ⟨y3, y4, y5, k1', b1', Ob.puts [.int .i64 y3, .int .i64 y4, .bool y5] 3 _ _ #[.int .i64 x0, .int .i64 x1, .int .i64 x2, .int .i64 y3, .int .i64 y4, .bool y5, .slice none 0 0] hs1 (by simp only [putL, List.setIfInBounds_toArray, List.set_cons_zero, List.set_cons_succ]), s1⟩
  case rest =>
  obtain ⟨x3, x4, x5, k4, b4, hS4, st3⟩ := hcut
  clear cN hS3
  go_upto_region 7 with fail
  have cM := rmoves_any M hM24 _ _ _ _ _ _ _ hM hS4.rr
  go_cut [23] (fun v wx => ∃ (xs : List TMove) (v4 : Value) (k5 : Nat) (b5 : Bool) (F : Nat → Prop), Ob w (w.heap.size + 1) w.heap.size (w.heap.size + 1 + 1) 28 #[.int .i64 0, .int .i64 0, .int .i64 0, .int .i64 0, .int .i64 0, .bool false, .slice none 0 0] a cap zs wx #[.int .i64 x0, .int .i64 x1, .int .i64 x2, .int .i64 x3, .int .i64 x4, .bool x5, v4] k5 b5 ∧ Rd1 (list cMove) zs k4 b4 xs k5 b5 ∧ ListAt 11 moveEl F xs v4 wx ∧ New F (w.heap.size + 1 + 1 + 1) wx)
  case first =>
    go_wp2_with (go_at_call 29; refine cM.mono ?_; rintro e1 w1 ⟨g1, xs, v4, k1', b1', F, rfl, l1, f1, r1, s1⟩; obtain ⟨va, vc, rfl, _⟩ := l1.form; have hs1 := Ob.kept hS4 g1 r1; have hcl := hs1.cell 6 _ rfl; have hcl1 := hcl.1; have hcl2 := hcl.2)
    go_meet
    have hsz := lt_of_heap hS4.so
    have f2 : New F (w.heap.size + 1 + 1 + 1) w1 := f1.keep (by omega) (Nat.le_refl _)
    refine ⟨xs, _, k1', b1', F, hs1.put 6 _ _ rfl, s1, l1.stable heldMoveEl fun g hg => heap_setCell_other _ _ _ _ (by have := (f2 g hg).1; simp only; omega), f2.keep (Nat.le_refl _) (by simp)⟩
  case rest =>
  obtain ⟨xs, v4, k5, b5, F, hS5, st4, l5, f5⟩ := hcut
  obtain ⟨va, vc, rfl, _⟩ := l5.form
  clear cM hS4
  have cWh := rwhole_any _ _ _ _ _ _ _ hS5.rr
  have hst := Rd1.whole (c := cEvent) (Rd1.also st0 (Rd1.also st1 (Rd1.also st2 (Rd1.also st3 st4)))) hS5.rr.le
  rcases hst with ⟨rfl, hend, q⟩ | ⟨rfl, hend, q⟩ | ⟨rfl, q⟩
  · rw [decide_eq_true hend] at cWh
    go_wp2_with (first
      | (go_at_call 30; refine cWh.mono ?_; rintro e2 w2 ⟨rfl, m2, rfl⟩; have hs3 := hS5.drewN m2)
      | (have X' := hs3; refine wpList_load_row rfl 28 (.tmp 5) rfl (w.heap.size + 1 + 1) rfl 28 #[.int .i64 x0, .int .i64 x1, .int .i64 x2, .int .i64 x3, .int .i64 x4, .bool x5, .slice va xs.length vc] (0, 0) _ hs3.so Try.underlying28 rfl zEvent3 ?_)
      | (have X' := hs3; refine wpList_store_row rfl 28 (.tmp 2) (.tmp 29) rfl w.heap.size #[.int .i64 x0, .int .i64 x1, .int .i64 x2, .int .i64 x3, .int .i64 x4, .bool x5, .slice va xs.length vc] rfl rfl 28 #[.int .i64 0, .int .i64 0, .int .i64 0, .int .i64 0, .int .i64 0, .bool false, .slice none 0 0] hs3.res zEvent3 rfl (by simp [Value.oneCell']) ?_))
    refine bodyPost_ret (results_cell_tmp Try.results10 _ _ w.heap.size #[.int .i64 x0, .int .i64 x1, .int .i64 x2, .int .i64 x3, .int .i64 x4, .bool x5, .slice va xs.length vc] rfl (run_loadVar_row _ _ _ _ _ (0, 0) _ (setRow_heap _ _ _ _ _ _ hs3.res) Try.underlying28 rfl zEvent3)) rfl ?_
    refine ⟨below_row ((Below.refl _ _).grown hs3.grow (Nat.le_refl _) (fun k hk => by cases hk; omega)) (Nat.le_refl _) _, Or.inl ⟨_, _, F, q, ⟨_, rfl, l5.stable heldMoveEl fun g hg => ?_⟩, fun g hg => ?_, rfl⟩⟩
    · rw [setRow_other _ _ _ _ (by have := (f5 g hg).1; omega)]
      rfl
    · have := f5 g hg
      rw [setRow_size]
      exact ⟨by omega, this.2⟩
  · rw [decide_eq_false hend] at cWh
    go_wp2_with (first
      | (go_at_call 30; refine cWh.mono ?_; rintro e2 w2 ⟨rfl, m2, rfl⟩; have hs3 := hS5.drewN m2)
      | (have X' := hs3; refine wpList_store_row rfl 28 (.tmp 2) (.tmp 28) rfl w.heap.size #[.int .i64 0, .int .i64 0, .int .i64 0, .int .i64 0, .int .i64 0, .bool false, .slice none 0 0] rfl rfl 28 #[.int .i64 0, .int .i64 0, .int .i64 0, .int .i64 0, .int .i64 0, .bool false, .slice none 0 0] hs3.res zEvent3 rfl (by simp [Value.oneCell']) ?_))
    refine bodyPost_ret (results_cell_tmp Try.results10 _ _ w.heap.size #[.int .i64 0, .int .i64 0, .int .i64 0, .int .i64 0, .int .i64 0, .bool false, .slice none 0 0] rfl (run_loadVar_row _ _ _ _ _ (0, 0) _ (setRow_heap _ _ _ _ _ _ hs3.res) Try.underlying28 rfl zEvent3)) rfl ?_
    exact ⟨below_row ((Below.refl _ _).grown hs3.grow (Nat.le_refl _) (fun k hk => by cases hk; omega)) (Nat.le_refl _) _, Or.inr ⟨q, rfl⟩⟩
  · go_wp2_with (first
      | (go_at_call 30; refine cWh.mono ?_; rintro e2 w2 ⟨rfl, m2, rfl⟩; have hs3 := hS5.drewN m2)
      | (have X' := hs3; refine wpList_store_row rfl 28 (.tmp 2) (.tmp 28) rfl w.heap.size #[.int .i64 0, .int .i64 0, .int .i64 0, .int .i64 0, .int .i64 0, .bool false, .slice none 0 0] rfl rfl 28 #[.int .i64 0, .int .i64 0, .int .i64 0, .int .i64 0, .int .i64 0, .bool false, .slice none 0 0] hs3.res zEvent3 rfl (by simp [Value.oneCell']) ?_))
    refine bodyPost_ret (results_cell_tmp Try.results10 _ _ w.heap.size #[.int .i64 0, .int .i64 0, .int .i64 0, .int .i64 0, .int .i64 0, .bool false, .slice none 0 0] rfl (run_loadVar_row _ _ _ _ _ (0, 0) _ (setRow_heap _ _ _ _ _ _ hs3.res) Try.underlying28 rfl zEvent3)) rfl ?_
    exact ⟨below_row ((Below.refl _ _).grown hs3.grow (Nat.le_refl _) (fun k hk => by cases hk; omega)) (Nat.le_refl _) _, Or.inr ⟨q, rfl⟩⟩
end Go.Proofs.Ythdgpadakmdlkaa.Codec
