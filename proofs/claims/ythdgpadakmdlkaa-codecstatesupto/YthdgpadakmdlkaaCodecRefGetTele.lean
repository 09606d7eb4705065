/-
  The chapter's own answer: bytes as a telegram.
-/
import Derived.Test.YthdgpadakmdlkaaCodecRefMove
namespace Go.Proofs.Ythdgpadakmdlkaa.Codec
set_option linter.unusedVariables false
set_option linter.unusedSimpArgs false
open Go Go.RowKit

theorem zTele3 : (Try.prog.info? 44).map (·.size) = some 19 := by kernel_rfl
def tele0 : TTele := (0, 0, 0, 0, (0, 0, 0, ((0, 0), false), ((0, 0), false), 0, 0), ((0, 0), false), 0)
theorem Rd1.whole {α : Type} {c : Cod α} {zs : List Int} {x : α} {k : Nat} {bad : Bool} (h : Rd1 c zs 0 false x k bad) (hk : k ≤ zs.length) : (bad = false ∧ k = zs.length ∧ c.whole zs = some x) ∨ (bad = false ∧ k ≠ zs.length ∧ c.whole zs = none) ∨ (bad = true ∧ c.whole zs = none) := by
  rcases h with ⟨_, rfl, q, _, _⟩ | ⟨rfl, q⟩
  · rw [List.drop_zero] at q
    by_cases e : k = zs.length
    · refine Or.inl ⟨rfl, e, ?_⟩
      unfold Cod.whole
      rw [q]
      simp only [Option.bind_some, List.length_drop]
      rw [if_pos (by omega)]
    · refine Or.inr (Or.inl ⟨rfl, e, ?_⟩)
      unfold Cod.whole
      rw [q]
      simp only [Option.bind_some, List.length_drop]
      rw [if_neg (by omega)]
  · rw [List.drop_zero] at q
    refine Or.inr (Or.inr ⟨rfl, ?_⟩)
    rcases q with q | q
    · cases q
    · unfold Cod.whole
      rw [q]
      rfl

set_option maxRecDepth 100000 in
set_option maxHeartbeats 8000000 in
theorem refGetTele_any (w : World) (a : Option Addr) (n cap : Nat) (zs : List Int) (hr : Row w a n zs) (hc : n ≤ cap) (hc2 : cap ≤ 9223372036854775807) (h0 : a = none → cap = 0) :
    Calls Try.prog 16 #[.slice a n cap] w fun e w' => Below w.heap.size w w' ∧
      ((∃ x, cTele.whole zs = some x ∧ e = .returned (.tuple #[.agg (tCells x).toArray, .bool true])) ∨ (cTele.whole zs = none ∧ e = .returned (.tuple #[.agg (tCells tele0).toArray, .bool false]))) := by
  have hl := hr.len
  have hN0 : (((w.alloc (.cells #[.int .i64 0, .int .i64 0, .int .i64 0, .int .i64 0, .int .i64 0, .int .i64 0, .int .i64 0, .int .i64 0, .int .i64 0, .bool false, .int .i64 0, .int .i64 0, .bool false, .int .i64 0, .int .i64 0, .int .i64 0, .int .i64 0, .bool false, .int .i64 0] 44)).alloc (.cells #[.slice a n cap, .int .i64 0, .bool false] 72)).alloc (.cells #[.int .i64 0, .int .i64 0, .int .i64 0, .int .i64 0, .int .i64 0, .int .i64 0, .int .i64 0, .int .i64 0, .int .i64 0, .bool false, .int .i64 0, .int .i64 0, .bool false, .int .i64 0, .int .i64 0, .int .i64 0, .int .i64 0, .bool false, .int .i64 0] 44)).heap[w.heap.size + 1 + 1]? = some (.cells #[.int .i64 0, .int .i64 0, .int .i64 0, .int .i64 0, .int .i64 0, .int .i64 0, .int .i64 0, .int .i64 0, .int .i64 0, .bool false, .int .i64 0, .int .i64 0, .bool false, .int .i64 0, .int .i64 0, .int .i64 0, .int .i64 0, .bool false, .int .i64 0] 44 (0, 0)) := by
    have := heap_alloc_new ((w.alloc (.cells #[.int .i64 0, .int .i64 0, .int .i64 0, .int .i64 0, .int .i64 0, .int .i64 0, .int .i64 0, .int .i64 0, .int .i64 0, .bool false, .int .i64 0, .int .i64 0, .bool false, .int .i64 0, .int .i64 0, .int .i64 0, .int .i64 0, .bool false, .int .i64 0] 44)).alloc (.cells #[.slice a n cap, .int .i64 0, .bool false] 72)) (.cells #[.int .i64 0, .int .i64 0, .int .i64 0, .int .i64 0, .int .i64 0, .int .i64 0, .int .i64 0, .int .i64 0, .int .i64 0, .bool false, .int .i64 0, .int .i64 0, .bool false, .int .i64 0, .int .i64 0, .int .i64 0, .int .i64 0, .bool false, .int .i64 0] 44)
    simp only [World.size_alloc] at this
    exact this
  obtain ⟨wc, hwc⟩ : ∃ wc, wc = (((w.alloc (.cells #[.int .i64 0, .int .i64 0, .int .i64 0, .int .i64 0, .int .i64 0, .int .i64 0, .int .i64 0, .int .i64 0, .int .i64 0, .bool false, .int .i64 0, .int .i64 0, .bool false, .int .i64 0, .int .i64 0, .int .i64 0, .int .i64 0, .bool false, .int .i64 0] 44)).alloc (.cells #[.slice a n cap, .int .i64 0, .bool false] 72)).alloc (.cells #[.int .i64 0, .int .i64 0, .int .i64 0, .int .i64 0, .int .i64 0, .int .i64 0, .int .i64 0, .int .i64 0, .int .i64 0, .bool false, .int .i64 0, .int .i64 0, .bool false, .int .i64 0, .int .i64 0, .int .i64 0, .int .i64 0, .bool false, .int .i64 0] 44)).setRow (w.heap.size + 1 + 1) #[.int .i64 0, .int .i64 0, .int .i64 0, .int .i64 0, .int .i64 0, .int .i64 0, .int .i64 0, .int .i64 0, .int .i64 0, .bool false, .int .i64 0, .int .i64 0, .bool false, .int .i64 0, .int .i64 0, .int .i64 0, .int .i64 0, .bool false, .int .i64 0] := ⟨_, rfl⟩
  have hS0 : Ob w (w.heap.size + 1) w.heap.size (w.heap.size + 1 + 1) 44 #[.int .i64 0, .int .i64 0, .int .i64 0, .int .i64 0, .int .i64 0, .int .i64 0, .int .i64 0, .int .i64 0, .int .i64 0, .bool false, .int .i64 0, .int .i64 0, .bool false, .int .i64 0, .int .i64 0, .int .i64 0, .int .i64 0, .bool false, .int .i64 0] a cap zs wc #[.int .i64 0, .int .i64 0, .int .i64 0, .int .i64 0, .int .i64 0, .int .i64 0, .int .i64 0, .int .i64 0, .int .i64 0, .bool false, .int .i64 0, .int .i64 0, .bool false, .int .i64 0, .int .i64 0, .int .i64 0, .int .i64 0, .bool false, .int .i64 0] 0 false := by
    have b1 : Below w.heap.size w (w.alloc (.cells #[.int .i64 0, .int .i64 0, .int .i64 0, .int .i64 0, .int .i64 0, .int .i64 0, .int .i64 0, .int .i64 0, .int .i64 0, .bool false, .int .i64 0, .int .i64 0, .bool false, .int .i64 0, .int .i64 0, .int .i64 0, .int .i64 0, .bool false, .int .i64 0] 44)) := (Below.refl _ _).alloc (Nat.le_refl _) _
    have r1 := rr_fresh _ a n cap zs 72 (hr.after b1) hc hc2 h0 (w.heap.size + 1) (by simp)
    have r2 := r1.same ((Below.refl _ _).alloc (Nat.le_refl _) (.cells #[.int .i64 0, .int .i64 0, .int .i64 0, .int .i64 0, .int .i64 0, .int .i64 0, .int .i64 0, .int .i64 0, .int .i64 0, .bool false, .int .i64 0, .int .i64 0, .bool false, .int .i64 0, .int .i64 0, .int .i64 0, .int .i64 0, .bool false, .int .i64 0] 44))
    rw [hwc]
    refine ⟨grown_setRow ((World.grownBy_alloc _ _ _).trans ((World.grownBy_alloc _ _ _).trans (World.grownBy_alloc _ _ _))) (by omega) _, r2.setRow _ _ (by omega) (fun x hx hn => by have := hr.lt x hx (by omega); omega), ?_, setRow_heap _ _ _ _ _ _ hN0, Nat.le_refl _, by omega, by omega, by omega, by omega, fun x hx hn => hr.lt x hx (by omega)⟩
    rw [setRow_other _ _ _ _ (by omega), alloc_old _ _ _ (by simp; omega), alloc_old _ _ _ (by simp)]
    exact heap_alloc_new _ _
  go_enter Try.func16, Try.ntmps16
  go_upto_region 3 with (refine wpList_store_row rfl 44 (.tmp 5) (.tmp 9) rfl (w.heap.size + 1 + 1) #[.int .i64 0, .int .i64 0, .int .i64 0, .int .i64 0, .int .i64 0, .int .i64 0, .int .i64 0, .int .i64 0, .int .i64 0, .bool false, .int .i64 0, .int .i64 0, .bool false, .int .i64 0, .int .i64 0, .int .i64 0, .int .i64 0, .bool false, .int .i64 0] rfl rfl 44 #[.int .i64 0, .int .i64 0, .int .i64 0, .int .i64 0, .int .i64 0, .int .i64 0, .int .i64 0, .int .i64 0, .int .i64 0, .bool false, .int .i64 0, .int .i64 0, .bool false, .int .i64 0, .int .i64 0, .int .i64 0, .int .i64 0, .bool false, .int .i64 0] hN0 zTele3 rfl (by simp [Value.oneCell']) ?_)
  simp only [Act.put]
  rw [← hwc]
  clear hwc hN0
  have cN := num_one _ _ _ _ _ _ _ hS0.rr
  go_cut [11] (fun v wx => ∃ (x0 : Int) (k1 : Nat) (b1 : Bool), Ob w (w.heap.size + 1) w.heap.size (w.heap.size + 1 + 1) 44 #[.int .i64 0, .int .i64 0, .int .i64 0, .int .i64 0, .int .i64 0, .int .i64 0, .int .i64 0, .int .i64 0, .int .i64 0, .bool false, .int .i64 0, .int .i64 0, .bool false, .int .i64 0, .int .i64 0, .int .i64 0, .int .i64 0, .bool false, .int .i64 0] a cap zs wx #[.int .i64 x0, .int .i64 0, .int .i64 0, .int .i64 0, .int .i64 0, .int .i64 0, .int .i64 0, .int .i64 0, .int .i64 0, .bool false, .int .i64 0, .int .i64 0, .bool false, .int .i64 0, .int .i64 0, .int .i64 0, .int .i64 0, .bool false, .int .i64 0] k1 b1 ∧ Rd1 cNum zs 0 false x0 k1 b1)
  case first =>
    go_wp2_with (first
      | (go_at_call 27; refine cN.mono ?_; rintro e1 w1 ⟨g1, y0, k1', b1', rfl, r1, s1⟩; have hs1 := Ob.kept hS0 g1 r1; have hcl := hs1.cell 0 _ rfl; have hcl1 := hcl.1; have hcl2 := hcl.2))
    go_meet
    exact ⟨y0, k1', b1', hs1.put 0 _ _ rfl, s1⟩
  case rest =>
  obtain ⟨x0, k1, b1, hS1, st0⟩ := hcut
  clear cN hS0
  go_upto_region 4 with fail
  have cN := num_one _ _ _ _ _ _ _ hS1.rr
  go_cut [14] (fun v wx => ∃ (x1 : Int) (k2 : Nat) (b2 : Bool), Ob w (w.heap.size + 1) w.heap.size (w.heap.size + 1 + 1) 44 #[.int .i64 0, .int .i64 0, .int .i64 0, .int .i64 0, .int .i64 0, .int .i64 0, .int .i64 0, .int .i64 0, .int .i64 0, .bool false, .int .i64 0, .int .i64 0, .bool false, .int .i64 0, .int .i64 0, .int .i64 0, .int .i64 0, .bool false, .int .i64 0] a cap zs wx #[.int .i64 x0, .int .i64 x1, .int .i64 0, .int .i64 0, .int .i64 0, .int .i64 0, .int .i64 0, .int .i64 0, .int .i64 0, .bool false, .int .i64 0, .int .i64 0, .bool false, .int .i64 0, .int .i64 0, .int .i64 0, .int .i64 0, .bool false, .int .i64 0] k2 b2 ∧ Rd1 cNum zs k1 b1 x1 k2 b2)
  case first =>
    go_wp2_with (first
      | (go_at_call 27; refine cN.mono ?_; rintro e1 w1 ⟨g1, y1, k1', b1', rfl, r1, s1⟩; have hs1 := Ob.kept hS1 g1 r1; have hcl := hs1.cell 1 _ rfl; have hcl1 := hcl.1; have hcl2 := hcl.2))
    go_meet
    exact ⟨y1, k1', b1', hs1.put 1 _ _ rfl, s1⟩
  case rest =>
  obtain ⟨x1, k2, b2, hS2, st1⟩ := hcut
  clear cN hS1
  go_upto_region 5 with fail
  have cN := num_one _ _ _ _ _ _ _ hS2.rr
  go_cut [17] (fun v wx => ∃ (x2 : Int) (k3 : Nat) (b3 : Bool), Ob w (w.heap.size + 1) w.heap.size (w.heap.size + 1 + 1) 44 #[.int .i64 0, .int .i64 0, .int .i64 0, .int .i64 0, .int .i64 0, .int .i64 0, .int .i64 0, .int .i64 0, .int .i64 0, .bool false, .int .i64 0, .int .i64 0, .bool false, .int .i64 0, .int .i64 0, .int .i64 0, .int .i64 0, .bool false, .int .i64 0] a cap zs wx #[.int .i64 x0, .int .i64 x1, .int .i64 x2, .int .i64 0, .int .i64 0, .int .i64 0, .int .i64 0, .int .i64 0, .int .i64 0, .bool false, .int .i64 0, .int .i64 0, .bool false, .int .i64 0, .int .i64 0, .int .i64 0, .int .i64 0, .bool false, .int .i64 0] k3 b3 ∧ Rd1 cNum zs k2 b2 x2 k3 b3)
  case first =>
    go_wp2_with (first
      | (go_at_call 27; refine cN.mono ?_; rintro e1 w1 ⟨g1, y2, k1', b1', rfl, r1, s1⟩; have hs1 := Ob.kept hS2 g1 r1; have hcl := hs1.cell 2 _ rfl; have hcl1 := hcl.1; have hcl2 := hcl.2))
    go_meet
    exact ⟨y2, k1', b1', hs1.put 2 _ _ rfl, s1⟩
  case rest =>
  obtain ⟨x2, k3, b3, hS3, st2⟩ := hcut
  clear cN hS2
  go_upto_region 6 with fail
  have cN := num_one _ _ _ _ _ _ _ hS3.rr
  go_cut [20] (fun v wx => ∃ (x3 : Int) (k4 : Nat) (b4 : Bool), Ob w (w.heap.size + 1) w.heap.size (w.heap.size + 1 + 1) 44 #[.int .i64 0, .int .i64 0, .int .i64 0, .int .i64 0, .int .i64 0, .int .i64 0, .int .i64 0, .int .i64 0, .int .i64 0, .bool false, .int .i64 0, .int .i64 0, .bool false, .int .i64 0, .int .i64 0, .int .i64 0, .int .i64 0, .bool false, .int .i64 0] a cap zs wx #[.int .i64 x0, .int .i64 x1, .int .i64 x2, .int .i64 x3, .int .i64 0, .int .i64 0, .int .i64 0, .int .i64 0, .int .i64 0, .bool false, .int .i64 0, .int .i64 0, .bool false, .int .i64 0, .int .i64 0, .int .i64 0, .int .i64 0, .bool false, .int .i64 0] k4 b4 ∧ Rd1 cNum zs k3 b3 x3 k4 b4)
  case first =>
    go_wp2_with (first
      | (go_at_call 27; refine cN.mono ?_; rintro e1 w1 ⟨g1, y3, k1', b1', rfl, r1, s1⟩; have hs1 := Ob.kept hS3 g1 r1; have hcl := hs1.cell 3 _ rfl; have hcl1 := hcl.1; have hcl2 := hcl.2))
    go_meet
    exact ⟨y3, k1', b1', hs1.put 3 _ _ rfl, s1⟩
  case rest =>
  obtain ⟨x3, k4, b4, hS4, st3⟩ := hcut
  clear cN hS3
  go_upto_region 7 with fail
  have cN := move_one _ _ _ _ _ _ _ hS4.rr
  go_cut [23] (fun v wx => ∃ (x4 : Int) (x5 : Int) (x6 : Int) (x7 : Int) (x8 : Int) (x9 : Bool) (x10 : Int) (x11 : Int) (x12 : Bool) (x13 : Int) (x14 : Int) (k5 : Nat) (b5 : Bool), Ob w (w.heap.size + 1) w.heap.size (w.heap.size + 1 + 1) 44 #[.int .i64 0, .int .i64 0, .int .i64 0, .int .i64 0, .int .i64 0, .int .i64 0, .int .i64 0, .int .i64 0, .int .i64 0, .bool false, .int .i64 0, .int .i64 0, .bool false, .int .i64 0, .int .i64 0, .int .i64 0, .int .i64 0, .bool false, .int .i64 0] a cap zs wx #[.int .i64 x0, .int .i64 x1, .int .i64 x2, .int .i64 x3, .int .i64 x4, .int .i64 x5, .int .i64 x6, .int .i64 x7, .int .i64 x8, .bool x9, .int .i64 x10, .int .i64 x11, .bool x12, .int .i64 x13, .int .i64 x14, .int .i64 0, .int .i64 0, .bool false, .int .i64 0] k5 b5 ∧ Rd1 cMove zs k4 b4 (x4, x5, x6, ((x7, x8), x9), ((x10, x11), x12), x13, x14) k5 b5)
  case first =>
    go_wp2_with (first
      | (go_at_call 42; refine cN.mono ?_; rintro e1 w1 ⟨g1, y4, y5, y6, y7, y8, y9, y10, y11, y12, y13, y14, k1', b1', rfl, r1, s1⟩; have hs1 := Ob.kept hS4 g1 r1)
      | (have X' := hs1; refine wpList_store_mid rfl 42 (.tmp 24) (.tmp 23) rfl (w.heap.size + 1 + 1) 4 #[.int .i64 y4, .int .i64 y5, .int .i64 y6, .int .i64 y7, .int .i64 y8, .bool y9, .int .i64 y10, .int .i64 y11, .bool y12, .int .i64 y13, .int .i64 y14] rfl rfl (hs1.there 4 11 (by simp)) zMove3 (by simp [Value.oneCell']) ?_))
    go_meet
    exact ⟨y4, y5, y6, y7, y8, y9, y10, y11, y12, y13, y14, k1', b1', Ob.puts [.int .i64 y4, .int .i64 y5, .int .i64 y6, .int .i64 y7, .int .i64 y8, .bool y9, .int .i64 y10, .int .i64 y11, .bool y12, .int .i64 y13, .int .i64 y14] 4 _ _ #[.int .i64 x0, .int .i64 x1, .int .i64 x2, .int .i64 x3, .int .i64 y4, .int .i64 y5, .int .i64 y6, .int .i64 y7, .int .i64 y8, .bool y9, .int .i64 y10, .int .i64 y11, .bool y12, .int .i64 y13, .int .i64 y14, .int .i64 0, .int .i64 0, .bool false, .int .i64 0] hs1 (by simp only [putL, List.setIfInBounds_toArray, List.set_cons_zero, List.set_cons_succ]), s1⟩
  case rest =>
  obtain ⟨x4, x5, x6, x7, x8, x9, x10, x11, x12, x13, x14, k5, b5, hS5, st4⟩ := hcut
  clear cN hS4
  go_upto_region 8 with fail
  have cN := pose_one _ _ _ _ _ _ _ hS5.rr
  go_cut [26] (fun v wx => ∃ (x15 : Int) (x16 : Int) (x17 : Bool) (k6 : Nat) (b6 : Bool), Ob w (w.heap.size + 1) w.heap.size (w.heap.size + 1 + 1) 44 #[.int .i64 0, .int .i64 0, .int .i64 0, .int .i64 0, .int .i64 0, .int .i64 0, .int .i64 0, .int .i64 0, .int .i64 0, .bool false, .int .i64 0, .int .i64 0, .bool false, .int .i64 0, .int .i64 0, .int .i64 0, .int .i64 0, .bool false, .int .i64 0] a cap zs wx #[.int .i64 x0, .int .i64 x1, .int .i64 x2, .int .i64 x3, .int .i64 x4, .int .i64 x5, .int .i64 x6, .int .i64 x7, .int .i64 x8, .bool x9, .int .i64 x10, .int .i64 x11, .bool x12, .int .i64 x13, .int .i64 x14, .int .i64 x15, .int .i64 x16, .bool x17, .int .i64 0] k6 b6 ∧ Rd1 cPose zs k5 b5 ((x15, x16), x17) k6 b6)
  case first =>
    go_wp2_with (first
      | (go_at_call 28; refine cN.mono ?_; rintro e1 w1 ⟨g1, y15, y16, y17, k1', b1', rfl, r1, s1⟩; have hs1 := Ob.kept hS5 g1 r1)
      | (have X' := hs1; refine wpList_store_mid rfl 25 (.tmp 27) (.tmp 26) rfl (w.heap.size + 1 + 1) 15 #[.int .i64 y15, .int .i64 y16, .bool y17] rfl rfl (hs1.there 15 3 (by simp)) zPose3 (by simp [Value.oneCell']) ?_))
    go_meet
    exact ⟨y15, y16, y17, k1', b1', Ob.puts [.int .i64 y15, .int .i64 y16, .bool y17] 15 _ _ #[.int .i64 x0, .int .i64 x1, .int .i64 x2, .int .i64 x3, .int .i64 x4, .int .i64 x5, .int .i64 x6, .int .i64 x7, .int .i64 x8, .bool x9, .int .i64 x10, .int .i64 x11, .bool x12, .int .i64 x13, .int .i64 x14, .int .i64 y15, .int .i64 y16, .bool y17, .int .i64 0] hs1 (by simp only [putL, List.setIfInBounds_toArray, List.set_cons_zero, List.set_cons_succ]), s1⟩
  case rest =>
  obtain ⟨x15, x16, x17, k6, b6, hS6, st5⟩ := hcut
  clear cN hS5
  go_upto_region 9 with fail
  have cN := num_one _ _ _ _ _ _ _ hS6.rr
  go_cut [29] (fun v wx => ∃ (x18 : Int) (k7 : Nat) (b7 : Bool), Ob w (w.heap.size + 1) w.heap.size (w.heap.size + 1 + 1) 44 #[.int .i64 0, .int .i64 0, .int .i64 0, .int .i64 0, .int .i64 0, .int .i64 0, .int .i64 0, .int .i64 0, .int .i64 0, .bool false, .int .i64 0, .int .i64 0, .bool false, .int .i64 0, .int .i64 0, .int .i64 0, .int .i64 0, .bool false, .int .i64 0] a cap zs wx #[.int .i64 x0, .int .i64 x1, .int .i64 x2, .int .i64 x3, .int .i64 x4, .int .i64 x5, .int .i64 x6, .int .i64 x7, .int .i64 x8, .bool x9, .int .i64 x10, .int .i64 x11, .bool x12, .int .i64 x13, .int .i64 x14, .int .i64 x15, .int .i64 x16, .bool x17, .int .i64 x18] k7 b7 ∧ Rd1 cNum zs k6 b6 x18 k7 b7)
  case first =>
    go_wp2_with (first
      | (go_at_call 27; refine cN.mono ?_; rintro e1 w1 ⟨g1, y18, k1', b1', rfl, r1, s1⟩; have hs1 := Ob.kept hS6 g1 r1; have hcl := hs1.cell 18 _ rfl; have hcl1 := hcl.1; have hcl2 := hcl.2))
    go_meet
    exact ⟨y18, k1', b1', hs1.put 18 _ _ rfl, s1⟩
  case rest =>
  obtain ⟨x18, k7, b7, hS7, st6⟩ := hcut
  clear cN hS6
  have cWh := rwhole_any _ _ _ _ _ _ _ hS7.rr
  have hst := Rd1.whole (c := cTele) (Rd1.also st0 (Rd1.also st1 (Rd1.also st2 (Rd1.also st3 (Rd1.also st4 (Rd1.also st5 (st6))))))) hS7.rr.le
  rcases hst with ⟨rfl, hend, q⟩ | ⟨rfl, hend, q⟩ | ⟨rfl, q⟩
  · rw [decide_eq_true hend] at cWh
    go_wp2_with (first
      | (go_at_call 30; refine cWh.mono ?_; rintro e2 w2 ⟨rfl, m2, rfl⟩; have hs3 := hS7.drewN m2)
      | (have X' := hs3; refine wpList_load_row rfl 44 (.tmp 5) rfl (w.heap.size + 1 + 1) rfl 44 #[.int .i64 x0, .int .i64 x1, .int .i64 x2, .int .i64 x3, .int .i64 x4, .int .i64 x5, .int .i64 x6, .int .i64 x7, .int .i64 x8, .bool x9, .int .i64 x10, .int .i64 x11, .bool x12, .int .i64 x13, .int .i64 x14, .int .i64 x15, .int .i64 x16, .bool x17, .int .i64 x18] (0, 0) _ hs3.so Try.underlying44 rfl zTele3 ?_)
      | (have X' := hs3; refine wpList_store_row rfl 44 (.tmp 2) (.tmp 35) rfl w.heap.size #[.int .i64 x0, .int .i64 x1, .int .i64 x2, .int .i64 x3, .int .i64 x4, .int .i64 x5, .int .i64 x6, .int .i64 x7, .int .i64 x8, .bool x9, .int .i64 x10, .int .i64 x11, .bool x12, .int .i64 x13, .int .i64 x14, .int .i64 x15, .int .i64 x16, .bool x17, .int .i64 x18] rfl rfl 44 #[.int .i64 0, .int .i64 0, .int .i64 0, .int .i64 0, .int .i64 0, .int .i64 0, .int .i64 0, .int .i64 0, .int .i64 0, .bool false, .int .i64 0, .int .i64 0, .bool false, .int .i64 0, .int .i64 0, .int .i64 0, .int .i64 0, .bool false, .int .i64 0] hs3.res zTele3 rfl (by simp [Value.oneCell']) ?_))
    refine bodyPost_ret (results_cell_tmp Try.results16 _ _ w.heap.size #[.int .i64 x0, .int .i64 x1, .int .i64 x2, .int .i64 x3, .int .i64 x4, .int .i64 x5, .int .i64 x6, .int .i64 x7, .int .i64 x8, .bool x9, .int .i64 x10, .int .i64 x11, .bool x12, .int .i64 x13, .int .i64 x14, .int .i64 x15, .int .i64 x16, .bool x17, .int .i64 x18] rfl (run_loadVar_row _ _ _ _ _ (0, 0) _ (setRow_heap _ _ _ _ _ _ hs3.res) Try.underlying44 rfl zTele3)) rfl ?_
    exact ⟨below_row ((Below.refl _ _).grown hs3.grow (Nat.le_refl _) (fun k hk => by cases hk; omega)) (Nat.le_refl _) _, Or.inl ⟨(x0, x1, x2, x3, (x4, x5, x6, ((x7, x8), x9), ((x10, x11), x12), x13, x14), ((x15, x16), x17), x18), q, rfl⟩⟩
  · rw [decide_eq_false hend] at cWh
    go_wp2_with (first
      | (go_at_call 30; refine cWh.mono ?_; rintro e2 w2 ⟨rfl, m2, rfl⟩; have hs3 := hS7.drewN m2)
      | (have X' := hs3; refine wpList_store_row rfl 44 (.tmp 2) (.tmp 34) rfl w.heap.size #[.int .i64 0, .int .i64 0, .int .i64 0, .int .i64 0, .int .i64 0, .int .i64 0, .int .i64 0, .int .i64 0, .int .i64 0, .bool false, .int .i64 0, .int .i64 0, .bool false, .int .i64 0, .int .i64 0, .int .i64 0, .int .i64 0, .bool false, .int .i64 0] rfl rfl 44 #[.int .i64 0, .int .i64 0, .int .i64 0, .int .i64 0, .int .i64 0, .int .i64 0, .int .i64 0, .int .i64 0, .int .i64 0, .bool false, .int .i64 0, .int .i64 0, .bool false, .int .i64 0, .int .i64 0, .int .i64 0, .int .i64 0, .bool false, .int .i64 0] hs3.res zTele3 rfl (by simp [Value.oneCell']) ?_))
    refine bodyPost_ret (results_cell_tmp Try.results16 _ _ w.heap.size #[.int .i64 0, .int .i64 0, .int .i64 0, .int .i64 0, .int .i64 0, .int .i64 0, .int .i64 0, .int .i64 0, .int .i64 0, .bool false, .int .i64 0, .int .i64 0, .bool false, .int .i64 0, .int .i64 0, .int .i64 0, .int .i64 0, .bool false, .int .i64 0] rfl (run_loadVar_row _ _ _ _ _ (0, 0) _ (setRow_heap _ _ _ _ _ _ hs3.res) Try.underlying44 rfl zTele3)) rfl ?_
    exact ⟨below_row ((Below.refl _ _).grown hs3.grow (Nat.le_refl _) (fun k hk => by cases hk; omega)) (Nat.le_refl _) _, Or.inr ⟨q, rfl⟩⟩
  · go_wp2_with (first
      | (go_at_call 30; refine cWh.mono ?_; rintro e2 w2 ⟨rfl, m2, rfl⟩; have hs3 := hS7.drewN m2)
      | (have X' := hs3; refine wpList_store_row rfl 44 (.tmp 2) (.tmp 34) rfl w.heap.size #[.int .i64 0, .int .i64 0, .int .i64 0, .int .i64 0, .int .i64 0, .int .i64 0, .int .i64 0, .int .i64 0, .int .i64 0, .bool false, .int .i64 0, .int .i64 0, .bool false, .int .i64 0, .int .i64 0, .int .i64 0, .int .i64 0, .bool false, .int .i64 0] rfl rfl 44 #[.int .i64 0, .int .i64 0, .int .i64 0, .int .i64 0, .int .i64 0, .int .i64 0, .int .i64 0, .int .i64 0, .int .i64 0, .bool false, .int .i64 0, .int .i64 0, .bool false, .int .i64 0, .int .i64 0, .int .i64 0, .int .i64 0, .bool false, .int .i64 0] hs3.res zTele3 rfl (by simp [Value.oneCell']) ?_))
    refine bodyPost_ret (results_cell_tmp Try.results16 _ _ w.heap.size #[.int .i64 0, .int .i64 0, .int .i64 0, .int .i64 0, .int .i64 0, .int .i64 0, .int .i64 0, .int .i64 0, .int .i64 0, .bool false, .int .i64 0, .int .i64 0, .bool false, .int .i64 0, .int .i64 0, .int .i64 0, .int .i64 0, .bool false, .int .i64 0] rfl (run_loadVar_row _ _ _ _ _ (0, 0) _ (setRow_heap _ _ _ _ _ _ hs3.res) Try.underlying44 rfl zTele3)) rfl ?_
    exact ⟨below_row ((Below.refl _ _).grown hs3.grow (Nat.le_refl _) (fun k hk => by cases hk; omega)) (Nat.le_refl _) _, Or.inr ⟨q, rfl⟩⟩
end Go.Proofs.Ythdgpadakmdlkaa.Codec
