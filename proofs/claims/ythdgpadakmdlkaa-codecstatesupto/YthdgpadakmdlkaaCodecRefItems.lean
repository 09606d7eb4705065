/-
  The chapter's own answer: a robot, a job that its reader reads.
-/
import Derived.Test.YthdgpadakmdlkaaCodecRefInts
namespace Go.Proofs.Ythdgpadakmdlkaa.Codec
set_option linter.unusedVariables false
set_option linter.unusedSimpArgs false
open Go Go.RowKit

/- A list in memory that was made since B. -/
structure Lst {α : Type} (S : Nat) (El : (Nat → Prop) → α → Array Value → World → Prop) (B : Nat) (xs : List α) (v : Value) (F : Nat → Prop) (w : World) : Prop where
  is : ListAt S El F xs v w
  new : New F B w
theorem Lst.same {α : Type} {S : Nat} {El : (Nat → Prop) → α → Array Value → World → Prop} (hE : Held El S) {B : Nat} {xs : List α} {v : Value} {F : Nat → Prop} {w w1 : World} (h : Lst S El B xs v F w) (hs : w.heap.size ≤ w1.heap.size) (hb : ∀ g, B ≤ g → g < w.heap.size → w1.heap[g]? = w.heap[g]?) : Lst S El B xs v F w1 :=
  ⟨h.is.stable hE fun g hg => hb g (h.new g hg).1 (h.new g hg).2, fun g hg => ⟨(h.new g hg).1, Nat.lt_of_lt_of_le (h.new g hg).2 hs⟩⟩
theorem Lst.kept {α : Type} {S : Nat} {El : (Nat → Prop) → α → Array Value → World → Prop} (hE : Held El S) {B : Nat} {xs : List α} {v : Value} {F : Nat → Prop} {w w1 : World} {R : Nat} (h : Lst S El B xs v F w) (g : w.grownBy w1 (some R)) (hR : R < B) : Lst S El B xs v F w1 :=
  h.same hE g.size fun b h1 h2 => g.block b h2 fun e => by have := Option.some.inj e; omega
theorem Lst.set {α : Type} {S : Nat} {El : (Nat → Prop) → α → Array Value → World → Prop} (hE : Held El S) {B : Nat} {xs : List α} {v : Value} {F : Nat → Prop} {w : World} (h : Lst S El B xs v F w) (N i : Nat) (u : Value) (hN : N < B) : Lst S El B xs v F (w.setCell ⟨N, i, none⟩ u) :=
  h.same hE (by simp) fun b h1 h2 => heap_setCell_other _ _ _ _ (by simp only; omega)
theorem Lst.setRow {α : Type} {S : Nat} {El : (Nat → Prop) → α → Array Value → World → Prop} (hE : Held El S) {B : Nat} {xs : List α} {v : Value} {F : Nat → Prop} {w : World} (h : Lst S El B xs v F w) (N : Nat) (cs : Array Value) (hN : N < B) : Lst S El B xs v F (w.setRow N cs) :=
  h.same hE (by rw [setRow_size]; exact Nat.le_refl _) fun b h1 h2 => setRow_other _ _ _ _ (by omega)
theorem zRobot3 : (Try.prog.info? 101).map (·.size) = some 9 := by kernel_rfl
set_option maxRecDepth 100000 in
set_option maxHeartbeats 4000000 in
theorem ritemRobot (M : Nat) (hM24 : M ≤ 16777216) : RItem M cRobot robotEl 52 := by
  intro w R a cap zs k bad hM h
  have hR := h.lt
  have hN0 : ((w.alloc (.cells #[.int .i64 0, .int .i64 0, .bool false, .int .i64 0, .int .i64 0, .slice none 0 0, .bool false, .int .i64 0, .bool false] 101)).alloc (.cells #[.int .i64 0, .int .i64 0, .bool false, .int .i64 0, .int .i64 0, .slice none 0 0, .bool false, .int .i64 0, .bool false] 101)).heap[w.heap.size + 1]? = some (.cells #[.int .i64 0, .int .i64 0, .bool false, .int .i64 0, .int .i64 0, .slice none 0 0, .bool false, .int .i64 0, .bool false] 101 (0, 0)) := by
    have := heap_alloc_new (w.alloc (.cells #[.int .i64 0, .int .i64 0, .bool false, .int .i64 0, .int .i64 0, .slice none 0 0, .bool false, .int .i64 0, .bool false] 101)) (.cells #[.int .i64 0, .int .i64 0, .bool false, .int .i64 0, .int .i64 0, .slice none 0 0, .bool false, .int .i64 0, .bool false] 101)
    simp only [World.size_alloc] at this
    exact this
  obtain ⟨wc, hwc⟩ : ∃ wc, wc = ((w.alloc (.cells #[.int .i64 0, .int .i64 0, .bool false, .int .i64 0, .int .i64 0, .slice none 0 0, .bool false, .int .i64 0, .bool false] 101)).alloc (.cells #[.int .i64 0, .int .i64 0, .bool false, .int .i64 0, .int .i64 0, .slice none 0 0, .bool false, .int .i64 0, .bool false] 101)).setRow (w.heap.size + 1) #[.int .i64 0, .int .i64 0, .bool false, .int .i64 0, .int .i64 0, .slice none 0 0, .bool false, .int .i64 0, .bool false] := ⟨_, rfl⟩
  have hS0 : Ob w R w.heap.size (w.heap.size + 1) 101 #[.int .i64 0, .int .i64 0, .bool false, .int .i64 0, .int .i64 0, .slice none 0 0, .bool false, .int .i64 0, .bool false] a cap zs wc #[.int .i64 0, .int .i64 0, .bool false, .int .i64 0, .int .i64 0, .slice none 0 0, .bool false, .int .i64 0, .bool false] k bad := by
    have b1 : Below w.heap.size w (w.alloc (.cells #[.int .i64 0, .int .i64 0, .bool false, .int .i64 0, .int .i64 0, .slice none 0 0, .bool false, .int .i64 0, .bool false] 101)) := (Below.refl _ _).alloc (Nat.le_refl _) _
    rw [hwc]
    refine ⟨grown_setRow ((World.grownBy_alloc _ _ _).trans (World.grownBy_alloc _ _ _)) (by omega) _, (h.same (b1.alloc (by simp) _)).setRow _ _ (by omega) (fun x hx hn => by have := h.row.lt x hx hn; omega), ?_, setRow_heap _ _ _ _ _ _ hN0, Nat.le_refl _, by omega, by omega, by omega, by omega, fun x hx hn => h.row.lt x hx hn⟩
    rw [setRow_other _ _ _ _ (by omega), alloc_old _ _ _ (by simp)]
    exact heap_alloc_new _ _
  go_enter Try.func52, Try.ntmps52
  go_upto_region 2 with (refine wpList_store_row rfl 101 (.tmp 3) (.tmp 4) rfl (w.heap.size + 1) #[.int .i64 0, .int .i64 0, .bool false, .int .i64 0, .int .i64 0, .slice none 0 0, .bool false, .int .i64 0, .bool false] rfl rfl 101 #[.int .i64 0, .int .i64 0, .bool false, .int .i64 0, .int .i64 0, .slice none 0 0, .bool false, .int .i64 0, .bool false] hN0 zRobot3 rfl (by simp [Value.oneCell']) ?_)
  simp only [Act.put]
  rw [← hwc]
  clear hwc hN0 h
  have cN := pose_one _ _ _ _ _ _ _ hS0.rr
  go_cut [6] (fun v wx => ∃ (x0 : Int) (x1 : Int) (x2 : Bool) (k1 : Nat) (b1 : Bool), Ob w R w.heap.size (w.heap.size + 1) 101 #[.int .i64 0, .int .i64 0, .bool false, .int .i64 0, .int .i64 0, .slice none 0 0, .bool false, .int .i64 0, .bool false] a cap zs wx #[.int .i64 x0, .int .i64 x1, .bool x2, .int .i64 0, .int .i64 0, .slice none 0 0, .bool false, .int .i64 0, .bool false] k1 b1 ∧ Rd1 cPose zs k bad ((x0, x1), x2) k1 b1)
  case first =>
    go_wp2_with (first
      | (go_at_call 28; refine cN.mono ?_; rintro e1 w1 ⟨g1, y0, y1, y2, k1', b1', rfl, r1, s1⟩; have hs1 := Ob.kept hS0 g1 r1)
      | (have X' := hs1; refine wpList_store_mid rfl 25 (.tmp 7) (.tmp 6) rfl (w.heap.size + 1) 0 #[.int .i64 y0, .int .i64 y1, .bool y2] rfl rfl (hs1.there 0 3 (by simp)) zPose3 (by simp [Value.oneCell']) ?_))
    go_meet
    exact ⟨y0, y1, y2, k1', b1', Ob.puts [.int .i64 y0, .int .i64 y1, .bool y2] 0 _ _ #[.int .i64 y0, .int .i64 y1, .bool y2, .int .i64 0, .int .i64 0, .slice none 0 0, .bool false, .int .i64 0, .bool false] hs1 (by simp only [putL, List.setIfInBounds_toArray, List.set_cons_zero, List.set_cons_succ]), s1⟩
  case rest =>
  obtain ⟨x0, x1, x2, k1, b1, hS1, st0⟩ := hcut
  clear cN hS0

  go_upto_region 3 with fail
  have cN := num_one _ _ _ _ _ _ _ hS1.rr
  go_cut [9] (fun v wx => ∃ (x3 : Int) (k2 : Nat) (b2 : Bool), Ob w R w.heap.size (w.heap.size + 1) 101 #[.int .i64 0, .int .i64 0, .bool false, .int .i64 0, .int .i64 0, .slice none 0 0, .bool false, .int .i64 0, .bool false] a cap zs wx #[.int .i64 x0, .int .i64 x1, .bool x2, .int .i64 x3, .int .i64 0, .slice none 0 0, .bool false, .int .i64 0, .bool false] k2 b2 ∧ Rd1 cNum zs k1 b1 x3 k2 b2)
  case first =>
    go_wp2_with (first
      | (go_at_call 27; refine cN.mono ?_; rintro e1 w1 ⟨g1, y3, k1', b1', rfl, r1, s1⟩; have hs1 := Ob.kept hS1 g1 r1; have hcl := hs1.cell 3 _ rfl; have hcl1 := hcl.1; have hcl2 := hcl.2))
    go_meet
    exact ⟨y3, k1', b1', hs1.put 3 _ _ rfl, s1⟩
  case rest =>
  obtain ⟨x3, k2, b2, hS2, st1⟩ := hcut
  clear cN hS1

  go_upto_region 4 with fail
  have cN := num_one _ _ _ _ _ _ _ hS2.rr
  go_cut [12] (fun v wx => ∃ (x4 : Int) (k3 : Nat) (b3 : Bool), Ob w R w.heap.size (w.heap.size + 1) 101 #[.int .i64 0, .int .i64 0, .bool false, .int .i64 0, .int .i64 0, .slice none 0 0, .bool false, .int .i64 0, .bool false] a cap zs wx #[.int .i64 x0, .int .i64 x1, .bool x2, .int .i64 x3, .int .i64 x4, .slice none 0 0, .bool false, .int .i64 0, .bool false] k3 b3 ∧ Rd1 cNum zs k2 b2 x4 k3 b3)
  case first =>
    go_wp2_with (first
      | (go_at_call 27; refine cN.mono ?_; rintro e1 w1 ⟨g1, y4, k1', b1', rfl, r1, s1⟩; have hs1 := Ob.kept hS2 g1 r1; have hcl := hs1.cell 4 _ rfl; have hcl1 := hcl.1; have hcl2 := hcl.2))
    go_meet
    exact ⟨y4, k1', b1', hs1.put 4 _ _ rfl, s1⟩
  case rest =>
  obtain ⟨x4, k3, b3, hS3, st2⟩ := hcut
  clear cN hS2

  go_upto_region 5 with fail
  have cN := rmoves_any M hM24 _ _ _ _ _ _ _ hM hS3.rr
  go_cut [15] (fun v wx => ∃ (l5 : List TMove) (v5 : Value) (k4 : Nat) (b4 : Bool) (F5 : Nat → Prop), Ob w R w.heap.size (w.heap.size + 1) 101 #[.int .i64 0, .int .i64 0, .bool false, .int .i64 0, .int .i64 0, .slice none 0 0, .bool false, .int .i64 0, .bool false] a cap zs wx #[.int .i64 x0, .int .i64 x1, .bool x2, .int .i64 x3, .int .i64 x4, v5, .bool false, .int .i64 0, .bool false] k4 b4 ∧ Rd1 (list cMove) zs k3 b3 l5 k4 b4 ∧ Lst 11 moveEl (w.heap.size + 1 + 1) l5 v5 F5 wx)
  case first =>
    go_wp2_with (go_at_call 29; refine cN.mono ?_; rintro e1 w1 ⟨g1, ll, vv, k1', b1', FF, rfl, q1, f1, r1, s1⟩; obtain ⟨va, vc, rfl, _⟩ := q1.form; have hs1 := Ob.kept hS3 g1 r1; have hcl := hs1.cell 5 _ rfl; have hcl1 := hcl.1; have hcl2 := hcl.2)
    go_meet
    have hsz := lt_of_heap hS3.so
    have LL : Lst 11 moveEl (w.heap.size + 1 + 1) ll (.slice va ll.length vc) FF w1 := ⟨q1, f1.keep (by omega) (Nat.le_refl _)⟩
    exact ⟨ll, _, k1', b1', FF, hs1.put 5 _ _ rfl, s1, LL.set heldMoveEl _ _ _ (by omega)⟩
  case rest =>
  obtain ⟨l5, v5, k4, b4, F5, hS4, st3, hM5⟩ := hcut
  clear cN hS3
  have hL5 := hM5
  clear hM5
  go_upto_region 6 with fail
  have cN := flag_one _ _ _ _ _ _ _ hS4.rr
  go_cut [18] (fun v wx => ∃ (x6 : Bool) (k5 : Nat) (b5 : Bool), Ob w R w.heap.size (w.heap.size + 1) 101 #[.int .i64 0, .int .i64 0, .bool false, .int .i64 0, .int .i64 0, .slice none 0 0, .bool false, .int .i64 0, .bool false] a cap zs wx #[.int .i64 x0, .int .i64 x1, .bool x2, .int .i64 x3, .int .i64 x4, v5, .bool x6, .int .i64 0, .bool false] k5 b5 ∧ Rd1 cFlag zs k4 b4 x6 k5 b5 ∧ Lst 11 moveEl (w.heap.size + 1 + 1) l5 v5 F5 wx)
  case first =>
    go_wp2_with (first
      | (go_at_call 48; refine cN.mono ?_; rintro e1 w1 ⟨g1, y6, k1', b1', rfl, r1, s1⟩; have hs1 := Ob.kept hS4 g1 r1; have hcl := hs1.cell 6 _ rfl; have hcl1 := hcl.1; have hcl2 := hcl.2; have hL5n := hL5.kept heldMoveEl g1 (by omega)))
    go_meet
    exact ⟨y6, k1', b1', hs1.put 6 _ _ rfl, s1, hL5n.set heldMoveEl _ _ _ (by omega)⟩
  case rest =>
  obtain ⟨x6, k5, b5, hS5, st4, hM5⟩ := hcut
  clear cN hS4 hL5
  have hL5 := hM5
  clear hM5
  go_upto_region 7 with fail
  have cN := num_one _ _ _ _ _ _ _ hS5.rr
  go_cut [21] (fun v wx => ∃ (x7 : Int) (k6 : Nat) (b6 : Bool), Ob w R w.heap.size (w.heap.size + 1) 101 #[.int .i64 0, .int .i64 0, .bool false, .int .i64 0, .int .i64 0, .slice none 0 0, .bool false, .int .i64 0, .bool false] a cap zs wx #[.int .i64 x0, .int .i64 x1, .bool x2, .int .i64 x3, .int .i64 x4, v5, .bool x6, .int .i64 x7, .bool false] k6 b6 ∧ Rd1 cNum zs k5 b5 x7 k6 b6 ∧ Lst 11 moveEl (w.heap.size + 1 + 1) l5 v5 F5 wx)
  case first =>
    go_wp2_with (first
      | (go_at_call 27; refine cN.mono ?_; rintro e1 w1 ⟨g1, y7, k1', b1', rfl, r1, s1⟩; have hs1 := Ob.kept hS5 g1 r1; have hcl := hs1.cell 7 _ rfl; have hcl1 := hcl.1; have hcl2 := hcl.2; have hL5n := hL5.kept heldMoveEl g1 (by omega)))
    go_meet
    exact ⟨y7, k1', b1', hs1.put 7 _ _ rfl, s1, hL5n.set heldMoveEl _ _ _ (by omega)⟩
  case rest =>
  obtain ⟨x7, k6, b6, hS6, st5, hM5⟩ := hcut
  clear cN hS5 hL5
  have hL5 := hM5
  clear hM5
  go_upto_region 8 with fail
  have cN := flag_one _ _ _ _ _ _ _ hS6.rr
  go_cut [24] (fun v wx => ∃ (x8 : Bool) (k7 : Nat) (b7 : Bool), Ob w R w.heap.size (w.heap.size + 1) 101 #[.int .i64 0, .int .i64 0, .bool false, .int .i64 0, .int .i64 0, .slice none 0 0, .bool false, .int .i64 0, .bool false] a cap zs wx #[.int .i64 x0, .int .i64 x1, .bool x2, .int .i64 x3, .int .i64 x4, v5, .bool x6, .int .i64 x7, .bool x8] k7 b7 ∧ Rd1 cFlag zs k6 b6 x8 k7 b7 ∧ Lst 11 moveEl (w.heap.size + 1 + 1) l5 v5 F5 wx)
  case first =>
    go_wp2_with (first
      | (go_at_call 48; refine cN.mono ?_; rintro e1 w1 ⟨g1, y8, k1', b1', rfl, r1, s1⟩; have hs1 := Ob.kept hS6 g1 r1; have hcl := hs1.cell 8 _ rfl; have hcl1 := hcl.1; have hcl2 := hcl.2; have hL5n := hL5.kept heldMoveEl g1 (by omega)))
    go_meet
    exact ⟨y8, k1', b1', hs1.put 8 _ _ rfl, s1, hL5n.set heldMoveEl _ _ _ (by omega)⟩
  case rest =>
  obtain ⟨x8, k7, b7, hS7, st6, hM5⟩ := hcut
  clear cN hS6 hL5
  have hL5 := hM5
  clear hM5
  obtain ⟨va5, vc5, rfl, _⟩ := hL5.is.form
  go_wp2_with (first
    | (refine wpList_load_row rfl 101 (.tmp 3) rfl (w.heap.size + 1) rfl 101 #[.int .i64 x0, .int .i64 x1, .bool x2, .int .i64 x3, .int .i64 x4, .slice va5 l5.length vc5, .bool x6, .int .i64 x7, .bool x8] (0, 0) _ hS7.so Try.underlying101 rfl zRobot3 ?_)
    | (refine wpList_store_row rfl 101 (.tmp 2) (.tmp 26) rfl w.heap.size #[.int .i64 x0, .int .i64 x1, .bool x2, .int .i64 x3, .int .i64 x4, .slice va5 l5.length vc5, .bool x6, .int .i64 x7, .bool x8] rfl rfl 101 #[.int .i64 0, .int .i64 0, .bool false, .int .i64 0, .int .i64 0, .slice none 0 0, .bool false, .int .i64 0, .bool false] hS7.res zRobot3 rfl (by simp [Value.oneCell']) ?_))
  refine bodyPost_ret (results_cell_row rfl _ _ w.heap.size 101 #[.int .i64 x0, .int .i64 x1, .bool x2, .int .i64 x3, .int .i64 x4, .slice va5 l5.length vc5, .bool x6, .int .i64 x7, .bool x8] (0, 0) _ rfl (setRow_heap _ _ _ _ _ _ hS7.res) Try.underlying101 rfl zRobot3) rfl ?_
  exact ⟨grown_setRow hS7.grow (Nat.le_refl _) _, (((x0, x1), x2), x3, x4, l5, x6, x7, x8), #[.int .i64 x0, .int .i64 x1, .bool x2, .int .i64 x3, .int .i64 x4, .slice va5 l5.length vc5, .bool x6, .int .i64 x7, .bool x8], k7, b7, F5, rfl, ⟨_, rfl, (hL5.setRow heldMoveEl _ _ (by omega)).is⟩, fun g hg => by have := (hL5.setRow heldMoveEl w.heap.size #[.int .i64 x0, .int .i64 x1, .bool x2, .int .i64 x3, .int .i64 x4, .slice va5 l5.length vc5, .bool x6, .int .i64 x7, .bool x8] (by omega)).new g hg; exact ⟨by omega, this.2⟩, hS7.rr.setRow _ _ hS7.mr (fun x hx hn => by have := hS7.old x hx hn; omega), Rd1.also st0 (Rd1.also st1 (Rd1.also st2 (Rd1.also st3 (Rd1.also st4 (Rd1.also st5 (st6))))))⟩
theorem zJob3 : (Try.prog.info? 108).map (·.size) = some 9 := by kernel_rfl
set_option maxRecDepth 100000 in
set_option maxHeartbeats 4000000 in
theorem ritemJob (M : Nat) (hM24 : M ≤ 16777216) : RItem M cJob jobEl 53 := by
  intro w R a cap zs k bad hM h
  have hR := h.lt
  have hN0 : ((w.alloc (.cells #[.int .i64 0, .int .i64 0, .int .i64 0, .int .i64 0, .int .i64 0, .int .i64 0, .int .i64 0, .int .i64 0, .int .i64 0] 108)).alloc (.cells #[.int .i64 0, .int .i64 0, .int .i64 0, .int .i64 0, .int .i64 0, .int .i64 0, .int .i64 0, .int .i64 0, .int .i64 0] 108)).heap[w.heap.size + 1]? = some (.cells #[.int .i64 0, .int .i64 0, .int .i64 0, .int .i64 0, .int .i64 0, .int .i64 0, .int .i64 0, .int .i64 0, .int .i64 0] 108 (0, 0)) := by
    have := heap_alloc_new (w.alloc (.cells #[.int .i64 0, .int .i64 0, .int .i64 0, .int .i64 0, .int .i64 0, .int .i64 0, .int .i64 0, .int .i64 0, .int .i64 0] 108)) (.cells #[.int .i64 0, .int .i64 0, .int .i64 0, .int .i64 0, .int .i64 0, .int .i64 0, .int .i64 0, .int .i64 0, .int .i64 0] 108)
    simp only [World.size_alloc] at this
    exact this
  obtain ⟨wc, hwc⟩ : ∃ wc, wc = ((w.alloc (.cells #[.int .i64 0, .int .i64 0, .int .i64 0, .int .i64 0, .int .i64 0, .int .i64 0, .int .i64 0, .int .i64 0, .int .i64 0] 108)).alloc (.cells #[.int .i64 0, .int .i64 0, .int .i64 0, .int .i64 0, .int .i64 0, .int .i64 0, .int .i64 0, .int .i64 0, .int .i64 0] 108)).setRow (w.heap.size + 1) #[.int .i64 0, .int .i64 0, .int .i64 0, .int .i64 0, .int .i64 0, .int .i64 0, .int .i64 0, .int .i64 0, .int .i64 0] := ⟨_, rfl⟩
  have hS0 : Ob w R w.heap.size (w.heap.size + 1) 108 #[.int .i64 0, .int .i64 0, .int .i64 0, .int .i64 0, .int .i64 0, .int .i64 0, .int .i64 0, .int .i64 0, .int .i64 0] a cap zs wc #[.int .i64 0, .int .i64 0, .int .i64 0, .int .i64 0, .int .i64 0, .int .i64 0, .int .i64 0, .int .i64 0, .int .i64 0] k bad := by
    have b1 : Below w.heap.size w (w.alloc (.cells #[.int .i64 0, .int .i64 0, .int .i64 0, .int .i64 0, .int .i64 0, .int .i64 0, .int .i64 0, .int .i64 0, .int .i64 0] 108)) := (Below.refl _ _).alloc (Nat.le_refl _) _
    rw [hwc]
    refine ⟨grown_setRow ((World.grownBy_alloc _ _ _).trans (World.grownBy_alloc _ _ _)) (by omega) _, (h.same (b1.alloc (by simp) _)).setRow _ _ (by omega) (fun x hx hn => by have := h.row.lt x hx hn; omega), ?_, setRow_heap _ _ _ _ _ _ hN0, Nat.le_refl _, by omega, by omega, by omega, by omega, fun x hx hn => h.row.lt x hx hn⟩
    rw [setRow_other _ _ _ _ (by omega), alloc_old _ _ _ (by simp)]
    exact heap_alloc_new _ _
  go_enter Try.func53, Try.ntmps53
  go_upto_region 2 with (refine wpList_store_row rfl 108 (.tmp 3) (.tmp 4) rfl (w.heap.size + 1) #[.int .i64 0, .int .i64 0, .int .i64 0, .int .i64 0, .int .i64 0, .int .i64 0, .int .i64 0, .int .i64 0, .int .i64 0] rfl rfl 108 #[.int .i64 0, .int .i64 0, .int .i64 0, .int .i64 0, .int .i64 0, .int .i64 0, .int .i64 0, .int .i64 0, .int .i64 0] hN0 zJob3 rfl (by simp [Value.oneCell']) ?_)
  simp only [Act.put]
  rw [← hwc]
  clear hwc hN0 h
  have cN := num_one _ _ _ _ _ _ _ hS0.rr
  go_cut [6] (fun v wx => ∃ (x0 : Int) (k1 : Nat) (b1 : Bool), Ob w R w.heap.size (w.heap.size + 1) 108 #[.int .i64 0, .int .i64 0, .int .i64 0, .int .i64 0, .int .i64 0, .int .i64 0, .int .i64 0, .int .i64 0, .int .i64 0] a cap zs wx #[.int .i64 x0, .int .i64 0, .int .i64 0, .int .i64 0, .int .i64 0, .int .i64 0, .int .i64 0, .int .i64 0, .int .i64 0] k1 b1 ∧ Rd1 cNum zs k bad x0 k1 b1)
  case first =>
    go_wp2_with (first
      | (go_at_call 27; refine cN.mono ?_; rintro e1 w1 ⟨g1, y0, k1', b1', rfl, r1, s1⟩; have hs1 := Ob.kept hS0 g1 r1; have hcl := hs1.cell 0 _ rfl; have hcl1 := hcl.1; have hcl2 := hcl.2))
    go_meet
    exact ⟨y0, k1', b1', hs1.put 0 _ _ rfl, s1⟩
  case rest =>
  obtain ⟨x0, k1, b1, hS1, st0⟩ := hcut
  clear cN hS0

  go_upto_region 3 with fail
  have cN := num_one _ _ _ _ _ _ _ hS1.rr
  go_cut [9] (fun v wx => ∃ (x1 : Int) (k2 : Nat) (b2 : Bool), Ob w R w.heap.size (w.heap.size + 1) 108 #[.int .i64 0, .int .i64 0, .int .i64 0, .int .i64 0, .int .i64 0, .int .i64 0, .int .i64 0, .int .i64 0, .int .i64 0] a cap zs wx #[.int .i64 x0, .int .i64 x1, .int .i64 0, .int .i64 0, .int .i64 0, .int .i64 0, .int .i64 0, .int .i64 0, .int .i64 0] k2 b2 ∧ Rd1 cNum zs k1 b1 x1 k2 b2)
  case first =>
    go_wp2_with (first
      | (go_at_call 27; refine cN.mono ?_; rintro e1 w1 ⟨g1, y1, k1', b1', rfl, r1, s1⟩; have hs1 := Ob.kept hS1 g1 r1; have hcl := hs1.cell 1 _ rfl; have hcl1 := hcl.1; have hcl2 := hcl.2))
    go_meet
    exact ⟨y1, k1', b1', hs1.put 1 _ _ rfl, s1⟩
  case rest =>
  obtain ⟨x1, k2, b2, hS2, st1⟩ := hcut
  clear cN hS1

  go_upto_region 4 with fail
  have cN := num_one _ _ _ _ _ _ _ hS2.rr
  go_cut [12] (fun v wx => ∃ (x2 : Int) (k3 : Nat) (b3 : Bool), Ob w R w.heap.size (w.heap.size + 1) 108 #[.int .i64 0, .int .i64 0, .int .i64 0, .int .i64 0, .int .i64 0, .int .i64 0, .int .i64 0, .int .i64 0, .int .i64 0] a cap zs wx #[.int .i64 x0, .int .i64 x1, .int .i64 x2, .int .i64 0, .int .i64 0, .int .i64 0, .int .i64 0, .int .i64 0, .int .i64 0] k3 b3 ∧ Rd1 cNum zs k2 b2 x2 k3 b3)
  case first =>
    go_wp2_with (first
      | (go_at_call 27; refine cN.mono ?_; rintro e1 w1 ⟨g1, y2, k1', b1', rfl, r1, s1⟩; have hs1 := Ob.kept hS2 g1 r1; have hcl := hs1.cell 2 _ rfl; have hcl1 := hcl.1; have hcl2 := hcl.2))
    go_meet
    exact ⟨y2, k1', b1', hs1.put 2 _ _ rfl, s1⟩
  case rest =>
  obtain ⟨x2, k3, b3, hS3, st2⟩ := hcut
  clear cN hS2

  go_upto_region 5 with fail
  have cN := num_one _ _ _ _ _ _ _ hS3.rr
  go_cut [15] (fun v wx => ∃ (x3 : Int) (k4 : Nat) (b4 : Bool), Ob w R w.heap.size (w.heap.size + 1) 108 #[.int .i64 0, .int .i64 0, .int .i64 0, .int .i64 0, .int .i64 0, .int .i64 0, .int .i64 0, .int .i64 0, .int .i64 0] a cap zs wx #[.int .i64 x0, .int .i64 x1, .int .i64 x2, .int .i64 x3, .int .i64 0, .int .i64 0, .int .i64 0, .int .i64 0, .int .i64 0] k4 b4 ∧ Rd1 cNum zs k3 b3 x3 k4 b4)
  case first =>
    go_wp2_with (first
      | (go_at_call 27; refine cN.mono ?_; rintro e1 w1 ⟨g1, y3, k1', b1', rfl, r1, s1⟩; have hs1 := Ob.kept hS3 g1 r1; have hcl := hs1.cell 3 _ rfl; have hcl1 := hcl.1; have hcl2 := hcl.2))
    go_meet
    exact ⟨y3, k1', b1', hs1.put 3 _ _ rfl, s1⟩
  case rest =>
  obtain ⟨x3, k4, b4, hS4, st3⟩ := hcut
  clear cN hS3

  go_upto_region 6 with fail
  have cN := cell_one _ _ _ _ _ _ _ hS4.rr
  go_cut [18] (fun v wx => ∃ (x4 : Int) (x5 : Int) (k5 : Nat) (b5 : Bool), Ob w R w.heap.size (w.heap.size + 1) 108 #[.int .i64 0, .int .i64 0, .int .i64 0, .int .i64 0, .int .i64 0, .int .i64 0, .int .i64 0, .int .i64 0, .int .i64 0] a cap zs wx #[.int .i64 x0, .int .i64 x1, .int .i64 x2, .int .i64 x3, .int .i64 x4, .int .i64 x5, .int .i64 0, .int .i64 0, .int .i64 0] k5 b5 ∧ Rd1 cCell zs k4 b4 (x4, x5) k5 b5)
  case first =>
    go_wp2_with (first
      | (go_at_call 50; refine cN.mono ?_; rintro e1 w1 ⟨g1, y4, y5, k1', b1', rfl, r1, s1⟩; have hs1 := Ob.kept hS4 g1 r1)
      | (have X' := hs1; refine wpList_store_mid rfl 23 (.tmp 19) (.tmp 18) rfl (w.heap.size + 1) 4 #[.int .i64 y4, .int .i64 y5] rfl rfl (hs1.there 4 2 (by simp)) zCell3 (by simp [Value.oneCell']) ?_))
    go_meet
    exact ⟨y4, y5, k1', b1', Ob.puts [.int .i64 y4, .int .i64 y5] 4 _ _ #[.int .i64 x0, .int .i64 x1, .int .i64 x2, .int .i64 x3, .int .i64 y4, .int .i64 y5, .int .i64 0, .int .i64 0, .int .i64 0] hs1 (by simp only [putL, List.setIfInBounds_toArray, List.set_cons_zero, List.set_cons_succ]), s1⟩
  case rest =>
  obtain ⟨x4, x5, k5, b5, hS5, st4⟩ := hcut
  clear cN hS4

  go_upto_region 7 with fail
  have cN := cell_one _ _ _ _ _ _ _ hS5.rr
  go_cut [21] (fun v wx => ∃ (x6 : Int) (x7 : Int) (k6 : Nat) (b6 : Bool), Ob w R w.heap.size (w.heap.size + 1) 108 #[.int .i64 0, .int .i64 0, .int .i64 0, .int .i64 0, .int .i64 0, .int .i64 0, .int .i64 0, .int .i64 0, .int .i64 0] a cap zs wx #[.int .i64 x0, .int .i64 x1, .int .i64 x2, .int .i64 x3, .int .i64 x4, .int .i64 x5, .int .i64 x6, .int .i64 x7, .int .i64 0] k6 b6 ∧ Rd1 cCell zs k5 b5 (x6, x7) k6 b6)
  case first =>
    go_wp2_with (first
      | (go_at_call 50; refine cN.mono ?_; rintro e1 w1 ⟨g1, y6, y7, k1', b1', rfl, r1, s1⟩; have hs1 := Ob.kept hS5 g1 r1)
      | (have X' := hs1; refine wpList_store_mid rfl 23 (.tmp 22) (.tmp 21) rfl (w.heap.size + 1) 6 #[.int .i64 y6, .int .i64 y7] rfl rfl (hs1.there 6 2 (by simp)) zCell3 (by simp [Value.oneCell']) ?_))
    go_meet
    exact ⟨y6, y7, k1', b1', Ob.puts [.int .i64 y6, .int .i64 y7] 6 _ _ #[.int .i64 x0, .int .i64 x1, .int .i64 x2, .int .i64 x3, .int .i64 x4, .int .i64 x5, .int .i64 y6, .int .i64 y7, .int .i64 0] hs1 (by simp only [putL, List.setIfInBounds_toArray, List.set_cons_zero, List.set_cons_succ]), s1⟩
  case rest =>
  obtain ⟨x6, x7, k6, b6, hS6, st5⟩ := hcut
  clear cN hS5

  go_upto_region 8 with fail
  have cN := num_one _ _ _ _ _ _ _ hS6.rr
  go_cut [24] (fun v wx => ∃ (x8 : Int) (k7 : Nat) (b7 : Bool), Ob w R w.heap.size (w.heap.size + 1) 108 #[.int .i64 0, .int .i64 0, .int .i64 0, .int .i64 0, .int .i64 0, .int .i64 0, .int .i64 0, .int .i64 0, .int .i64 0] a cap zs wx #[.int .i64 x0, .int .i64 x1, .int .i64 x2, .int .i64 x3, .int .i64 x4, .int .i64 x5, .int .i64 x6, .int .i64 x7, .int .i64 x8] k7 b7 ∧ Rd1 cNum zs k6 b6 x8 k7 b7)
  case first =>
    go_wp2_with (first
      | (go_at_call 27; refine cN.mono ?_; rintro e1 w1 ⟨g1, y8, k1', b1', rfl, r1, s1⟩; have hs1 := Ob.kept hS6 g1 r1; have hcl := hs1.cell 8 _ rfl; have hcl1 := hcl.1; have hcl2 := hcl.2))
    go_meet
    exact ⟨y8, k1', b1', hs1.put 8 _ _ rfl, s1⟩
  case rest =>
  obtain ⟨x8, k7, b7, hS7, st6⟩ := hcut
  clear cN hS6

  go_wp2_with (first
    | (refine wpList_load_row rfl 108 (.tmp 3) rfl (w.heap.size + 1) rfl 108 #[.int .i64 x0, .int .i64 x1, .int .i64 x2, .int .i64 x3, .int .i64 x4, .int .i64 x5, .int .i64 x6, .int .i64 x7, .int .i64 x8] (0, 0) _ hS7.so Try.underlying108 rfl zJob3 ?_)
    | (refine wpList_store_row rfl 108 (.tmp 2) (.tmp 26) rfl w.heap.size #[.int .i64 x0, .int .i64 x1, .int .i64 x2, .int .i64 x3, .int .i64 x4, .int .i64 x5, .int .i64 x6, .int .i64 x7, .int .i64 x8] rfl rfl 108 #[.int .i64 0, .int .i64 0, .int .i64 0, .int .i64 0, .int .i64 0, .int .i64 0, .int .i64 0, .int .i64 0, .int .i64 0] hS7.res zJob3 rfl (by simp [Value.oneCell']) ?_))
  refine bodyPost_ret (results_cell_row rfl _ _ w.heap.size 108 #[.int .i64 x0, .int .i64 x1, .int .i64 x2, .int .i64 x3, .int .i64 x4, .int .i64 x5, .int .i64 x6, .int .i64 x7, .int .i64 x8] (0, 0) _ rfl (setRow_heap _ _ _ _ _ _ hS7.res) Try.underlying108 rfl zJob3) rfl ?_
  exact ⟨grown_setRow hS7.grow (Nat.le_refl _) _, (x0, x1, x2, x3, (x4, x5), (x6, x7), x8), #[.int .i64 x0, .int .i64 x1, .int .i64 x2, .int .i64 x3, .int .i64 x4, .int .i64 x5, .int .i64 x6, .int .i64 x7, .int .i64 x8], k7, b7, (fun _ => False), rfl, rfl, none_new _ _, hS7.rr.setRow _ _ hS7.mr (fun x hx hn => by have := hS7.old x hx hn; omega), Rd1.also st0 (Rd1.also st1 (Rd1.also st2 (Rd1.also st3 (Rd1.also st4 (Rd1.also st5 (st6))))))⟩
end Go.Proofs.Ythdgpadakmdlkaa.Codec
