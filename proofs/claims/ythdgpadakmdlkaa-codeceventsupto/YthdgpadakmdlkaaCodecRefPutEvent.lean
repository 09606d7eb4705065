/-
  The chapter's own answer: an event's bytes.
-/
import Derived.Test.YthdgpadakmdlkaaCodecRefPutMoves
namespace Go.Proofs.Ythdgpadakmdlkaa.Codec
set_option linter.unusedVariables false
set_option linter.unusedSimpArgs false
open Go Go.RowKit

set_option maxRecDepth 100000 in
set_option maxHeartbeats 4000000 in
theorem refPutEvent_any (w : World) (k a0 b0 x y : Int) (d : Bool) (va : Option Addr) (n vc : Nat) (xs : List TMove) (F : Nat → Prop) (hF : ∀ g, F g → g < w.heap.size) (hx : ListAt 11 moveEl F xs (.slice va n vc) w) (ho : cEvent.ok (k, a0, b0, ((x, y), d), xs)) (hl : (cEvent.put (k, a0, b0, ((x, y), d), xs)).length + 10 ≤ 140737488355328) :
    Calls Try.prog 11 #[.agg #[.int .i64 k, .int .i64 a0, .int .i64 b0, .int .i64 x, .int .i64 y, .bool d, .slice va n vc]] w (Made (cEvent.put (k, a0, b0, ((x, y), d), xs)) w) := by
  obtain ⟨o1, o2, o3, o4, o5⟩ := ho
  have hm : Mine w (.slice none 0 0) [] := Mine.nil w
  obtain ⟨b, hb⟩ : ∃ b, b = Value.slice none 0 0 := ⟨_, rfl⟩
  obtain ⟨zs, hzs⟩ : ∃ zs : List Int, zs = [] := ⟨_, rfl⟩
  have hzl : zs.length = 0 := by rw [hzs]; rfl
  rw [← hb, ← hzs] at hm
  have hfree : cEvent.put (k, a0, b0, ((x, y), d), xs) = zs ++ cEvent.put (k, a0, b0, ((x, y), d), xs) := by rw [hzs]; rfl
  rw [hfree]
  have e : zs ++ cEvent.put (k, a0, b0, ((x, y), d), xs) = (((((zs ++ num k) ++ num a0) ++ num b0) ++ cPose.put ((x, y), d)) ++ (list cMove).put xs) := by
    show zs ++ (num k ++ (num a0 ++ (num b0 ++ (cPose.put ((x, y), d) ++ (list cMove).put xs)))) = _
    simp only [List.append_assoc]
  have e2 : (cEvent.put (k, a0, b0, ((x, y), d), xs)).length = (num k).length + (num a0).length + (num b0).length + (cPose.put ((x, y), d)).length + ((list cMove).put xs).length := by
    show (num k ++ (num a0 ++ (num b0 ++ (cPose.put ((x, y), d) ++ (list cMove).put xs)))).length = _
    simp only [List.length_append]
    try omega
  rw [e]
  have c1 := fun (u : World) (b' : Value) (hm : Mine u b' zs) => refnum_any u b' _ k hm o1 (by (try simp only [List.length_append]); omega)
  have c2 := fun (u : World) (b' : Value) (hm : Mine u b' (zs ++ num k)) => refnum_any u b' _ a0 hm o2 (by (try simp only [List.length_append]); omega)
  have c3 := fun (u : World) (b' : Value) (hm : Mine u b' ((zs ++ num k) ++ num a0)) => refnum_any u b' _ b0 hm o3 (by (try simp only [List.length_append]); omega)
  have c4 := fun (u : World) (b' : Value) (hm : Mine u b' (((zs ++ num k) ++ num a0) ++ num b0)) => refpose_any u b' _ x y d hm o4 (by (try simp only [List.length_append]); omega)
  have hfr : Fresh w b := by rw [hb]; exact fresh_nil w
  have c5 := fun (u : World) (b' : Value) (hm : Mine u b' ((((zs ++ num k) ++ num a0) ++ num b0) ++ cPose.put ((x, y), d))) (gg : Goes b w b' u) => refmoves_any w F hF u b' _ xs (.slice va n vc) (Goes.below_of (Below.refl _ _) gg hfr) (hfr.goes (Below.refl _ _) gg) hm hx o5 (by (try simp only [List.length_append]); omega)
  generalize (((((zs ++ num k) ++ num a0) ++ num b0) ++ cPose.put ((x, y), d)) ++ (list cMove).put xs) = Z5 at *
  generalize ((((zs ++ num k) ++ num a0) ++ num b0) ++ cPose.put ((x, y), d)) = Z4 at *
  generalize (((zs ++ num k) ++ num a0) ++ num b0) = Z3 at *
  generalize ((zs ++ num k) ++ num a0) = Z2 at *
  generalize (zs ++ num k) = Z1 at *
  obtain ⟨wc, hwc⟩ : ∃ wc, wc = w.alloc (.cells #[.int .i64 k, .int .i64 a0, .int .i64 b0, .int .i64 x, .int .i64 y, .bool d, .slice va n vc] 28) := ⟨_, rfl⟩
  have h0 : wc.heap[w.heap.size]? = some (.cells #[.int .i64 k, .int .i64 a0, .int .i64 b0, .int .i64 x, .int .i64 y, .bool d, .slice va n vc] 28 (0, 0)) := by rw [hwc]; exact heap_alloc_new w _
  have g0 : Goes b w b wc := by rw [hwc]; exact goes_alloc b w _
  have m0 : Mine wc b zs := by rw [hwc]; exact hm.alloc _
  have n0 : b.ownBlock ≠ some w.heap.size := fun e => by have := hm.lt _ e; omega
  have hgo : True := trivial
  go_enter Try.func11, Try.ntmps11
  go_upto_region 1 with fail
  rw [← hwc]
  clear hwc
  go_cut [2] (fun v wx => Mine wx v Z5 ∧ Goes b w v wx ∧ wx.heap[w.heap.size]? = some (.cells #[.int .i64 k, .int .i64 a0, .int .i64 b0, .int .i64 x, .int .i64 y, .bool d, .slice va n vc] 28 (0, 0)) ∧ v.ownBlock ≠ some w.heap.size)
  case first =>
    have hd0 : wc.drew.heap[w.heap.size]? = some (.cells #[.int .i64 k, .int .i64 a0, .int .i64 b0, .int .i64 x, .int .i64 y, .bool d, .slice va n vc] 28 (0, 0)) := h0
    have md0 : Mine wc.drew b zs := m0.later (drew_below4 _)
    have gd0 : Goes b w b wc.drew := g0.drew
    refine start_held (S := fun u => u.heap[w.heap.size]? = some (.cells #[.int .i64 k, .int .i64 a0, .int .i64 b0, .int .i64 x, .int .i64 y, .bool d, .slice va n vc] 28 (0, 0))) 16 rfl (by kernel_rfl) hd0 ?_
    simp only [Array.replicate_succ, Array.replicate_zero, List.push_toArray, List.nil_append, List.cons_append]
    refine take_held 0 hd0 rfl (by kernel_rfl) (by kernel_rfl) (by kernel_rfl) (fun _ _ _ h => h) (by kernel_rfl) (v := .pointer (some ⟨w.heap.size, 0, none⟩)) ?y0_0 ?r0_0
    case y0_0 => (intro u hu; go_simp; try rfl)
    simp only [Act.put, List.setIfInBounds_toArray, List.set_cons_zero, List.set_cons_succ]
    refine take_held 1 hd0 rfl (by kernel_rfl) (by kernel_rfl) (by kernel_rfl) (fun _ _ _ h => h) (by kernel_rfl) (v := .int .i64 k) ?y0_1 ?r0_1
    case y0_1 => (intro u hu; have hq0 : u.cell? ⟨w.heap.size, 0, none⟩ = some (.int .i64 k) := (cell_of_row _ _ _ _ _ _ hu).trans rfl; go_simp; try rfl)
    simp only [Act.put, List.setIfInBounds_toArray, List.set_cons_zero, List.set_cons_succ]
    refine take_held 3 hd0 rfl (by kernel_rfl) (by kernel_rfl) (by kernel_rfl) (fun _ _ _ h => h) (by kernel_rfl) (v := .pointer (some ⟨w.heap.size, 1, none⟩)) ?y0_3 ?r0_3
    case y0_3 => (intro u hu; go_simp; try rfl)
    simp only [Act.put, List.setIfInBounds_toArray, List.set_cons_zero, List.set_cons_succ]
    refine take_held 4 hd0 rfl (by kernel_rfl) (by kernel_rfl) (by kernel_rfl) (fun _ _ _ h => h) (by kernel_rfl) (v := .int .i64 a0) ?y0_4 ?r0_4
    case y0_4 => (intro u hu; have hq0 : u.cell? ⟨w.heap.size, 1, none⟩ = some (.int .i64 a0) := (cell_of_row _ _ _ _ _ _ hu).trans rfl; go_simp; try rfl)
    simp only [Act.put, List.setIfInBounds_toArray, List.set_cons_zero, List.set_cons_succ]
    refine take_held 6 hd0 rfl (by kernel_rfl) (by kernel_rfl) (by kernel_rfl) (fun _ _ _ h => h) (by kernel_rfl) (v := .pointer (some ⟨w.heap.size, 2, none⟩)) ?y0_6 ?r0_6
    case y0_6 => (intro u hu; go_simp; try rfl)
    simp only [Act.put, List.setIfInBounds_toArray, List.set_cons_zero, List.set_cons_succ]
    refine take_held 7 hd0 rfl (by kernel_rfl) (by kernel_rfl) (by kernel_rfl) (fun _ _ _ h => h) (by kernel_rfl) (v := .int .i64 b0) ?y0_7 ?r0_7
    case y0_7 => (intro u hu; have hq0 : u.cell? ⟨w.heap.size, 2, none⟩ = some (.int .i64 b0) := (cell_of_row _ _ _ _ _ _ hu).trans rfl; go_simp; try rfl)
    simp only [Act.put, List.setIfInBounds_toArray, List.set_cons_zero, List.set_cons_succ]
    refine take_held 9 hd0 rfl (by kernel_rfl) (by kernel_rfl) (by kernel_rfl) (fun _ _ _ h => h) (by kernel_rfl) (v := .pointer (some ⟨w.heap.size, 3, none⟩)) ?y0_9 ?r0_9
    case y0_9 => (intro u hu; go_simp; try rfl)
    simp only [Act.put, List.setIfInBounds_toArray, List.set_cons_zero, List.set_cons_succ]
    refine take_held 10 hd0 rfl (by kernel_rfl) (by kernel_rfl) (by kernel_rfl) (fun _ _ _ h => h) (by kernel_rfl) (v := .agg #[.int .i64 x, .int .i64 y, .bool d]) ?y0_10 ?r0_10
    case y0_10 => (intro u hu; have hq0 : u.cell? ⟨w.heap.size, 3, none⟩ = some (.int .i64 x) := (cell_of_row _ _ _ _ _ _ hu).trans rfl; have hq1 : u.cell? ⟨w.heap.size, 4, none⟩ = some (.int .i64 y) := (cell_of_row _ _ _ _ _ _ hu).trans rfl; have hq2 : u.cell? ⟨w.heap.size, 5, none⟩ = some (.bool d) := (cell_of_row _ _ _ _ _ _ hu).trans rfl; go_simp; try rfl)
    simp only [Act.put, List.setIfInBounds_toArray, List.set_cons_zero, List.set_cons_succ]
    refine take_held 12 hd0 rfl (by kernel_rfl) (by kernel_rfl) (by kernel_rfl) (fun _ _ _ h => h) (by kernel_rfl) (v := .pointer (some ⟨w.heap.size, 6, none⟩)) ?y0_12 ?r0_12
    case y0_12 => (intro u hu; go_simp; try rfl)
    simp only [Act.put, List.setIfInBounds_toArray, List.set_cons_zero, List.set_cons_succ]
    refine take_held 13 hd0 rfl (by kernel_rfl) (by kernel_rfl) (by kernel_rfl) (fun _ _ _ h => h) (by kernel_rfl) (v := .slice va n vc) ?y0_13 ?r0_13
    case y0_13 => (intro u hu; have hq0 : u.cell? ⟨w.heap.size, 6, none⟩ = some (.slice va n vc) := (cell_of_row _ _ _ _ _ _ hu).trans rfl; go_simp; try rfl)
    simp only [Act.put, List.setIfInBounds_toArray, List.set_cons_zero, List.set_cons_succ]
    refine call_held 2 rfl (by kernel_rfl) (by kernel_rfl) 33 #[b, .int .i64 k] (by go_simp) _ (c1 _ _ md0) ?_
    rintro e1 x1 ⟨b1, rfl, m1, g1⟩
    have bg1 := box_goes g1 hd0 n0
    refine Or.inl ⟨_, rfl, bg1.1, ?_⟩
    simp only [Act.put, List.setIfInBounds_toArray, List.set_cons_zero, List.set_cons_succ]
    refine call_held 5 rfl (by kernel_rfl) (by kernel_rfl) 33 #[b1, .int .i64 a0] (by go_simp) _ (c2 _ _ m1) ?_
    rintro e2 x2 ⟨b2, rfl, m2, g2⟩
    have bg2 := box_goes g2 bg1.1 bg1.2
    refine Or.inl ⟨_, rfl, bg2.1, ?_⟩
    simp only [Act.put, List.setIfInBounds_toArray, List.set_cons_zero, List.set_cons_succ]
    refine call_held 8 rfl (by kernel_rfl) (by kernel_rfl) 33 #[b2, .int .i64 b0] (by go_simp) _ (c3 _ _ m2) ?_
    rintro e3 x3 ⟨b3, rfl, m3, g3⟩
    have bg3 := box_goes g3 bg2.1 bg2.2
    refine Or.inl ⟨_, rfl, bg3.1, ?_⟩
    simp only [Act.put, List.setIfInBounds_toArray, List.set_cons_zero, List.set_cons_succ]
    refine call_held 11 rfl (by kernel_rfl) (by kernel_rfl) 32 #[b3, .agg #[.int .i64 x, .int .i64 y, .bool d]] (by go_simp) _ (c4 _ _ m3) ?_
    rintro e4 x4 ⟨b4, rfl, m4, g4⟩
    have bg4 := box_goes g4 bg3.1 bg3.2
    refine Or.inl ⟨_, rfl, bg4.1, ?_⟩
    simp only [Act.put, List.setIfInBounds_toArray, List.set_cons_zero, List.set_cons_succ]
    refine call_held 14 rfl (by kernel_rfl) (by kernel_rfl) 31 #[b4, .slice va n vc] (by go_simp) _ (c5 _ _ m4 ((((gd0.trans g1).trans g2).trans g3).trans g4)) ?_
    rintro e5 x5 ⟨b5, rfl, m5, g5⟩
    have bg5 := box_goes g5 bg4.1 bg4.2
    refine Or.inl ⟨_, rfl, bg5.1, ?_⟩
    simp only [Act.put, List.setIfInBounds_toArray, List.set_cons_zero, List.set_cons_succ]
    refine read_held 15 rfl (by kernel_rfl) (by kernel_rfl) (b5) (by go_simp) bg5.1 ?_
    simp only [Act.put, List.setIfInBounds_toArray, List.set_cons_zero, List.set_cons_succ]
    refine done_held (by kernel_rfl) ?_ _
    go_wp2_with fail
    go_meet
    exact ⟨m5, (((((gd0.trans g1).trans g2).trans g3).trans g4).trans g5), bg5.1, bg5.2⟩
  case rest =>
  clear h0 g0 m0 n0
  obtain ⟨m0, g0, h0, n0⟩ := hcut
  go_wp2_with fail
  go_ret
  subst hb
  exact made_nil m0 g0

theorem refPutHeldEvent (w : World) (x : TEvent) (cs : Array Value) (F : Nat → Prop) (hx : eventEl F x cs w) (hF : ∀ g, F g → g < w.heap.size) (ho : cEvent.ok x) (hl : (cEvent.put x).length + 10 ≤ 140737488355328) :
    Calls Try.prog 11 #[.agg cs] w (Made (cEvent.put x) w) := by
  obtain ⟨v, rfl, l⟩ := hx
  obtain ⟨va, vc, rfl, _⟩ := l.form
  obtain ⟨k, a, b, ⟨⟨px, py⟩, d⟩, xs⟩ := x
  exact refPutEvent_any w k a b px py d va _ vc xs F hF l ho hl
end Go.Proofs.Ythdgpadakmdlkaa.Codec
