/-
  A config's grid: what New answers.
  Poses: whether one fits, where it is when it is shifted, turned; where a move leads.
  Where a move leads.
  The least box with the cells of two poses.
  The iterator that goes through a box's cells: what it tells to whatever loop ranges over it.
  Whether a move may be.
  Whether a move may be: of every move.
  The moves of a pose, told one by one to any function.
  What an iterator of moves tells, gathered: at most so many.
  Legal runs and turns in plain words: a run is legal just if every pose on its way fits; which moves a pose has, each once.
  The chapter's example.
  Whether a config may be.
-/
import Derived.Test.YtabbdclpjghdbaaGridLimit
import Derived.RangeFuncNested
import Derived.RangeFuncBound
import Derived.RangeFuncCalls
import Derived.RangeFuncLeaves
import Derived.RangeFuncBox
import Derived.Shelf.Abstract
import Derived.Shelf.RegionOpen
import Derived.OwnWalkIn
import Derived.TacticsInMore
import Derived.LoopNIn
import Derived.LoopIn
namespace Go.Proofs.Ytabbdclpjghdbaa.Grid
set_option linter.unusedVariables false
set_option linter.unusedSimpArgs false
open Go Go.RowKit

/- One operation that stands alone and makes memory. -/
theorem value_held {P : Program} {S : World → Prop} {Q : Exit → Act → World → Prop} {md : Region.Mode} {l : List Oper} (i : Nat) {o : Oper} {fuel : Nat} {listed : Array Bool} {a : Act} {w : World} (hi : nth l i = some o)
    (hr : Region.ready md l.toArray listed = [i]) (hw : Region.wanted o (yielded l.toArray a.tmps) = true) (v : Value) (w' : World) (hrun : (execOp a.eval o).run P w = .ok (.value v) w') (hS : S w')
    (h : wpAnyH P md l.toArray Q S fuel (listed.setIfInBounds i true) (a.put o.dst v) w') : wpAnyH P md l.toArray Q S (fuel + 1) listed a w := by
  refine wpAnyH_ready hr (by simp) (AllReadyH.cons ((nth_eq l i).trans hi) ?_ AllReadyH.nil)
  intro K' hK
  rw [if_pos hw]
  unfold Oper.wp
  rw [hrun]
  exact hK.out _ _ hS fun _ => h
theorem run_made_op {o : Oper} {a : Act} {w w' : World} {v : Value} (t : TypeId) (l c : Operand) (ho : o.op = .makeSlice t l c) (n : Int) (hl : a.eval l = .int .i64 n) (hc : a.eval c = .int .i64 n)
    (h : (Instr.makeSlice t (.int .i64 n) (.int .i64 n)).run Try.prog w = .ok v w') : (execOp a.eval o).run Try.prog w = .ok (.value v) w' := by
  unfold execOp
  simp only [ho, hl, hc, Sem.run_bind, Sem.run_pure, Result.andThen_ok, h]
theorem infoUse : (Try.prog.info? 92).map (fun i => (i.zero, i.size, i.bytes)) = some (some (.int .u8 0), 1, 1) := by kernel_rfl
theorem below_fr {B g u : Nat} {w w1 w2 : World} (h : Below B w w1) (hf : Fr g u w1 w2) (hg : B ≤ g) (hu : B ≤ u) (hB : B ≤ w1.heap.size) : Below B w w2 :=
  ⟨hf.os.trans h.os, hf.tape.trans h.tape, hf.output.trans h.output, Nat.le_trans h.size hf.size, fun k hk => (hf.block k (by omega) (by omega) (by omega)).trans (h.block k hk)⟩
theorem owns_fr {w w' : World} {base g u : Nat} {e : TypeId} {size : Nat} {v : Value} {n : Nat} {xs : List Value} (h : w.ownsRow base e size v n xs) (f : Fr g u w w') (hg : g < base) (hu : u < base) : w'.ownsRow base e size v n xs :=
  owns_same h fun k hk => f.block k (h.lt k hk).2 (by have := (h.lt k hk).1; omega) (by have := (h.lt k hk).1; omega)
theorem carried_true {R : Option (List Int)} (h : carried R = true) : ∃ bins, R = some bins ∧ mayBeP bins := by
  cases R with
  | none => cases h
  | some bins => exact ⟨bins, rfl, of_decide_eq_true h⟩
theorem carried_false {α : Type} {R : Option (List Int)} {X : α} (h : carried R = false) : (R.bind fun bins => if mayBeP bins then some X else none) = none := by
  cases R with
  | none => rfl
  | some bins => rw [Option.bind_some, if_neg (of_decide_eq_false h)]
theorem grid_new (w : World) (W H : Int) (N : Nat) (hN : (N : Int) = W * H) (w1 : 1 ≤ W) (w2 : W ≤ 16) (h1 : 1 ≤ H) (h2 : H ≤ 16) :
    GridAt ((w.alloc (.cells (List.replicate N (Value.int .u8 0)).toArray 92)).alloc (.cells #[.int .i64 W, .int .i64 H, .slice (some ⟨w.heap.size, 0, none⟩) N N, .slice none 0 0] 87)) (w.heap.size + 1) w.heap.size W H (List.replicate N 0) (.slice none 0 0) := by
  refine ⟨?_, ?_, w1, w2, h1, h2, by rw [List.length_replicate]; exact hN, fun z hz => ?_, by omega⟩
  · rw [heap_new2, List.length_replicate]
  · rw [alloc_old _ _ _ (by simp), heap_alloc_new, List.map_replicate]
  · rw [List.eq_of_mem_replicate hz]; decide
set_option maxRecDepth 100000 in
set_option maxHeartbeats 4000000 in
theorem new_any (F : Nat → Prop) (cs : Array Value) (c : Conf) (vb vp vr vs : Value) (w : World) (hC : Cells cs c vb vp vr vs) (hA : ConfAt F c vb vp vr vs w) (hF : ∀ b, F b → b < w.heap.size)
    (hmb : c.blocked.length ≤ 9223372036854775807) (hmp : c.ports.length ≤ 9223372036854775807) (hmr : c.robots.length ≤ 9223372036854775807) (hms : c.stacks.length ≤ 9223372036854775807) :
    Calls Try.prog 30 #[.agg cs] w fun e w' => Below w.heap.size w w' ∧
      ((∃ G g u v', newP c = some G ∧ e = .returned (.tuple #[.pointer (some ⟨g, 0, none⟩), .int .i64 0]) ∧ GridAt w' g u c.W c.H G.uses v' ∧ w.heap.size ≤ g ∧ w.heap.size ≤ u ∧ w'.ownsRow w.heap.size 39 2 v' c.ports.length (rowL cellL c.ports)) ∨
       (newP c = none ∧ e = .returned (.tuple #[.pointer none, .int .i64 5]))) := by
  have bH : Below w.heap.size w (w.alloc (.cells cs 26)) := below_new (Below.refl _ _) _
  have eH : (w.alloc (.cells cs 26)).heap[w.heap.size]? = some (.cells cs 26 (0, 0)) := heap_alloc_new w _
  have sH : (w.alloc (.cells cs 26)).heap.size = w.heap.size + 1 := by simp
  have i0 : (Try.prog.info? 26).map (·.size) = some cs.size := by rw [hC.size]; exact info_conf
  have cL := fun u => limited_any cs c vb vp vr vs u hC
  have kc : Hid (∀ (u : World) (j : Nat), u.heap[w.heap.size]? = some (.cells cs 26 (0, 0)) → u.cell? ⟨w.heap.size, j, none⟩ = cs[j]?) := fun u j h => cell_of h j
  generalize hW : w.alloc (.cells cs 26) = wH at *
  cases hl : limited c
  · have HT : Hid (newP c = none) := by show newP c = none; unfold newP; rw [if_neg (by rw [hl]; decide)]
    rw [hl] at cL
    go_enter Try.func30, Try.ntmps30
    go_wp2_with (first
      | (refine wpList_load_row rfl 26 (.tmp 1) rfl w.heap.size rfl 26 cs (0, 0) _ eH Try.underlying26 rfl i0 ?_)
      | (go_at_call 54; refine (cL _).mono ?_; rintro e w1 ⟨rfl, b1⟩))
    exact bodyPost_ret (v := .tuple #[.pointer none, .int .i64 5]) (by simp [results, Try.results30, go_sem]) rfl ⟨bcat bH b1 (Nat.le_refl _), Or.inr ⟨HT.out, rfl⟩⟩
  · rw [hl] at cL
    obtain ⟨lw1, lw2, lh1, lh2, lg1, lg2⟩ := limited_sides hl
    have hWH : 0 ≤ c.W * c.H := Int.mul_nonneg (by omega) (by omega)
    have hWH2 : c.W * c.H ≤ 16 * c.H := Int.mul_le_mul_of_nonneg_right lw2 (by omega)
    obtain ⟨N, hN⟩ : ∃ N : Nat, (N : Int) = c.W * c.H := ⟨(c.W * c.H).toNat, by omega⟩
    have hwr : IntKind.i64.wrap (c.W * c.H) = (N : Int) := by rw [IntKind.wrap_i64]; omega
    have HNW : Hid (newP c = (takeAll c.W c.H 1 (List.replicate N 0) c.blocked).bind fun u1 => (if c.ports.length ≤ 8 then takeP c.W c.H u1 c.ports else none).bind fun u2 => (if c.robots.length ≤ 8 then takeR c.W c.H u2 c.robots else none).bind fun u3 =>
        (carry c.W c.H (stackUs c.W c.H u3) c.height (List.replicate N false) [] c.stacks).bind fun bins => if mayBeP bins then some ⟨c.W, c.H, stackUs c.W c.H u3, c.ports⟩ else none) := by
      show newP c = _
      unfold newP
      rw [if_pos hl, show (c.W * c.H).toNat = N by omega]
    have hNb : N ≤ 256 := by omega
    have HWR : Hid (IntKind.i64.wrap (c.W * c.H) = (N : Int)) := hwr
    have HNN : Hid ((N : Int) = c.W * c.H) := hN
    obtain ⟨hz, e0, e1, e2, e3, e4, e5, e6, _⟩ := hC
    clear hz hwr hN hWH hWH2
    obtain ⟨IH, hIH⟩ : ∃ I : World → Prop, I = fun u => u.heap[w.heap.size]? = some (.cells cs 26 (0, 0)) := ⟨_, rfl⟩
    have k0 : ∀ u, IH u → u.cell? ⟨w.heap.size, 0, none⟩ = some (.int .i64 c.W) := fun u hu => by rw [hIH] at hu; exact (kc.out u 0 hu).trans e0
    have k1 : ∀ u, IH u → u.cell? ⟨w.heap.size, 1, none⟩ = some (.int .i64 c.H) := fun u hu => by rw [hIH] at hu; exact (kc.out u 1 hu).trans e1
    have cA := fun wx (hb : Below w.heap.size w wx) => hA.stable fun b hb' => hb.block b (hF b hb')
    go_enter Try.func30, Try.ntmps30
    go_wp2_with (first
      | (refine wpList_load_row rfl 26 (.tmp 1) rfl w.heap.size rfl 26 cs (0, 0) _ eH Try.underlying26 rfl i0 ?_)
      | (go_at_call 54; refine (cL _).mono ?_; rintro e w1 ⟨rfl, b1⟩; have B1 := bcat bH b1 (Nat.le_refl _); have s1 := b1.size; have m1 := (b1.block w.heap.size (by rw [sH]; omega)).trans eH; have hS : IH w1.drew := by rw [hIH]; exact m1))
    refine start_held (S := IH) 13 rfl (by kernel_rfl) (hS) ?_
    simp only [Array.replicate_succ, Array.replicate_zero, List.push_toArray, List.nil_append, List.cons_append]
    refine take_held 0 (by assumption) rfl (by kernel_rfl) (by kernel_rfl) (by kernel_rfl) (fun _ _ _ h => h) (by kernel_rfl) (v := ?v0) ?y0 ?r0
    case y0 => (intro u hu; go_simp; try rfl)
    simp only [Act.put, List.setIfInBounds_toArray, List.set_cons_zero, List.set_cons_succ]
    refine take_held 1 (by assumption) rfl (by kernel_rfl) (by kernel_rfl) (by kernel_rfl) (fun _ _ _ h => h) (by kernel_rfl) (v := ?v1) ?y1 ?r1
    case y1 => (intro u hu; have := k0 u hu; go_simp; try rfl)
    simp only [Act.put, List.setIfInBounds_toArray, List.set_cons_zero, List.set_cons_succ]
    refine take_held 2 (by assumption) rfl (by kernel_rfl) (by kernel_rfl) (by kernel_rfl) (fun _ _ _ h => h) (by kernel_rfl) (v := ?v2) ?y2 ?r2
    case y2 => (intro u hu; go_simp; try rfl)
    simp only [Act.put, List.setIfInBounds_toArray, List.set_cons_zero, List.set_cons_succ]
    refine take_held 3 (by assumption) rfl (by kernel_rfl) (by kernel_rfl) (by kernel_rfl) (fun _ _ _ h => h) (by kernel_rfl) (v := ?v3) ?y3 ?r3
    case y3 => (intro u hu; have := k1 u hu; go_simp; try rfl)
    simp only [Act.put, List.setIfInBounds_toArray, List.set_cons_zero, List.set_cons_succ]
    refine take_held 4 (by assumption) rfl (by kernel_rfl) (by kernel_rfl) (by kernel_rfl) (fun _ _ _ h => h) (by kernel_rfl) (v := ?v4) ?y4 ?r4
    case y4 => (intro u hu; go_simp; try rfl)
    simp only [Act.put, List.setIfInBounds_toArray, List.set_cons_zero, List.set_cons_succ]
    refine take_held 5 (by assumption) rfl (by kernel_rfl) (by kernel_rfl) (by kernel_rfl) (fun _ _ _ h => h) (by kernel_rfl) (v := ?v5) ?y5 ?r5
    case y5 => (intro u hu; have := k0 u hu; go_simp; try rfl)
    simp only [Act.put, List.setIfInBounds_toArray, List.set_cons_zero, List.set_cons_succ]
    refine take_held 6 (by assumption) rfl (by kernel_rfl) (by kernel_rfl) (by kernel_rfl) (fun _ _ _ h => h) (by kernel_rfl) (v := ?v6) ?y6 ?r6
    case y6 => (intro u hu; go_simp; try rfl)
    simp only [Act.put, List.setIfInBounds_toArray, List.set_cons_zero, List.set_cons_succ]
    refine take_held 7 (by assumption) rfl (by kernel_rfl) (by kernel_rfl) (by kernel_rfl) (fun _ _ _ h => h) (by kernel_rfl) (v := ?v7) ?y7 ?r7
    case y7 => (intro u hu; have := k1 u hu; go_simp; try rfl)
    simp only [Act.put, List.setIfInBounds_toArray, List.set_cons_zero, List.set_cons_succ]
    refine take_held 8 (by assumption) rfl (by kernel_rfl) (by kernel_rfl) (by kernel_rfl) (fun _ _ _ h => h) (by kernel_rfl) (v := ?v8) ?y8 ?r8
    case y8 => (intro u hu; go_simp; try rfl)
    simp only [Act.put, List.setIfInBounds_toArray, List.set_cons_zero, List.set_cons_succ]
    have hmk := run_made 85 92 (.int .u8 0) 1 Try.underlying85 infoUse rfl N (by omega) (by omega) w1.drew
    rw [← HWR.out] at hmk
    have M1 : (w1.drew.alloc (.cells (List.replicate N (Value.int .u8 0)).toArray 92)).heap[w.heap.size]? = some (.cells cs 26 (0, 0)) := (alloc_old _ _ _ (by simp; omega)).trans m1
    refine value_held 9 rfl (by kernel_rfl) (by kernel_rfl) _ _ (run_made_op 85 (.tmp 16) (.tmp 16) rfl _ rfl rfl hmk) (by rw [hIH]; exact M1) ?_
    simp only [Act.put, List.setIfInBounds_toArray, List.set_cons_zero, List.set_cons_succ]
    have hS2 : IH (w1.drew.alloc (.cells (List.replicate N (Value.int .u8 0)).toArray 92)) := by rw [hIH]; exact M1
    refine take_held 10 (by assumption) rfl (by kernel_rfl) (by kernel_rfl) (by kernel_rfl) (fun _ _ _ h => h) (by kernel_rfl) (v := ?v9) ?y9 ?r9
    case y9 => (intro u hu; go_simp; try rfl)
    simp only [Act.put, List.setIfInBounds_toArray, List.set_cons_zero, List.set_cons_succ]
    have M2 : ((w1.drew.alloc (.cells (List.replicate N (Value.int .u8 0)).toArray 92)).alloc (.cells #[.int .i64 c.W, .int .i64 c.H, .slice (some ⟨w1.heap.size, 0, none⟩) N N, .slice none 0 0] 87)).heap[w.heap.size]? = some (.cells cs 26 (0, 0)) := (alloc_old _ _ _ (by simp; omega)).trans M1
    have hS3 : IH ((w1.drew.alloc (.cells (List.replicate N (Value.int .u8 0)).toArray 92)).alloc (.cells #[.int .i64 c.W, .int .i64 c.H, .slice (some ⟨w1.heap.size, 0, none⟩) N N, .slice none 0 0] 87)) := by rw [hIH]; exact M2
    have G3 : GridAt ((w1.drew.alloc (.cells (List.replicate N (Value.int .u8 0)).toArray 92)).alloc (.cells #[.int .i64 c.W, .int .i64 c.H, .slice (some ⟨w1.heap.size, 0, none⟩) N N, .slice none 0 0] 87)) (w1.heap.size + 1) w1.heap.size c.W c.H (List.replicate N 0) (.slice none 0 0) := grid_new w1.drew c.W c.H N HNN.out lw1 lw2 lh1 lh2
    have B3 : Below w.heap.size w ((w1.drew.alloc (.cells (List.replicate N (Value.int .u8 0)).toArray 92)).alloc (.cells #[.int .i64 c.W, .int .i64 c.H, .slice (some ⟨w1.heap.size, 0, none⟩) N N, .slice none 0 0] 87)) := below_new (below_new B1.drew _) _
    refine value_held 11 rfl (by kernel_rfl) (by kernel_rfl) (.pointer (some ⟨w1.heap.size + 1, 0, none⟩)) ((w1.drew.alloc (.cells (List.replicate N (Value.int .u8 0)).toArray 92)).alloc (.cells #[.int .i64 c.W, .int .i64 c.H, .slice (some ⟨w1.heap.size, 0, none⟩) N N, .slice none 0 0] 87)) (by go_simp; try rfl) hS3 ?_
    simp only [Act.put, List.setIfInBounds_toArray, List.set_cons_zero, List.set_cons_succ]
    refine take_held 12 (by assumption) rfl (by kernel_rfl) (by kernel_rfl) (by kernel_rfl) (fun _ _ _ h => h) (by kernel_rfl) (v := ?v10) ?y10 ?r10
    case y10 => (intro u hu; go_simp; try rfl)
    simp only [Act.put, List.setIfInBounds_toArray, List.set_cons_zero, List.set_cons_succ]
    refine done_held (by kernel_rfl) ?_ _
    generalize hW3 : ((w1.drew.alloc (.cells (List.replicate N (Value.int .u8 0)).toArray 92)).alloc (.cells #[.int .i64 c.W, .int .i64 c.H, .slice (some ⟨w1.heap.size, 0, none⟩) N N, .slice none 0 0] 87)) = w3 at *
    obtain ⟨g, hg⟩ : ∃ g, w1.heap.size + 1 = g := ⟨_, rfl⟩
    obtain ⟨u, hu⟩ : ∃ u, w1.heap.size = u := ⟨_, rfl⟩
    rw [hg, hu] at G3
    rw [hg]
    have hgu : w.heap.size < g ∧ w.heap.size < u := by omega
    have x3 : w3.cell? ⟨w.heap.size, 3, none⟩ = some vb := (kc.out w3 3 M2).trans e3
    have hFu : ∀ b, F b → b ≠ g ∧ b ≠ u := fun b hb => by have := hF b hb; omega
    clear hW3 hS hS2 hS3 hmk M1 hg hu k0 k1 hIH IH e0 e1 e3
    clear cL bH eH b1 s1 m1 B1 hW
    have cB := block_any g u c.W c.H (List.replicate N 0) (.slice none 0 0) F c.blocked vb w3 G3 (cA _ B3).b (fun b hb => ⟨Nat.lt_of_lt_of_le (hF b hb) B3.size, (hFu b hb).2⟩) hmb
    go_wp2_with (first
      | (go_at_call 55; refine cB.mono ?_; rintro e w4 ⟨g4, ⟨us1, t1, rfl, G4⟩ | ⟨t1, rfl⟩⟩; have f4 : Fr g u w3 w4 := Fr.of g4; have B4 := below_fr B3 f4 (by omega) (by omega) (by have := B3.size; omega); have M4 := (f4.block w.heap.size (lt_of_heap M2) (by omega) (by omega)).trans M2; have x4 : w4.cell? ⟨w.heap.size, 4, none⟩ = some vp := (kc.out w4 4 M4).trans e4)
      | (have X' := G4; go_at_call 56; refine (layPorts_any g u c.W c.H us1 (.slice none 0 0) F c.ports vp w4 G4 (cA _ B4).p (fun b hb => ⟨Nat.lt_of_lt_of_le (hF b hb) B4.size, hFu b hb⟩) hmp).mono ?_; rintro e w5 ⟨f5, ⟨us2, v5, t2, rfl, G5, own5⟩ | ⟨t2, rfl⟩⟩; have B5 := below_fr B4 f5 (by omega) (by omega) (by have := B4.size; omega); have M5 := (f5.block w.heap.size (lt_of_heap M4) (by omega) (by omega)).trans M4; have x5 : w5.cell? ⟨w.heap.size, 5, none⟩ = some vr := (kc.out w5 5 M5).trans e5)
      | (have X' := G5; go_at_call 57; refine (park_any g u c.W c.H us2 v5 F c.robots vr w5 G5 (cA _ B5).r (fun b hb => ⟨Nat.lt_of_lt_of_le (hF b hb) B5.size, (hFu b hb).2⟩) hmr).mono ?_; rintro e w6 ⟨g6, ⟨us3, t3, rfl, G6⟩ | ⟨t3, rfl⟩⟩; have f6 : Fr g u w5 w6 := Fr.of g6; have B6 := below_fr B5 f6 (by omega) (by omega) (by have := B5.size; omega); have M6 := (f6.block w.heap.size (lt_of_heap M5) (by omega) (by omega)).trans M5)
      | (have X' := G6; go_at_call 58; refine (layStackCells_any g u c.W c.H us3 v5 w6 G6).mono ?_; rintro e w7 ⟨g7, rfl, G7⟩; have f7 : Fr g u w6 w7 := Fr.of g7; have B7 := below_fr B6 f7 (by omega) (by omega) (by have := B6.size; omega); have M7 := (f7.block w.heap.size (lt_of_heap M6) (by omega) (by omega)).trans M6; have x6 : w7.cell? ⟨w.heap.size, 6, none⟩ = some vs := (kc.out w7 6 M7).trans e6; have x2 : w7.cell? ⟨w.heap.size, 2, none⟩ = some (.int .i64 c.height) := (kc.out w7 2 M7).trans e2)
      | (have X' := G7; go_at_call 59; refine (carries_any g u c.W c.H (stackUs c.W c.H us3) v5 F c.stacks vs c.height w7 G7 (cA _ B7).s (fun b hb => Nat.lt_of_lt_of_le (hF b hb) B7.size) hms lg2).mono ?_; rintro e w8 ⟨b8, rfl⟩; cases hcr : carried (carry c.W c.H (stackUs c.W c.H us3) c.height (List.replicate (stackUs c.W c.H us3).length false) [] c.stacks)))
    · exact bodyPost_ret (v := .tuple #[.pointer none, .int .i64 5]) (by simp [results, Try.results30, go_sem]) rfl ⟨bcat B7 b8 (by have := B7.size; omega), Or.inr ⟨by rw [HNW.out, t1, Option.bind_some, t2, Option.bind_some, t3, Option.bind_some]; rw [show (stackUs c.W c.H us3).length = N by have := G7.len; have := HNN.out; omega] at hcr; exact carried_false hcr, rfl⟩⟩
    · have hlg := G3.ltg
      have hlu := G3.ltu
      have h34 := f4.size
      have own8 := owns_go (owns_fr (owns_fr own5 f6 (by omega) (by omega)) f7 (by omega) (by omega)) b8
      refine bodyPost_ret (v := .tuple #[.pointer (some ⟨g, 0, none⟩), .int .i64 0]) (by simp [results, Try.results30, go_sem]) rfl ⟨bcat B7 b8 (by have := B7.size; omega), Or.inl ⟨⟨c.W, c.H, stackUs c.W c.H us3, c.ports⟩, g, u, v5, ?_, rfl, G7.go b8, by omega, by omega, owns_base B4.size own8⟩⟩
      rw [HNW.out, t1, Option.bind_some, t2, Option.bind_some, t3, Option.bind_some]
      rw [show (stackUs c.W c.H us3).length = N by have := G7.len; have := HNN.out; omega] at hcr
      obtain ⟨bins, q1, q2⟩ := carried_true hcr
      rw [q1, Option.bind_some, if_pos q2]
    · exact bodyPost_ret (v := .tuple #[.pointer none, .int .i64 5]) (by simp [results, Try.results30, go_sem]) rfl ⟨below_fr B5 (Fr.of (g := g) g6) (by omega) (by omega) (by have := B5.size; omega), Or.inr ⟨by rw [HNW.out, t1, Option.bind_some, t2, Option.bind_some, t3, Option.bind_none], rfl⟩⟩
    · exact bodyPost_ret (v := .tuple #[.pointer none, .int .i64 5]) (by simp [results, Try.results30, go_sem]) rfl ⟨below_fr B4 f5 (by omega) (by omega) (by have := B4.size; omega), Or.inr ⟨by rw [HNW.out, t1, Option.bind_some, t2, Option.bind_none], rfl⟩⟩
    · exact bodyPost_ret (v := .tuple #[.pointer none, .int .i64 5]) (by simp [results, Try.results30, go_sem]) rfl ⟨below_fr B3 (Fr.of (g := g) g4) (by omega) (by omega) (by have := B3.size; omega), Or.inr ⟨by rw [HNW.out, t1, Option.bind_none], rfl⟩⟩
end Go.Proofs.Ytabbdclpjghdbaa.Grid
namespace Go.Proofs.Ytabbdclpjghdbaa.Grid
set_option linter.unusedVariables false
set_option linter.unusedSimpArgs false
open Go Go.RowKit

def fitsU (W H : Int) (us : List Int) (p : Pose) : Bool := openU W H us p.1 && openU W H us (second p)
def shiftP (p : Pose) (d n : Int) : Pose :=
  if d = 0 then ((p.1.1, w64 (p.1.2 - n)), p.2) else if d = 1 then ((w64 (p.1.1 + n), p.1.2), p.2) else if d = 2 then ((p.1.1, w64 (p.1.2 + n)), p.2) else if d = 3 then ((w64 (p.1.1 - n), p.1.2), p.2) else p
def mayShift (d n : Int) : Bool := decide (0 ≤ n) && decide (n ≤ 16) && decide (0 ≤ d) && decide (d ≤ 3)
def zeroP : Pose := ((0, 0), false)
def shiftR (p : Pose) (d n : Int) : Pose := if mayShift d n then shiftP p d n else zeroP
def turnP (p : Pose) : Pose := (p.1, !p.2)
def poseCs (p : Pose) : Array Value := #[.int .i64 p.1.1, .int .i64 p.1.2, .bool p.2]
abbrev Move := Int × Int × Int × Pose × Pose × Int × Int
def moveCs (m : Move) : Array Value := #[.int .i64 m.1, .int .i64 m.2.1, .int .i64 m.2.2.1, .int .i64 m.2.2.2.1.1.1, .int .i64 m.2.2.2.1.1.2, .bool m.2.2.2.1.2, .int .i64 m.2.2.2.2.1.1.1, .int .i64 m.2.2.2.2.1.1.2, .bool m.2.2.2.2.1.2, .int .i64 m.2.2.2.2.2.1, .int .i64 m.2.2.2.2.2.2]

/- Two results: a struct, and one in a slot. -/
theorem results_cell_tmp {fn : Func} {p q : Tmp} {ty : TypeId} (h : fn.results = #[.cell p ty, .tmp q]) (tmps : Array Value) (w : World) (N : Nat) (cs : Array Value)
    (hp : tmps.getD p undef = .pointer (some ⟨N, 0, none⟩)) (hg : (loadVar ty ⟨N, 0, none⟩).run Try.prog w = .ok (.agg cs) w) :
    (results fn tmps).run Try.prog w = .ok (.tuple #[.agg cs, tmps.getD q undef]) w := by
  have hp' : tmps[p]?.getD undef = .pointer (some ⟨N, 0, none⟩) := by simpa using hp
  simp [results, h, hp', asAddr, hg]
theorem load_pose (w : World) (g : Nat) (cs : Array Value) (hs : cs.size = 3) (h : w.heap[g]? = some (.cells cs 72 (0, 0))) : (loadVar 72 ⟨g, 0, none⟩).run Try.prog w = .ok (.agg cs) w :=
  run_loadVar_row w g 72 72 cs (0, 0) _ h Try.underlying72 rfl (by rw [hs]; exact info_pose)
end Go.Proofs.Ytabbdclpjghdbaa.Grid
namespace Go.Proofs.Ytabbdclpjghdbaa.Grid
set_option linter.unusedVariables false
set_option linter.unusedSimpArgs false
open Go Go.RowKit

def still (dir n : Int) : Bool := decide (dir = 0) && decide (n = 0)
def leadsP (kd dir n : Int) (f : Pose) : Pose × Bool :=
  if kd = 1 then (shiftR f dir n, mayShift dir n && decide (0 < n)) else if kd = 2 then (turnP f, still dir n) else if kd = 3 ∨ kd = 4 then (f, still dir n) else (zeroP, false)
theorem two_frame (w : World) (c1 : Array Value) (t1 : TypeId) (c2 : Array Value) (t2 : TypeId) (w1 : World) (b1 : Below ((w.alloc (.cells c1 t1)).alloc (.cells c2 t2)).heap.size ((w.alloc (.cells c1 t1)).alloc (.cells c2 t2)) w1) :
    Below w.heap.size w w1 ∧ w1.heap[w.heap.size]? = some (.cells c1 t1 (0, 0)) ∧ w1.heap[w.heap.size + 1]? = some (.cells c2 t2 (0, 0)) ∧ w.heap.size + 2 ≤ w1.heap.size := by
  have hs : ((w.alloc (.cells c1 t1)).alloc (.cells c2 t2)).heap.size = w.heap.size + 2 := by simp
  refine ⟨(below_two _ _ _).trans (b1.mono (by rw [hs]; omega)), (b1.block _ (by rw [hs]; omega)).trans ((alloc_old _ _ _ (by simp)).trans (heap_alloc_new w _)), (b1.block _ (by rw [hs]; omega)).trans (heap_new2 _ _ _), ?_⟩
  have := b1.size
  omega
end Go.Proofs.Ytabbdclpjghdbaa.Grid
namespace Go.Proofs.Ytabbdclpjghdbaa.Grid
set_option linter.unusedVariables false
set_option linter.unusedSimpArgs false
open Go Go.RowKit

/- Both poses, and the box to be, in memory. -/
theorem second_call (x y : Int) (d : Bool) (cx cy : Int) (e1 : (second ((x, y), d)).1 = cx) (e2 : (second ((x, y), d)).2 = cy) (w : World) : Calls Try.prog 72 #[.agg #[.int .i64 x, .int .i64 y, .bool d]] w fun e w' => ∃ v, e = .returned v ∧ v = .agg #[.int .i64 cx, .int .i64 cy] ∧ Below w.heap.size w w' := by
  subst e1 e2
  refine (second_any x y d w).mono ?_
  rintro e w' ⟨rfl, b⟩
  exact ⟨_, rfl, rfl, b⟩
def spanP (a b : Pose) : Cell × Cell := ((min a.1.1 b.1.1, min a.1.2 b.1.2), (max (second a).1 (second b).1, max (second a).2 (second b).2))
end Go.Proofs.Ytabbdclpjghdbaa.Grid
namespace Go.Proofs.Ytabbdclpjghdbaa.Grid
set_option linter.unusedVariables false
set_option linter.unusedSimpArgs false
open Go Go.RowKit Go.Shelf Go.Proofs

attribute [local go_sem] Oper.semAt_some

/- The cells of a box, row by row. -/
def row (x0 y : Int) (i : Nat) : List Cell := (List.range i).map fun (k : Nat) => (x0 + (k : Int), y)
def rows (x0 y0 : Int) (m : Nat) (j : Nat) : List Cell := (List.range j).flatMap fun (k : Nat) => row x0 (y0 + (k : Int)) m
def boxList (x0 y0 x1 y1 : Int) : List Cell := rows x0 y0 (x1 + 1 - x0).toNat (y1 + 1 - y0).toNat
theorem row_succ (x0 y : Int) (i : Nat) : row x0 y (i + 1) = row x0 y i ++ [(x0 + (i : Int), y)] := by
  unfold row
  rw [List.range_succ, List.map_append]
  rfl
theorem rows_succ (x0 y0 : Int) (m j : Nat) : rows x0 y0 m (j + 1) = rows x0 y0 m j ++ row x0 (y0 + (j : Int)) m := by
  unfold rows
  rw [List.range_succ, List.flatMap_append]
  simp
theorem row_len (x0 y : Int) (i : Nat) : (row x0 y i).length = i := by simp [row]
theorem rows_len (x0 y0 : Int) (m j : Nat) : (rows x0 y0 m j).length = j * m := by
  induction j with
  | zero => simp [rows]
  | succ j ih => rw [rows_succ, List.length_append, ih, row_len, Nat.succ_mul]
theorem row_pre (x0 y : Int) {i m : Nat} (h : i ≤ m) : row x0 y i <+: row x0 y m := by
  induction m with
  | zero => rw [show i = 0 by omega]; exact List.prefix_rfl
  | succ m ih =>
    by_cases e : i = m + 1
    · rw [e]; exact List.prefix_rfl
    · rw [row_succ]; exact (ih (by omega)).trans (List.prefix_append _ _)
theorem rows_pre (x0 y0 : Int) (m : Nat) {j n : Nat} (h : j ≤ n) : rows x0 y0 m j <+: rows x0 y0 m n := by
  induction n with
  | zero => rw [show j = 0 by omega]; exact List.prefix_rfl
  | succ n ih =>
    by_cases e : j = n + 1
    · rw [e]; exact List.prefix_rfl
    · rw [rows_succ]; exact (ih (by omega)).trans (List.prefix_append _ _)
theorem mid_pre (x0 y0 : Int) {m j n i : Nat} (hj : j < n) (hi : i ≤ m) : rows x0 y0 m j ++ row x0 (y0 + (j : Int)) i <+: rows x0 y0 m n := by
  refine List.IsPrefix.trans ?_ (rows_pre x0 y0 m (show j + 1 ≤ n by omega))
  rw [rows_succ]
  exact (List.prefix_append_right_inj _).2 (row_pre x0 _ hi)
def KB (Bn : Nat) (W W' : World) : Prop := W'.heap[Bn]? = W.heap[Bn]?
theorem KB.trans {Bn : Nat} {A B C : World} (h : KB Bn A B) (h' : KB Bn B C) : KB Bn A C := Eq.trans h' h
def encC (c : Cell) : Array Value := #[.agg #[.int .i64 c.1, .int .i64 c.2]]
theorem grown_of_below {w w' : World} (h : Below w.heap.size w w') : w.grownBy w' none := ⟨h.os, h.tape, h.output, h.size, fun k hk _ => h.block k hk⟩

/- The iterator, as whatever ranges over it takes it. -/
end Go.Proofs.Ytabbdclpjghdbaa.Grid
namespace Go.Proofs.Ytabbdclpjghdbaa.Grid
set_option linter.unusedVariables false
set_option linter.unusedSimpArgs false
open Go Go.RowKit Go.Shelf Go.Proofs

attribute [local go_sem] Oper.semAt_some

theorem if_ok (c : Prop) [Decidable c] (b : Bool) (w : World) : (if c then (Result.ok b w : Result Bool) else .ok false w) = .ok (decide c && b) w := by
  by_cases h : c
  · rw [if_pos h, decide_eq_true h, Bool.true_and]
  · rw [if_neg h, decide_eq_false h, Bool.false_and]
theorem eqPose (x y x' y' : Int) (d d' : Bool) (w : World) : (Op.equalIn 10000 72 (.agg #[.int .i64 x, .int .i64 y, .bool d]) (.agg #[.int .i64 x', .int .i64 y', .bool d'])).run Try.prog w = .ok (decide (((x, y), d) = ((x', y'), d'))) w := by
  go_simp
  repeat' split
  all_goals simp_all
def boxOf (a b : Pose) : List Cell := boxList (spanP a b).1.1 (spanP a b).1.2 (spanP a b).2.1 (spanP a b).2.2
def legalU (W H : Int) (us : List Int) (m : Move) : Bool :=
  (leadsP m.1 m.2.1 m.2.2.1 m.2.2.2.1).2 && decide (m.2.2.2.2.1 = (leadsP m.1 m.2.1 m.2.2.1 m.2.2.2.1).1) && fitsU W H us m.2.2.2.1 && (boxOf m.2.2.2.1 (leadsP m.1 m.2.1 m.2.2.1 m.2.2.2.1).1).all (openU W H us)
/- Three boxes at the beginning, and what was made behind them. -/
theorem three_frame (w : World) (c1 : Array Value) (t1 : TypeId) (c2 : Array Value) (t2 : TypeId) (c3 : Array Value) (t3 : TypeId) (w1 : World) (b1 : Below (((w.alloc (.cells c1 t1)).alloc (.cells c2 t2)).alloc (.cells c3 t3)).heap.size (((w.alloc (.cells c1 t1)).alloc (.cells c2 t2)).alloc (.cells c3 t3)) w1) :
    Below w.heap.size w w1 ∧ w1.heap[w.heap.size]? = some (.cells c1 t1 (0, 0)) ∧ w1.heap[w.heap.size + 1]? = some (.cells c2 t2 (0, 0)) ∧ w1.heap[w.heap.size + 1 + 1]? = some (.cells c3 t3 (0, 0)) ∧ w.heap.size + 3 ≤ w1.heap.size := by
  have hs2 : ((w.alloc (.cells c1 t1)).alloc (.cells c2 t2)).heap.size = w.heap.size + 2 := by simp
  have hs : (((w.alloc (.cells c1 t1)).alloc (.cells c2 t2)).alloc (.cells c3 t3)).heap.size = w.heap.size + 3 := by simp
  refine ⟨(below_new (below_two _ _ _) _).trans (b1.mono (by rw [hs]; omega)), (b1.block _ (by rw [hs]; omega)).trans ((alloc_old _ _ _ (by rw [hs2]; omega)).trans ((alloc_old _ _ _ (by simp)).trans (heap_alloc_new w _))), (b1.block _ (by rw [hs]; omega)).trans ((alloc_old _ _ _ (by rw [hs2]; omega)).trans (heap_new2 _ _ _)), ?_, ?_⟩
  · refine (b1.block _ (by rw [hs]; omega)).trans ?_
    have := heap_alloc_new ((w.alloc (.cells c1 t1)).alloc (.cells c2 t2)) (.cells c3 t3)
    rwa [hs2] at this
  · have := b1.size
    omega
/- A result that lies in a block of its own. -/
theorem res_bool {fn : Func} {p : Tmp} (h : fn.results = #[.cell p 4]) {tmps : Array Value} {w : World} {N : Nat} {b : Bool} (hp : tmps.getD p undef = .pointer (some ⟨N, 0, none⟩)) (hg : w.heap[N]? = some (.cells #[.bool b] 4 (0, 0))) : (results fn tmps).run Try.prog w = .ok (.bool b) w := by
  have hp' : tmps[p]?.getD undef = .pointer (some ⟨N, 0, none⟩) := by simpa using hp
  have hc : w.cell? ⟨N, 0, none⟩ = some (.bool b) := cell_of hg 0
  have hl : (loadVar 4 ⟨N, 0, none⟩).run Try.prog w = .ok (.bool b) w := by simp [loadVar, isAgg, go_sem, hc, Try.underlying4]
  simp [results, h, hp', asAddr, hl]
theorem set_same {w : World} {N : Nat} {a b : Bool} (h : w.heap[N]? = some (.cells #[.bool a] 4 (0, 0))) : (w.setCell ⟨N, 0, none⟩ (.bool b)).heap[N]? = some (.cells #[.bool b] 4 (0, 0)) := by
  rw [heap_setCell_same _ _ _ _ _ _ h]; rfl
theorem all_pre {α : Type} {f : α → Bool} {p l : List α} (h : p <+: l) (hp : p.all f = false) : l.all f = false := by
  obtain ⟨r, rfl⟩ := h
  rw [List.all_append, hp, Bool.false_and]
theorem keeps_below (B : Nat) {w w' : World} (h : Below w.heap.size w w') : KeepsFrom B w w' := ⟨h.size, fun k o _ hk ho => (h.block k (lt_of_heap hk)).trans hk⟩
theorem below_same {B N : Nat} {w w' : World} (h : Below B w w') (hN : w'.heap[N]? = some (.cells #[.bool false] 4 (0, 0))) : Below B w (w'.setCell ⟨N, 0, none⟩ (.bool false)) := by
  refine ⟨h.os, h.tape, h.output, by simp; exact h.size, fun k hk => ?_⟩
  by_cases e : k = N
  · subst e; rw [set_same hN, ← h.block k hk, hN]
  · rw [heap_setCell_other _ _ _ _ e]; exact h.block k hk
end Go.Proofs.Ytabbdclpjghdbaa.Grid
namespace Go.Proofs.Ytabbdclpjghdbaa.Grid
set_option linter.unusedVariables false
set_option linter.unusedSimpArgs false
open Go Go.RowKit Go.Shelf Go.Proofs

theorem open_in {W H : Int} {us : List Int} {c : Cell} (h : openU W H us c = true) : In W H c := by
  unfold openU at h
  rw [Bool.and_eq_true, decide_eq_true_eq] at h
  exact h.1
theorem fits_in {W H : Int} {us : List Int} {p : Pose} (h : fitsU W H us p = true) : In W H p.1 ∧ In W H (second p) := by
  unfold fitsU at h
  rw [Bool.and_eq_true] at h
  exact ⟨open_in h.1, open_in h.2⟩
/- Where a move leads from a cell of a grid, numbers stay small. -/
theorem leads_near {kd dir n : Int} {f : Pose} (h1 : 0 ≤ f.1.1) (h2 : f.1.1 < 16) (h3 : 0 ≤ f.1.2) (h4 : f.1.2 < 16) (ok : (leadsP kd dir n f).2 = true) :
    f.1.1 - 16 ≤ (leadsP kd dir n f).1.1.1 ∧ (leadsP kd dir n f).1.1.1 ≤ f.1.1 + 16 ∧ f.1.2 - 16 ≤ (leadsP kd dir n f).1.1.2 ∧ (leadsP kd dir n f).1.1.2 ≤ f.1.2 + 16 := by
  unfold leadsP at ok ⊢
  split at ok
  · rename_i hk
    rw [if_pos hk]
    rw [Bool.and_eq_true, decide_eq_true_eq] at ok
    have hm := ok.1
    have hm2 := ok.1
    unfold mayShift at hm
    simp only [Bool.and_eq_true, decide_eq_true_eq] at hm
    simp only [shiftR, hm2, if_true]
    unfold shiftP
    obtain rfl | rfl | rfl | rfl : dir = 0 ∨ dir = 1 ∨ dir = 2 ∨ dir = 3 := by omega
    all_goals
      simp
      rw [w64_id (by omega) (by omega)]
      omega
  · rename_i hk
    rw [if_neg hk]
    split at ok
    · rename_i hk2
      rw [if_pos hk2]
      simp only [turnP]
      omega
    · rename_i hk2
      rw [if_neg hk2]
      split at ok
      · rename_i hk3
        rw [if_pos hk3]
        simp only
        omega
      · cases ok
theorem second_near {p : Pose} {lo hi : Int} (h1 : lo ≤ p.1.1) (h2 : p.1.1 ≤ hi) (h3 : lo ≤ p.1.2) (h4 : p.1.2 ≤ hi) (hl : -1000 ≤ lo) (hh : hi ≤ 900) : (second p).1 ≤ hi + 1 ∧ (second p).2 ≤ hi + 1 := by
  unfold second
  split
  · simp only [south]
    rw [w64_id (by omega) (by omega)]
    omega
  · simp only [east]
    rw [w64_id (by omega) (by omega)]
    omega
end Go.Proofs.Ytabbdclpjghdbaa.Grid
namespace Go.Proofs.Ytabbdclpjghdbaa.Grid
set_option linter.unusedVariables false
set_option linter.unusedSimpArgs false
open Go Go.RowKit Go.Shelf Go.Proofs

def runM (p : Pose) (d n : Int) : Move := (1, d, n, p, shiftP p d n, 0, 0)
def turnM (p : Pose) : Move := (2, 0, 0, p, turnP p, 0, 0)
def runsP (W H : Int) (us : List Int) (p : Pose) (d : Int) : Nat → Int → List Move
  | 0, _ => []
  | k + 1, n => if fitsU W H us (shiftP p d n) then runM p d n :: runsP W H us p d k (n + 1) else []
def dirP (W H : Int) (us : List Int) (p : Pose) (d : Int) : List Move := runsP W H us p d 16 1
def dirsP (W H : Int) (us : List Int) (p : Pose) (j : Nat) : List Move := (List.range j).flatMap fun (i : Nat) => dirP W H us p (i : Int)
def lastP (W H : Int) (us : List Int) (p : Pose) : List Move := if legalU W H us (turnM p) then [turnM p] else []
def movesP (W H : Int) (us : List Int) (p : Pose) : List Move := if fitsU W H us p then dirsP W H us p 4 ++ lastP W H us p else []
theorem dirs_succ (W H : Int) (us : List Int) (p : Pose) (j : Nat) : dirsP W H us p (j + 1) = dirsP W H us p j ++ dirP W H us p (j : Int) := by
  unfold dirsP
  rw [List.range_succ, List.flatMap_append]
  simp
theorem dirs_pre (W H : Int) (us : List Int) (p : Pose) {i j : Nat} (h : i ≤ j) : dirsP W H us p i <+: dirsP W H us p j := by
  induction j with
  | zero => rw [show i = 0 by omega]; exact List.prefix_rfl
  | succ j ih =>
    by_cases e : i = j + 1
    · rw [e]; exact List.prefix_rfl
    · rw [dirs_succ]; exact (ih (by omega)).trans (List.prefix_append _ _)
theorem dirs_moves {W H : Int} {us : List Int} {p : Pose} (hf : fitsU W H us p = true) {j : Nat} (h : j ≤ 4) {l : List Move} (hl : l <+: dirsP W H us p j) : l <+: movesP W H us p := by
  unfold movesP
  rw [if_pos hf]
  exact (hl.trans (dirs_pre W H us p h)).trans (List.prefix_append _ _)
theorem noGoto_ret {Q : Exit → Act → World → Prop} {a : Act} {w : World} (h : Q .ret a w) : Exit.noGoto Q .ret a w := h
/- A grid, and two variables that hold it and a pose. -/
structure Ctx (w : World) (g u : Nat) (W H : Int) (us : List Int) (vp : Value) (Bg Bp : Nat) (p : Pose) : Prop where
  grid : GridAt w g u W H us vp
  bg : w.heap[Bg]? = some (.cells #[.pointer (some ⟨g, 0, none⟩)] 61 (0, 0))
  bp : w.heap[Bp]? = some (.cells #[.int .i64 p.1.1, .int .i64 p.1.2, .bool p.2] 72 (0, 0))
theorem Ctx.go {w w' : World} {g u : Nat} {W H : Int} {us : List Int} {vp : Value} {Bg Bp : Nat} {p : Pose} (h : Ctx w g u W H us vp Bg Bp p) (hb : Below w.heap.size w w') : Ctx w' g u W H us vp Bg Bp p :=
  ⟨h.grid.go hb, (hb.block _ (lt_of_heap h.bg)).trans h.bg, (hb.block _ (lt_of_heap h.bp)).trans h.bp⟩
end Go.Proofs.Ytabbdclpjghdbaa.Grid
namespace Go.Proofs.Ytabbdclpjghdbaa.Grid
set_option linter.unusedVariables false
set_option linter.unusedSimpArgs false
open Go Go.RowKit Go.Shelf Go.Proofs

def moveL (m : Move) : List Value := [.int .i64 m.1, .int .i64 m.2.1, .int .i64 m.2.2.1, .int .i64 m.2.2.2.1.1.1, .int .i64 m.2.2.2.1.1.2, .bool m.2.2.2.1.2, .int .i64 m.2.2.2.2.1.1.1, .int .i64 m.2.2.2.2.1.1.2, .bool m.2.2.2.2.1.2, .int .i64 m.2.2.2.2.2.1, .int .i64 m.2.2.2.2.2.2]
/- One item, in a block of its own. -/
theorem list_one {α : Type} {f : α → List Value} {S : Nat} (w : World) (x : α) (t : TypeId) (hf : (f x).length = S) : ListAt S (ElL f) (fun b => b = w.heap.size) [x] (.slice (some ⟨w.heap.size, 0, none⟩) 1 1) (w.alloc (.cells (f x).toArray t)) := by
  refine ⟨some ⟨w.heap.size, 0, none⟩, 1, [(x, (f x).toArray)], rfl, rfl, fun y hy => ?_, fun i hi => ⟨_, rfl, rfl, fun j u hj => ?_⟩, fun h => by cases h⟩
  · rw [List.mem_singleton.1 hy]; rfl
  · simp only [List.length_cons, List.length_nil] at hi
    obtain rfl : i = 0 := by omega
    rw [Addr.add_lit, Nat.zero_mul, Nat.zero_add, Nat.zero_add, new_cell]
    simpa using hj
/- Moves that are gathered in a variable; the greatest number in another one. -/
/- Below N0 nothing has turned but block Bl. -/
structure FrN (N0 Bl : Nat) (w w' : World) : Prop where
  os : w'.os = w.os
  tape : w'.tape = w.tape
  output : w'.output = w.output
  size : w.heap.size ≤ w'.heap.size
  block : ∀ k, k < N0 → k ≠ Bl → w'.heap[k]? = w.heap[k]?
theorem FrN.refl (N0 Bl : Nat) (w : World) : FrN N0 Bl w w := ⟨rfl, rfl, rfl, Nat.le_refl _, fun _ _ _ => rfl⟩
theorem FrN.trans {N0 Bl : Nat} {w w1 w2 : World} (h : FrN N0 Bl w w1) (k : FrN N0 Bl w1 w2) : FrN N0 Bl w w2 :=
  ⟨k.os.trans h.os, k.tape.trans h.tape, k.output.trans h.output, Nat.le_trans h.size k.size, fun j hj hn => (k.block j hj hn).trans (h.block j hj hn)⟩
theorem FrN.below {N0 Bl : Nat} {w w' : World} (h : Below w.heap.size w w') (hN : N0 ≤ w.heap.size) : FrN N0 Bl w w' := ⟨h.os, h.tape, h.output, h.size, fun k hk _ => h.block k (by omega)⟩
theorem take_of_pre {α : Type} {p l : List α} (h : p <+: l) : p = l.take p.length := by
  obtain ⟨r, rfl⟩ := h
  simp
end Go.Proofs.Ytabbdclpjghdbaa.Grid
namespace Go.Proofs.Ytabbdclpjghdbaa.Grid
set_option linter.unusedVariables false
set_option linter.unusedSimpArgs false
open Go Go.RowKit Go.Shelf Go.Proofs

theorem mem_boxList {x0 y0 x1 y1 : Int} {c : Cell} : c ∈ boxList x0 y0 x1 y1 ↔ x0 ≤ c.1 ∧ c.1 ≤ x1 ∧ y0 ≤ c.2 ∧ c.2 ≤ y1 := by
  unfold boxList rows row
  simp only [List.mem_flatMap, List.mem_map, List.mem_range]
  constructor
  · rintro ⟨k, hk, j, hj, rfl⟩
    simp only
    omega
  · rintro ⟨h1, h2, h3, h4⟩
    refine ⟨(c.2 - y0).toNat, by omega, (c.1 - x0).toNat, by omega, ?_⟩
    exact Prod.ext (by simp only; omega) (by simp only; omega)
def dx (d : Int) : Int := if d = 1 then 1 else if d = 3 then -1 else 0
def dy (d : Int) : Int := if d = 0 then -1 else if d = 2 then 1 else 0
theorem shift_small {p : Pose} {d k : Int} (h1 : -100 ≤ p.1.1) (h2 : p.1.1 ≤ 100) (h3 : -100 ≤ p.1.2) (h4 : p.1.2 ≤ 100) (hk : 0 ≤ k) (hk2 : k ≤ 16) : shiftP p d k = ((p.1.1 + dx d * k, p.1.2 + dy d * k), p.2) := by
  unfold shiftP dx dy
  by_cases e0 : d = 0
  · subst e0; simp [w64_id (n := p.1.2 - k) (by omega) (by omega)]; omega
  · by_cases e1 : d = 1
    · subst e1; simp [w64_id (n := p.1.1 + k) (by omega) (by omega)]
    · by_cases e2 : d = 2
      · subst e2; simp [w64_id (n := p.1.2 + k) (by omega) (by omega)]
      · by_cases e3 : d = 3
        · subst e3; simp [w64_id (n := p.1.1 - k) (by omega) (by omega)]; omega
        · simp [e0, e1, e2, e3]
theorem second_small {p : Pose} (h1 : -200 ≤ p.1.1) (h2 : p.1.1 ≤ 200) (h3 : -200 ≤ p.1.2) (h4 : p.1.2 ≤ 200) : second p = if p.2 then (p.1.1, p.1.2 + 1) else (p.1.1 + 1, p.1.2) := by
  unfold second east south
  cases p.2
  · simp [w64_id (n := p.1.1 + 1) (by omega) (by omega)]
  · simp [w64_id (n := p.1.2 + 1) (by omega) (by omega)]
theorem fits_near {W H : Int} {us : List Int} {p : Pose} (hW : W ≤ 16) (hH : H ≤ 16) (h : fitsU W H us p = true) : 0 ≤ p.1.1 ∧ p.1.1 < 16 ∧ 0 ≤ p.1.2 ∧ p.1.2 < 16 := by
  obtain ⟨⟨a, b, c, d⟩, _⟩ := fits_in h
  exact ⟨a, by omega, c, by omega⟩
theorem fits_iff {W H : Int} {us : List Int} {p : Pose} : fitsU W H us p = true ↔ openU W H us p.1 = true ∧ openU W H us (second p) = true := by
  unfold fitsU
  rw [Bool.and_eq_true]
/- The box of a run is what its poses cover. -/
theorem box_run {W H : Int} {us : List Int} {p : Pose} {d n : Int} (h1 : 0 ≤ p.1.1) (h2 : p.1.1 < 16) (h3 : 0 ≤ p.1.2) (h4 : p.1.2 < 16) (hd : 0 ≤ d ∧ d ≤ 3) (hn : 0 ≤ n ∧ n ≤ 16) :
    (∀ c ∈ boxOf p (shiftP p d n), openU W H us c = true) ↔ ∀ k, 0 ≤ k → k ≤ n → fitsU W H us (shiftP p d k) = true := by
  have hs := fun k (q : 0 ≤ k) (r : k ≤ 16) => shift_small (p := p) (d := d) (k := k) (by omega) (by omega) (by omega) (by omega) q r
  have hb : -1 ≤ dx d ∧ dx d ≤ 1 ∧ -1 ≤ dy d ∧ dy d ≤ 1 ∧ (dx d = 0 ∨ dy d = 0) := by
    unfold dx dy
    rcases (show d = 0 ∨ d = 1 ∨ d = 2 ∨ d = 3 by omega) with rfl | rfl | rfl | rfl <;> decide
  have hx : ∀ k, 0 ≤ k → k ≤ 16 → -16 ≤ dx d * k ∧ dx d * k ≤ 16 ∧ -16 ≤ dy d * k ∧ dy d * k ≤ 16 := fun k q r => by
    rcases (show dx d = -1 ∨ dx d = 0 ∨ dx d = 1 by omega) with e | e | e <;> rcases (show dy d = -1 ∨ dy d = 0 ∨ dy d = 1 by omega) with f | f | f <;> rw [e, f] <;> omega
  have hsec := fun k (q : 0 ≤ k) (r : k ≤ 16) => second_small (p := ((p.1.1 + dx d * k, p.1.2 + dy d * k), p.2)) (by have := hx k q r; simp only; omega) (by have := hx k q r; simp only; omega) (by have := hx k q r; simp only; omega) (by have := hx k q r; simp only; omega)
  have hp := second_small (p := p) (by omega) (by omega) (by omega) (by omega)
  have hmem : ∀ c, c ∈ boxOf p (shiftP p d n) ↔ ∃ k, 0 ≤ k ∧ k ≤ n ∧ (c = (shiftP p d k).1 ∨ c = second (shiftP p d k)) := by
    intro c
    unfold boxOf spanP
    rw [mem_boxList, hs n hn.1 hn.2, hsec n hn.1 hn.2, hp]
    have hxn := hx n hn.1 hn.2
    constructor
    · rintro ⟨q1, q2, q3, q4⟩
      obtain ⟨cx, cy⟩ := c
      obtain ⟨⟨px, py⟩, pd⟩ := p
      simp only at *
      have key : ∃ k, 0 ≤ k ∧ k ≤ n ∧ ((cx, cy) = (px + dx d * k, py + dy d * k) ∨ (cx, cy) = if pd = true then (px + dx d * k, py + dy d * k + 1) else (px + dx d * k + 1, py + dy d * k)) := by
        cases pd
        · simp only [Bool.false_eq_true, if_false] at q1 q2 q3 q4 ⊢
          simp only [Prod.mk.injEq]
          rcases (show d = 0 ∨ d = 1 ∨ d = 2 ∨ d = 3 by omega) with rfl | rfl | rfl | rfl
          · simp only [show dx 0 = 0 from rfl, show dy 0 = -1 from rfl] at *
            exact ⟨py - cy, by omega, by omega, by omega⟩
          · simp only [show dx 1 = 1 from rfl, show dy 1 = 0 from rfl] at *
            by_cases q : cx - px ≤ n
            · exact ⟨cx - px, by omega, by omega, by omega⟩
            · exact ⟨n, by omega, by omega, by omega⟩
          · simp only [show dx 2 = 0 from rfl, show dy 2 = 1 from rfl] at *
            exact ⟨cy - py, by omega, by omega, by omega⟩
          · simp only [show dx 3 = -1 from rfl, show dy 3 = 0 from rfl] at *
            by_cases q : cx ≤ px
            · exact ⟨px - cx, by omega, by omega, by omega⟩
            · exact ⟨0, by omega, by omega, by omega⟩
        · simp only [if_true] at q1 q2 q3 q4 ⊢
          simp only [Prod.mk.injEq]
          rcases (show d = 0 ∨ d = 1 ∨ d = 2 ∨ d = 3 by omega) with rfl | rfl | rfl | rfl
          · simp only [show dx 0 = 0 from rfl, show dy 0 = -1 from rfl] at *
            by_cases q : cy ≤ py
            · exact ⟨py - cy, by omega, by omega, by omega⟩
            · exact ⟨0, by omega, by omega, by omega⟩
          · simp only [show dx 1 = 1 from rfl, show dy 1 = 0 from rfl] at *
            exact ⟨cx - px, by omega, by omega, by omega⟩
          · simp only [show dx 2 = 0 from rfl, show dy 2 = 1 from rfl] at *
            by_cases q : cy - py ≤ n
            · exact ⟨cy - py, by omega, by omega, by omega⟩
            · exact ⟨n, by omega, by omega, by omega⟩
          · simp only [show dx 3 = -1 from rfl, show dy 3 = 0 from rfl] at *
            exact ⟨px - cx, by omega, by omega, by omega⟩
      obtain ⟨k, k1, k2, k3⟩ := key
      refine ⟨k, k1, k2, ?_⟩
      rw [hs k k1 (by omega), hsec k k1 (by omega)]
      exact k3
    · rintro ⟨k, k1, k2, k3⟩
      rw [hs k k1 (by omega), hsec k k1 (by omega)] at k3
      have hxk := hx k k1 (by omega)
      obtain ⟨⟨px, py⟩, pd⟩ := p
      simp only at *
      rcases (show d = 0 ∨ d = 1 ∨ d = 2 ∨ d = 3 by omega) with rfl | rfl | rfl | rfl <;>
        simp only [show dx 0 = 0 from rfl, show dy 0 = -1 from rfl, show dx 1 = 1 from rfl, show dy 1 = 0 from rfl, show dx 2 = 0 from rfl, show dy 2 = 1 from rfl, show dx 3 = -1 from rfl, show dy 3 = 0 from rfl] at * <;>
        cases pd <;> simp only [Bool.false_eq_true, if_false, if_true] at * <;> rcases k3 with rfl | rfl <;> simp only <;> omega
  constructor
  · intro h k k1 k2
    rw [fits_iff]
    exact ⟨h _ ((hmem _).2 ⟨k, k1, k2, Or.inl rfl⟩), h _ ((hmem _).2 ⟨k, k1, k2, Or.inr rfl⟩)⟩
  · intro h c hc
    obtain ⟨k, k1, k2, k3⟩ := (hmem c).1 hc
    have := fits_iff.1 (h k k1 k2)
    rcases k3 with rfl | rfl
    · exact this.1
    · exact this.2
theorem shift_zero {p : Pose} {d : Int} (h1 : 0 ≤ p.1.1) (h2 : p.1.1 < 16) (h3 : 0 ≤ p.1.2) (h4 : p.1.2 < 16) : shiftP p d 0 = p := by
  rw [shift_small (by omega) (by omega) (by omega) (by omega) (by omega) (by omega)]
  simp
theorem legal_run {W H : Int} {us : List Int} {p : Pose} {d n : Int} (hW : W ≤ 16) (hH : H ≤ 16) (hd : 0 ≤ d ∧ d ≤ 3) (hn : 1 ≤ n ∧ n ≤ 16) :
    legalU W H us (runM p d n) = true ↔ fitsU W H us p = true ∧ ∀ k, 1 ≤ k → k ≤ n → fitsU W H us (shiftP p d k) = true := by
  have hm : mayShift d n = true := by unfold mayShift; simp; omega
  have e : legalU W H us (runM p d n) = (fitsU W H us p && (boxOf p (shiftP p d n)).all (openU W H us)) := by
    unfold legalU runM leadsP shiftR
    simp [hm, show 0 < n by omega]
  rw [e, Bool.and_eq_true, List.all_eq_true]
  constructor
  · rintro ⟨h, q⟩
    obtain ⟨a, b, c, f⟩ := fits_near hW hH h
    exact ⟨h, fun k k1 k2 => (box_run a b c f hd ⟨by omega, hn.2⟩).1 q k (by omega) k2⟩
  · rintro ⟨h, q⟩
    obtain ⟨a, b, c, f⟩ := fits_near hW hH h
    refine ⟨h, (box_run a b c f hd ⟨by omega, hn.2⟩).2 fun k k1 k2 => ?_⟩
    by_cases k0 : k = 0
    · rw [k0, shift_zero a b c f]; exact h
    · exact q k (by omega) k2
/- The moves of a pose: which there are, each once. -/
theorem mem_runs {W H : Int} {us : List Int} {p : Pose} {d : Int} : ∀ (f : Nat) (n0 : Int) (m : Move), m ∈ runsP W H us p d f n0 ↔ ∃ j, n0 ≤ j ∧ j < n0 + f ∧ m = runM p d j ∧ ∀ k, n0 ≤ k → k ≤ j → fitsU W H us (shiftP p d k) = true
  | 0, n0, m => by
    unfold runsP
    refine iff_of_false (by simp) ?_
    rintro ⟨j, h1, h2, _⟩
    omega
  | f + 1, n0, m => by
    unfold runsP
    split
    · rename_i hf
      rw [List.mem_cons, mem_runs f (n0 + 1) m]
      constructor
      · rintro (rfl | ⟨j, h1, h2, h3, h4⟩)
        · exact ⟨n0, Int.le_refl _, by omega, rfl, fun k k1 k2 => by rw [show k = n0 by omega]; exact hf⟩
        · refine ⟨j, by omega, by omega, h3, fun k k1 k2 => ?_⟩
          by_cases e : k = n0
          · rw [e]; exact hf
          · exact h4 k (by omega) k2
      · rintro ⟨j, h1, h2, h3, h4⟩
        by_cases e : j = n0
        · exact Or.inl (by rw [h3, e])
        · exact Or.inr ⟨j, by omega, by omega, h3, fun k k1 k2 => h4 k (by omega) k2⟩
    · rename_i hf
      refine iff_of_false (by simp) ?_
      rintro ⟨j, h1, h2, h3, h4⟩
      exact hf (h4 n0 (Int.le_refl _) h1)
theorem runs_nodup {W H : Int} {us : List Int} {p : Pose} {d : Int} : ∀ (f : Nat) (n0 : Int), (runsP W H us p d f n0).Nodup
  | 0, n0 => by unfold runsP; exact List.nodup_nil
  | f + 1, n0 => by
    unfold runsP
    split
    · rw [List.nodup_cons]
      refine ⟨fun h => ?_, runs_nodup f (n0 + 1)⟩
      obtain ⟨j, h1, _, h3, _⟩ := (mem_runs f (n0 + 1) _).1 h
      have : n0 = j := congrArg (fun m : Move => m.2.2.1) h3
      omega
    · exact List.nodup_nil
theorem mem_dir {W H : Int} {us : List Int} {p : Pose} {d : Int} {m : Move} (hW : W ≤ 16) (hH : H ≤ 16) (hd : 0 ≤ d ∧ d ≤ 3) (hf : fitsU W H us p = true) : m ∈ dirP W H us p d ↔ ∃ j, 1 ≤ j ∧ j ≤ 16 ∧ m = runM p d j ∧ legalU W H us m = true := by
  unfold dirP
  rw [mem_runs]
  constructor
  · rintro ⟨j, h1, h2, h3, h4⟩
    refine ⟨j, h1, by omega, h3, ?_⟩
    rw [h3, legal_run hW hH hd ⟨h1, by omega⟩]
    exact ⟨hf, h4⟩
  · rintro ⟨j, h1, h2, h3, h4⟩
    refine ⟨j, h1, by omega, h3, ?_⟩
    rw [h3, legal_run hW hH hd ⟨h1, h2⟩] at h4
    exact h4.2
theorem dirs_nodup {W H : Int} {us : List Int} {p : Pose} : ∀ j : Nat, (dirsP W H us p j).Nodup ∧ ∀ m ∈ dirsP W H us p j, m.1 = 1 ∧ m.2.1 < (j : Int)
  | 0 => ⟨List.nodup_nil, fun m hm => by simp [dirsP] at hm⟩
  | j + 1 => by
    rw [dirs_succ]
    obtain ⟨h1, h2⟩ := dirs_nodup (W := W) (H := H) (us := us) (p := p) j
    refine ⟨List.nodup_append.2 ⟨h1, runs_nodup _ _, fun a ha b hb e => ?_⟩, fun m hm => ?_⟩
    · obtain ⟨k, _, _, q, _⟩ := (mem_runs _ _ _).1 hb
      have := (h2 a ha).2
      rw [e, q] at this
      simp [runM] at this
    · rcases List.mem_append.1 hm with q | q
      · have := h2 m q
        exact ⟨this.1, by omega⟩
      · obtain ⟨k, _, _, q, _⟩ := (mem_runs _ _ _).1 q
        rw [q]
        exact ⟨rfl, by simp [runM]; omega⟩
theorem mem_dirs {W H : Int} {us : List Int} {p : Pose} {m : Move} : ∀ j : Nat, m ∈ dirsP W H us p j ↔ ∃ i : Nat, i < j ∧ m ∈ dirP W H us p (i : Int) := by
  intro j
  unfold dirsP
  simp only [List.mem_flatMap, List.mem_range]
theorem moves_nodup {W H : Int} {us : List Int} {p : Pose} : (movesP W H us p).Nodup := by
  unfold movesP
  split
  · refine List.nodup_append.2 ⟨(dirs_nodup 4).1, ?_, fun a ha b hb e => ?_⟩
    · unfold lastP; split <;> simp
    · have h1 := ((dirs_nodup 4).2 a ha).1
      unfold lastP at hb
      split at hb
      · rw [List.mem_singleton.1 hb] at e
        rw [e] at h1
        cases h1
      · simp at hb
  · exact List.nodup_nil
theorem mem_moves {W H : Int} {us : List Int} {m : Move} (hW : W ≤ 16) (hH : H ≤ 16) (ha : m.2.2.2.2.2.1 = 0) (he : m.2.2.2.2.2.2 = 0) : m ∈ movesP W H us m.2.2.2.1 ↔ legalU W H us m = true ∧ (m.1 = 1 ∨ m.1 = 2) := by
  obtain ⟨kd, dir, n, f, t, a, e⟩ := m
  simp only at ha he
  subst ha he
  simp only
  constructor
  · intro h
    unfold movesP at h
    split at h
    · rename_i hf
      rcases List.mem_append.1 h with q | q
      · obtain ⟨i, hi, q⟩ := (mem_dirs 4).1 q
        obtain ⟨j, _, _, q1, q2⟩ := (mem_dir hW hH ⟨by omega, by omega⟩ hf).1 q
        exact ⟨q2, Or.inl (congrArg Prod.fst q1)⟩
      · unfold lastP at q
        split at q
        · rename_i hl
          have := List.mem_singleton.1 q
          exact ⟨by rw [this]; exact hl, Or.inr (congrArg Prod.fst this)⟩
        · simp at q
    · simp at h
  · rintro ⟨hl, hk⟩
    have hl0 := hl
    unfold legalU at hl
    simp only [Bool.and_eq_true, decide_eq_true_eq] at hl
    obtain ⟨⟨⟨h1, h2⟩, h3⟩, h4⟩ := hl
    unfold movesP
    rw [if_pos h3]
    rcases hk with rfl | rfl
    · refine List.mem_append_left _ ?_
      unfold leadsP at h1 h2
      rw [if_pos rfl] at h1 h2
      simp only [Bool.and_eq_true, decide_eq_true_eq] at h1
      obtain ⟨h1, h5⟩ := h1
      have hm := h1
      unfold mayShift at h1
      simp only [Bool.and_eq_true, decide_eq_true_eq] at h1
      unfold shiftR at h2
      rw [if_pos hm] at h2
      simp only at h2
      subst h2
      refine (mem_dirs 4).2 ⟨dir.toNat, by omega, ?_⟩
      rw [show ((dir.toNat : Nat) : Int) = dir by omega]
      exact (mem_dir hW hH ⟨by omega, by omega⟩ h3).2 ⟨n, by omega, by omega, rfl, hl0⟩
    · refine List.mem_append_right _ ?_
      unfold leadsP at h1 h2
      rw [if_neg (by decide), if_pos rfl] at h1 h2
      simp only at h1 h2
      unfold still at h1
      simp only [Bool.and_eq_true, decide_eq_true_eq] at h1
      obtain ⟨rfl, rfl⟩ : dir = 0 ∧ n = 0 := by omega
      subst h2
      unfold lastP
      rw [if_pos (show legalU W H us (turnM f) = true from hl0)]
      exact List.mem_singleton.2 rfl
theorem count_moves {W H : Int} {us : List Int} {m : Move} (hW : W ≤ 16) (hH : H ≤ 16) (ha : m.2.2.2.2.2.1 = 0) (he : m.2.2.2.2.2.2 = 0) : (movesP W H us m.2.2.2.1).count m = if legalU W H us m = true ∧ (m.1 = 1 ∨ m.1 = 2) then 1 else 0 := by
  rw [moves_nodup.count]
  simp only [mem_moves hW hH ha he]
theorem runs_len {W H : Int} {us : List Int} {p : Pose} {d : Int} : ∀ (f : Nat) (n0 : Int), (runsP W H us p d f n0).length ≤ f
  | 0, n0 => by unfold runsP; simp
  | f + 1, n0 => by
    unfold runsP
    split
    · have := runs_len (W := W) (H := H) (us := us) (p := p) (d := d) f (n0 + 1)
      rw [List.length_cons]; omega
    · simp
theorem moves_len {W H : Int} {us : List Int} {p : Pose} : (movesP W H us p).length ≤ 65 := by
  have h : ∀ j : Nat, (dirsP W H us p j).length ≤ 16 * j := fun j => by
    induction j with
    | zero => simp [dirsP]
    | succ j ih =>
      rw [dirs_succ, List.length_append]
      have : (dirP W H us p (j : Int)).length ≤ 16 := runs_len 16 1
      omega
  unfold movesP
  split
  · rw [List.length_append]
    have := h 4
    have : (lastP W H us p).length ≤ 1 := by unfold lastP; split <;> simp
    omega
  · simp
end Go.Proofs.Ytabbdclpjghdbaa.Grid
namespace Go.Proofs.Ytabbdclpjghdbaa.Grid
set_option linter.unusedVariables false
set_option linter.unusedSimpArgs false
open Go Go.RowKit Go.Shelf Go.Proofs

def conf0 : Conf := { W := 2, H := 2, height := 1, blocked := [], ports := [], robots := [], stacks := [], unit := 1, accel := 1, speed := 1, turn := 1, hoist := 1, queue := 1, resend := 1, budget := 1, back := false }
def nilS : Value := .slice none 0 0
theorem ctx_new {w : World} {g u : Nat} {W H : Int} {us : List Int} {vp : Value} (hG : GridAt w g u W H us vp) (p : Pose) :
    Ctx ((w.alloc (.cells #[.pointer (some ⟨g, 0, none⟩)] 61)).alloc (.cells #[.int .i64 p.1.1, .int .i64 p.1.2, .bool p.2] 72)) g u W H us vp w.heap.size (w.heap.size + 1) p :=
  ⟨hG.go (below_two _ _ _), (alloc_old _ _ _ (by simp)).trans (heap_alloc_new w _), heap_new2 _ _ _⟩
theorem new0 : newP conf0 = some ⟨2, 2, [4, 4, 4, 0], []⟩ := by
  have h1 : takeAll 2 2 1 (List.replicate ((2 : Int) * 2).toNat 0) [] = some [0, 0, 0, 0] := rfl
  have h2 : stackUs 2 2 [0, 0, 0, 0] = [4, 4, 4, 0] := by decide +kernel
  have h3 : mayBeP [] := ⟨by simp, by simp, List.nodup_nil⟩
  have h4 : limited conf0 = true := by decide +kernel
  unfold newP
  rw [if_pos h4]
  simp only [conf0, h1, Option.bind_some, List.length_nil, Nat.zero_le, if_true, takeP, takeR, h2, carry]
  rw [if_pos h3]
theorem moves0 : (movesP 2 2 [4, 4, 4, 0] ((0, 0), false)).take (9 : Int).toNat = [(1, 2, 1, ((0, 0), false), ((0, 1), false), 0, 0), (2, 0, 0, ((0, 0), false), ((0, 0), true), 0, 0)] := by kernel_rfl
/- The cells of two moves that were told. -/
end Go.Proofs.Ytabbdclpjghdbaa.Grid
namespace Go.Proofs.Ytabbdclpjghdbaa.Grid
set_option linter.unusedVariables false
set_option linter.unusedSimpArgs false
open Go Go.RowKit Go.Shelf Go.Proofs

theorem new_empty (c : Conf) (h1 : c.blocked = []) (h2 : c.ports = []) (h3 : c.robots = []) (h4 : c.stacks = []) : (newP c).isSome = limited c := by
  cases hl : limited c
  · unfold newP
    rw [if_neg (by rw [hl]; decide)]
    rfl
  · cases e : newP c with
    | some G => rfl
    | none =>
      refine absurd ?_ (new_none e)
      unfold mayR homes mayBeP
      rw [h1, h2, h3, h4]
      simp [hl]
end Go.Proofs.Ytabbdclpjghdbaa.Grid
