/-
  A config's grid: what New answers.
  Poses: whether one fits, where it is when it is shifted, turned; where a move leads.
  Where a move leads.
  The least box with the cells of two poses.
  The iterator that goes through a box's cells: what it tells to whatever loop ranges over it.
  Whether a move may be.
  Whether a move may be: of every move.
  The moves of a pose, told one by one to any function.
  What an iterator of moves tells, gathered: at most so many.
  Legal runs and turns in plain words: a run is legal just if every pose on its way fits; which moves a pose has, each once.
  The chapter's example.
  Whether a config may be.
-/
import Derived.Test.YtedhoghleelhfaaGreatQGridLimit
import Derived.RangeFuncNested
import Derived.RangeFuncBound
import Derived.RangeFuncCalls
import Derived.RangeFuncLeaves
import Derived.RangeFuncBox
import Derived.Shelf.Abstract
import Derived.Shelf.RegionOpen
import Derived.OwnWalkIn
import Derived.TacticsInMore
import Derived.LoopNIn
import Derived.LoopIn
namespace Go.Proofs.YtedhoghleelhfaaGreat.Grid
set_option linter.unusedVariables false
set_option linter.unusedSimpArgs false
open Go Go.RowKit

/- One operation that stands alone and makes memory. -/
theorem value_held {P : Program} {S : World → Prop} {Q : Exit → Act → World → Prop} {md : Region.Mode} {l : List Oper} (i : Nat) {o : Oper} {fuel : Nat} {listed : Array Bool} {a : Act} {w : World} (hi : nth l i = some o)
    (hr : Region.ready md l.toArray listed = [i]) (hw : Region.wanted o (yielded l.toArray a.tmps) = true) (v : Value) (w' : World) (hrun : (execOp a.eval o).run P w = .ok (.value v) w') (hS : S w')
    (h : wpAnyH P md l.toArray Q S fuel (listed.setIfInBounds i true) (a.put o.dst v) w') : wpAnyH P md l.toArray Q S (fuel + 1) listed a w := by
  refine wpAnyH_ready hr (by simp) (AllReadyH.cons ((nth_eq l i).trans hi) ?_ AllReadyH.nil)
  intro K' hK
  rw [if_pos hw]
  unfold Oper.wp
  rw [hrun]
  exact hK.out _ _ hS fun _ => h
theorem run_made_op {o : Oper} {a : Act} {w w' : World} {v : Value} (t : TypeId) (l c : Operand) (ho : o.op = .makeSlice t l c) (n : Int) (hl : a.eval l = .int .i64 n) (hc : a.eval c = .int .i64 n)
    (h : (Instr.makeSlice t (.int .i64 n) (.int .i64 n)).run Tryz.prog w = .ok v w') : (execOp a.eval o).run Tryz.prog w = .ok (.value v) w' := by
  unfold execOp
  simp only [ho, hl, hc, Sem.run_bind, Sem.run_pure, Result.andThen_ok, h]
theorem infoUse : (Tryz.prog.info? 125).map (fun i => (i.zero, i.size, i.bytes)) = some (some (.int .u8 0), 1, 1) := by kernel_rfl
theorem below_fr {B g u : Nat} {w w1 w2 : World} (h : Below B w w1) (hf : Fr g u w1 w2) (hg : B ≤ g) (hu : B ≤ u) (hB : B ≤ w1.heap.size) : Below B w w2 :=
  ⟨hf.os.trans h.os, hf.tape.trans h.tape, hf.output.trans h.output, Nat.le_trans h.size hf.size, fun k hk => (hf.block k (by omega) (by omega) (by omega)).trans (h.block k hk)⟩
theorem owns_fr {w w' : World} {base g u : Nat} {e : TypeId} {size : Nat} {v : Value} {n : Nat} {xs : List Value} (h : w.ownsRow base e size v n xs) (f : Fr g u w w') (hg : g < base) (hu : u < base) : w'.ownsRow base e size v n xs :=
  owns_same h fun k hk => f.block k (h.lt k hk).2 (by have := (h.lt k hk).1; omega) (by have := (h.lt k hk).1; omega)
theorem carried_true {R : Option (List Int)} (h : carried R = true) : ∃ bins, R = some bins ∧ mayBeP bins := by
  cases R with
  | none => cases h
  | some bins => exact ⟨bins, rfl, of_decide_eq_true h⟩
theorem carried_false {α : Type} {R : Option (List Int)} {X : α} (h : carried R = false) : (R.bind fun bins => if mayBeP bins then some X else none) = none := by
  cases R with
  | none => rfl
  | some bins => rw [Option.bind_some, if_neg (of_decide_eq_false h)]
theorem grid_new (w : World) (W H : Int) (N : Nat) (hN : (N : Int) = W * H) (w1 : 1 ≤ W) (w2 : W ≤ 16) (h1 : 1 ≤ H) (h2 : H ≤ 16) :
    GridAt ((w.alloc (.cells (List.replicate N (Value.int .u8 0)).toArray 125)).alloc (.cells #[.int .i64 W, .int .i64 H, .slice (some ⟨w.heap.size, 0, none⟩) N N, .slice none 0 0] 89)) (w.heap.size + 1) w.heap.size W H (List.replicate N 0) (.slice none 0 0) := by
  refine ⟨?_, ?_, w1, w2, h1, h2, by rw [List.length_replicate]; exact hN, fun z hz => ?_, by omega⟩
  · rw [heap_new2, List.length_replicate]
  · rw [alloc_old _ _ _ (by simp), heap_alloc_new, List.map_replicate]
  · rw [List.eq_of_mem_replicate hz]; decide
set_option maxRecDepth 100000 in
set_option maxHeartbeats 4000000 in
theorem new_any (F : Nat → Prop) (cs : Array Value) (c : Conf) (vb vp vr vs : Value) (w : World) (hC : Cells cs c vb vp vr vs) (hA : ConfAt F c vb vp vr vs w) (hF : ∀ b, F b → b < w.heap.size)
    (hmb : c.blocked.length ≤ 9223372036854775807) (hmp : c.ports.length ≤ 9223372036854775807) (hmr : c.robots.length ≤ 9223372036854775807) (hms : c.stacks.length ≤ 9223372036854775807) :
    Calls Tryz.prog 14 #[.agg cs] w fun e w' => Below w.heap.size w w' ∧
      ((∃ G g u v', newP c = some G ∧ e = .returned (.tuple #[.pointer (some ⟨g, 0, none⟩), .int .i64 0]) ∧ GridAt w' g u c.W c.H G.uses v' ∧ w.heap.size ≤ g ∧ w.heap.size ≤ u ∧ w'.ownsRow w.heap.size 40 2 v' c.ports.length (rowL cellL c.ports)) ∨
       (newP c = none ∧ e = .returned (.tuple #[.pointer none, .int .i64 5]))) := by
  have bH : Below w.heap.size w (w.alloc (.cells cs 26)) := below_new (Below.refl _ _) _
  have eH : (w.alloc (.cells cs 26)).heap[w.heap.size]? = some (.cells cs 26 (0, 0)) := heap_alloc_new w _
  have sH : (w.alloc (.cells cs 26)).heap.size = w.heap.size + 1 := by simp
  have i0 : (Tryz.prog.info? 26).map (·.size) = some cs.size := by rw [hC.size]; exact info_conf
  have cL := fun u => limited_any cs c vb vp vr vs u hC
  have kc : Hid (∀ (u : World) (j : Nat), u.heap[w.heap.size]? = some (.cells cs 26 (0, 0)) → u.cell? ⟨w.heap.size, j, none⟩ = cs[j]?) := fun u j h => cell_of h j
  generalize hW : w.alloc (.cells cs 26) = wH at *
  cases hl : limited c
  · have HT : Hid (newP c = none) := by show newP c = none; unfold newP; rw [if_neg (by rw [hl]; decide)]
    rw [hl] at cL
    go_enter Tryz.func14, Tryz.ntmps14
    go_wp2_with (first
      | (refine wpList_load_row rfl 26 (.tmp 1) rfl w.heap.size rfl 26 cs (0, 0) _ eH Tryz.underlying26 rfl i0 ?_)
      | (go_at_call 43; refine (cL _).mono ?_; rintro e w1 ⟨rfl, b1⟩))
    exact bodyPost_ret (v := .tuple #[.pointer none, .int .i64 5]) (by simp [results, Tryz.results14, go_sem]) rfl ⟨bcat bH b1 (Nat.le_refl _), Or.inr ⟨HT.out, rfl⟩⟩
  · rw [hl] at cL
    obtain ⟨lw1, lw2, lh1, lh2, lg1, lg2⟩ := limited_sides hl
    have hWH : 0 ≤ c.W * c.H := Int.mul_nonneg (by omega) (by omega)
    have hWH2 : c.W * c.H ≤ 16 * c.H := Int.mul_le_mul_of_nonneg_right lw2 (by omega)
    obtain ⟨N, hN⟩ : ∃ N : Nat, (N : Int) = c.W * c.H := ⟨(c.W * c.H).toNat, by omega⟩
    have hwr : IntKind.i64.wrap (c.W * c.H) = (N : Int) := by rw [IntKind.wrap_i64]; omega
    have HNW : Hid (newP c = (takeAll c.W c.H 1 (List.replicate N 0) c.blocked).bind fun u1 => (if c.ports.length ≤ 8 then takeP c.W c.H u1 c.ports else none).bind fun u2 => (if c.robots.length ≤ 8 then takeR c.W c.H u2 c.robots else none).bind fun u3 =>
        (carry c.W c.H (stackUs c.W c.H u3) c.height (List.replicate N false) [] c.stacks).bind fun bins => if mayBeP bins then some ⟨c.W, c.H, stackUs c.W c.H u3, c.ports⟩ else none) := by
      show newP c = _
      unfold newP
      rw [if_pos hl, show (c.W * c.H).toNat = N by omega]
    have hNb : N ≤ 256 := by omega
    have HWR : Hid (IntKind.i64.wrap (c.W * c.H) = (N : Int)) := hwr
    have HNN : Hid ((N : Int) = c.W * c.H) := hN
    obtain ⟨hz, e0, e1, e2, e3, e4, e5, e6, _⟩ := hC
    clear hz hwr hN hWH hWH2
    obtain ⟨IH, hIH⟩ : ∃ I : World → Prop, I = fun u => u.heap[w.heap.size]? = some (.cells cs 26 (0, 0)) := ⟨_, rfl⟩
    have k0 : ∀ u, IH u → u.cell? ⟨w.heap.size, 0, none⟩ = some (.int .i64 c.W) := fun u hu => by rw [hIH] at hu; exact (kc.out u 0 hu).trans e0
    have k1 : ∀ u, IH u → u.cell? ⟨w.heap.size, 1, none⟩ = some (.int .i64 c.H) := fun u hu => by rw [hIH] at hu; exact (kc.out u 1 hu).trans e1
    have cA := fun wx (hb : Below w.heap.size w wx) => hA.stable fun b hb' => hb.block b (hF b hb')
    go_enter Tryz.func14, Tryz.ntmps14
    go_wp2_with (first
      | (refine wpList_load_row rfl 26 (.tmp 1) rfl w.heap.size rfl 26 cs (0, 0) _ eH Tryz.underlying26 rfl i0 ?_)
      | (go_at_call 43; refine (cL _).mono ?_; rintro e w1 ⟨rfl, b1⟩; have B1 := bcat bH b1 (Nat.le_refl _); have s1 := b1.size; have m1 := (b1.block w.heap.size (by rw [sH]; omega)).trans eH; have hS : IH w1.drew := by rw [hIH]; exact m1))
    refine start_held (S := IH) 13 rfl (by kernel_rfl) (hS) ?_
    simp only [Array.replicate_succ, Array.replicate_zero, List.push_toArray, List.nil_append, List.cons_append]
    refine tkq 0 (by assumption) ?_
    refine tkf 1 (by assumption) rfl (fun u hu => by have := k0 u hu; go_simp; try rfl) ?_
    refine tkq 2 (by assumption) ?_
    refine tkf 3 (by assumption) rfl (fun u hu => by have := k1 u hu; go_simp; try rfl) ?_
    refine tkq 4 (by assumption) ?_
    refine tkf 5 (by assumption) rfl (fun u hu => by have := k0 u hu; go_simp; try rfl) ?_
    refine tkq 6 (by assumption) ?_
    refine tkf 7 (by assumption) rfl (fun u hu => by have := k1 u hu; go_simp; try rfl) ?_
    refine tkq 8 (by assumption) ?_
    have hmk := run_made 87 125 (.int .u8 0) 1 Tryz.underlying87 infoUse rfl N (by omega) (by omega) w1.drew
    rw [← HWR.out] at hmk
    have M1 : (w1.drew.alloc (.cells (List.replicate N (Value.int .u8 0)).toArray 125)).heap[w.heap.size]? = some (.cells cs 26 (0, 0)) := (alloc_old _ _ _ (by simp; omega)).trans m1
    refine value_held 9 rfl (by kernel_rfl) (by kernel_rfl) _ _ (run_made_op 87 (.tmp 16) (.tmp 16) rfl _ rfl rfl hmk) (by rw [hIH]; exact M1) ?_
    simp only [Act.put, List.setIfInBounds_toArray, List.set_cons_zero, List.set_cons_succ]
    have hS2 : IH (w1.drew.alloc (.cells (List.replicate N (Value.int .u8 0)).toArray 125)) := by rw [hIH]; exact M1
    refine tkq 10 (by assumption) ?_
    have M2 : ((w1.drew.alloc (.cells (List.replicate N (Value.int .u8 0)).toArray 125)).alloc (.cells #[.int .i64 c.W, .int .i64 c.H, .slice (some ⟨w1.heap.size, 0, none⟩) N N, .slice none 0 0] 89)).heap[w.heap.size]? = some (.cells cs 26 (0, 0)) := (alloc_old _ _ _ (by simp; omega)).trans M1
    have hS3 : IH ((w1.drew.alloc (.cells (List.replicate N (Value.int .u8 0)).toArray 125)).alloc (.cells #[.int .i64 c.W, .int .i64 c.H, .slice (some ⟨w1.heap.size, 0, none⟩) N N, .slice none 0 0] 89)) := by rw [hIH]; exact M2
    have G3 : GridAt ((w1.drew.alloc (.cells (List.replicate N (Value.int .u8 0)).toArray 125)).alloc (.cells #[.int .i64 c.W, .int .i64 c.H, .slice (some ⟨w1.heap.size, 0, none⟩) N N, .slice none 0 0] 89)) (w1.heap.size + 1) w1.heap.size c.W c.H (List.replicate N 0) (.slice none 0 0) := grid_new w1.drew c.W c.H N HNN.out lw1 lw2 lh1 lh2
    have B3 : Below w.heap.size w ((w1.drew.alloc (.cells (List.replicate N (Value.int .u8 0)).toArray 125)).alloc (.cells #[.int .i64 c.W, .int .i64 c.H, .slice (some ⟨w1.heap.size, 0, none⟩) N N, .slice none 0 0] 89)) := below_new (below_new B1.drew _) _
    refine value_held 11 rfl (by kernel_rfl) (by kernel_rfl) (.pointer (some ⟨w1.heap.size + 1, 0, none⟩)) ((w1.drew.alloc (.cells (List.replicate N (Value.int .u8 0)).toArray 125)).alloc (.cells #[.int .i64 c.W, .int .i64 c.H, .slice (some ⟨w1.heap.size, 0, none⟩) N N, .slice none 0 0] 89)) (by go_simp; try rfl) hS3 ?_
    simp only [Act.put, List.setIfInBounds_toArray, List.set_cons_zero, List.set_cons_succ]
    refine tkq 12 (by assumption) ?_
    refine done_held (by kernel_rfl) ?_ _
    generalize hW3 : ((w1.drew.alloc (.cells (List.replicate N (Value.int .u8 0)).toArray 125)).alloc (.cells #[.int .i64 c.W, .int .i64 c.H, .slice (some ⟨w1.heap.size, 0, none⟩) N N, .slice none 0 0] 89)) = w3 at *
    obtain ⟨g, hg⟩ : ∃ g, w1.heap.size + 1 = g := ⟨_, rfl⟩
    obtain ⟨u, hu⟩ : ∃ u, w1.heap.size = u := ⟨_, rfl⟩
    rw [hg, hu] at G3
    rw [hg]
    have hgu : w.heap.size < g ∧ w.heap.size < u := by omega
    have x3 : w3.cell? ⟨w.heap.size, 3, none⟩ = some vb := (kc.out w3 3 M2).trans e3
    have hFu : ∀ b, F b → b ≠ g ∧ b ≠ u := fun b hb => by have := hF b hb; omega
    clear hW3 hS hS2 hS3 hmk M1 hg hu k0 k1 hIH IH e0 e1 e3
    clear cL bH eH b1 s1 m1 B1 hW
    have cB := block_any g u c.W c.H (List.replicate N 0) (.slice none 0 0) F c.blocked vb w3 G3 (cA _ B3).b (fun b hb => ⟨Nat.lt_of_lt_of_le (hF b hb) B3.size, (hFu b hb).2⟩) hmb
    go_wp2_with (first
      | (go_at_call 44; refine cB.mono ?_; rintro e w4 ⟨g4, ⟨us1, t1, rfl, G4⟩ | ⟨t1, rfl⟩⟩; have f4 : Fr g u w3 w4 := Fr.of g4; have B4 := below_fr B3 f4 (by omega) (by omega) (by have := B3.size; omega); have M4 := (f4.block w.heap.size (lt_of_heap M2) (by omega) (by omega)).trans M2; have x4 : w4.cell? ⟨w.heap.size, 4, none⟩ = some vp := (kc.out w4 4 M4).trans e4)
      | (have X' := G4; go_at_call 45; refine (layPorts_any g u c.W c.H us1 (.slice none 0 0) F c.ports vp w4 G4 (cA _ B4).p (fun b hb => ⟨Nat.lt_of_lt_of_le (hF b hb) B4.size, hFu b hb⟩) hmp).mono ?_; rintro e w5 ⟨f5, ⟨us2, v5, t2, rfl, G5, own5⟩ | ⟨t2, rfl⟩⟩; have B5 := below_fr B4 f5 (by omega) (by omega) (by have := B4.size; omega); have M5 := (f5.block w.heap.size (lt_of_heap M4) (by omega) (by omega)).trans M4; have x5 : w5.cell? ⟨w.heap.size, 5, none⟩ = some vr := (kc.out w5 5 M5).trans e5)
      | (have X' := G5; go_at_call 46; refine (park_any g u c.W c.H us2 v5 F c.robots vr w5 G5 (cA _ B5).r (fun b hb => ⟨Nat.lt_of_lt_of_le (hF b hb) B5.size, (hFu b hb).2⟩) hmr).mono ?_; rintro e w6 ⟨g6, ⟨us3, t3, rfl, G6⟩ | ⟨t3, rfl⟩⟩; have f6 : Fr g u w5 w6 := Fr.of g6; have B6 := below_fr B5 f6 (by omega) (by omega) (by have := B5.size; omega); have M6 := (f6.block w.heap.size (lt_of_heap M5) (by omega) (by omega)).trans M5)
      | (have X' := G6; go_at_call 47; refine (layStackCells_any g u c.W c.H us3 v5 w6 G6).mono ?_; rintro e w7 ⟨g7, rfl, G7⟩; have f7 : Fr g u w6 w7 := Fr.of g7; have B7 := below_fr B6 f7 (by omega) (by omega) (by have := B6.size; omega); have M7 := (f7.block w.heap.size (lt_of_heap M6) (by omega) (by omega)).trans M6; have x6 : w7.cell? ⟨w.heap.size, 6, none⟩ = some vs := (kc.out w7 6 M7).trans e6; have x2 : w7.cell? ⟨w.heap.size, 2, none⟩ = some (.int .i64 c.height) := (kc.out w7 2 M7).trans e2)
      | (have X' := G7; go_at_call 48; refine (carries_any g u c.W c.H (stackUs c.W c.H us3) v5 F c.stacks vs c.height w7 G7 (cA _ B7).s (fun b hb => Nat.lt_of_lt_of_le (hF b hb) B7.size) hms lg2).mono ?_; rintro e w8 ⟨b8, rfl⟩; cases hcr : carried (carry c.W c.H (stackUs c.W c.H us3) c.height (List.replicate (stackUs c.W c.H us3).length false) [] c.stacks)))
    · exact bodyPost_ret (v := .tuple #[.pointer none, .int .i64 5]) (by simp [results, Tryz.results14, go_sem]) rfl ⟨bcat B7 b8 (by have := B7.size; omega), Or.inr ⟨by rw [HNW.out, t1, Option.bind_some, t2, Option.bind_some, t3, Option.bind_some]; rw [show (stackUs c.W c.H us3).length = N by have := G7.len; have := HNN.out; omega] at hcr; exact carried_false hcr, rfl⟩⟩
    · have hlg := G3.ltg
      have hlu := G3.ltu
      have h34 := f4.size
      have own8 := owns_go (owns_fr (owns_fr own5 f6 (by omega) (by omega)) f7 (by omega) (by omega)) b8
      refine bodyPost_ret (v := .tuple #[.pointer (some ⟨g, 0, none⟩), .int .i64 0]) (by simp [results, Tryz.results14, go_sem]) rfl ⟨bcat B7 b8 (by have := B7.size; omega), Or.inl ⟨⟨c.W, c.H, stackUs c.W c.H us3, c.ports⟩, g, u, v5, ?_, rfl, G7.go b8, by omega, by omega, owns_base B4.size own8⟩⟩
      rw [HNW.out, t1, Option.bind_some, t2, Option.bind_some, t3, Option.bind_some]
      rw [show (stackUs c.W c.H us3).length = N by have := G7.len; have := HNN.out; omega] at hcr
      obtain ⟨bins, q1, q2⟩ := carried_true hcr
      rw [q1, Option.bind_some, if_pos q2]
    · exact bodyPost_ret (v := .tuple #[.pointer none, .int .i64 5]) (by simp [results, Tryz.results14, go_sem]) rfl ⟨below_fr B5 (Fr.of (g := g) g6) (by omega) (by omega) (by have := B5.size; omega), Or.inr ⟨by rw [HNW.out, t1, Option.bind_some, t2, Option.bind_some, t3, Option.bind_none], rfl⟩⟩
    · exact bodyPost_ret (v := .tuple #[.pointer none, .int .i64 5]) (by simp [results, Tryz.results14, go_sem]) rfl ⟨below_fr B4 f5 (by omega) (by omega) (by have := B4.size; omega), Or.inr ⟨by rw [HNW.out, t1, Option.bind_some, t2, Option.bind_none], rfl⟩⟩
    · exact bodyPost_ret (v := .tuple #[.pointer none, .int .i64 5]) (by simp [results, Tryz.results14, go_sem]) rfl ⟨below_fr B3 (Fr.of (g := g) g4) (by omega) (by omega) (by have := B3.size; omega), Or.inr ⟨by rw [HNW.out, t1, Option.bind_none], rfl⟩⟩
end Go.Proofs.YtedhoghleelhfaaGreat.Grid
namespace Go.Proofs.YtedhoghleelhfaaGreat.Grid
set_option linter.unusedVariables false
set_option linter.unusedSimpArgs false
open Go Go.RowKit

def fitsU (W H : Int) (us : List Int) (p : Pose) : Bool := openU W H us p.1 && openU W H us (second p)
def shiftP (p : Pose) (d n : Int) : Pose :=
  if d = 0 then ((p.1.1, w64 (p.1.2 - n)), p.2) else if d = 1 then ((w64 (p.1.1 + n), p.1.2), p.2) else if d = 2 then ((p.1.1, w64 (p.1.2 + n)), p.2) else if d = 3 then ((w64 (p.1.1 - n), p.1.2), p.2) else p
def mayShift (d n : Int) : Bool := decide (0 ≤ n) && decide (n ≤ 16) && decide (0 ≤ d) && decide (d ≤ 3)
def zeroP : Pose := ((0, 0), false)
def shiftR (p : Pose) (d n : Int) : Pose := if mayShift d n then shiftP p d n else zeroP
def turnP (p : Pose) : Pose := (p.1, !p.2)
def poseCs (p : Pose) : Array Value := #[.int .i64 p.1.1, .int .i64 p.1.2, .bool p.2]
abbrev Move := Int × Int × Int × Pose × Pose × Int × Int
def moveCs (m : Move) : Array Value := #[.int .i64 m.1, .int .i64 m.2.1, .int .i64 m.2.2.1, .int .i64 m.2.2.2.1.1.1, .int .i64 m.2.2.2.1.1.2, .bool m.2.2.2.1.2, .int .i64 m.2.2.2.2.1.1.1, .int .i64 m.2.2.2.2.1.1.2, .bool m.2.2.2.2.1.2, .int .i64 m.2.2.2.2.2.1, .int .i64 m.2.2.2.2.2.2]

set_option maxHeartbeats 2000000 in
theorem fits_any (g u : Nat) (W H : Int) (us : List Int) (vp : Value) (x y : Int) (d : Bool) (w : World) (hG : GridAt w g u W H us vp) :
    Calls Tryz.prog 89 #[.pointer (some ⟨g, 0, none⟩), .agg #[.int .i64 x, .int .i64 y, .bool d]] w fun e w' => e = .returned (.bool (fitsU W H us ((x, y), d))) ∧ Below w.heap.size w w' := by
  have e : Hid (fitsU W H us ((x, y), d) = (openU W H us (x, y) && openU W H us ((second ((x, y), d)).1, (second ((x, y), d)).2))) := rfl
  have oA := fun (w1 : World) (b : Below w.heap.size w w1) => open_any g u W H us vp x y w1 (hG.go b)
  have oB := fun (w1 : World) (b : Below w.heap.size w w1) => open_any g u W H us vp (second ((x, y), d)).1 (second ((x, y), d)).2 w1 (hG.go b)
  have cS := fun u => second_any x y d u
  generalize (second ((x, y), d)).1 = x2 at *
  generalize (second ((x, y), d)).2 = y2 at *
  generalize openU W H us (x, y) = p at *
  generalize openU W H us (x2, y2) = r at *
  generalize fitsU W H us ((x, y), d) = s at *
  clear hG
  cases p
  all_goals
    go_enter Tryz.func89, Tryz.ntmps89
    go_wp2_with (first
      | (go_at_call 70; refine (cS _).mono ?_; rintro e' w3 ⟨rfl, b3⟩; have B3 := bcat B2 b3 (Nat.le_refl _))
      | (have X' := B3; go_at_call 84; refine (oB _ B3).mono ?_; rintro e' w4 ⟨rfl, b4⟩; have B4 := bcat B3 b4 (Nat.le_refl _))
      | (go_at_call 84; refine (oA _ (below_new (Below.refl _ _) _)).mono ?_; rintro e' w2 ⟨rfl, b2⟩; have B2 := bcat (below_new (Below.refl w.heap.size w) _) b2 (Nat.le_refl _); have k0 : w2.cell? ⟨w.heap.size, 0, none⟩ = some (.int .i64 x) := (b2.cell (p := ⟨w.heap.size, 0, none⟩) (by simp)).trans (new_cell w _ _ 0); have k1 : w2.cell? ⟨w.heap.size, 1, none⟩ = some (.int .i64 y) := (b2.cell (p := ⟨w.heap.size, 1, none⟩) (by simp)).trans (new_cell w _ _ 1); have k2 : w2.cell? ⟨w.heap.size, 2, none⟩ = some (.bool d) := (b2.cell (p := ⟨w.heap.size, 2, none⟩) (by simp)).trans (new_cell w _ _ 2)))
    go_ret
    first
      | exact ⟨ret_bool (by rw [e.out]; simp), B4⟩
      | exact ⟨ret_bool (by rw [e.out]; simp), B2⟩
theorem turned_any (x y : Int) (d : Bool) (w : World) : Calls Tryz.prog 103 #[.agg #[.int .i64 x, .int .i64 y, .bool d]] w fun e w' => e = .returned (.agg #[.int .i64 x, .int .i64 y, .bool (!d)]) ∧ Below w.heap.size w w' := by
  go_enter Tryz.func103, Tryz.ntmps103
  go_wp2
  exact bodyPost_ret (results_cell_row rfl _ _ (w.heap.size + 1) 42 _ (0, 0) _ rfl (heap_new2 _ _ _) Tryz.underlying42 rfl info_pose) rfl ⟨rfl, below_two _ _ _⟩
/- Two results: a struct, and one in a slot. -/
theorem results_cell_tmp {fn : Func} {p q : Tmp} {ty : TypeId} (h : fn.results = #[.cell p ty, .tmp q]) (tmps : Array Value) (w : World) (N : Nat) (cs : Array Value)
    (hp : tmps.getD p undef = .pointer (some ⟨N, 0, none⟩)) (hg : (loadVar ty ⟨N, 0, none⟩).run Tryz.prog w = .ok (.agg cs) w) :
    (results fn tmps).run Tryz.prog w = .ok (.tuple #[.agg cs, tmps.getD q undef]) w := by
  have hp' : tmps[p]?.getD undef = .pointer (some ⟨N, 0, none⟩) := by simpa using hp
  simp [results, h, hp', asAddr, hg]
theorem load_pose (w : World) (g : Nat) (cs : Array Value) (hs : cs.size = 3) (h : w.heap[g]? = some (.cells cs 42 (0, 0))) : (loadVar 42 ⟨g, 0, none⟩).run Tryz.prog w = .ok (.agg cs) w :=
  run_loadVar_row w g 42 42 cs (0, 0) _ h Tryz.underlying42 rfl (by rw [hs]; exact info_pose)
set_option maxRecDepth 100000 in
set_option maxHeartbeats 4000000 in
theorem shift_any (v : Value) (x y : Int) (d : Bool) (dir n : Int) (w : World) :
    Calls Tryz.prog 94 #[v, .agg #[.int .i64 x, .int .i64 y, .bool d], .int .i64 dir, .int .i64 n] w fun e w' => e = .returned (.tuple #[.agg (poseCs (shiftR ((x, y), d) dir n)), .bool (mayShift dir n)]) ∧ Below w.heap.size w w' := by
  by_cases h1 : n < 0
  · have e : mayShift dir n = false := by unfold mayShift; simp; omega
    unfold shiftR
    rw [e]
    go_enter Tryz.func94, Tryz.ntmps94
    go_wp2
    exact bodyPost_ret (results_cell_tmp Tryz.results94 _ _ (w.heap.size + 1) _ rfl (load_pose _ _ _ rfl (heap_new2 _ _ _))) rfl ⟨rfl, below_two _ _ _⟩
  · by_cases h2 : 16 < n
    · have e : mayShift dir n = false := by unfold mayShift; simp; omega
      unfold shiftR
      rw [e]
      go_enter Tryz.func94, Tryz.ntmps94
      go_wp2
      exact bodyPost_ret (results_cell_tmp Tryz.results94 _ _ (w.heap.size + 1) _ rfl (load_pose _ _ _ rfl (heap_new2 _ _ _))) rfl ⟨by rfl, below_two _ _ _⟩
    · by_cases hd : 0 ≤ dir ∧ dir ≤ 3
      · have e : mayShift dir n = true := by unfold mayShift; simp; omega
        unfold shiftR
        rw [e, if_pos rfl]
        obtain rfl | rfl | rfl | rfl : dir = 0 ∨ dir = 1 ∨ dir = 2 ∨ dir = 3 := by omega
        all_goals
          go_enter Tryz.func94, Tryz.ntmps94
          go_wp2
          exact bodyPost_ret (results_cell_tmp Tryz.results94 _ _ (w.heap.size + 1) _ rfl (load_pose _ _ _ rfl (heap_new2 _ _ _))) rfl ⟨by simp only [shiftP, poseCs, w64_wrap]; rfl, below_two _ _ _⟩
      · have e : mayShift dir n = false := by unfold mayShift; simp; omega
        unfold shiftR
        rw [e]
        have d0 : (dir == 0) = false := by rw [beq_eq_false_iff_ne]; omega
        have d1 : (dir == 1) = false := by rw [beq_eq_false_iff_ne]; omega
        have d2 : (dir == 2) = false := by rw [beq_eq_false_iff_ne]; omega
        have d3 : (dir == 3) = false := by rw [beq_eq_false_iff_ne]; omega
        go_enter Tryz.func94, Tryz.ntmps94
        go_wp2
        exact bodyPost_ret (results_cell_tmp Tryz.results94 _ _ (w.heap.size + 1) _ rfl (load_pose _ _ _ rfl (heap_new2 _ _ _))) rfl ⟨by rfl, below_two _ _ _⟩
end Go.Proofs.YtedhoghleelhfaaGreat.Grid
namespace Go.Proofs.YtedhoghleelhfaaGreat.Grid
set_option linter.unusedVariables false
set_option linter.unusedSimpArgs false
open Go Go.RowKit

def still (dir n : Int) : Bool := decide (dir = 0) && decide (n = 0)
def leadsP (kd dir n : Int) (f : Pose) : Pose × Bool :=
  if kd = 1 then (shiftR f dir n, mayShift dir n && decide (0 < n)) else if kd = 2 then (turnP f, still dir n) else if kd = 3 ∨ kd = 4 then (f, still dir n) else (zeroP, false)
theorem two_frame (w : World) (c1 : Array Value) (t1 : TypeId) (c2 : Array Value) (t2 : TypeId) (w1 : World) (b1 : Below ((w.alloc (.cells c1 t1)).alloc (.cells c2 t2)).heap.size ((w.alloc (.cells c1 t1)).alloc (.cells c2 t2)) w1) :
    Below w.heap.size w w1 ∧ w1.heap[w.heap.size]? = some (.cells c1 t1 (0, 0)) ∧ w1.heap[w.heap.size + 1]? = some (.cells c2 t2 (0, 0)) ∧ w.heap.size + 2 ≤ w1.heap.size := by
  have hs : ((w.alloc (.cells c1 t1)).alloc (.cells c2 t2)).heap.size = w.heap.size + 2 := by simp
  refine ⟨(below_two _ _ _).trans (b1.mono (by rw [hs]; omega)), (b1.block _ (by rw [hs]; omega)).trans ((alloc_old _ _ _ (by simp)).trans (heap_alloc_new w _)), (b1.block _ (by rw [hs]; omega)).trans (heap_new2 _ _ _), ?_⟩
  have := b1.size
  omega
set_option maxRecDepth 100000 in
set_option maxHeartbeats 2000000 in
theorem leads_run (v : Value) (dir n fx fy : Int) (fd : Bool) (tx ty : Int) (td : Bool) (ma me : Int) (w : World) :
    Calls Tryz.prog 88 #[v, .agg #[.int .i64 1, .int .i64 dir, .int .i64 n, .int .i64 fx, .int .i64 fy, .bool fd, .int .i64 tx, .int .i64 ty, .bool td, .int .i64 ma, .int .i64 me]] w fun e w' => e = .returned (.tuple #[.agg (poseCs (leadsP 1 dir n ((fx, fy), fd)).1), .bool (leadsP 1 dir n ((fx, fy), fd)).2]) ∧ Below w.heap.size w w' := by
  have eL : leadsP 1 dir n ((fx, fy), fd) = (shiftR ((fx, fy), fd) dir n, mayShift dir n && decide (0 < n)) := rfl
  rw [eL]
  have cS := fun u => shift_any v fx fy fd dir n u
  unfold poseCs at cS ⊢
  generalize (shiftR ((fx, fy), fd) dir n).1.1 = px at *
  generalize (shiftR ((fx, fy), fd) dir n).1.2 = py at *
  generalize (shiftR ((fx, fy), fd) dir n).2 = pd at *
  clear eL
  by_cases hdz : dir = 0
  · subst hdz
    cases hms : mayShift 0 n
    · rw [hms] at cS
      clear hms
      go_enter Tryz.func88, Tryz.ntmps88
      go_wp2_with (first | (go_at_call 94; refine (cS _).mono ?_; rintro e w1 ⟨rfl, b1⟩))
      obtain ⟨B1, mM, mR, s1⟩ := two_frame w _ _ _ _ w1 b1
      obtain ⟨IH, hIH⟩ : ∃ I : World → Prop, I = fun u => u.heap[w.heap.size]? = some (.cells #[.int .i64 1, .int .i64 0, .int .i64 n, .int .i64 fx, .int .i64 fy, .bool fd, .int .i64 tx, .int .i64 ty, .bool td, .int .i64 ma, .int .i64 me] 44 (0, 0)) ∧ u.heap[w1.heap.size]? = some (.cells #[.int .i64 px, .int .i64 py, .bool pd] 42 (0, 0)) := ⟨_, rfl⟩
      have kN : ∀ u, IH u → u.cell? ⟨w.heap.size, 2, none⟩ = some (.int .i64 n) := fun u hu => by rw [hIH] at hu; exact cell_of hu.1 2
      have t0 : ∀ u, IH u → u.cell? ⟨w1.heap.size, 0, none⟩ = some (.int .i64 px) := fun u hu => by rw [hIH] at hu; exact cell_of hu.2 0
      have t1 : ∀ u, IH u → u.cell? ⟨w1.heap.size, 1, none⟩ = some (.int .i64 py) := fun u hu => by rw [hIH] at hu; exact cell_of hu.2 1
      have t2 : ∀ u, IH u → u.cell? ⟨w1.heap.size, 2, none⟩ = some (.bool pd) := fun u hu => by rw [hIH] at hu; exact cell_of hu.2 2
      have hS : IH (w1.alloc (.cells #[.int .i64 px, .int .i64 py, .bool pd] 42)).drew := by rw [hIH]; exact ⟨(alloc_old _ _ _ (by omega)).trans mM, heap_alloc_new _ _⟩
      have mR2 : (w1.alloc (.cells #[.int .i64 px, .int .i64 py, .bool pd] 42)).drew.heap[w.heap.size + 1]? = some (.cells #[.int .i64 0, .int .i64 0, .bool false] 42 (0, 0)) := (alloc_old _ _ _ (by omega)).trans mR
      have hst : (storeVar 42 ⟨w.heap.size + 1, 0, none⟩ (.agg #[.int .i64 px, .int .i64 py, .bool pd])).run Tryz.prog (w1.alloc (.cells #[.int .i64 px, .int .i64 py, .bool pd] 42)).drew = .ok () ((w1.alloc (.cells #[.int .i64 px, .int .i64 py, .bool pd] 42)).drew.setRow (w.heap.size + 1) #[.int .i64 px, .int .i64 py, .bool pd]) :=
        run_storeVar_row _ _ 42 _ #[.int .i64 0, .int .i64 0, .bool false] _ mR2 info_pose rfl (by simp [Value.oneCell'])
      have hS2 : IH ((w1.alloc (.cells #[.int .i64 px, .int .i64 py, .bool pd] 42)).drew.setRow (w.heap.size + 1) #[.int .i64 px, .int .i64 py, .bool pd]) := by rw [hIH] at hS ⊢; exact ⟨(setRow_other _ _ _ _ (by omega)).trans hS.1, (setRow_other _ _ _ _ (by omega)).trans hS.2⟩
      clear b1
      refine start_held (S := IH) 9 rfl (by kernel_rfl) (hS) ?_
      simp only [Array.replicate_succ, Array.replicate_zero, List.push_toArray, List.nil_append, List.cons_append]
      refine tkf 0 (by assumption) rfl (fun u hu => by have z0 := t0 u hu; have z1 := t1 u hu; have z2 := t2 u hu; go_simp; try rfl) ?_
      refine tkq 1 (by assumption) ?_
      refine tkq 2 (by assumption) ?_
      refine skq 3 (by assumption) ?_
      refine skq 4 (by assumption) ?_
      refine skq 5 (by assumption) ?_
      refine tkq 6 (by assumption) ?_
      refine store_held 7 rfl (by kernel_rfl) (by kernel_rfl) _ (run_store_op 42 (.tmp 4) (.tmp 32) rfl (w.heap.size + 1) _ rfl rfl hst) hS2 ?_
      simp only [Act.put, List.setIfInBounds_toArray, List.set_cons_zero, List.set_cons_succ]
      refine tkq 8 (by assumption) ?_
      refine done_held (by kernel_rfl) ?_ _
      go_wp2
      exact bodyPost_ret (results_cell_tmp Tryz.results88 _ _ (w.heap.size + 1) _ rfl (load_pose _ _ _ rfl (setRow_heap _ _ _ _ _ _ mR2))) rfl ⟨rfl, below_row (below_new B1 _).drew (by omega) _⟩
    · rw [hms] at cS
      clear hms
      go_enter Tryz.func88, Tryz.ntmps88
      go_wp2_with (first | (go_at_call 94; refine (cS _).mono ?_; rintro e w1 ⟨rfl, b1⟩))
      obtain ⟨B1, mM, mR, s1⟩ := two_frame w _ _ _ _ w1 b1
      obtain ⟨IH, hIH⟩ : ∃ I : World → Prop, I = fun u => u.heap[w.heap.size]? = some (.cells #[.int .i64 1, .int .i64 0, .int .i64 n, .int .i64 fx, .int .i64 fy, .bool fd, .int .i64 tx, .int .i64 ty, .bool td, .int .i64 ma, .int .i64 me] 44 (0, 0)) ∧ u.heap[w1.heap.size]? = some (.cells #[.int .i64 px, .int .i64 py, .bool pd] 42 (0, 0)) := ⟨_, rfl⟩
      have kN : ∀ u, IH u → u.cell? ⟨w.heap.size, 2, none⟩ = some (.int .i64 n) := fun u hu => by rw [hIH] at hu; exact cell_of hu.1 2
      have t0 : ∀ u, IH u → u.cell? ⟨w1.heap.size, 0, none⟩ = some (.int .i64 px) := fun u hu => by rw [hIH] at hu; exact cell_of hu.2 0
      have t1 : ∀ u, IH u → u.cell? ⟨w1.heap.size, 1, none⟩ = some (.int .i64 py) := fun u hu => by rw [hIH] at hu; exact cell_of hu.2 1
      have t2 : ∀ u, IH u → u.cell? ⟨w1.heap.size, 2, none⟩ = some (.bool pd) := fun u hu => by rw [hIH] at hu; exact cell_of hu.2 2
      have hS : IH (w1.alloc (.cells #[.int .i64 px, .int .i64 py, .bool pd] 42)).drew := by rw [hIH]; exact ⟨(alloc_old _ _ _ (by omega)).trans mM, heap_alloc_new _ _⟩
      have mR2 : (w1.alloc (.cells #[.int .i64 px, .int .i64 py, .bool pd] 42)).drew.heap[w.heap.size + 1]? = some (.cells #[.int .i64 0, .int .i64 0, .bool false] 42 (0, 0)) := (alloc_old _ _ _ (by omega)).trans mR
      have hst : (storeVar 42 ⟨w.heap.size + 1, 0, none⟩ (.agg #[.int .i64 px, .int .i64 py, .bool pd])).run Tryz.prog (w1.alloc (.cells #[.int .i64 px, .int .i64 py, .bool pd] 42)).drew = .ok () ((w1.alloc (.cells #[.int .i64 px, .int .i64 py, .bool pd] 42)).drew.setRow (w.heap.size + 1) #[.int .i64 px, .int .i64 py, .bool pd]) :=
        run_storeVar_row _ _ 42 _ #[.int .i64 0, .int .i64 0, .bool false] _ mR2 info_pose rfl (by simp [Value.oneCell'])
      have hS2 : IH ((w1.alloc (.cells #[.int .i64 px, .int .i64 py, .bool pd] 42)).drew.setRow (w.heap.size + 1) #[.int .i64 px, .int .i64 py, .bool pd]) := by rw [hIH] at hS ⊢; exact ⟨(setRow_other _ _ _ _ (by omega)).trans hS.1, (setRow_other _ _ _ _ (by omega)).trans hS.2⟩
      clear b1
      refine start_held (S := IH) 9 rfl (by kernel_rfl) (hS) ?_
      simp only [Array.replicate_succ, Array.replicate_zero, List.push_toArray, List.nil_append, List.cons_append]
      refine tkf 0 (by assumption) rfl (fun u hu => by have z0 := t0 u hu; have z1 := t1 u hu; have z2 := t2 u hu; go_simp; try rfl) ?_
      refine tkq 1 (by assumption) ?_
      refine tkq 2 (by assumption) ?_
      refine tkq 3 (by assumption) ?_
      refine tkf 4 (by assumption) rfl (fun u hu => by have z0 := kN u hu; go_simp; try rfl) ?_
      refine tkq 5 (by assumption) ?_
      refine tkq 6 (by assumption) ?_
      refine store_held 7 rfl (by kernel_rfl) (by kernel_rfl) _ (run_store_op 42 (.tmp 4) (.tmp 32) rfl (w.heap.size + 1) _ rfl rfl hst) hS2 ?_
      simp only [Act.put, List.setIfInBounds_toArray, List.set_cons_zero, List.set_cons_succ]
      refine tkq 8 (by assumption) ?_
      refine done_held (by kernel_rfl) ?_ _
      go_wp2
      exact bodyPost_ret (results_cell_tmp Tryz.results88 _ _ (w.heap.size + 1) _ rfl (load_pose _ _ _ rfl (setRow_heap _ _ _ _ _ _ mR2))) rfl ⟨rfl, below_row (below_new B1 _).drew (by omega) _⟩
  · have hd0 : (dir == 0) = false := by rw [beq_eq_false_iff_ne]; exact hdz
    clear hdz
    cases hms : mayShift dir n
    · rw [hms] at cS
      clear hms
      go_enter Tryz.func88, Tryz.ntmps88
      go_wp2_with (first | (go_at_call 94; refine (cS _).mono ?_; rintro e w1 ⟨rfl, b1⟩))
      obtain ⟨B1, mM, mR, s1⟩ := two_frame w _ _ _ _ w1 b1
      obtain ⟨IH, hIH⟩ : ∃ I : World → Prop, I = fun u => u.heap[w.heap.size]? = some (.cells #[.int .i64 1, .int .i64 dir, .int .i64 n, .int .i64 fx, .int .i64 fy, .bool fd, .int .i64 tx, .int .i64 ty, .bool td, .int .i64 ma, .int .i64 me] 44 (0, 0)) ∧ u.heap[w1.heap.size]? = some (.cells #[.int .i64 px, .int .i64 py, .bool pd] 42 (0, 0)) := ⟨_, rfl⟩
      have kN : ∀ u, IH u → u.cell? ⟨w.heap.size, 2, none⟩ = some (.int .i64 n) := fun u hu => by rw [hIH] at hu; exact cell_of hu.1 2
      have t0 : ∀ u, IH u → u.cell? ⟨w1.heap.size, 0, none⟩ = some (.int .i64 px) := fun u hu => by rw [hIH] at hu; exact cell_of hu.2 0
      have t1 : ∀ u, IH u → u.cell? ⟨w1.heap.size, 1, none⟩ = some (.int .i64 py) := fun u hu => by rw [hIH] at hu; exact cell_of hu.2 1
      have t2 : ∀ u, IH u → u.cell? ⟨w1.heap.size, 2, none⟩ = some (.bool pd) := fun u hu => by rw [hIH] at hu; exact cell_of hu.2 2
      have hS : IH (w1.alloc (.cells #[.int .i64 px, .int .i64 py, .bool pd] 42)).drew := by rw [hIH]; exact ⟨(alloc_old _ _ _ (by omega)).trans mM, heap_alloc_new _ _⟩
      have mR2 : (w1.alloc (.cells #[.int .i64 px, .int .i64 py, .bool pd] 42)).drew.heap[w.heap.size + 1]? = some (.cells #[.int .i64 0, .int .i64 0, .bool false] 42 (0, 0)) := (alloc_old _ _ _ (by omega)).trans mR
      have hst : (storeVar 42 ⟨w.heap.size + 1, 0, none⟩ (.agg #[.int .i64 px, .int .i64 py, .bool pd])).run Tryz.prog (w1.alloc (.cells #[.int .i64 px, .int .i64 py, .bool pd] 42)).drew = .ok () ((w1.alloc (.cells #[.int .i64 px, .int .i64 py, .bool pd] 42)).drew.setRow (w.heap.size + 1) #[.int .i64 px, .int .i64 py, .bool pd]) :=
        run_storeVar_row _ _ 42 _ #[.int .i64 0, .int .i64 0, .bool false] _ mR2 info_pose rfl (by simp [Value.oneCell'])
      have hS2 : IH ((w1.alloc (.cells #[.int .i64 px, .int .i64 py, .bool pd] 42)).drew.setRow (w.heap.size + 1) #[.int .i64 px, .int .i64 py, .bool pd]) := by rw [hIH] at hS ⊢; exact ⟨(setRow_other _ _ _ _ (by omega)).trans hS.1, (setRow_other _ _ _ _ (by omega)).trans hS.2⟩
      clear b1
      refine start_held (S := IH) 9 rfl (by kernel_rfl) (hS) ?_
      simp only [Array.replicate_succ, Array.replicate_zero, List.push_toArray, List.nil_append, List.cons_append]
      refine tkf 0 (by assumption) rfl (fun u hu => by have z0 := t0 u hu; have z1 := t1 u hu; have z2 := t2 u hu; go_simp; try rfl) ?_
      refine tkq 1 (by assumption) ?_
      refine tkq 2 (by assumption) ?_
      refine skq 3 (by assumption) ?_
      refine skq 4 (by assumption) ?_
      refine skq 5 (by assumption) ?_
      refine tkq 6 (by assumption) ?_
      refine store_held 7 rfl (by kernel_rfl) (by kernel_rfl) _ (run_store_op 42 (.tmp 4) (.tmp 32) rfl (w.heap.size + 1) _ rfl rfl hst) hS2 ?_
      simp only [Act.put, List.setIfInBounds_toArray, List.set_cons_zero, List.set_cons_succ]
      refine tkq 8 (by assumption) ?_
      refine done_held (by kernel_rfl) ?_ _
      go_wp2
      exact bodyPost_ret (results_cell_tmp Tryz.results88 _ _ (w.heap.size + 1) _ rfl (load_pose _ _ _ rfl (setRow_heap _ _ _ _ _ _ mR2))) rfl ⟨rfl, below_row (below_new B1 _).drew (by omega) _⟩
    · rw [hms] at cS
      clear hms
      go_enter Tryz.func88, Tryz.ntmps88
      go_wp2_with (first | (go_at_call 94; refine (cS _).mono ?_; rintro e w1 ⟨rfl, b1⟩))
      obtain ⟨B1, mM, mR, s1⟩ := two_frame w _ _ _ _ w1 b1
      obtain ⟨IH, hIH⟩ : ∃ I : World → Prop, I = fun u => u.heap[w.heap.size]? = some (.cells #[.int .i64 1, .int .i64 dir, .int .i64 n, .int .i64 fx, .int .i64 fy, .bool fd, .int .i64 tx, .int .i64 ty, .bool td, .int .i64 ma, .int .i64 me] 44 (0, 0)) ∧ u.heap[w1.heap.size]? = some (.cells #[.int .i64 px, .int .i64 py, .bool pd] 42 (0, 0)) := ⟨_, rfl⟩
      have kN : ∀ u, IH u → u.cell? ⟨w.heap.size, 2, none⟩ = some (.int .i64 n) := fun u hu => by rw [hIH] at hu; exact cell_of hu.1 2
      have t0 : ∀ u, IH u → u.cell? ⟨w1.heap.size, 0, none⟩ = some (.int .i64 px) := fun u hu => by rw [hIH] at hu; exact cell_of hu.2 0
      have t1 : ∀ u, IH u → u.cell? ⟨w1.heap.size, 1, none⟩ = some (.int .i64 py) := fun u hu => by rw [hIH] at hu; exact cell_of hu.2 1
      have t2 : ∀ u, IH u → u.cell? ⟨w1.heap.size, 2, none⟩ = some (.bool pd) := fun u hu => by rw [hIH] at hu; exact cell_of hu.2 2
      have hS : IH (w1.alloc (.cells #[.int .i64 px, .int .i64 py, .bool pd] 42)).drew := by rw [hIH]; exact ⟨(alloc_old _ _ _ (by omega)).trans mM, heap_alloc_new _ _⟩
      have mR2 : (w1.alloc (.cells #[.int .i64 px, .int .i64 py, .bool pd] 42)).drew.heap[w.heap.size + 1]? = some (.cells #[.int .i64 0, .int .i64 0, .bool false] 42 (0, 0)) := (alloc_old _ _ _ (by omega)).trans mR
      have hst : (storeVar 42 ⟨w.heap.size + 1, 0, none⟩ (.agg #[.int .i64 px, .int .i64 py, .bool pd])).run Tryz.prog (w1.alloc (.cells #[.int .i64 px, .int .i64 py, .bool pd] 42)).drew = .ok () ((w1.alloc (.cells #[.int .i64 px, .int .i64 py, .bool pd] 42)).drew.setRow (w.heap.size + 1) #[.int .i64 px, .int .i64 py, .bool pd]) :=
        run_storeVar_row _ _ 42 _ #[.int .i64 0, .int .i64 0, .bool false] _ mR2 info_pose rfl (by simp [Value.oneCell'])
      have hS2 : IH ((w1.alloc (.cells #[.int .i64 px, .int .i64 py, .bool pd] 42)).drew.setRow (w.heap.size + 1) #[.int .i64 px, .int .i64 py, .bool pd]) := by rw [hIH] at hS ⊢; exact ⟨(setRow_other _ _ _ _ (by omega)).trans hS.1, (setRow_other _ _ _ _ (by omega)).trans hS.2⟩
      clear b1
      refine start_held (S := IH) 9 rfl (by kernel_rfl) (hS) ?_
      simp only [Array.replicate_succ, Array.replicate_zero, List.push_toArray, List.nil_append, List.cons_append]
      refine tkf 0 (by assumption) rfl (fun u hu => by have z0 := t0 u hu; have z1 := t1 u hu; have z2 := t2 u hu; go_simp; try rfl) ?_
      refine tkq 1 (by assumption) ?_
      refine tkq 2 (by assumption) ?_
      refine tkq 3 (by assumption) ?_
      refine tkf 4 (by assumption) rfl (fun u hu => by have z0 := kN u hu; go_simp; try rfl) ?_
      refine tkq 5 (by assumption) ?_
      refine tkq 6 (by assumption) ?_
      refine store_held 7 rfl (by kernel_rfl) (by kernel_rfl) _ (run_store_op 42 (.tmp 4) (.tmp 32) rfl (w.heap.size + 1) _ rfl rfl hst) hS2 ?_
      simp only [Act.put, List.setIfInBounds_toArray, List.set_cons_zero, List.set_cons_succ]
      refine tkq 8 (by assumption) ?_
      refine done_held (by kernel_rfl) ?_ _
      go_wp2
      exact bodyPost_ret (results_cell_tmp Tryz.results88 _ _ (w.heap.size + 1) _ rfl (load_pose _ _ _ rfl (setRow_heap _ _ _ _ _ _ mR2))) rfl ⟨rfl, below_row (below_new B1 _).drew (by omega) _⟩
set_option maxRecDepth 100000 in
set_option maxHeartbeats 2000000 in
theorem leads_any (v : Value) (kd dir n fx fy : Int) (fd : Bool) (tx ty : Int) (td : Bool) (ma me : Int) (w : World) :
    Calls Tryz.prog 88 #[v, .agg #[.int .i64 kd, .int .i64 dir, .int .i64 n, .int .i64 fx, .int .i64 fy, .bool fd, .int .i64 tx, .int .i64 ty, .bool td, .int .i64 ma, .int .i64 me]] w fun e w' => e = .returned (.tuple #[.agg (poseCs (leadsP kd dir n ((fx, fy), fd)).1), .bool (leadsP kd dir n ((fx, fy), fd)).2]) ∧ Below w.heap.size w w' := by
  by_cases h1 : kd = 1
  · subst h1
    exact leads_run v dir n fx fy fd tx ty td ma me w
  · have k1 : (kd == 1) = false := by rw [beq_eq_false_iff_ne]; exact h1
    by_cases h2 : kd = 2
    · subst h2
      have cT := fun u => turned_any fx fy fd u
      by_cases hdz : dir = 0
      · subst hdz
        go_enter Tryz.func88, Tryz.ntmps88
        go_wp2_with (first | (go_at_call 103; refine (cT _).mono ?_; rintro e w1 ⟨rfl, b1⟩) | (refine wpList_store_row rfl 42 (.tmp 4) (.tmp 43) rfl (w.heap.size + 1) #[.int .i64 fx, .int .i64 fy, .bool (!fd)] rfl rfl 42 #[.int .i64 0, .int .i64 0, .bool false] (two_frame w _ _ _ _ w1 b1).2.2.1 info_pose rfl (by simp [Value.oneCell']) ?_))
        exact bodyPost_ret (results_cell_tmp Tryz.results88 _ _ (w.heap.size + 1) _ rfl (load_pose _ _ _ rfl (setRow_heap _ _ _ _ _ _ (two_frame w _ _ _ _ w1 b1).2.2.1))) rfl ⟨by simp [leadsP, still, turnP, poseCs, eq_dec, *], below_row (two_frame w _ _ _ _ w1 b1).1 (by omega) _⟩
      · have hd0 : (dir == 0) = false := by rw [beq_eq_false_iff_ne]; exact hdz
        go_enter Tryz.func88, Tryz.ntmps88
        go_wp2_with (first | (go_at_call 103; refine (cT _).mono ?_; rintro e w1 ⟨rfl, b1⟩) | (refine wpList_store_row rfl 42 (.tmp 4) (.tmp 43) rfl (w.heap.size + 1) #[.int .i64 fx, .int .i64 fy, .bool (!fd)] rfl rfl 42 #[.int .i64 0, .int .i64 0, .bool false] (two_frame w _ _ _ _ w1 b1).2.2.1 info_pose rfl (by simp [Value.oneCell']) ?_))
        exact bodyPost_ret (results_cell_tmp Tryz.results88 _ _ (w.heap.size + 1) _ rfl (load_pose _ _ _ rfl (setRow_heap _ _ _ _ _ _ (two_frame w _ _ _ _ w1 b1).2.2.1))) rfl ⟨by simp [leadsP, still, turnP, poseCs, eq_dec, *], below_row (two_frame w _ _ _ _ w1 b1).1 (by omega) _⟩
    · have k2 : (kd == 2) = false := by rw [beq_eq_false_iff_ne]; exact h2
      by_cases h3 : kd = 3
      · subst h3
        by_cases hdz : dir = 0
        · subst hdz
          go_enter Tryz.func88, Tryz.ntmps88
          go_wp2
          exact bodyPost_ret (results_cell_tmp Tryz.results88 _ _ (w.heap.size + 1) _ rfl (load_pose _ _ _ rfl (heap_new2 _ _ _))) rfl ⟨by simp [leadsP, still, poseCs, zeroP, eq_dec, *], below_two _ _ _⟩
        · have hd0 : (dir == 0) = false := by rw [beq_eq_false_iff_ne]; exact hdz
          go_enter Tryz.func88, Tryz.ntmps88
          go_wp2
          exact bodyPost_ret (results_cell_tmp Tryz.results88 _ _ (w.heap.size + 1) _ rfl (load_pose _ _ _ rfl (heap_new2 _ _ _))) rfl ⟨by simp [leadsP, still, poseCs, zeroP, eq_dec, *], below_two _ _ _⟩
      · have k3 : (kd == 3) = false := by rw [beq_eq_false_iff_ne]; exact h3
        by_cases h4 : kd = 4
        · subst h4
          by_cases hdz : dir = 0
          · subst hdz
            go_enter Tryz.func88, Tryz.ntmps88
            go_wp2
            exact bodyPost_ret (results_cell_tmp Tryz.results88 _ _ (w.heap.size + 1) _ rfl (load_pose _ _ _ rfl (heap_new2 _ _ _))) rfl ⟨by simp [leadsP, still, poseCs, zeroP, eq_dec, *], below_two _ _ _⟩
          · have hd0 : (dir == 0) = false := by rw [beq_eq_false_iff_ne]; exact hdz
            go_enter Tryz.func88, Tryz.ntmps88
            go_wp2
            exact bodyPost_ret (results_cell_tmp Tryz.results88 _ _ (w.heap.size + 1) _ rfl (load_pose _ _ _ rfl (heap_new2 _ _ _))) rfl ⟨by simp [leadsP, still, poseCs, zeroP, eq_dec, *], below_two _ _ _⟩
        · have k4 : (kd == 4) = false := by rw [beq_eq_false_iff_ne]; exact h4
          by_cases hdz : dir = 0
          · subst hdz
            go_enter Tryz.func88, Tryz.ntmps88
            go_wp2
            exact bodyPost_ret (results_cell_tmp Tryz.results88 _ _ (w.heap.size + 1) _ rfl (load_pose _ _ _ rfl (heap_new2 _ _ _))) rfl ⟨by simp [leadsP, still, poseCs, zeroP, eq_dec, *], below_two _ _ _⟩
          · have hd0 : (dir == 0) = false := by rw [beq_eq_false_iff_ne]; exact hdz
            go_enter Tryz.func88, Tryz.ntmps88
            go_wp2
            exact bodyPost_ret (results_cell_tmp Tryz.results88 _ _ (w.heap.size + 1) _ rfl (load_pose _ _ _ rfl (heap_new2 _ _ _))) rfl ⟨by simp [leadsP, still, poseCs, zeroP, eq_dec, *], below_two _ _ _⟩
end Go.Proofs.YtedhoghleelhfaaGreat.Grid
namespace Go.Proofs.YtedhoghleelhfaaGreat.Grid
set_option linter.unusedVariables false
set_option linter.unusedSimpArgs false
open Go Go.RowKit

/- Both poses, and the box to be, in memory. -/
structure SpanIn (w : World) (ca cb : Array Value) (W : World) : Prop where
  below : Below w.heap.size w W
  a : W.heap[w.heap.size]? = some (.cells ca 42 (0, 0))
  b : W.heap[w.heap.size + 1]? = some (.cells cb 42 (0, 0))
  r : W.heap[w.heap.size + 2]? = some (.cells #[.int .i64 0, .int .i64 0, .int .i64 0, .int .i64 0] 147 (0, 0))
  sz : w.heap.size + 3 ≤ W.heap.size
theorem SpanIn.go {w : World} {ca cb : Array Value} {W W' : World} (h : SpanIn w ca cb W) (hb : Below W.heap.size W W') : SpanIn w ca cb W' :=
  ⟨bcat h.below hb (by have := h.sz; omega), (hb.block _ (lt_of_heap h.a)).trans h.a, (hb.block _ (lt_of_heap h.b)).trans h.b, (hb.block _ (lt_of_heap h.r)).trans h.r, Nat.le_trans h.sz hb.size⟩
theorem SpanIn.alloc {w : World} {ca cb : Array Value} {W : World} (h : SpanIn w ca cb W) (o : Obj) : SpanIn w ca cb (W.alloc o) := h.go (below_new (Below.refl _ _) _)
theorem SpanIn.setRow {w : World} {ca cb : Array Value} {W : World} (h : SpanIn w ca cb W) (cs : Array Value) {g : Nat} (hg : w.heap.size + 3 ≤ g) : SpanIn w ca cb (W.setRow g cs) :=
  ⟨below_row h.below (by omega) _, (setRow_other _ _ _ _ (by omega)).trans h.a, (setRow_other _ _ _ _ (by omega)).trans h.b, (setRow_other _ _ _ _ (by omega)).trans h.r, by rw [setRow_size]; exact h.sz⟩
theorem info_box : (Tryz.prog.info? 147).map (·.size) = some 4 := by kernel_rfl
theorem second_call (x y : Int) (d : Bool) (cx cy : Int) (e1 : (second ((x, y), d)).1 = cx) (e2 : (second ((x, y), d)).2 = cy) (w : World) : Calls Tryz.prog 70 #[.agg #[.int .i64 x, .int .i64 y, .bool d]] w fun e w' => ∃ v, e = .returned v ∧ v = .agg #[.int .i64 cx, .int .i64 cy] ∧ Below w.heap.size w w' := by
  subst e1 e2
  refine (second_any x y d w).mono ?_
  rintro e w' ⟨rfl, b⟩
  exact ⟨_, rfl, rfl, b⟩
def spanP (a b : Pose) : Cell × Cell := ((min a.1.1 b.1.1, min a.1.2 b.1.2), (max (second a).1 (second b).1, max (second a).2 (second b).2))
set_option maxRecDepth 100000 in
set_option maxHeartbeats 4000000 in
theorem span_any (ax ay : Int) (ad : Bool) (bx by_ : Int) (bd : Bool) (w : World) :
    Calls Tryz.prog 90 #[.agg #[.int .i64 ax, .int .i64 ay, .bool ad], .agg #[.int .i64 bx, .int .i64 by_, .bool bd]] w fun e w' => e = .returned (.agg #[.int .i64 (spanP ((ax, ay), ad) ((bx, by_), bd)).1.1, .int .i64 (spanP ((ax, ay), ad) ((bx, by_), bd)).1.2, .int .i64 (spanP ((ax, ay), ad) ((bx, by_), bd)).2.1, .int .i64 (spanP ((ax, ay), ad) ((bx, by_), bd)).2.2]) ∧ Below w.heap.size w w' := by
  unfold spanP
  simp only
  have cA := fun u => second_call ax ay ad _ _ rfl rfl u
  have cB := fun u => second_call bx by_ bd _ _ rfl rfl u
  generalize (second ((ax, ay), ad)).1 = cx at *
  generalize (second ((ax, ay), ad)).2 = cy at *
  generalize (second ((bx, by_), bd)).1 = dx at *
  generalize (second ((bx, by_), bd)).2 = dy at *
  have S0 : SpanIn w #[.int .i64 ax, .int .i64 ay, .bool ad] #[.int .i64 bx, .int .i64 by_, .bool bd] (((w.alloc (.cells #[.int .i64 ax, .int .i64 ay, .bool ad] 42)).alloc (.cells #[.int .i64 bx, .int .i64 by_, .bool bd] 42)).alloc (.cells #[.int .i64 0, .int .i64 0, .int .i64 0, .int .i64 0] 147)) := by
    refine ⟨below_new (below_two _ _ _) _, (alloc_old _ _ _ (by simp; omega)).trans ((alloc_old _ _ _ (by simp)).trans (heap_alloc_new w _)), (alloc_old _ _ _ (by simp)).trans (heap_new2 _ _ _), ?_, by simp⟩
    have := heap_alloc_new ((w.alloc (.cells #[.int .i64 ax, .int .i64 ay, .bool ad] 42)).alloc (.cells #[.int .i64 bx, .int .i64 by_, .bool bd] 42)) (.cells #[.int .i64 0, .int .i64 0, .int .i64 0, .int .i64 0] 147)
    rwa [show ((w.alloc (.cells #[.int .i64 ax, .int .i64 ay, .bool ad] 42)).alloc (.cells #[.int .i64 bx, .int .i64 by_, .bool bd] 42)).heap.size = w.heap.size + 2 by simp] at this
  have ka0 : ∀ u, SpanIn w #[.int .i64 ax, .int .i64 ay, .bool ad] #[.int .i64 bx, .int .i64 by_, .bool bd] u → u.cell? ⟨w.heap.size, 0, none⟩ = some (.int .i64 ax) := fun u h => cell_of h.a 0
  have ka1 : ∀ u, SpanIn w #[.int .i64 ax, .int .i64 ay, .bool ad] #[.int .i64 bx, .int .i64 by_, .bool bd] u → u.cell? ⟨w.heap.size, 1, none⟩ = some (.int .i64 ay) := fun u h => cell_of h.a 1
  have ka2 : ∀ u, SpanIn w #[.int .i64 ax, .int .i64 ay, .bool ad] #[.int .i64 bx, .int .i64 by_, .bool bd] u → u.cell? ⟨w.heap.size, 2, none⟩ = some (.bool ad) := fun u h => cell_of h.a 2
  have kb0 : ∀ u, SpanIn w #[.int .i64 ax, .int .i64 ay, .bool ad] #[.int .i64 bx, .int .i64 by_, .bool bd] u → u.cell? ⟨w.heap.size + 1, 0, none⟩ = some (.int .i64 bx) := fun u h => cell_of h.b 0
  have kb1 : ∀ u, SpanIn w #[.int .i64 ax, .int .i64 ay, .bool ad] #[.int .i64 bx, .int .i64 by_, .bool bd] u → u.cell? ⟨w.heap.size + 1, 1, none⟩ = some (.int .i64 by_) := fun u h => cell_of h.b 1
  have kb2 : ∀ u, SpanIn w #[.int .i64 ax, .int .i64 ay, .bool ad] #[.int .i64 bx, .int .i64 by_, .bool bd] u → u.cell? ⟨w.heap.size + 1, 2, none⟩ = some (.bool bd) := fun u h => cell_of h.b 2
  go_enter Tryz.func90, Tryz.ntmps90
  go_wp2
  generalize hQ : Exit.then _ _ = QQ
  have rest : ∀ (W5 : World) (c5 c6 : Nat), SpanIn w #[.int .i64 ax, .int .i64 ay, .bool ad] #[.int .i64 bx, .int .i64 by_, .bool bd] W5 → W5.heap[c5]? = some (.cells #[.int .i64 cx, .int .i64 cy] 40 (0, 0)) → W5.heap[c6]? = some (.cells #[.int .i64 dx, .int .i64 dy] 40 (0, 0)) → QQ .normal ⟨#[.agg #[.int .i64 ax, .int .i64 ay, .bool ad], .agg #[.int .i64 bx, .int .i64 by_, .bool bd], .pointer (some ⟨w.heap.size, 0, none⟩), .pointer (some ⟨w.heap.size + 1, 0, none⟩), .pointer (some ⟨w.heap.size + 2, 0, none⟩), .pointer (some ⟨c5, 0, none⟩), .pointer (some ⟨c6, 0, none⟩), .agg #[.int .i64 ax, .int .i64 ay, .bool ad], .agg #[.int .i64 cx, .int .i64 cy], .agg #[.int .i64 bx, .int .i64 by_, .bool bd], .agg #[.int .i64 dx, .int .i64 dy], undef, undef, undef, undef, undef, undef, undef, undef, undef, undef, undef, undef, undef, undef, undef, undef, undef, undef, undef, undef, undef, undef, undef, undef, undef, undef, undef], []⟩ W5 := by
    intro W5 c5 c6 hs h5 h6
    have a0 := ka0 _ hs
    have a1 := ka1 _ hs
    have b0 := kb0 _ hs
    have b1 := kb1 _ hs
    have s0 := (cell_of h5 0).trans rfl
    have s1 := (cell_of h5 1).trans rfl
    have t0 := (cell_of h6 0).trans rfl
    have t1 := (cell_of h6 1).trans rfl
    rw [← hQ]
    go_wp2_with (refine wpList_store_row rfl 147 (.tmp 4) (.tmp 37) rfl (w.heap.size + 2) #[.int .i64 (min ax bx), .int .i64 (min ay by_), .int .i64 (max cx dx), .int .i64 (max cy dy)] rfl rfl 147 #[.int .i64 0, .int .i64 0, .int .i64 0, .int .i64 0] hs.r info_box rfl (by simp [Value.oneCell']) ?_)
    exact bodyPost_ret (results_cell_row rfl _ _ (w.heap.size + 2) 147 _ (0, 0) _ rfl (setRow_heap _ _ _ _ _ _ hs.r) Tryz.underlying147 rfl info_box) rfl ⟨rfl, below_row hs.below (by omega) _⟩
  refine start_held (S := SpanIn w #[.int .i64 ax, .int .i64 ay, .bool ad] #[.int .i64 bx, .int .i64 by_, .bool bd]) 8 rfl (by kernel_rfl) (S0.go (Below.refl _ _).drew) ?_
  simp only [Array.replicate_succ, Array.replicate_zero, List.push_toArray, List.nil_append, List.cons_append]
  have S1 := S0.go (Below.refl _ _).drew
  generalize hW0 : (((w.alloc (.cells #[.int .i64 ax, .int .i64 ay, .bool ad] 42)).alloc (.cells #[.int .i64 bx, .int .i64 by_, .bool bd] 42)).alloc (.cells #[.int .i64 0, .int .i64 0, .int .i64 0, .int .i64 0] 147)).drew = W0 at *
  refine take_held 0 (by assumption) rfl (by kernel_rfl) (by kernel_rfl) (by kernel_rfl) (fun _ _ _ h => by rw [← hQ] at h ⊢; exact h) (by kernel_rfl) (v := ?v0) ?y0 ?r0
  case y0 => (intro u hu; have z0 := ka0 u hu; have z1 := ka1 u hu; have z2 := ka2 u hu; go_simp; try rfl)
  simp only [Act.put, List.setIfInBounds_toArray, List.set_cons_zero, List.set_cons_succ]
  refine take_held 2 (by assumption) rfl (by kernel_rfl) (by kernel_rfl) (by kernel_rfl) (fun _ _ _ h => by rw [← hQ] at h ⊢; exact h) (by kernel_rfl) (v := ?v1) ?y1 ?r1
  case y1 => (intro u hu; have z0 := kb0 u hu; have z1 := kb1 u hu; have z2 := kb2 u hu; go_simp; try rfl)
  simp only [Act.put, List.setIfInBounds_toArray, List.set_cons_zero, List.set_cons_succ]
  refine wpAnyH_ready (rs := [1, 4, 5]) (by kernel_rfl) (by simp) (AllReadyH.cons ((nth_eq _ 1).trans rfl) ?_ (AllReadyH.cons ((nth_eq _ 4).trans rfl) ?_ (AllReadyH.cons ((nth_eq _ 5).trans rfl) ?_ AllReadyH.nil)))
  · intro K' hK
    refine call_in hK (by kernel_rfl) 70 #[.agg #[.int .i64 ax, .int .i64 ay, .bool ad]] (by go_simp) _ (cA W0) ?_
    rintro v u0 ⟨rfl, b0⟩
    have S0 := S1.go b0
    refine ⟨S0, ?_⟩
    simp only [Act.put, List.setIfInBounds_toArray, List.set_cons_zero, List.set_cons_succ]
    refine wpAnyH_ready (rs := [3, 4, 5]) (by kernel_rfl) (by simp) (AllReadyH.cons ((nth_eq _ 3).trans rfl) ?_ (AllReadyH.cons ((nth_eq _ 4).trans rfl) ?_ (AllReadyH.cons ((nth_eq _ 5).trans rfl) ?_ AllReadyH.nil)))
    · intro K' hK
      refine call_in hK (by kernel_rfl) 70 #[.agg #[.int .i64 bx, .int .i64 by_, .bool bd]] (by go_simp) _ (cB u0) ?_
      rintro v u1 ⟨rfl, b1⟩
      have S1 := S0.go b1
      refine ⟨S1, ?_⟩
      simp only [Act.put, List.setIfInBounds_toArray, List.set_cons_zero, List.set_cons_succ]
      refine wpAnyH_ready (rs := [4, 5]) (by kernel_rfl) (by simp) (AllReadyH.cons ((nth_eq _ 4).trans rfl) ?_ (AllReadyH.cons ((nth_eq _ 5).trans rfl) ?_ AllReadyH.nil))
      · intro K' hK
        have S2 := S1.alloc (.cells #[.int .i64 0, .int .i64 0] 40)
        refine value_in hK (by kernel_rfl) (.pointer (some ⟨u1.heap.size, 0, none⟩)) (u1.alloc (.cells #[.int .i64 0, .int .i64 0] 40)) (by go_simp; try rfl) S2 ?_
        simp only [Act.put, List.setIfInBounds_toArray, List.set_cons_zero, List.set_cons_succ]
        have h4_2 : (u1.alloc (.cells #[.int .i64 0, .int .i64 0] 40)).heap[u1.heap.size]? = some (.cells #[.int .i64 0, .int .i64 0] 40 (0, 0)) := heap_alloc_new _ _
        have g4_2 := S1.sz
        generalize hz2 : u1.heap.size = z2 at *
        generalize hW2 : (u1.alloc (.cells #[.int .i64 0, .int .i64 0] 40)) = u2 at *
        clear hW2
        refine wpAnyH_ready (rs := [5]) (by kernel_rfl) (by simp) (AllReadyH.cons ((nth_eq _ 5).trans rfl) ?_ AllReadyH.nil)
        · intro K' hK
          have S3 := S2.alloc (.cells #[.int .i64 0, .int .i64 0] 40)
          refine value_in hK (by kernel_rfl) (.pointer (some ⟨u2.heap.size, 0, none⟩)) (u2.alloc (.cells #[.int .i64 0, .int .i64 0] 40)) (by go_simp; try rfl) S3 ?_
          simp only [Act.put, List.setIfInBounds_toArray, List.set_cons_zero, List.set_cons_succ]
          have h5_3 : (u2.alloc (.cells #[.int .i64 0, .int .i64 0] 40)).heap[u2.heap.size]? = some (.cells #[.int .i64 0, .int .i64 0] 40 (0, 0)) := heap_alloc_new _ _
          have g5_3 := S2.sz
          have h4_3 := (alloc_old u2 (.cells #[.int .i64 0, .int .i64 0] 40) _ (lt_of_heap h4_2)).trans h4_2
          have ne3 : u2.heap.size ≠ z2 := Nat.ne_of_gt (lt_of_heap h4_2)
          generalize hz3 : u2.heap.size = z3 at *
          generalize hW3 : (u2.alloc (.cells #[.int .i64 0, .int .i64 0] 40)) = u3 at *
          clear hW3
          have st6 : (storeVar 40 ⟨z2, 0, none⟩ (.agg #[.int .i64 cx, .int .i64 cy])).run Tryz.prog u3 = .ok () (u3.setRow z2 #[.int .i64 cx, .int .i64 cy]) := run_storeVar_row _ _ 40 _ #[.int .i64 0, .int .i64 0] _ h4_3 info_cell rfl (by simp [Value.oneCell'])
          have hs6 := S3.setRow #[.int .i64 cx, .int .i64 cy] (g := z2) g4_2
          refine store_held 6 rfl (by kernel_rfl) (by kernel_rfl) _ (run_store_op 40 (.tmp 5) (.tmp 8) rfl z2 _ rfl rfl st6) hs6 ?_
          simp only [Act.put, List.setIfInBounds_toArray, List.set_cons_zero, List.set_cons_succ]
          have h56 : z3 ≠ z2 := ne3
          have m5 := (setRow_other u3 z2 z3 #[.int .i64 cx, .int .i64 cy] h56).trans h5_3
          have m4 := setRow_heap u3 z2 _ #[.int .i64 cx, .int .i64 cy] _ _ h4_3
          have st7 : (storeVar 40 ⟨z3, 0, none⟩ (.agg #[.int .i64 dx, .int .i64 dy])).run Tryz.prog (u3.setRow z2 #[.int .i64 cx, .int .i64 cy]) = .ok () ((u3.setRow z2 #[.int .i64 cx, .int .i64 cy]).setRow z3 #[.int .i64 dx, .int .i64 dy]) := run_storeVar_row _ _ 40 _ #[.int .i64 0, .int .i64 0] _ m5 info_cell rfl (by simp [Value.oneCell'])
          have hs7 := hs6.setRow #[.int .i64 dx, .int .i64 dy] (g := z3) g5_3
          refine store_held 7 rfl (by kernel_rfl) (by kernel_rfl) _ (run_store_op 40 (.tmp 6) (.tmp 10) rfl z3 _ rfl rfl st7) hs7 ?_
          simp only [Act.put, List.setIfInBounds_toArray, List.set_cons_zero, List.set_cons_succ]
          refine done_held (by kernel_rfl) ?_ _
          exact rest _ z2 z3 hs7 ((setRow_other _ _ _ _ h56.symm).trans m4) (setRow_heap _ _ _ _ _ _ m5)
      · intro K' hK
        have S5 := S1.alloc (.cells #[.int .i64 0, .int .i64 0] 40)
        refine value_in hK (by kernel_rfl) (.pointer (some ⟨u1.heap.size, 0, none⟩)) (u1.alloc (.cells #[.int .i64 0, .int .i64 0] 40)) (by go_simp; try rfl) S5 ?_
        simp only [Act.put, List.setIfInBounds_toArray, List.set_cons_zero, List.set_cons_succ]
        have h5_5 : (u1.alloc (.cells #[.int .i64 0, .int .i64 0] 40)).heap[u1.heap.size]? = some (.cells #[.int .i64 0, .int .i64 0] 40 (0, 0)) := heap_alloc_new _ _
        have g5_5 := S1.sz
        generalize hz5 : u1.heap.size = z5 at *
        generalize hW5 : (u1.alloc (.cells #[.int .i64 0, .int .i64 0] 40)) = u5 at *
        clear hW5
        refine wpAnyH_ready (rs := [4]) (by kernel_rfl) (by simp) (AllReadyH.cons ((nth_eq _ 4).trans rfl) ?_ AllReadyH.nil)
        · intro K' hK
          have S6 := S5.alloc (.cells #[.int .i64 0, .int .i64 0] 40)
          refine value_in hK (by kernel_rfl) (.pointer (some ⟨u5.heap.size, 0, none⟩)) (u5.alloc (.cells #[.int .i64 0, .int .i64 0] 40)) (by go_simp; try rfl) S6 ?_
          simp only [Act.put, List.setIfInBounds_toArray, List.set_cons_zero, List.set_cons_succ]
          have h4_6 : (u5.alloc (.cells #[.int .i64 0, .int .i64 0] 40)).heap[u5.heap.size]? = some (.cells #[.int .i64 0, .int .i64 0] 40 (0, 0)) := heap_alloc_new _ _
          have g4_6 := S5.sz
          have h5_6 := (alloc_old u5 (.cells #[.int .i64 0, .int .i64 0] 40) _ (lt_of_heap h5_5)).trans h5_5
          have ne6 : z5 ≠ u5.heap.size := Nat.ne_of_lt (lt_of_heap h5_5)
          generalize hz6 : u5.heap.size = z6 at *
          generalize hW6 : (u5.alloc (.cells #[.int .i64 0, .int .i64 0] 40)) = u6 at *
          clear hW6
          have st6 : (storeVar 40 ⟨z6, 0, none⟩ (.agg #[.int .i64 cx, .int .i64 cy])).run Tryz.prog u6 = .ok () (u6.setRow z6 #[.int .i64 cx, .int .i64 cy]) := run_storeVar_row _ _ 40 _ #[.int .i64 0, .int .i64 0] _ h4_6 info_cell rfl (by simp [Value.oneCell'])
          have hs6 := S6.setRow #[.int .i64 cx, .int .i64 cy] (g := z6) g4_6
          refine store_held 6 rfl (by kernel_rfl) (by kernel_rfl) _ (run_store_op 40 (.tmp 5) (.tmp 8) rfl z6 _ rfl rfl st6) hs6 ?_
          simp only [Act.put, List.setIfInBounds_toArray, List.set_cons_zero, List.set_cons_succ]
          have h56 : z5 ≠ z6 := ne6
          have m5 := (setRow_other u6 z6 z5 #[.int .i64 cx, .int .i64 cy] h56).trans h5_6
          have m4 := setRow_heap u6 z6 _ #[.int .i64 cx, .int .i64 cy] _ _ h4_6
          have st7 : (storeVar 40 ⟨z5, 0, none⟩ (.agg #[.int .i64 dx, .int .i64 dy])).run Tryz.prog (u6.setRow z6 #[.int .i64 cx, .int .i64 cy]) = .ok () ((u6.setRow z6 #[.int .i64 cx, .int .i64 cy]).setRow z5 #[.int .i64 dx, .int .i64 dy]) := run_storeVar_row _ _ 40 _ #[.int .i64 0, .int .i64 0] _ m5 info_cell rfl (by simp [Value.oneCell'])
          have hs7 := hs6.setRow #[.int .i64 dx, .int .i64 dy] (g := z5) g5_5
          refine store_held 7 rfl (by kernel_rfl) (by kernel_rfl) _ (run_store_op 40 (.tmp 6) (.tmp 10) rfl z5 _ rfl rfl st7) hs7 ?_
          simp only [Act.put, List.setIfInBounds_toArray, List.set_cons_zero, List.set_cons_succ]
          refine done_held (by kernel_rfl) ?_ _
          exact rest _ z6 z5 hs7 ((setRow_other _ _ _ _ h56.symm).trans m4) (setRow_heap _ _ _ _ _ _ m5)
    · intro K' hK
      have S8 := S0.alloc (.cells #[.int .i64 0, .int .i64 0] 40)
      refine value_in hK (by kernel_rfl) (.pointer (some ⟨u0.heap.size, 0, none⟩)) (u0.alloc (.cells #[.int .i64 0, .int .i64 0] 40)) (by go_simp; try rfl) S8 ?_
      simp only [Act.put, List.setIfInBounds_toArray, List.set_cons_zero, List.set_cons_succ]
      have h4_8 : (u0.alloc (.cells #[.int .i64 0, .int .i64 0] 40)).heap[u0.heap.size]? = some (.cells #[.int .i64 0, .int .i64 0] 40 (0, 0)) := heap_alloc_new _ _
      have g4_8 := S0.sz
      generalize hz8 : u0.heap.size = z8 at *
      generalize hW8 : (u0.alloc (.cells #[.int .i64 0, .int .i64 0] 40)) = u8 at *
      clear hW8
      refine wpAnyH_ready (rs := [3, 5]) (by kernel_rfl) (by simp) (AllReadyH.cons ((nth_eq _ 3).trans rfl) ?_ (AllReadyH.cons ((nth_eq _ 5).trans rfl) ?_ AllReadyH.nil))
      · intro K' hK
        refine call_in hK (by kernel_rfl) 70 #[.agg #[.int .i64 bx, .int .i64 by_, .bool bd]] (by go_simp) _ (cB u8) ?_
        rintro v u9 ⟨rfl, b9⟩
        have S9 := S8.go b9
        have h4_9 := (b9.block _ (lt_of_heap h4_8)).trans h4_8
        refine ⟨S9, ?_⟩
        simp only [Act.put, List.setIfInBounds_toArray, List.set_cons_zero, List.set_cons_succ]
        refine wpAnyH_ready (rs := [5]) (by kernel_rfl) (by simp) (AllReadyH.cons ((nth_eq _ 5).trans rfl) ?_ AllReadyH.nil)
        · intro K' hK
          have S10 := S9.alloc (.cells #[.int .i64 0, .int .i64 0] 40)
          refine value_in hK (by kernel_rfl) (.pointer (some ⟨u9.heap.size, 0, none⟩)) (u9.alloc (.cells #[.int .i64 0, .int .i64 0] 40)) (by go_simp; try rfl) S10 ?_
          simp only [Act.put, List.setIfInBounds_toArray, List.set_cons_zero, List.set_cons_succ]
          have h5_10 : (u9.alloc (.cells #[.int .i64 0, .int .i64 0] 40)).heap[u9.heap.size]? = some (.cells #[.int .i64 0, .int .i64 0] 40 (0, 0)) := heap_alloc_new _ _
          have g5_10 := S9.sz
          have h4_10 := (alloc_old u9 (.cells #[.int .i64 0, .int .i64 0] 40) _ (lt_of_heap h4_9)).trans h4_9
          have ne10 : u9.heap.size ≠ z8 := Nat.ne_of_gt (lt_of_heap h4_9)
          generalize hz10 : u9.heap.size = z10 at *
          generalize hW10 : (u9.alloc (.cells #[.int .i64 0, .int .i64 0] 40)) = u10 at *
          clear hW10
          have st6 : (storeVar 40 ⟨z8, 0, none⟩ (.agg #[.int .i64 cx, .int .i64 cy])).run Tryz.prog u10 = .ok () (u10.setRow z8 #[.int .i64 cx, .int .i64 cy]) := run_storeVar_row _ _ 40 _ #[.int .i64 0, .int .i64 0] _ h4_10 info_cell rfl (by simp [Value.oneCell'])
          have hs6 := S10.setRow #[.int .i64 cx, .int .i64 cy] (g := z8) g4_8
          refine store_held 6 rfl (by kernel_rfl) (by kernel_rfl) _ (run_store_op 40 (.tmp 5) (.tmp 8) rfl z8 _ rfl rfl st6) hs6 ?_
          simp only [Act.put, List.setIfInBounds_toArray, List.set_cons_zero, List.set_cons_succ]
          have h56 : z10 ≠ z8 := ne10
          have m5 := (setRow_other u10 z8 z10 #[.int .i64 cx, .int .i64 cy] h56).trans h5_10
          have m4 := setRow_heap u10 z8 _ #[.int .i64 cx, .int .i64 cy] _ _ h4_10
          have st7 : (storeVar 40 ⟨z10, 0, none⟩ (.agg #[.int .i64 dx, .int .i64 dy])).run Tryz.prog (u10.setRow z8 #[.int .i64 cx, .int .i64 cy]) = .ok () ((u10.setRow z8 #[.int .i64 cx, .int .i64 cy]).setRow z10 #[.int .i64 dx, .int .i64 dy]) := run_storeVar_row _ _ 40 _ #[.int .i64 0, .int .i64 0] _ m5 info_cell rfl (by simp [Value.oneCell'])
          have hs7 := hs6.setRow #[.int .i64 dx, .int .i64 dy] (g := z10) g5_10
          refine store_held 7 rfl (by kernel_rfl) (by kernel_rfl) _ (run_store_op 40 (.tmp 6) (.tmp 10) rfl z10 _ rfl rfl st7) hs7 ?_
          simp only [Act.put, List.setIfInBounds_toArray, List.set_cons_zero, List.set_cons_succ]
          refine done_held (by kernel_rfl) ?_ _
          exact rest _ z8 z10 hs7 ((setRow_other _ _ _ _ h56.symm).trans m4) (setRow_heap _ _ _ _ _ _ m5)
      · intro K' hK
        have S12 := S8.alloc (.cells #[.int .i64 0, .int .i64 0] 40)
        refine value_in hK (by kernel_rfl) (.pointer (some ⟨u8.heap.size, 0, none⟩)) (u8.alloc (.cells #[.int .i64 0, .int .i64 0] 40)) (by go_simp; try rfl) S12 ?_
        simp only [Act.put, List.setIfInBounds_toArray, List.set_cons_zero, List.set_cons_succ]
        have h5_12 : (u8.alloc (.cells #[.int .i64 0, .int .i64 0] 40)).heap[u8.heap.size]? = some (.cells #[.int .i64 0, .int .i64 0] 40 (0, 0)) := heap_alloc_new _ _
        have g5_12 := S8.sz
        have h4_12 := (alloc_old u8 (.cells #[.int .i64 0, .int .i64 0] 40) _ (lt_of_heap h4_8)).trans h4_8
        have ne12 : u8.heap.size ≠ z8 := Nat.ne_of_gt (lt_of_heap h4_8)
        generalize hz12 : u8.heap.size = z12 at *
        generalize hW12 : (u8.alloc (.cells #[.int .i64 0, .int .i64 0] 40)) = u12 at *
        clear hW12
        refine wpAnyH_ready (rs := [3]) (by kernel_rfl) (by simp) (AllReadyH.cons ((nth_eq _ 3).trans rfl) ?_ AllReadyH.nil)
        · intro K' hK
          refine call_in hK (by kernel_rfl) 70 #[.agg #[.int .i64 bx, .int .i64 by_, .bool bd]] (by go_simp) _ (cB u12) ?_
          rintro v u13 ⟨rfl, b13⟩
          have S13 := S12.go b13
          have h4_13 := (b13.block _ (lt_of_heap h4_12)).trans h4_12
          have h5_13 := (b13.block _ (lt_of_heap h5_12)).trans h5_12
          refine ⟨S13, ?_⟩
          simp only [Act.put, List.setIfInBounds_toArray, List.set_cons_zero, List.set_cons_succ]
          have st6 : (storeVar 40 ⟨z8, 0, none⟩ (.agg #[.int .i64 cx, .int .i64 cy])).run Tryz.prog u13 = .ok () (u13.setRow z8 #[.int .i64 cx, .int .i64 cy]) := run_storeVar_row _ _ 40 _ #[.int .i64 0, .int .i64 0] _ h4_13 info_cell rfl (by simp [Value.oneCell'])
          have hs6 := S13.setRow #[.int .i64 cx, .int .i64 cy] (g := z8) g4_8
          refine store_held 6 rfl (by kernel_rfl) (by kernel_rfl) _ (run_store_op 40 (.tmp 5) (.tmp 8) rfl z8 _ rfl rfl st6) hs6 ?_
          simp only [Act.put, List.setIfInBounds_toArray, List.set_cons_zero, List.set_cons_succ]
          have h56 : z12 ≠ z8 := ne12
          have m5 := (setRow_other u13 z8 z12 #[.int .i64 cx, .int .i64 cy] h56).trans h5_13
          have m4 := setRow_heap u13 z8 _ #[.int .i64 cx, .int .i64 cy] _ _ h4_13
          have st7 : (storeVar 40 ⟨z12, 0, none⟩ (.agg #[.int .i64 dx, .int .i64 dy])).run Tryz.prog (u13.setRow z8 #[.int .i64 cx, .int .i64 cy]) = .ok () ((u13.setRow z8 #[.int .i64 cx, .int .i64 cy]).setRow z12 #[.int .i64 dx, .int .i64 dy]) := run_storeVar_row _ _ 40 _ #[.int .i64 0, .int .i64 0] _ m5 info_cell rfl (by simp [Value.oneCell'])
          have hs7 := hs6.setRow #[.int .i64 dx, .int .i64 dy] (g := z12) g5_12
          refine store_held 7 rfl (by kernel_rfl) (by kernel_rfl) _ (run_store_op 40 (.tmp 6) (.tmp 10) rfl z12 _ rfl rfl st7) hs7 ?_
          simp only [Act.put, List.setIfInBounds_toArray, List.set_cons_zero, List.set_cons_succ]
          refine done_held (by kernel_rfl) ?_ _
          exact rest _ z8 z12 hs7 ((setRow_other _ _ _ _ h56.symm).trans m4) (setRow_heap _ _ _ _ _ _ m5)
    · intro K' hK
      have S15 := S0.alloc (.cells #[.int .i64 0, .int .i64 0] 40)
      refine value_in hK (by kernel_rfl) (.pointer (some ⟨u0.heap.size, 0, none⟩)) (u0.alloc (.cells #[.int .i64 0, .int .i64 0] 40)) (by go_simp; try rfl) S15 ?_
      simp only [Act.put, List.setIfInBounds_toArray, List.set_cons_zero, List.set_cons_succ]
      have h5_15 : (u0.alloc (.cells #[.int .i64 0, .int .i64 0] 40)).heap[u0.heap.size]? = some (.cells #[.int .i64 0, .int .i64 0] 40 (0, 0)) := heap_alloc_new _ _
      have g5_15 := S0.sz
      generalize hz15 : u0.heap.size = z15 at *
      generalize hW15 : (u0.alloc (.cells #[.int .i64 0, .int .i64 0] 40)) = u15 at *
      clear hW15
      refine wpAnyH_ready (rs := [3, 4]) (by kernel_rfl) (by simp) (AllReadyH.cons ((nth_eq _ 3).trans rfl) ?_ (AllReadyH.cons ((nth_eq _ 4).trans rfl) ?_ AllReadyH.nil))
      · intro K' hK
        refine call_in hK (by kernel_rfl) 70 #[.agg #[.int .i64 bx, .int .i64 by_, .bool bd]] (by go_simp) _ (cB u15) ?_
        rintro v u16 ⟨rfl, b16⟩
        have S16 := S15.go b16
        have h5_16 := (b16.block _ (lt_of_heap h5_15)).trans h5_15
        refine ⟨S16, ?_⟩
        simp only [Act.put, List.setIfInBounds_toArray, List.set_cons_zero, List.set_cons_succ]
        refine wpAnyH_ready (rs := [4]) (by kernel_rfl) (by simp) (AllReadyH.cons ((nth_eq _ 4).trans rfl) ?_ AllReadyH.nil)
        · intro K' hK
          have S17 := S16.alloc (.cells #[.int .i64 0, .int .i64 0] 40)
          refine value_in hK (by kernel_rfl) (.pointer (some ⟨u16.heap.size, 0, none⟩)) (u16.alloc (.cells #[.int .i64 0, .int .i64 0] 40)) (by go_simp; try rfl) S17 ?_
          simp only [Act.put, List.setIfInBounds_toArray, List.set_cons_zero, List.set_cons_succ]
          have h4_17 : (u16.alloc (.cells #[.int .i64 0, .int .i64 0] 40)).heap[u16.heap.size]? = some (.cells #[.int .i64 0, .int .i64 0] 40 (0, 0)) := heap_alloc_new _ _
          have g4_17 := S16.sz
          have h5_17 := (alloc_old u16 (.cells #[.int .i64 0, .int .i64 0] 40) _ (lt_of_heap h5_16)).trans h5_16
          have ne17 : z15 ≠ u16.heap.size := Nat.ne_of_lt (lt_of_heap h5_16)
          generalize hz17 : u16.heap.size = z17 at *
          generalize hW17 : (u16.alloc (.cells #[.int .i64 0, .int .i64 0] 40)) = u17 at *
          clear hW17
          have st6 : (storeVar 40 ⟨z17, 0, none⟩ (.agg #[.int .i64 cx, .int .i64 cy])).run Tryz.prog u17 = .ok () (u17.setRow z17 #[.int .i64 cx, .int .i64 cy]) := run_storeVar_row _ _ 40 _ #[.int .i64 0, .int .i64 0] _ h4_17 info_cell rfl (by simp [Value.oneCell'])
          have hs6 := S17.setRow #[.int .i64 cx, .int .i64 cy] (g := z17) g4_17
          refine store_held 6 rfl (by kernel_rfl) (by kernel_rfl) _ (run_store_op 40 (.tmp 5) (.tmp 8) rfl z17 _ rfl rfl st6) hs6 ?_
          simp only [Act.put, List.setIfInBounds_toArray, List.set_cons_zero, List.set_cons_succ]
          have h56 : z15 ≠ z17 := ne17
          have m5 := (setRow_other u17 z17 z15 #[.int .i64 cx, .int .i64 cy] h56).trans h5_17
          have m4 := setRow_heap u17 z17 _ #[.int .i64 cx, .int .i64 cy] _ _ h4_17
          have st7 : (storeVar 40 ⟨z15, 0, none⟩ (.agg #[.int .i64 dx, .int .i64 dy])).run Tryz.prog (u17.setRow z17 #[.int .i64 cx, .int .i64 cy]) = .ok () ((u17.setRow z17 #[.int .i64 cx, .int .i64 cy]).setRow z15 #[.int .i64 dx, .int .i64 dy]) := run_storeVar_row _ _ 40 _ #[.int .i64 0, .int .i64 0] _ m5 info_cell rfl (by simp [Value.oneCell'])
          have hs7 := hs6.setRow #[.int .i64 dx, .int .i64 dy] (g := z15) g5_15
          refine store_held 7 rfl (by kernel_rfl) (by kernel_rfl) _ (run_store_op 40 (.tmp 6) (.tmp 10) rfl z15 _ rfl rfl st7) hs7 ?_
          simp only [Act.put, List.setIfInBounds_toArray, List.set_cons_zero, List.set_cons_succ]
          refine done_held (by kernel_rfl) ?_ _
          exact rest _ z17 z15 hs7 ((setRow_other _ _ _ _ h56.symm).trans m4) (setRow_heap _ _ _ _ _ _ m5)
      · intro K' hK
        have S19 := S15.alloc (.cells #[.int .i64 0, .int .i64 0] 40)
        refine value_in hK (by kernel_rfl) (.pointer (some ⟨u15.heap.size, 0, none⟩)) (u15.alloc (.cells #[.int .i64 0, .int .i64 0] 40)) (by go_simp; try rfl) S19 ?_
        simp only [Act.put, List.setIfInBounds_toArray, List.set_cons_zero, List.set_cons_succ]
        have h4_19 : (u15.alloc (.cells #[.int .i64 0, .int .i64 0] 40)).heap[u15.heap.size]? = some (.cells #[.int .i64 0, .int .i64 0] 40 (0, 0)) := heap_alloc_new _ _
        have g4_19 := S15.sz
        have h5_19 := (alloc_old u15 (.cells #[.int .i64 0, .int .i64 0] 40) _ (lt_of_heap h5_15)).trans h5_15
        have ne19 : z15 ≠ u15.heap.size := Nat.ne_of_lt (lt_of_heap h5_15)
        generalize hz19 : u15.heap.size = z19 at *
        generalize hW19 : (u15.alloc (.cells #[.int .i64 0, .int .i64 0] 40)) = u19 at *
        clear hW19
        refine wpAnyH_ready (rs := [3]) (by kernel_rfl) (by simp) (AllReadyH.cons ((nth_eq _ 3).trans rfl) ?_ AllReadyH.nil)
        · intro K' hK
          refine call_in hK (by kernel_rfl) 70 #[.agg #[.int .i64 bx, .int .i64 by_, .bool bd]] (by go_simp) _ (cB u19) ?_
          rintro v u20 ⟨rfl, b20⟩
          have S20 := S19.go b20
          have h4_20 := (b20.block _ (lt_of_heap h4_19)).trans h4_19
          have h5_20 := (b20.block _ (lt_of_heap h5_19)).trans h5_19
          refine ⟨S20, ?_⟩
          simp only [Act.put, List.setIfInBounds_toArray, List.set_cons_zero, List.set_cons_succ]
          have st6 : (storeVar 40 ⟨z19, 0, none⟩ (.agg #[.int .i64 cx, .int .i64 cy])).run Tryz.prog u20 = .ok () (u20.setRow z19 #[.int .i64 cx, .int .i64 cy]) := run_storeVar_row _ _ 40 _ #[.int .i64 0, .int .i64 0] _ h4_20 info_cell rfl (by simp [Value.oneCell'])
          have hs6 := S20.setRow #[.int .i64 cx, .int .i64 cy] (g := z19) g4_19
          refine store_held 6 rfl (by kernel_rfl) (by kernel_rfl) _ (run_store_op 40 (.tmp 5) (.tmp 8) rfl z19 _ rfl rfl st6) hs6 ?_
          simp only [Act.put, List.setIfInBounds_toArray, List.set_cons_zero, List.set_cons_succ]
          have h56 : z15 ≠ z19 := ne19
          have m5 := (setRow_other u20 z19 z15 #[.int .i64 cx, .int .i64 cy] h56).trans h5_20
          have m4 := setRow_heap u20 z19 _ #[.int .i64 cx, .int .i64 cy] _ _ h4_20
          have st7 : (storeVar 40 ⟨z15, 0, none⟩ (.agg #[.int .i64 dx, .int .i64 dy])).run Tryz.prog (u20.setRow z19 #[.int .i64 cx, .int .i64 cy]) = .ok () ((u20.setRow z19 #[.int .i64 cx, .int .i64 cy]).setRow z15 #[.int .i64 dx, .int .i64 dy]) := run_storeVar_row _ _ 40 _ #[.int .i64 0, .int .i64 0] _ m5 info_cell rfl (by simp [Value.oneCell'])
          have hs7 := hs6.setRow #[.int .i64 dx, .int .i64 dy] (g := z15) g5_15
          refine store_held 7 rfl (by kernel_rfl) (by kernel_rfl) _ (run_store_op 40 (.tmp 6) (.tmp 10) rfl z15 _ rfl rfl st7) hs7 ?_
          simp only [Act.put, List.setIfInBounds_toArray, List.set_cons_zero, List.set_cons_succ]
          refine done_held (by kernel_rfl) ?_ _
          exact rest _ z19 z15 hs7 ((setRow_other _ _ _ _ h56.symm).trans m4) (setRow_heap _ _ _ _ _ _ m5)
  · intro K' hK
    have S22 := S1.alloc (.cells #[.int .i64 0, .int .i64 0] 40)
    refine value_in hK (by kernel_rfl) (.pointer (some ⟨W0.heap.size, 0, none⟩)) (W0.alloc (.cells #[.int .i64 0, .int .i64 0] 40)) (by go_simp; try rfl) S22 ?_
    simp only [Act.put, List.setIfInBounds_toArray, List.set_cons_zero, List.set_cons_succ]
    have h4_22 : (W0.alloc (.cells #[.int .i64 0, .int .i64 0] 40)).heap[W0.heap.size]? = some (.cells #[.int .i64 0, .int .i64 0] 40 (0, 0)) := heap_alloc_new _ _
    have g4_22 := S1.sz
    generalize hz22 : W0.heap.size = z22 at *
    generalize hW22 : (W0.alloc (.cells #[.int .i64 0, .int .i64 0] 40)) = u22 at *
    clear hW22
    refine wpAnyH_ready (rs := [1, 5]) (by kernel_rfl) (by simp) (AllReadyH.cons ((nth_eq _ 1).trans rfl) ?_ (AllReadyH.cons ((nth_eq _ 5).trans rfl) ?_ AllReadyH.nil))
    · intro K' hK
      refine call_in hK (by kernel_rfl) 70 #[.agg #[.int .i64 ax, .int .i64 ay, .bool ad]] (by go_simp) _ (cA u22) ?_
      rintro v u23 ⟨rfl, b23⟩
      have S23 := S22.go b23
      have h4_23 := (b23.block _ (lt_of_heap h4_22)).trans h4_22
      refine ⟨S23, ?_⟩
      simp only [Act.put, List.setIfInBounds_toArray, List.set_cons_zero, List.set_cons_succ]
      refine wpAnyH_ready (rs := [3, 5]) (by kernel_rfl) (by simp) (AllReadyH.cons ((nth_eq _ 3).trans rfl) ?_ (AllReadyH.cons ((nth_eq _ 5).trans rfl) ?_ AllReadyH.nil))
      · intro K' hK
        refine call_in hK (by kernel_rfl) 70 #[.agg #[.int .i64 bx, .int .i64 by_, .bool bd]] (by go_simp) _ (cB u23) ?_
        rintro v u24 ⟨rfl, b24⟩
        have S24 := S23.go b24
        have h4_24 := (b24.block _ (lt_of_heap h4_23)).trans h4_23
        refine ⟨S24, ?_⟩
        simp only [Act.put, List.setIfInBounds_toArray, List.set_cons_zero, List.set_cons_succ]
        refine wpAnyH_ready (rs := [5]) (by kernel_rfl) (by simp) (AllReadyH.cons ((nth_eq _ 5).trans rfl) ?_ AllReadyH.nil)
        · intro K' hK
          have S25 := S24.alloc (.cells #[.int .i64 0, .int .i64 0] 40)
          refine value_in hK (by kernel_rfl) (.pointer (some ⟨u24.heap.size, 0, none⟩)) (u24.alloc (.cells #[.int .i64 0, .int .i64 0] 40)) (by go_simp; try rfl) S25 ?_
          simp only [Act.put, List.setIfInBounds_toArray, List.set_cons_zero, List.set_cons_succ]
          have h5_25 : (u24.alloc (.cells #[.int .i64 0, .int .i64 0] 40)).heap[u24.heap.size]? = some (.cells #[.int .i64 0, .int .i64 0] 40 (0, 0)) := heap_alloc_new _ _
          have g5_25 := S24.sz
          have h4_25 := (alloc_old u24 (.cells #[.int .i64 0, .int .i64 0] 40) _ (lt_of_heap h4_24)).trans h4_24
          have ne25 : u24.heap.size ≠ z22 := Nat.ne_of_gt (lt_of_heap h4_24)
          generalize hz25 : u24.heap.size = z25 at *
          generalize hW25 : (u24.alloc (.cells #[.int .i64 0, .int .i64 0] 40)) = u25 at *
          clear hW25
          have st6 : (storeVar 40 ⟨z22, 0, none⟩ (.agg #[.int .i64 cx, .int .i64 cy])).run Tryz.prog u25 = .ok () (u25.setRow z22 #[.int .i64 cx, .int .i64 cy]) := run_storeVar_row _ _ 40 _ #[.int .i64 0, .int .i64 0] _ h4_25 info_cell rfl (by simp [Value.oneCell'])
          have hs6 := S25.setRow #[.int .i64 cx, .int .i64 cy] (g := z22) g4_22
          refine store_held 6 rfl (by kernel_rfl) (by kernel_rfl) _ (run_store_op 40 (.tmp 5) (.tmp 8) rfl z22 _ rfl rfl st6) hs6 ?_
          simp only [Act.put, List.setIfInBounds_toArray, List.set_cons_zero, List.set_cons_succ]
          have h56 : z25 ≠ z22 := ne25
          have m5 := (setRow_other u25 z22 z25 #[.int .i64 cx, .int .i64 cy] h56).trans h5_25
          have m4 := setRow_heap u25 z22 _ #[.int .i64 cx, .int .i64 cy] _ _ h4_25
          have st7 : (storeVar 40 ⟨z25, 0, none⟩ (.agg #[.int .i64 dx, .int .i64 dy])).run Tryz.prog (u25.setRow z22 #[.int .i64 cx, .int .i64 cy]) = .ok () ((u25.setRow z22 #[.int .i64 cx, .int .i64 cy]).setRow z25 #[.int .i64 dx, .int .i64 dy]) := run_storeVar_row _ _ 40 _ #[.int .i64 0, .int .i64 0] _ m5 info_cell rfl (by simp [Value.oneCell'])
          have hs7 := hs6.setRow #[.int .i64 dx, .int .i64 dy] (g := z25) g5_25
          refine store_held 7 rfl (by kernel_rfl) (by kernel_rfl) _ (run_store_op 40 (.tmp 6) (.tmp 10) rfl z25 _ rfl rfl st7) hs7 ?_
          simp only [Act.put, List.setIfInBounds_toArray, List.set_cons_zero, List.set_cons_succ]
          refine done_held (by kernel_rfl) ?_ _
          exact rest _ z22 z25 hs7 ((setRow_other _ _ _ _ h56.symm).trans m4) (setRow_heap _ _ _ _ _ _ m5)
      · intro K' hK
        have S27 := S23.alloc (.cells #[.int .i64 0, .int .i64 0] 40)
        refine value_in hK (by kernel_rfl) (.pointer (some ⟨u23.heap.size, 0, none⟩)) (u23.alloc (.cells #[.int .i64 0, .int .i64 0] 40)) (by go_simp; try rfl) S27 ?_
        simp only [Act.put, List.setIfInBounds_toArray, List.set_cons_zero, List.set_cons_succ]
        have h5_27 : (u23.alloc (.cells #[.int .i64 0, .int .i64 0] 40)).heap[u23.heap.size]? = some (.cells #[.int .i64 0, .int .i64 0] 40 (0, 0)) := heap_alloc_new _ _
        have g5_27 := S23.sz
        have h4_27 := (alloc_old u23 (.cells #[.int .i64 0, .int .i64 0] 40) _ (lt_of_heap h4_23)).trans h4_23
        have ne27 : u23.heap.size ≠ z22 := Nat.ne_of_gt (lt_of_heap h4_23)
        generalize hz27 : u23.heap.size = z27 at *
        generalize hW27 : (u23.alloc (.cells #[.int .i64 0, .int .i64 0] 40)) = u27 at *
        clear hW27
        refine wpAnyH_ready (rs := [3]) (by kernel_rfl) (by simp) (AllReadyH.cons ((nth_eq _ 3).trans rfl) ?_ AllReadyH.nil)
        · intro K' hK
          refine call_in hK (by kernel_rfl) 70 #[.agg #[.int .i64 bx, .int .i64 by_, .bool bd]] (by go_simp) _ (cB u27) ?_
          rintro v u28 ⟨rfl, b28⟩
          have S28 := S27.go b28
          have h4_28 := (b28.block _ (lt_of_heap h4_27)).trans h4_27
          have h5_28 := (b28.block _ (lt_of_heap h5_27)).trans h5_27
          refine ⟨S28, ?_⟩
          simp only [Act.put, List.setIfInBounds_toArray, List.set_cons_zero, List.set_cons_succ]
          have st6 : (storeVar 40 ⟨z22, 0, none⟩ (.agg #[.int .i64 cx, .int .i64 cy])).run Tryz.prog u28 = .ok () (u28.setRow z22 #[.int .i64 cx, .int .i64 cy]) := run_storeVar_row _ _ 40 _ #[.int .i64 0, .int .i64 0] _ h4_28 info_cell rfl (by simp [Value.oneCell'])
          have hs6 := S28.setRow #[.int .i64 cx, .int .i64 cy] (g := z22) g4_22
          refine store_held 6 rfl (by kernel_rfl) (by kernel_rfl) _ (run_store_op 40 (.tmp 5) (.tmp 8) rfl z22 _ rfl rfl st6) hs6 ?_
          simp only [Act.put, List.setIfInBounds_toArray, List.set_cons_zero, List.set_cons_succ]
          have h56 : z27 ≠ z22 := ne27
          have m5 := (setRow_other u28 z22 z27 #[.int .i64 cx, .int .i64 cy] h56).trans h5_28
          have m4 := setRow_heap u28 z22 _ #[.int .i64 cx, .int .i64 cy] _ _ h4_28
          have st7 : (storeVar 40 ⟨z27, 0, none⟩ (.agg #[.int .i64 dx, .int .i64 dy])).run Tryz.prog (u28.setRow z22 #[.int .i64 cx, .int .i64 cy]) = .ok () ((u28.setRow z22 #[.int .i64 cx, .int .i64 cy]).setRow z27 #[.int .i64 dx, .int .i64 dy]) := run_storeVar_row _ _ 40 _ #[.int .i64 0, .int .i64 0] _ m5 info_cell rfl (by simp [Value.oneCell'])
          have hs7 := hs6.setRow #[.int .i64 dx, .int .i64 dy] (g := z27) g5_27
          refine store_held 7 rfl (by kernel_rfl) (by kernel_rfl) _ (run_store_op 40 (.tmp 6) (.tmp 10) rfl z27 _ rfl rfl st7) hs7 ?_
          simp only [Act.put, List.setIfInBounds_toArray, List.set_cons_zero, List.set_cons_succ]
          refine done_held (by kernel_rfl) ?_ _
          exact rest _ z22 z27 hs7 ((setRow_other _ _ _ _ h56.symm).trans m4) (setRow_heap _ _ _ _ _ _ m5)
    · intro K' hK
      have S30 := S22.alloc (.cells #[.int .i64 0, .int .i64 0] 40)
      refine value_in hK (by kernel_rfl) (.pointer (some ⟨u22.heap.size, 0, none⟩)) (u22.alloc (.cells #[.int .i64 0, .int .i64 0] 40)) (by go_simp; try rfl) S30 ?_
      simp only [Act.put, List.setIfInBounds_toArray, List.set_cons_zero, List.set_cons_succ]
      have h5_30 : (u22.alloc (.cells #[.int .i64 0, .int .i64 0] 40)).heap[u22.heap.size]? = some (.cells #[.int .i64 0, .int .i64 0] 40 (0, 0)) := heap_alloc_new _ _
      have g5_30 := S22.sz
      have h4_30 := (alloc_old u22 (.cells #[.int .i64 0, .int .i64 0] 40) _ (lt_of_heap h4_22)).trans h4_22
      have ne30 : u22.heap.size ≠ z22 := Nat.ne_of_gt (lt_of_heap h4_22)
      generalize hz30 : u22.heap.size = z30 at *
      generalize hW30 : (u22.alloc (.cells #[.int .i64 0, .int .i64 0] 40)) = u30 at *
      clear hW30
      refine wpAnyH_ready (rs := [1]) (by kernel_rfl) (by simp) (AllReadyH.cons ((nth_eq _ 1).trans rfl) ?_ AllReadyH.nil)
      · intro K' hK
        refine call_in hK (by kernel_rfl) 70 #[.agg #[.int .i64 ax, .int .i64 ay, .bool ad]] (by go_simp) _ (cA u30) ?_
        rintro v u31 ⟨rfl, b31⟩
        have S31 := S30.go b31
        have h4_31 := (b31.block _ (lt_of_heap h4_30)).trans h4_30
        have h5_31 := (b31.block _ (lt_of_heap h5_30)).trans h5_30
        refine ⟨S31, ?_⟩
        simp only [Act.put, List.setIfInBounds_toArray, List.set_cons_zero, List.set_cons_succ]
        refine wpAnyH_ready (rs := [3]) (by kernel_rfl) (by simp) (AllReadyH.cons ((nth_eq _ 3).trans rfl) ?_ AllReadyH.nil)
        · intro K' hK
          refine call_in hK (by kernel_rfl) 70 #[.agg #[.int .i64 bx, .int .i64 by_, .bool bd]] (by go_simp) _ (cB u31) ?_
          rintro v u32 ⟨rfl, b32⟩
          have S32 := S31.go b32
          have h4_32 := (b32.block _ (lt_of_heap h4_31)).trans h4_31
          have h5_32 := (b32.block _ (lt_of_heap h5_31)).trans h5_31
          refine ⟨S32, ?_⟩
          simp only [Act.put, List.setIfInBounds_toArray, List.set_cons_zero, List.set_cons_succ]
          have st6 : (storeVar 40 ⟨z22, 0, none⟩ (.agg #[.int .i64 cx, .int .i64 cy])).run Tryz.prog u32 = .ok () (u32.setRow z22 #[.int .i64 cx, .int .i64 cy]) := run_storeVar_row _ _ 40 _ #[.int .i64 0, .int .i64 0] _ h4_32 info_cell rfl (by simp [Value.oneCell'])
          have hs6 := S32.setRow #[.int .i64 cx, .int .i64 cy] (g := z22) g4_22
          refine store_held 6 rfl (by kernel_rfl) (by kernel_rfl) _ (run_store_op 40 (.tmp 5) (.tmp 8) rfl z22 _ rfl rfl st6) hs6 ?_
          simp only [Act.put, List.setIfInBounds_toArray, List.set_cons_zero, List.set_cons_succ]
          have h56 : z30 ≠ z22 := ne30
          have m5 := (setRow_other u32 z22 z30 #[.int .i64 cx, .int .i64 cy] h56).trans h5_32
          have m4 := setRow_heap u32 z22 _ #[.int .i64 cx, .int .i64 cy] _ _ h4_32
          have st7 : (storeVar 40 ⟨z30, 0, none⟩ (.agg #[.int .i64 dx, .int .i64 dy])).run Tryz.prog (u32.setRow z22 #[.int .i64 cx, .int .i64 cy]) = .ok () ((u32.setRow z22 #[.int .i64 cx, .int .i64 cy]).setRow z30 #[.int .i64 dx, .int .i64 dy]) := run_storeVar_row _ _ 40 _ #[.int .i64 0, .int .i64 0] _ m5 info_cell rfl (by simp [Value.oneCell'])
          have hs7 := hs6.setRow #[.int .i64 dx, .int .i64 dy] (g := z30) g5_30
          refine store_held 7 rfl (by kernel_rfl) (by kernel_rfl) _ (run_store_op 40 (.tmp 6) (.tmp 10) rfl z30 _ rfl rfl st7) hs7 ?_
          simp only [Act.put, List.setIfInBounds_toArray, List.set_cons_zero, List.set_cons_succ]
          refine done_held (by kernel_rfl) ?_ _
          exact rest _ z22 z30 hs7 ((setRow_other _ _ _ _ h56.symm).trans m4) (setRow_heap _ _ _ _ _ _ m5)
  · intro K' hK
    have S34 := S1.alloc (.cells #[.int .i64 0, .int .i64 0] 40)
    refine value_in hK (by kernel_rfl) (.pointer (some ⟨W0.heap.size, 0, none⟩)) (W0.alloc (.cells #[.int .i64 0, .int .i64 0] 40)) (by go_simp; try rfl) S34 ?_
    simp only [Act.put, List.setIfInBounds_toArray, List.set_cons_zero, List.set_cons_succ]
    have h5_34 : (W0.alloc (.cells #[.int .i64 0, .int .i64 0] 40)).heap[W0.heap.size]? = some (.cells #[.int .i64 0, .int .i64 0] 40 (0, 0)) := heap_alloc_new _ _
    have g5_34 := S1.sz
    generalize hz34 : W0.heap.size = z34 at *
    generalize hW34 : (W0.alloc (.cells #[.int .i64 0, .int .i64 0] 40)) = u34 at *
    clear hW34
    refine wpAnyH_ready (rs := [1, 4]) (by kernel_rfl) (by simp) (AllReadyH.cons ((nth_eq _ 1).trans rfl) ?_ (AllReadyH.cons ((nth_eq _ 4).trans rfl) ?_ AllReadyH.nil))
    · intro K' hK
      refine call_in hK (by kernel_rfl) 70 #[.agg #[.int .i64 ax, .int .i64 ay, .bool ad]] (by go_simp) _ (cA u34) ?_
      rintro v u35 ⟨rfl, b35⟩
      have S35 := S34.go b35
      have h5_35 := (b35.block _ (lt_of_heap h5_34)).trans h5_34
      refine ⟨S35, ?_⟩
      simp only [Act.put, List.setIfInBounds_toArray, List.set_cons_zero, List.set_cons_succ]
      refine wpAnyH_ready (rs := [3, 4]) (by kernel_rfl) (by simp) (AllReadyH.cons ((nth_eq _ 3).trans rfl) ?_ (AllReadyH.cons ((nth_eq _ 4).trans rfl) ?_ AllReadyH.nil))
      · intro K' hK
        refine call_in hK (by kernel_rfl) 70 #[.agg #[.int .i64 bx, .int .i64 by_, .bool bd]] (by go_simp) _ (cB u35) ?_
        rintro v u36 ⟨rfl, b36⟩
        have S36 := S35.go b36
        have h5_36 := (b36.block _ (lt_of_heap h5_35)).trans h5_35
        refine ⟨S36, ?_⟩
        simp only [Act.put, List.setIfInBounds_toArray, List.set_cons_zero, List.set_cons_succ]
        refine wpAnyH_ready (rs := [4]) (by kernel_rfl) (by simp) (AllReadyH.cons ((nth_eq _ 4).trans rfl) ?_ AllReadyH.nil)
        · intro K' hK
          have S37 := S36.alloc (.cells #[.int .i64 0, .int .i64 0] 40)
          refine value_in hK (by kernel_rfl) (.pointer (some ⟨u36.heap.size, 0, none⟩)) (u36.alloc (.cells #[.int .i64 0, .int .i64 0] 40)) (by go_simp; try rfl) S37 ?_
          simp only [Act.put, List.setIfInBounds_toArray, List.set_cons_zero, List.set_cons_succ]
          have h4_37 : (u36.alloc (.cells #[.int .i64 0, .int .i64 0] 40)).heap[u36.heap.size]? = some (.cells #[.int .i64 0, .int .i64 0] 40 (0, 0)) := heap_alloc_new _ _
          have g4_37 := S36.sz
          have h5_37 := (alloc_old u36 (.cells #[.int .i64 0, .int .i64 0] 40) _ (lt_of_heap h5_36)).trans h5_36
          have ne37 : z34 ≠ u36.heap.size := Nat.ne_of_lt (lt_of_heap h5_36)
          generalize hz37 : u36.heap.size = z37 at *
          generalize hW37 : (u36.alloc (.cells #[.int .i64 0, .int .i64 0] 40)) = u37 at *
          clear hW37
          have st6 : (storeVar 40 ⟨z37, 0, none⟩ (.agg #[.int .i64 cx, .int .i64 cy])).run Tryz.prog u37 = .ok () (u37.setRow z37 #[.int .i64 cx, .int .i64 cy]) := run_storeVar_row _ _ 40 _ #[.int .i64 0, .int .i64 0] _ h4_37 info_cell rfl (by simp [Value.oneCell'])
          have hs6 := S37.setRow #[.int .i64 cx, .int .i64 cy] (g := z37) g4_37
          refine store_held 6 rfl (by kernel_rfl) (by kernel_rfl) _ (run_store_op 40 (.tmp 5) (.tmp 8) rfl z37 _ rfl rfl st6) hs6 ?_
          simp only [Act.put, List.setIfInBounds_toArray, List.set_cons_zero, List.set_cons_succ]
          have h56 : z34 ≠ z37 := ne37
          have m5 := (setRow_other u37 z37 z34 #[.int .i64 cx, .int .i64 cy] h56).trans h5_37
          have m4 := setRow_heap u37 z37 _ #[.int .i64 cx, .int .i64 cy] _ _ h4_37
          have st7 : (storeVar 40 ⟨z34, 0, none⟩ (.agg #[.int .i64 dx, .int .i64 dy])).run Tryz.prog (u37.setRow z37 #[.int .i64 cx, .int .i64 cy]) = .ok () ((u37.setRow z37 #[.int .i64 cx, .int .i64 cy]).setRow z34 #[.int .i64 dx, .int .i64 dy]) := run_storeVar_row _ _ 40 _ #[.int .i64 0, .int .i64 0] _ m5 info_cell rfl (by simp [Value.oneCell'])
          have hs7 := hs6.setRow #[.int .i64 dx, .int .i64 dy] (g := z34) g5_34
          refine store_held 7 rfl (by kernel_rfl) (by kernel_rfl) _ (run_store_op 40 (.tmp 6) (.tmp 10) rfl z34 _ rfl rfl st7) hs7 ?_
          simp only [Act.put, List.setIfInBounds_toArray, List.set_cons_zero, List.set_cons_succ]
          refine done_held (by kernel_rfl) ?_ _
          exact rest _ z37 z34 hs7 ((setRow_other _ _ _ _ h56.symm).trans m4) (setRow_heap _ _ _ _ _ _ m5)
      · intro K' hK
        have S39 := S35.alloc (.cells #[.int .i64 0, .int .i64 0] 40)
        refine value_in hK (by kernel_rfl) (.pointer (some ⟨u35.heap.size, 0, none⟩)) (u35.alloc (.cells #[.int .i64 0, .int .i64 0] 40)) (by go_simp; try rfl) S39 ?_
        simp only [Act.put, List.setIfInBounds_toArray, List.set_cons_zero, List.set_cons_succ]
        have h4_39 : (u35.alloc (.cells #[.int .i64 0, .int .i64 0] 40)).heap[u35.heap.size]? = some (.cells #[.int .i64 0, .int .i64 0] 40 (0, 0)) := heap_alloc_new _ _
        have g4_39 := S35.sz
        have h5_39 := (alloc_old u35 (.cells #[.int .i64 0, .int .i64 0] 40) _ (lt_of_heap h5_35)).trans h5_35
        have ne39 : z34 ≠ u35.heap.size := Nat.ne_of_lt (lt_of_heap h5_35)
        generalize hz39 : u35.heap.size = z39 at *
        generalize hW39 : (u35.alloc (.cells #[.int .i64 0, .int .i64 0] 40)) = u39 at *
        clear hW39
        refine wpAnyH_ready (rs := [3]) (by kernel_rfl) (by simp) (AllReadyH.cons ((nth_eq _ 3).trans rfl) ?_ AllReadyH.nil)
        · intro K' hK
          refine call_in hK (by kernel_rfl) 70 #[.agg #[.int .i64 bx, .int .i64 by_, .bool bd]] (by go_simp) _ (cB u39) ?_
          rintro v u40 ⟨rfl, b40⟩
          have S40 := S39.go b40
          have h4_40 := (b40.block _ (lt_of_heap h4_39)).trans h4_39
          have h5_40 := (b40.block _ (lt_of_heap h5_39)).trans h5_39
          refine ⟨S40, ?_⟩
          simp only [Act.put, List.setIfInBounds_toArray, List.set_cons_zero, List.set_cons_succ]
          have st6 : (storeVar 40 ⟨z39, 0, none⟩ (.agg #[.int .i64 cx, .int .i64 cy])).run Tryz.prog u40 = .ok () (u40.setRow z39 #[.int .i64 cx, .int .i64 cy]) := run_storeVar_row _ _ 40 _ #[.int .i64 0, .int .i64 0] _ h4_40 info_cell rfl (by simp [Value.oneCell'])
          have hs6 := S40.setRow #[.int .i64 cx, .int .i64 cy] (g := z39) g4_39
          refine store_held 6 rfl (by kernel_rfl) (by kernel_rfl) _ (run_store_op 40 (.tmp 5) (.tmp 8) rfl z39 _ rfl rfl st6) hs6 ?_
          simp only [Act.put, List.setIfInBounds_toArray, List.set_cons_zero, List.set_cons_succ]
          have h56 : z34 ≠ z39 := ne39
          have m5 := (setRow_other u40 z39 z34 #[.int .i64 cx, .int .i64 cy] h56).trans h5_40
          have m4 := setRow_heap u40 z39 _ #[.int .i64 cx, .int .i64 cy] _ _ h4_40
          have st7 : (storeVar 40 ⟨z34, 0, none⟩ (.agg #[.int .i64 dx, .int .i64 dy])).run Tryz.prog (u40.setRow z39 #[.int .i64 cx, .int .i64 cy]) = .ok () ((u40.setRow z39 #[.int .i64 cx, .int .i64 cy]).setRow z34 #[.int .i64 dx, .int .i64 dy]) := run_storeVar_row _ _ 40 _ #[.int .i64 0, .int .i64 0] _ m5 info_cell rfl (by simp [Value.oneCell'])
          have hs7 := hs6.setRow #[.int .i64 dx, .int .i64 dy] (g := z34) g5_34
          refine store_held 7 rfl (by kernel_rfl) (by kernel_rfl) _ (run_store_op 40 (.tmp 6) (.tmp 10) rfl z34 _ rfl rfl st7) hs7 ?_
          simp only [Act.put, List.setIfInBounds_toArray, List.set_cons_zero, List.set_cons_succ]
          refine done_held (by kernel_rfl) ?_ _
          exact rest _ z39 z34 hs7 ((setRow_other _ _ _ _ h56.symm).trans m4) (setRow_heap _ _ _ _ _ _ m5)
    · intro K' hK
      have S42 := S34.alloc (.cells #[.int .i64 0, .int .i64 0] 40)
      refine value_in hK (by kernel_rfl) (.pointer (some ⟨u34.heap.size, 0, none⟩)) (u34.alloc (.cells #[.int .i64 0, .int .i64 0] 40)) (by go_simp; try rfl) S42 ?_
      simp only [Act.put, List.setIfInBounds_toArray, List.set_cons_zero, List.set_cons_succ]
      have h4_42 : (u34.alloc (.cells #[.int .i64 0, .int .i64 0] 40)).heap[u34.heap.size]? = some (.cells #[.int .i64 0, .int .i64 0] 40 (0, 0)) := heap_alloc_new _ _
      have g4_42 := S34.sz
      have h5_42 := (alloc_old u34 (.cells #[.int .i64 0, .int .i64 0] 40) _ (lt_of_heap h5_34)).trans h5_34
      have ne42 : z34 ≠ u34.heap.size := Nat.ne_of_lt (lt_of_heap h5_34)
      generalize hz42 : u34.heap.size = z42 at *
      generalize hW42 : (u34.alloc (.cells #[.int .i64 0, .int .i64 0] 40)) = u42 at *
      clear hW42
      refine wpAnyH_ready (rs := [1]) (by kernel_rfl) (by simp) (AllReadyH.cons ((nth_eq _ 1).trans rfl) ?_ AllReadyH.nil)
      · intro K' hK
        refine call_in hK (by kernel_rfl) 70 #[.agg #[.int .i64 ax, .int .i64 ay, .bool ad]] (by go_simp) _ (cA u42) ?_
        rintro v u43 ⟨rfl, b43⟩
        have S43 := S42.go b43
        have h4_43 := (b43.block _ (lt_of_heap h4_42)).trans h4_42
        have h5_43 := (b43.block _ (lt_of_heap h5_42)).trans h5_42
        refine ⟨S43, ?_⟩
        simp only [Act.put, List.setIfInBounds_toArray, List.set_cons_zero, List.set_cons_succ]
        refine wpAnyH_ready (rs := [3]) (by kernel_rfl) (by simp) (AllReadyH.cons ((nth_eq _ 3).trans rfl) ?_ AllReadyH.nil)
        · intro K' hK
          refine call_in hK (by kernel_rfl) 70 #[.agg #[.int .i64 bx, .int .i64 by_, .bool bd]] (by go_simp) _ (cB u43) ?_
          rintro v u44 ⟨rfl, b44⟩
          have S44 := S43.go b44
          have h4_44 := (b44.block _ (lt_of_heap h4_43)).trans h4_43
          have h5_44 := (b44.block _ (lt_of_heap h5_43)).trans h5_43
          refine ⟨S44, ?_⟩
          simp only [Act.put, List.setIfInBounds_toArray, List.set_cons_zero, List.set_cons_succ]
          have st6 : (storeVar 40 ⟨z42, 0, none⟩ (.agg #[.int .i64 cx, .int .i64 cy])).run Tryz.prog u44 = .ok () (u44.setRow z42 #[.int .i64 cx, .int .i64 cy]) := run_storeVar_row _ _ 40 _ #[.int .i64 0, .int .i64 0] _ h4_44 info_cell rfl (by simp [Value.oneCell'])
          have hs6 := S44.setRow #[.int .i64 cx, .int .i64 cy] (g := z42) g4_42
          refine store_held 6 rfl (by kernel_rfl) (by kernel_rfl) _ (run_store_op 40 (.tmp 5) (.tmp 8) rfl z42 _ rfl rfl st6) hs6 ?_
          simp only [Act.put, List.setIfInBounds_toArray, List.set_cons_zero, List.set_cons_succ]
          have h56 : z34 ≠ z42 := ne42
          have m5 := (setRow_other u44 z42 z34 #[.int .i64 cx, .int .i64 cy] h56).trans h5_44
          have m4 := setRow_heap u44 z42 _ #[.int .i64 cx, .int .i64 cy] _ _ h4_44
          have st7 : (storeVar 40 ⟨z34, 0, none⟩ (.agg #[.int .i64 dx, .int .i64 dy])).run Tryz.prog (u44.setRow z42 #[.int .i64 cx, .int .i64 cy]) = .ok () ((u44.setRow z42 #[.int .i64 cx, .int .i64 cy]).setRow z34 #[.int .i64 dx, .int .i64 dy]) := run_storeVar_row _ _ 40 _ #[.int .i64 0, .int .i64 0] _ m5 info_cell rfl (by simp [Value.oneCell'])
          have hs7 := hs6.setRow #[.int .i64 dx, .int .i64 dy] (g := z34) g5_34
          refine store_held 7 rfl (by kernel_rfl) (by kernel_rfl) _ (run_store_op 40 (.tmp 6) (.tmp 10) rfl z34 _ rfl rfl st7) hs7 ?_
          simp only [Act.put, List.setIfInBounds_toArray, List.set_cons_zero, List.set_cons_succ]
          refine done_held (by kernel_rfl) ?_ _
          exact rest _ z42 z34 hs7 ((setRow_other _ _ _ _ h56.symm).trans m4) (setRow_heap _ _ _ _ _ _ m5)
end Go.Proofs.YtedhoghleelhfaaGreat.Grid
namespace Go.Proofs.YtedhoghleelhfaaGreat.Grid
set_option linter.unusedVariables false
set_option linter.unusedSimpArgs false
open Go Go.RowKit Go.Shelf Go.Proofs

attribute [local go_sem] Oper.semAt_some

/- The cells of a box, row by row. -/
def row (x0 y : Int) (i : Nat) : List Cell := (List.range i).map fun (k : Nat) => (x0 + (k : Int), y)
def rows (x0 y0 : Int) (m : Nat) (j : Nat) : List Cell := (List.range j).flatMap fun (k : Nat) => row x0 (y0 + (k : Int)) m
def boxList (x0 y0 x1 y1 : Int) : List Cell := rows x0 y0 (x1 + 1 - x0).toNat (y1 + 1 - y0).toNat
theorem row_succ (x0 y : Int) (i : Nat) : row x0 y (i + 1) = row x0 y i ++ [(x0 + (i : Int), y)] := by
  unfold row
  rw [List.range_succ, List.map_append]
  rfl
theorem rows_succ (x0 y0 : Int) (m j : Nat) : rows x0 y0 m (j + 1) = rows x0 y0 m j ++ row x0 (y0 + (j : Int)) m := by
  unfold rows
  rw [List.range_succ, List.flatMap_append]
  simp
theorem row_len (x0 y : Int) (i : Nat) : (row x0 y i).length = i := by simp [row]
theorem rows_len (x0 y0 : Int) (m j : Nat) : (rows x0 y0 m j).length = j * m := by
  induction j with
  | zero => simp [rows]
  | succ j ih => rw [rows_succ, List.length_append, ih, row_len, Nat.succ_mul]
theorem row_pre (x0 y : Int) {i m : Nat} (h : i ≤ m) : row x0 y i <+: row x0 y m := by
  induction m with
  | zero => rw [show i = 0 by omega]; exact List.prefix_rfl
  | succ m ih =>
    by_cases e : i = m + 1
    · rw [e]; exact List.prefix_rfl
    · rw [row_succ]; exact (ih (by omega)).trans (List.prefix_append _ _)
theorem rows_pre (x0 y0 : Int) (m : Nat) {j n : Nat} (h : j ≤ n) : rows x0 y0 m j <+: rows x0 y0 m n := by
  induction n with
  | zero => rw [show j = 0 by omega]; exact List.prefix_rfl
  | succ n ih =>
    by_cases e : j = n + 1
    · rw [e]; exact List.prefix_rfl
    · rw [rows_succ]; exact (ih (by omega)).trans (List.prefix_append _ _)
theorem mid_pre (x0 y0 : Int) {m j n i : Nat} (hj : j < n) (hi : i ≤ m) : rows x0 y0 m j ++ row x0 (y0 + (j : Int)) i <+: rows x0 y0 m n := by
  refine List.IsPrefix.trans ?_ (rows_pre x0 y0 m (show j + 1 ≤ n by omega))
  rw [rows_succ]
  exact (List.prefix_append_right_inj _).2 (row_pre x0 _ hi)
def KB (Bn : Nat) (W W' : World) : Prop := W'.heap[Bn]? = W.heap[Bn]?
theorem KB.trans {Bn : Nat} {A B C : World} (h : KB Bn A B) (h' : KB Bn B C) : KB Bn A C := Eq.trans h' h
def encC (c : Cell) : Array Value := #[.agg #[.int .i64 c.1, .int .i64 c.2]]
theorem grown_of_below {w w' : World} (h : Below w.heap.size w w') : w.grownBy w' none := ⟨h.os, h.tape, h.output, h.size, fun k hk _ => h.block k hk⟩

set_option maxRecDepth 100000 in
set_option maxHeartbeats 2000000 in
theorem cells1_in (n : Nat) (l Bn : Nat) (x0 y0 x1 y1 : Int) (hx0 : -1000 ≤ x0) (hy0 : -1000 ≤ y0) (hx1 : x1 ≤ 1000) (hy1 : y1 ≤ 1000) (J Jx : List Cell → World → Prop) (W : World) (fr : Nat × Nat)
    (hJ : AbidesFrom W.heap.size J)
    (hY : ∀ pre c W1, J pre W1 → pre.length < (boxList x0 y0 x1 y1).length → YieldAt Fence.wide (n - 1) Tryz.prog l (encC c) W1 fun e W' =>
      (e = .returned (.bool true) ∧ J (pre ++ [c]) W' ∧ KB Bn W1 W') ∨ (e = .returned (.bool false) ∧ Jx (pre ++ [c]) W'))
    (hn : 1 ≤ n) (hBn : W.heap[Bn]? = some (.cells #[.int .i64 x0, .int .i64 y0, .int .i64 x1, .int .i64 y1] 147 (0, 0))) (h0 : J [] W) :
    CallsIn Fence.wide n Tryz.prog 104 #[.func (.yield l) #[] #[], .pointer (some ⟨Bn, 0, none⟩)] W fun e W' => (∃ v, e = .returned v) ∧
      ((∃ ys : List Cell, ys = boxList x0 y0 x1 y1 ∧ J ys W') ∨ (∃ pre : List Cell, pre <+: boxList x0 y0 x1 y1 ∧ Jx pre W')) := by
  obtain ⟨m, hm⟩ : ∃ m : Nat, (x1 + 1 - x0).toNat = m := ⟨_, rfl⟩
  obtain ⟨h, hh⟩ : ∃ h : Nat, (y1 + 1 - y0).toNat = h := ⟨_, rfl⟩
  have HB : Hid (boxList x0 y0 x1 y1 = rows x0 y0 m h) := by unfold Hid boxList; rw [hm, hh]
  have HM : Hid ((x1 + 1 - x0).toNat = m) := hm
  have HH : Hid ((y1 + 1 - y0).toNat = h) := hh
  clear hm hh
  have HCell : Hid (∀ wr : World, KB Bn W wr → wr.cell? ⟨Bn, 0, none⟩ = some (.int .i64 x0) ∧ wr.cell? ⟨Bn, 1, none⟩ = some (.int .i64 y0) ∧ wr.cell? ⟨Bn, 2, none⟩ = some (.int .i64 x1) ∧ wr.cell? ⟨Bn, 3, none⟩ = some (.int .i64 y1)) := by
    intro wr hk
    have := Eq.trans hk hBn
    exact ⟨cell_of this 0, cell_of this 1, cell_of this 2, cell_of this 3⟩
  have cw0 := (HCell.out W rfl).2.1
  refine callsIn_of_wp Tryz.func104 rfl trivial ?_ rfl
  simp only [Tryz.ntmps104, List.size_toArray, List.length_cons, List.length_nil, Nat.reduceAdd, Nat.reduceSub, Array.replicate_succ, Array.replicate_zero, List.push_toArray, List.append_toArray, List.nil_append, List.cons_append]
  gi_wp2
  gi_loopw [3] (fun p wr => ∃ (j : Nat), p = .int .i64 (y0 + (j : Int)) ∧ (j = 0 ∨ y0 + (j : Int) ≤ y1 + 1) ∧ J (rows x0 y0 m j) wr ∧ KB Bn W wr)
    (fun p wr => (y1 + 1 - intOf p).toNat)
  case atStart => exact ⟨0, by simp, Or.inl rfl, h0, rfl⟩
  case round =>
    obtain ⟨j, rfl, hj, hJs, hk⟩ := hrel
    obtain ⟨q0, q1, q2, q3⟩ := HCell.out wr hk
    by_cases hlt : y0 + (j : Int) ≤ y1
    · have hjh : j < h := by have := HH.out; omega
      gi_wp2
      gi_loopw [4] (fun p wr => ∃ (i : Nat), p = .int .i64 (x0 + (i : Int)) ∧ (i = 0 ∨ x0 + (i : Int) ≤ x1 + 1) ∧ J (rows x0 y0 m j ++ row x0 (y0 + (j : Int)) i) wr ∧ KB Bn W wr)
        (fun p wr => (x1 + 1 - intOf p).toNat)
      case atStart => exact ⟨0, by simp, Or.inl rfl, by simpa [row] using hJs, hk⟩
      case round =>
        obtain ⟨i, rfl, hi, hJi, hki⟩ := hrel
        obtain ⟨r0, r1, r2, r3⟩ := HCell.out wr hki
        by_cases hlx : x0 + (i : Int) ≤ x1
        · have him : i < m := by have := HM.out; omega
          have HS : Hid (rows x0 y0 m j ++ row x0 (y0 + (j : Int)) (i + 1) = (rows x0 y0 m j ++ row x0 (y0 + (j : Int)) i) ++ [(x0 + (i : Int), y0 + (j : Int))]) := by show _ = _; rw [row_succ, List.append_assoc]
          have HP : Hid ((rows x0 y0 m j ++ row x0 (y0 + (j : Int)) i) ++ [(x0 + (i : Int), y0 + (j : Int))] <+: boxList x0 y0 x1 y1) := by
            show _ <+: _
            rw [← HS.out, HB.out]
            exact mid_pre x0 y0 hjh (by omega)
          have hY' := hY (rows x0 y0 m j ++ row x0 (y0 + (j : Int)) i) (x0 + (i : Int), y0 + (j : Int)) wr hJi (by have := HP.out.length_le; rw [List.length_append] at this; simp only [List.length_cons, List.length_nil] at this; omega)
          simp only [encC] at hY'
          obtain ⟨fn, tmps, assign, body, hyy, hR⟩ := hY'
          gi_wp2
          refine hR.mono ?_
          rintro e W3 (⟨rfl, hJ3, hk3⟩ | ⟨rfl, hJx3⟩)
          · gi_wp2
            go_roundw
            case rel =>
              refine ⟨i + 1, by go_num, by omega, ?_, hki.trans hk3⟩
              rw [HS.out]
              exact hJ3
            case measure => simp [intOf]; omega
          · gi_wp2
            exact bodyPost_ret (results_none rfl _ _ _) rfl ⟨⟨_, rfl⟩, .inr ⟨_, HP.out, hJx3⟩⟩
        · have hie : Hid (i = m) := by show i = m; have := HM.out; omega
          gi_wp2
          go_roundw
          case rel =>
            refine ⟨j + 1, by go_num, by omega, ?_, hki⟩
            rw [rows_succ]
            have := hJi
            rw [show row x0 (y0 + (j : Int)) i = row x0 (y0 + (j : Int)) m by rw [hie.out]] at this
            exact this
          case measure => simp [intOf]; omega
    · have hje : Hid (j = h) := by show j = h; have := HH.out; omega
      gi_wp2
      go_end0
      exact ⟨⟨_, rfl⟩, .inl (by rw [HB.out, ← hje.out]; exact hJs)⟩
/- The iterator, as whatever ranges over it takes it. -/
theorem cells_stops (n : Nat) (hn : 1 ≤ n) (Bn : Nat) (x0 y0 x1 y1 : Int) (hx0 : -1000 ≤ x0) (hy0 : -1000 ≤ y0) (hx1 : x1 ≤ 1000) (hy1 : y1 ≤ 1000) (w : World) (hBn : w.heap[Bn]? = some (.cells #[.int .i64 x0, .int .i64 y0, .int .i64 x1, .int .i64 y1] 147 (0, 0))) :
    SeqStopsK Fence.wide n Tryz.prog 104 #[.pointer (some ⟨Bn, 0, none⟩)] encC (KB Bn) (fun ys => ys = boxList x0 y0 x1 y1) (fun pre => pre <+: boxList x0 y0 x1 y1) (boxList x0 y0 x1 y1).length w := by
  intro l J Jx W hW hJ hJx hY h0
  exact cells1_in n l Bn x0 y0 x1 y1 hx0 hy0 hx1 hy1 J Jx W (0, 0) hJ hY hn ((hW.block _ (lt_of_heap hBn)).trans hBn) h0
theorem cells_any (a b c d : Int) (w : World) : Calls Tryz.prog 91 #[.agg #[.int .i64 a, .int .i64 b, .int .i64 c, .int .i64 d]] w fun e w' => e = .returned (.func (.func 104) #[] #[.pointer (some ⟨w.heap.size, 0, none⟩)]) ∧ w' = w.alloc (.cells #[.int .i64 a, .int .i64 b, .int .i64 c, .int .i64 d] 147) := by
  go_enter Tryz.func91, Tryz.ntmps91
  go_wp2
  go_ret
  exact ⟨rfl, rfl⟩
end Go.Proofs.YtedhoghleelhfaaGreat.Grid
namespace Go.Proofs.YtedhoghleelhfaaGreat.Grid
set_option linter.unusedVariables false
set_option linter.unusedSimpArgs false
open Go Go.RowKit Go.Shelf Go.Proofs

attribute [local go_sem] Oper.semAt_some

theorem eqPose (x y x' y' : Int) (d d' : Bool) (w : World) : (Op.equalIn 10000 42 (.agg #[.int .i64 x, .int .i64 y, .bool d]) (.agg #[.int .i64 x', .int .i64 y', .bool d'])).run Tryz.prog w = .ok (decide (((x, y), d) = ((x', y'), d'))) w := by
  go_simp
  repeat' split
  all_goals simp_all
def boxOf (a b : Pose) : List Cell := boxList (spanP a b).1.1 (spanP a b).1.2 (spanP a b).2.1 (spanP a b).2.2
def legalU (W H : Int) (us : List Int) (m : Move) : Bool :=
  (leadsP m.1 m.2.1 m.2.2.1 m.2.2.2.1).2 && decide (m.2.2.2.2.1 = (leadsP m.1 m.2.1 m.2.2.1 m.2.2.2.1).1) && fitsU W H us m.2.2.2.1 && (boxOf m.2.2.2.1 (leadsP m.1 m.2.1 m.2.2.1 m.2.2.2.1).1).all (openU W H us)
/- Three boxes at the beginning, and what was made behind them. -/
theorem three_frame (w : World) (c1 : Array Value) (t1 : TypeId) (c2 : Array Value) (t2 : TypeId) (c3 : Array Value) (t3 : TypeId) (w1 : World) (b1 : Below (((w.alloc (.cells c1 t1)).alloc (.cells c2 t2)).alloc (.cells c3 t3)).heap.size (((w.alloc (.cells c1 t1)).alloc (.cells c2 t2)).alloc (.cells c3 t3)) w1) :
    Below w.heap.size w w1 ∧ w1.heap[w.heap.size]? = some (.cells c1 t1 (0, 0)) ∧ w1.heap[w.heap.size + 1]? = some (.cells c2 t2 (0, 0)) ∧ w1.heap[w.heap.size + 1 + 1]? = some (.cells c3 t3 (0, 0)) ∧ w.heap.size + 3 ≤ w1.heap.size := by
  have hs2 : ((w.alloc (.cells c1 t1)).alloc (.cells c2 t2)).heap.size = w.heap.size + 2 := by simp
  have hs : (((w.alloc (.cells c1 t1)).alloc (.cells c2 t2)).alloc (.cells c3 t3)).heap.size = w.heap.size + 3 := by simp
  refine ⟨(below_new (below_two _ _ _) _).trans (b1.mono (by rw [hs]; omega)), (b1.block _ (by rw [hs]; omega)).trans ((alloc_old _ _ _ (by rw [hs2]; omega)).trans ((alloc_old _ _ _ (by simp)).trans (heap_alloc_new w _))), (b1.block _ (by rw [hs]; omega)).trans ((alloc_old _ _ _ (by rw [hs2]; omega)).trans (heap_new2 _ _ _)), ?_, ?_⟩
  · refine (b1.block _ (by rw [hs]; omega)).trans ?_
    have := heap_alloc_new ((w.alloc (.cells c1 t1)).alloc (.cells c2 t2)) (.cells c3 t3)
    rwa [hs2] at this
  · have := b1.size
    omega
/- A result that lies in a block of its own. -/
theorem res_bool {fn : Func} {p : Tmp} (h : fn.results = #[.cell p 4]) {tmps : Array Value} {w : World} {N : Nat} {b : Bool} (hp : tmps.getD p undef = .pointer (some ⟨N, 0, none⟩)) (hg : w.heap[N]? = some (.cells #[.bool b] 4 (0, 0))) : (results fn tmps).run Tryz.prog w = .ok (.bool b) w := by
  have hp' : tmps[p]?.getD undef = .pointer (some ⟨N, 0, none⟩) := by simpa using hp
  have hc : w.cell? ⟨N, 0, none⟩ = some (.bool b) := cell_of hg 0
  have hl : (loadVar 4 ⟨N, 0, none⟩).run Tryz.prog w = .ok (.bool b) w := by simp [loadVar, isAgg, go_sem, hc, Tryz.underlying4]
  simp [results, h, hp', asAddr, hl]
theorem set_same {w : World} {N : Nat} {a b : Bool} (h : w.heap[N]? = some (.cells #[.bool a] 4 (0, 0))) : (w.setCell ⟨N, 0, none⟩ (.bool b)).heap[N]? = some (.cells #[.bool b] 4 (0, 0)) := by
  rw [heap_setCell_same _ _ _ _ _ _ h]; rfl
set_option maxRecDepth 100000 in
set_option maxHeartbeats 2000000 in
/- Where it is refused ahead of the cells. -/
theorem legal_no (g u : Nat) (W H : Int) (us : List Int) (vp : Value) (kd dir n fx fy : Int) (fd : Bool) (tx ty : Int) (td : Bool) (ma me : Int) (w : World) (hG : GridAt w g u W H us vp)
    (hno : ((leadsP kd dir n ((fx, fy), fd)).2 && decide (((tx, ty), td) = (leadsP kd dir n ((fx, fy), fd)).1) && fitsU W H us ((fx, fy), fd)) = false) :
    CallsIn Fence.wide 9 Tryz.prog 76 #[.pointer (some ⟨g, 0, none⟩), .agg #[.int .i64 kd, .int .i64 dir, .int .i64 n, .int .i64 fx, .int .i64 fy, .bool fd, .int .i64 tx, .int .i64 ty, .bool td, .int .i64 ma, .int .i64 me]] w fun e w' => e = .returned (.bool false) ∧ Below w.heap.size w w' := by
  have cL := fun u => leads_any (.pointer (some ⟨g, 0, none⟩)) kd dir n fx fy fd tx ty td ma me u
  have cF := fun wx (hb : Below w.heap.size w wx) => fits_any g u W H us vp fx fy fd wx (hG.go hb)
  generalize (leadsP kd dir n ((fx, fy), fd)).2 = ok at *
  generalize (leadsP kd dir n ((fx, fy), fd)).1 = to at *
  obtain ⟨⟨px, py⟩, pd⟩ := to
  unfold poseCs at cL
  simp only at cL
  generalize fitsU W H us ((fx, fy), fd) = ft at *
  have eP := fun w => eqPose tx ty px py td pd w
  generalize decide (((tx, ty), td) = ((px, py), pd)) = eq at *
  refine callsIn_of_wp_marks Tryz.func76 rfl trivial ?_ rfl
  simp only [Tryz.ntmps76, List.size_toArray, List.length_cons, List.length_nil, Nat.reduceAdd, Nat.reduceSub, Array.replicate_succ, Array.replicate_zero, List.push_toArray, List.append_toArray, List.nil_append, List.cons_append]
  cases ok
  · gi_wp2_with (first
      | (refine ⟨trivial, ?_⟩; gi_at_call 88; refine (callsIn_wide.2 (cL _)).mono ?_; rintro e w1 ⟨rfl, b1⟩; obtain ⟨B1, m0, m1, m2, s1⟩ := three_frame w _ _ _ _ _ _ w1 b1; clear b1; have M0 := (alloc_old w1 (.cells #[.int .i64 px, .int .i64 py, .bool pd] 42) (w.heap.size) (by omega)).trans m0; have M1 := (alloc_old w1 (.cells #[.int .i64 px, .int .i64 py, .bool pd] 42) (w.heap.size + 1) (by omega)).trans m1; have M2 := (alloc_old w1 (.cells #[.int .i64 px, .int .i64 py, .bool pd] 42) (w.heap.size + 1 + 1) (by omega)).trans m2; have g0 : (w1.alloc (.cells #[.int .i64 px, .int .i64 py, .bool pd] 42)).cell? ⟨w.heap.size, 0, none⟩ = some (.pointer (some ⟨g, 0, none⟩)) := cell_of M0 0; have q3 : (w1.alloc (.cells #[.int .i64 px, .int .i64 py, .bool pd] 42)).cell? ⟨w.heap.size + 1, 3, none⟩ = some (.int .i64 fx) := cell_of M1 3; have q4 : (w1.alloc (.cells #[.int .i64 px, .int .i64 py, .bool pd] 42)).cell? ⟨w.heap.size + 1, 4, none⟩ = some (.int .i64 fy) := cell_of M1 4; have q5 : (w1.alloc (.cells #[.int .i64 px, .int .i64 py, .bool pd] 42)).cell? ⟨w.heap.size + 1, 5, none⟩ = some (.bool fd) := cell_of M1 5; have q6 : (w1.alloc (.cells #[.int .i64 px, .int .i64 py, .bool pd] 42)).cell? ⟨w.heap.size + 1, 6, none⟩ = some (.int .i64 tx) := cell_of M1 6; have q7 : (w1.alloc (.cells #[.int .i64 px, .int .i64 py, .bool pd] 42)).cell? ⟨w.heap.size + 1, 7, none⟩ = some (.int .i64 ty) := cell_of M1 7; have q8 : (w1.alloc (.cells #[.int .i64 px, .int .i64 py, .bool pd] 42)).cell? ⟨w.heap.size + 1, 8, none⟩ = some (.bool td) := cell_of M1 8; have R2 : (w1.alloc (.cells #[.int .i64 px, .int .i64 py, .bool pd] 42)).cell? ⟨w.heap.size + 1 + 1, 0, none⟩ = some (.bool false) := cell_of M2 0; have Z2 := frozen_of M2 0; clear m0 m1)
      | (refine ⟨trivial, ?_⟩))
    exact ⟨_, res_bool rfl rfl (set_same M2), rfl, below_set (below_new B1 _) (by omega) _ _⟩
  · cases eq
    · gi_wp2_with (first
        | (refine ⟨trivial, ?_⟩; gi_at_call 88; refine (callsIn_wide.2 (cL _)).mono ?_; rintro e w1 ⟨rfl, b1⟩; obtain ⟨B1, m0, m1, m2, s1⟩ := three_frame w _ _ _ _ _ _ w1 b1; clear b1; have M0 := (alloc_old w1 (.cells #[.int .i64 px, .int .i64 py, .bool pd] 42) (w.heap.size) (by omega)).trans m0; have M1 := (alloc_old w1 (.cells #[.int .i64 px, .int .i64 py, .bool pd] 42) (w.heap.size + 1) (by omega)).trans m1; have M2 := (alloc_old w1 (.cells #[.int .i64 px, .int .i64 py, .bool pd] 42) (w.heap.size + 1 + 1) (by omega)).trans m2; have g0 : (w1.alloc (.cells #[.int .i64 px, .int .i64 py, .bool pd] 42)).cell? ⟨w.heap.size, 0, none⟩ = some (.pointer (some ⟨g, 0, none⟩)) := cell_of M0 0; have q3 : (w1.alloc (.cells #[.int .i64 px, .int .i64 py, .bool pd] 42)).cell? ⟨w.heap.size + 1, 3, none⟩ = some (.int .i64 fx) := cell_of M1 3; have q4 : (w1.alloc (.cells #[.int .i64 px, .int .i64 py, .bool pd] 42)).cell? ⟨w.heap.size + 1, 4, none⟩ = some (.int .i64 fy) := cell_of M1 4; have q5 : (w1.alloc (.cells #[.int .i64 px, .int .i64 py, .bool pd] 42)).cell? ⟨w.heap.size + 1, 5, none⟩ = some (.bool fd) := cell_of M1 5; have q6 : (w1.alloc (.cells #[.int .i64 px, .int .i64 py, .bool pd] 42)).cell? ⟨w.heap.size + 1, 6, none⟩ = some (.int .i64 tx) := cell_of M1 6; have q7 : (w1.alloc (.cells #[.int .i64 px, .int .i64 py, .bool pd] 42)).cell? ⟨w.heap.size + 1, 7, none⟩ = some (.int .i64 ty) := cell_of M1 7; have q8 : (w1.alloc (.cells #[.int .i64 px, .int .i64 py, .bool pd] 42)).cell? ⟨w.heap.size + 1, 8, none⟩ = some (.bool td) := cell_of M1 8; have R2 : (w1.alloc (.cells #[.int .i64 px, .int .i64 py, .bool pd] 42)).cell? ⟨w.heap.size + 1 + 1, 0, none⟩ = some (.bool false) := cell_of M2 0; have Z2 := frozen_of M2 0; clear m0 m1)
        | (refine ⟨trivial, ?_⟩))
      exact ⟨_, res_bool rfl rfl (set_same M2), rfl, below_set (below_new B1 _) (by omega) _ _⟩
    · obtain rfl : ft = false := by simpa using hno
      gi_wp2_with (first
        | (refine ⟨trivial, ?_⟩; gi_at_call 88; refine (callsIn_wide.2 (cL _)).mono ?_; rintro e w1 ⟨rfl, b1⟩; obtain ⟨B1, m0, m1, m2, s1⟩ := three_frame w _ _ _ _ _ _ w1 b1; clear b1; have M0 := (alloc_old w1 (.cells #[.int .i64 px, .int .i64 py, .bool pd] 42) (w.heap.size) (by omega)).trans m0; have M1 := (alloc_old w1 (.cells #[.int .i64 px, .int .i64 py, .bool pd] 42) (w.heap.size + 1) (by omega)).trans m1; have M2 := (alloc_old w1 (.cells #[.int .i64 px, .int .i64 py, .bool pd] 42) (w.heap.size + 1 + 1) (by omega)).trans m2; have g0 : (w1.alloc (.cells #[.int .i64 px, .int .i64 py, .bool pd] 42)).cell? ⟨w.heap.size, 0, none⟩ = some (.pointer (some ⟨g, 0, none⟩)) := cell_of M0 0; have q3 : (w1.alloc (.cells #[.int .i64 px, .int .i64 py, .bool pd] 42)).cell? ⟨w.heap.size + 1, 3, none⟩ = some (.int .i64 fx) := cell_of M1 3; have q4 : (w1.alloc (.cells #[.int .i64 px, .int .i64 py, .bool pd] 42)).cell? ⟨w.heap.size + 1, 4, none⟩ = some (.int .i64 fy) := cell_of M1 4; have q5 : (w1.alloc (.cells #[.int .i64 px, .int .i64 py, .bool pd] 42)).cell? ⟨w.heap.size + 1, 5, none⟩ = some (.bool fd) := cell_of M1 5; have q6 : (w1.alloc (.cells #[.int .i64 px, .int .i64 py, .bool pd] 42)).cell? ⟨w.heap.size + 1, 6, none⟩ = some (.int .i64 tx) := cell_of M1 6; have q7 : (w1.alloc (.cells #[.int .i64 px, .int .i64 py, .bool pd] 42)).cell? ⟨w.heap.size + 1, 7, none⟩ = some (.int .i64 ty) := cell_of M1 7; have q8 : (w1.alloc (.cells #[.int .i64 px, .int .i64 py, .bool pd] 42)).cell? ⟨w.heap.size + 1, 8, none⟩ = some (.bool td) := cell_of M1 8; have R2 : (w1.alloc (.cells #[.int .i64 px, .int .i64 py, .bool pd] 42)).cell? ⟨w.heap.size + 1 + 1, 0, none⟩ = some (.bool false) := cell_of M2 0; have Z2 := frozen_of M2 0; clear m0 m1)
        | (refine ⟨trivial, ?_⟩; gi_at_call 89; refine (callsIn_wide.2 (cF _ (below_new B1 _))).mono ?_; rintro e w2 ⟨rfl, b2⟩; have B2 := bcat (below_new B1 _) b2 (Nat.le_refl _); have M3 := (b2.block (w.heap.size + 1 + 1) (lt_of_heap M2)).trans M2; have r3 : w2.cell? ⟨w.heap.size + 1 + 1, 0, none⟩ = some (.bool false) := cell_of M3 0; have z3 := frozen_of M3 0)
        | (refine ⟨trivial, ?_⟩))
      exact ⟨_, res_bool rfl rfl (set_same M3), rfl, below_set B2 (by omega) _ _⟩

theorem all_pre {α : Type} {f : α → Bool} {p l : List α} (h : p <+: l) (hp : p.all f = false) : l.all f = false := by
  obtain ⟨r, rfl⟩ := h
  rw [List.all_append, hp, Bool.false_and]
theorem keeps_below (B : Nat) {w w' : World} (h : Below w.heap.size w w') : KeepsFrom B w w' := ⟨h.size, fun k o _ hk ho => (h.block k (lt_of_heap hk)).trans hk⟩
theorem below_same {B N : Nat} {w w' : World} (h : Below B w w') (hN : w'.heap[N]? = some (.cells #[.bool false] 4 (0, 0))) : Below B w (w'.setCell ⟨N, 0, none⟩ (.bool false)) := by
  refine ⟨h.os, h.tape, h.output, by simp; exact h.size, fun k hk => ?_⟩
  by_cases e : k = N
  · subst e; rw [set_same hN, ← h.block k hk, hN]
  · rw [heap_setCell_other _ _ _ _ e]; exact h.block k hk
set_option maxRecDepth 100000 in
set_option maxHeartbeats 2000000 in
/- Where the cells are gone through. -/
theorem legal_go (g u : Nat) (W H : Int) (us : List Int) (vp : Value) (kd dir n fx fy : Int) (fd : Bool) (tx ty : Int) (td : Bool) (ma me : Int) (w : World) (hG : GridAt w g u W H us vp) (px py : Int) (pd : Bool) (x0 y0 x1 y1 : Int)
    (hto : leadsP kd dir n ((fx, fy), fd) = (((px, py), pd), true)) (heq : ((tx, ty), td) = ((px, py), pd)) (hft : fitsU W H us ((fx, fy), fd) = true) (hsp : spanP ((fx, fy), fd) ((px, py), pd) = ((x0, y0), (x1, y1))) (hx0 : -1000 ≤ x0) (hy0 : -1000 ≤ y0) (hx1 : x1 ≤ 1000) (hy1 : y1 ≤ 1000) :
    CallsIn Fence.wide 9 Tryz.prog 76 #[.pointer (some ⟨g, 0, none⟩), .agg #[.int .i64 kd, .int .i64 dir, .int .i64 n, .int .i64 fx, .int .i64 fy, .bool fd, .int .i64 tx, .int .i64 ty, .bool td, .int .i64 ma, .int .i64 me]] w fun e w' => e = .returned (.bool ((boxList x0 y0 x1 y1).all (openU W H us))) ∧ Below w.heap.size w w' := by
  have cL := fun u => leads_any (.pointer (some ⟨g, 0, none⟩)) kd dir n fx fy fd tx ty td ma me u
  have cF := fun wx (hb : Below w.heap.size w wx) => fits_any g u W H us vp fx fy fd wx (hG.go hb)
  have cS := fun u => span_any fx fy fd px py pd u
  rw [hto] at cL
  rw [hft] at cF
  rw [hsp] at cS
  unfold poseCs at cL
  simp only at cL cS
  have eP := fun w => eqPose tx ty px py td pd w
  rw [decide_eq_true heq] at eP
  clear hto heq hft hsp
  refine callsIn_of_wp_marks Tryz.func76 rfl trivial ?_ rfl
  simp only [Tryz.ntmps76, List.size_toArray, List.length_cons, List.length_nil, Nat.reduceAdd, Nat.reduceSub, Array.replicate_succ, Array.replicate_zero, List.push_toArray, List.append_toArray, List.nil_append, List.cons_append]
  gi_wp2_with (first
    | (refine ⟨trivial, ?_⟩; gi_at_call 88; refine (callsIn_wide.2 (cL _)).mono ?_; rintro e w1 ⟨rfl, b1⟩; obtain ⟨B1, m0, m1, m2, s1⟩ := three_frame w _ _ _ _ _ _ w1 b1; clear b1; have M0 := (alloc_old w1 (.cells #[.int .i64 px, .int .i64 py, .bool pd] 42) (w.heap.size) (by omega)).trans m0; have M1 := (alloc_old w1 (.cells #[.int .i64 px, .int .i64 py, .bool pd] 42) (w.heap.size + 1) (by omega)).trans m1; have M2 := (alloc_old w1 (.cells #[.int .i64 px, .int .i64 py, .bool pd] 42) (w.heap.size + 1 + 1) (by omega)).trans m2; have g0 : (w1.alloc (.cells #[.int .i64 px, .int .i64 py, .bool pd] 42)).cell? ⟨w.heap.size, 0, none⟩ = some (.pointer (some ⟨g, 0, none⟩)) := cell_of M0 0; have q3 : (w1.alloc (.cells #[.int .i64 px, .int .i64 py, .bool pd] 42)).cell? ⟨w.heap.size + 1, 3, none⟩ = some (.int .i64 fx) := cell_of M1 3; have q4 : (w1.alloc (.cells #[.int .i64 px, .int .i64 py, .bool pd] 42)).cell? ⟨w.heap.size + 1, 4, none⟩ = some (.int .i64 fy) := cell_of M1 4; have q5 : (w1.alloc (.cells #[.int .i64 px, .int .i64 py, .bool pd] 42)).cell? ⟨w.heap.size + 1, 5, none⟩ = some (.bool fd) := cell_of M1 5; have q6 : (w1.alloc (.cells #[.int .i64 px, .int .i64 py, .bool pd] 42)).cell? ⟨w.heap.size + 1, 6, none⟩ = some (.int .i64 tx) := cell_of M1 6; have q7 : (w1.alloc (.cells #[.int .i64 px, .int .i64 py, .bool pd] 42)).cell? ⟨w.heap.size + 1, 7, none⟩ = some (.int .i64 ty) := cell_of M1 7; have q8 : (w1.alloc (.cells #[.int .i64 px, .int .i64 py, .bool pd] 42)).cell? ⟨w.heap.size + 1, 8, none⟩ = some (.bool td) := cell_of M1 8; have R2 : (w1.alloc (.cells #[.int .i64 px, .int .i64 py, .bool pd] 42)).cell? ⟨w.heap.size + 1 + 1, 0, none⟩ = some (.bool false) := cell_of M2 0; have Z2 := frozen_of M2 0; clear m0 m1)
    | (refine ⟨trivial, ?_⟩; gi_at_call 89; refine (callsIn_wide.2 (cF _ (below_new B1 _))).mono ?_; rintro e w2 ⟨rfl, b2⟩; have B2 := bcat (below_new B1 _) b2 (Nat.le_refl _); have N0 := (b2.block _ (lt_of_heap M0)).trans M0; have N1 := (b2.block _ (lt_of_heap M1)).trans M1; have N2 := (b2.block _ (lt_of_heap M2)).trans M2; have N3 := (b2.block _ (by simp)).trans (heap_alloc_new w1 (.cells #[.int .i64 px, .int .i64 py, .bool pd] 42)); have p3 : w2.cell? ⟨w.heap.size + 1, 3, none⟩ = some (.int .i64 fx) := cell_of N1 3; have p4 : w2.cell? ⟨w.heap.size + 1, 4, none⟩ = some (.int .i64 fy) := cell_of N1 4; have p5 : w2.cell? ⟨w.heap.size + 1, 5, none⟩ = some (.bool fd) := cell_of N1 5; have o0 : w2.cell? ⟨w1.heap.size, 0, none⟩ = some (.int .i64 px) := cell_of N3 0; have o1 : w2.cell? ⟨w1.heap.size, 1, none⟩ = some (.int .i64 py) := cell_of N3 1; have o2 : w2.cell? ⟨w1.heap.size, 2, none⟩ = some (.bool pd) := cell_of N3 2)
    | (refine ⟨trivial, ?_⟩; gi_at_call 90; refine (callsIn_wide.2 (cS _)).mono ?_; rintro e w3 ⟨rfl, b3⟩)
    | (refine ⟨trivial, ?_⟩; gi_at_call 91; refine (callsIn_wide.2 (cells_any x0 y0 x1 y1 w3)).mono ?_; rintro e w4 ⟨rfl, rfl⟩)
    | (refine ⟨trivial, ?_⟩))
  have B3 := bcat B2 b3 (Nat.le_refl _)
  have O0 := (alloc_old w3 (.cells #[.int .i64 x0, .int .i64 y0, .int .i64 x1, .int .i64 y1] 147) _ (by have := b3.size; have := lt_of_heap N0; omega)).trans ((b3.block _ (lt_of_heap N0)).trans N0)
  have O2 := (alloc_old w3 (.cells #[.int .i64 x0, .int .i64 y0, .int .i64 x1, .int .i64 y1] 147) _ (by have := b3.size; have := lt_of_heap N2; omega)).trans ((b3.block _ (lt_of_heap N2)).trans N2)
  have OB := heap_alloc_new w3 (.cells #[.int .i64 x0, .int .i64 y0, .int .i64 x1, .int .i64 y1] 147)
  have BV : Below w.heap.size w (w3.alloc (.cells #[.int .i64 x0, .int .i64 y0, .int .i64 x1, .int .i64 y1] 147)) := below_new B3 _
  obtain ⟨Bn, hBn⟩ : ∃ Bn, w3.heap.size = Bn := ⟨_, rfl⟩
  have sV : (w3.alloc (.cells #[.int .i64 x0, .int .i64 y0, .int .i64 x1, .int .i64 y1] 147)).heap.size = Bn + 1 := by rw [← hBn]; simp
  have hwB : w.heap.size + 1 + 1 < Bn := by rw [← hBn]; have := b3.size; have := lt_of_heap N2; omega
  generalize hV : w3.alloc (.cells #[.int .i64 x0, .int .i64 y0, .int .i64 x1, .int .i64 y1] 147) = V at *
  rw [hBn] at OB ⊢
  clear hV b3 b2 N0 N1 N2 N3 M0 M1 M2 p3 p4 p5 o0 o1 o2 q3 q4 q5 q6 q7 q8 g0 R2 Z2
  have hGV := hG.go BV
  refine wpIn_rangeFunc_ownH rfl (by omega) (gf := 104) (lb := #[.pointer (some ⟨Bn, 0, none⟩)]) rfl trivial (enters_of Tryz.func104 (by kernel_rfl) rfl)
    (cells_stops 8 (by omega) Bn x0 y0 x1 y1 hx0 hy0 hx1 hy1 V OB) KB.trans ?kb (Below.refl _ _) (fun _ => rfl)
    (fun pre V' => Below V.heap.size V V' ∧ pre.all (openU W H us) = true) (fun c pre V' => Below V.heap.size V V' ∧ pre.all (openU W H us) = false ∧ c = .ret)
    (fun pre X Y row h hg hr => ⟨h.1.grown hg h.1.size (fun k e => (hr k e).1), h.2⟩) (fun c pre X Y row h hg hr => ⟨h.1.grown hg h.1.size (fun k e => (hr k e).1), h.2⟩)
    ⟨Below.refl _ _, rfl⟩
    (fun x a' V' => ∃ Bx, V.heap.size ≤ Bx ∧ V'.heap[Bx]? = some (.cells #[.int .i64 x.1, .int .i64 x.2] 40 (0, 0)) ∧ a' = { tmps := #[.pointer (some ⟨g, 0, none⟩), .agg #[.int .i64 kd, .int .i64 dir, .int .i64 n, .int .i64 fx, .int .i64 fy, .bool fd, .int .i64 tx, .int .i64 ty, .bool td, .int .i64 ma, .int .i64 me], .pointer (some ⟨w.heap.size, 0, none⟩), .pointer (some ⟨w.heap.size + 1, 0, none⟩), .pointer (some ⟨w.heap.size + 1 + 1, 0, none⟩), .pointer (some ⟨w1.heap.size, 0, none⟩), .bool true, .pointer (some ⟨Bx, 0, none⟩), .tuple #[.agg #[.int .i64 px, .int .i64 py, .bool pd], .bool true], .pointer (some ⟨g, 0, none⟩), .agg #[.int .i64 kd, .int .i64 dir, .int .i64 n, .int .i64 fx, .int .i64 fy, .bool fd, .int .i64 tx, .int .i64 ty, .bool td, .int .i64 ma, .int .i64 me], .tuple #[.agg #[.int .i64 px, .int .i64 py, .bool pd], .bool true], .agg #[.int .i64 px, .int .i64 py, .bool pd], .bool true, .bool true, .bool false, .bool false, .pointer (some ⟨w.heap.size + 1, 6, none⟩), .agg #[.int .i64 tx, .int .i64 ty, .bool td], .agg #[.int .i64 px, .int .i64 py, .bool pd], .bool false, .bool false, .bool false, .pointer (some ⟨g, 0, none⟩), .pointer (some ⟨w.heap.size + 1, 3, none⟩), .agg #[.int .i64 fx, .int .i64 fy, .bool fd], .bool true, .bool false, .bool false, .pointer (some ⟨w.heap.size + 1, 3, none⟩), .agg #[.int .i64 fx, .int .i64 fy, .bool fd], .agg #[.int .i64 px, .int .i64 py, .bool pd], .agg #[.int .i64 x0, .int .i64 y0, .int .i64 x1, .int .i64 y1], .func (.func 104) #[] #[.pointer (some ⟨Bn, 0, none⟩)], .agg #[.int .i64 x.1, .int .i64 x.2], undef, undef, undef, undef], defers := [] })
    (fun x a' _ X Y row h hg hr => by
      obtain ⟨Bx, h1, h2, h3⟩ := h
      refine ⟨Bx, h1, (hg.block Bx (lt_of_heap h2) (fun e => ?_)).trans h2, h3⟩
      obtain ⟨o, ho, hc⟩ := (hr Bx e.symm).2
      rw [h2] at ho; cases ho; cases hc)
    ?assign ?body ?done ?stop
  case kb =>
    intro W' l o o' hl ho _ _
    exact (grownBy_putObj' W' l o').block _ (by have := (Array.getElem?_eq_some_iff.1 ho).1; omega) (fun e => by cases e; omega)
  case assign =>
    rintro l pre x V' K ⟨hb, hp⟩ hK
    simp only [encC]
    gi_wp2
    exact hK _ _ ((KeepsOthers.alloc _ _).from _) (alloc_old _ _ _ (by have := hb.size; omega)) ⟨below_new hb _, hp⟩ ⟨V'.heap.size, hb.size, heap_alloc_new _ _, rfl⟩
  case body =>
    rintro l pre x a' V' hl hr ⟨hb, hp⟩ ⟨Bx, hBx, hx, rfl⟩ hlt
    have d0 : V'.cell? ⟨w.heap.size, 0, none⟩ = some (.pointer (some ⟨g, 0, none⟩)) := cell_of ((hb.block _ (lt_of_heap O0)).trans O0) 0
    have dx0 : V'.cell? ⟨Bx, 0, none⟩ = some (.int .i64 x.1) := cell_of hx 0
    have dx1 : V'.cell? ⟨Bx, 1, none⟩ = some (.int .i64 x.2) := cell_of hx 1
    have cO := open_any g u W H us vp x.1 x.2 V' (hGV.go hb)
    have HP : Hid (∀ b, openU W H us x = b → (pre ++ [x]).all (openU W H us) = b) := fun b e => by rw [List.all_append, hp, Bool.true_and]; simp [e]
    have HX : Hid (openU W H us (x.1, x.2) = openU W H us x) := rfl
    cases ho : openU W H us (x.1, x.2)
    · rw [ho] at cO
      have HQ := HP.out false (by rw [← HX.out]; exact ho)
      gi_wp2_with (refine ⟨trivial, ?_⟩; gi_at_call 84; refine (CallsIn.inRound l (callsIn_wide.2 cO)).mono ?_; rintro e v1 ⟨rfl, b1⟩; have D2 := (b1.block _ (by have := hb.size; omega)).trans ((hb.block _ (lt_of_heap O2)).trans O2); have r3 : v1.cell? ⟨w.heap.size + 1 + 1, 0, none⟩ = some (.bool false) := cell_of D2 0; have z3 := frozen_of D2 0)
      exact ⟨(keeps_below _ b1).trans ((KeepsOthers.setCell _ _ _).from _), below_same (bcat hb b1 (Nat.le_refl _)) D2, HQ, rfl⟩
    · rw [ho] at cO
      have HQ := HP.out true (by rw [← HX.out]; exact ho)
      gi_wp2_with (refine ⟨trivial, ?_⟩; gi_at_call 84; refine (CallsIn.inRound l (callsIn_wide.2 cO)).mono ?_; rintro e v1 ⟨rfl, b1⟩)
      exact ⟨keeps_below _ b1, b1.block _ (by have := hb.size; omega), bcat hb b1 (Nat.le_refl _), HQ⟩
  case done =>
    rintro D ys V' hD hS ⟨hb, hp⟩ hK
    subst hS
    have D2 := (hb.block _ (lt_of_heap O2)).trans O2
    have r3 : V'.cell? ⟨w.heap.size + 1 + 1, 0, none⟩ = some (.bool false) := cell_of D2 0
    have z3 := frozen_of D2 0
    gi_wp2
    have hD2 : w.heap.size + 1 + 1 ≠ D := by omega
    have q1 : (V'.setCell ⟨w.heap.size + 1 + 1, 0, none⟩ (.bool true)).heap[D]? = some (.deferred (some [])) := (heap_setCell_other _ _ _ _ (fun e => hD2 e.symm)).trans hK
    refine ⟨by simp, .inl ⟨_, _, rfl, run_takeDeferred q1, ?_⟩⟩
    have gp := grownBy_putObj' (V'.setCell ⟨w.heap.size + 1 + 1, 0, none⟩ (.bool true)) D (.deferred none)
    have q2 := (gp.block _ (lt_of_heap (set_same (b := true) D2)) (fun e => by cases e; omega)).trans (set_same (b := true) D2)
    exact ⟨_, res_bool rfl rfl q2, by rw [hp], (below_set (bcat BV hb (by have := BV.size; omega)) (by omega) _ _).grown gp (by have := (below_set (bcat BV hb (by have := BV.size; omega)) (show w.heap.size ≤ w.heap.size + 1 + 1 by omega) 0 (.bool true)).size; exact this) (fun k e => by cases e; have := BV.size; omega)⟩
  case stop =>
    rintro D c pre V' hD hpre ⟨hb, hp, rfl⟩ hK
    have D2 := (hb.block _ (lt_of_heap O2)).trans O2
    gi_wp2
    refine ⟨by simp, .inl ⟨_, _, rfl, run_takeDeferred hK, ?_⟩⟩
    have gp := grownBy_putObj' V' D (.deferred none)
    have q2 := (gp.block _ (lt_of_heap D2) (fun e => by cases e; omega)).trans D2
    exact ⟨_, res_bool rfl rfl q2, by rw [all_pre hpre hp], (bcat BV hb (by have := BV.size; omega)).grown gp (by have := hb.size; have := BV.size; omega) (fun k e => by cases e; have := BV.size; omega)⟩
end Go.Proofs.YtedhoghleelhfaaGreat.Grid
namespace Go.Proofs.YtedhoghleelhfaaGreat.Grid
set_option linter.unusedVariables false
set_option linter.unusedSimpArgs false
open Go Go.RowKit Go.Shelf Go.Proofs

theorem open_in {W H : Int} {us : List Int} {c : Cell} (h : openU W H us c = true) : In W H c := by
  unfold openU at h
  rw [Bool.and_eq_true, decide_eq_true_eq] at h
  exact h.1
theorem fits_in {W H : Int} {us : List Int} {p : Pose} (h : fitsU W H us p = true) : In W H p.1 ∧ In W H (second p) := by
  unfold fitsU at h
  rw [Bool.and_eq_true] at h
  exact ⟨open_in h.1, open_in h.2⟩
/- Where a move leads from a cell of a grid, numbers stay small. -/
theorem leads_near {kd dir n : Int} {f : Pose} (h1 : 0 ≤ f.1.1) (h2 : f.1.1 < 16) (h3 : 0 ≤ f.1.2) (h4 : f.1.2 < 16) (ok : (leadsP kd dir n f).2 = true) :
    f.1.1 - 16 ≤ (leadsP kd dir n f).1.1.1 ∧ (leadsP kd dir n f).1.1.1 ≤ f.1.1 + 16 ∧ f.1.2 - 16 ≤ (leadsP kd dir n f).1.1.2 ∧ (leadsP kd dir n f).1.1.2 ≤ f.1.2 + 16 := by
  unfold leadsP at ok ⊢
  split at ok
  · rename_i hk
    rw [if_pos hk]
    rw [Bool.and_eq_true, decide_eq_true_eq] at ok
    have hm := ok.1
    have hm2 := ok.1
    unfold mayShift at hm
    simp only [Bool.and_eq_true, decide_eq_true_eq] at hm
    simp only [shiftR, hm2, if_true]
    unfold shiftP
    obtain rfl | rfl | rfl | rfl : dir = 0 ∨ dir = 1 ∨ dir = 2 ∨ dir = 3 := by omega
    all_goals
      simp
      rw [w64_id (by omega) (by omega)]
      omega
  · rename_i hk
    rw [if_neg hk]
    split at ok
    · rename_i hk2
      rw [if_pos hk2]
      simp only [turnP]
      omega
    · rename_i hk2
      rw [if_neg hk2]
      split at ok
      · rename_i hk3
        rw [if_pos hk3]
        simp only
        omega
      · cases ok
theorem second_near {p : Pose} {lo hi : Int} (h1 : lo ≤ p.1.1) (h2 : p.1.1 ≤ hi) (h3 : lo ≤ p.1.2) (h4 : p.1.2 ≤ hi) (hl : -1000 ≤ lo) (hh : hi ≤ 900) : (second p).1 ≤ hi + 1 ∧ (second p).2 ≤ hi + 1 := by
  unfold second
  split
  · simp only [south]
    rw [w64_id (by omega) (by omega)]
    omega
  · simp only [east]
    rw [w64_id (by omega) (by omega)]
    omega
theorem legal_any (g u : Nat) (W H : Int) (us : List Int) (vp : Value) (m : Move) (w : World) (hG : GridAt w g u W H us vp) :
    Calls Tryz.prog 76 #[.pointer (some ⟨g, 0, none⟩), .agg (moveCs m)] w fun e w' => e = .returned (.bool (legalU W H us m)) ∧ Below w.heap.size w w' := by
  obtain ⟨kd, dir, n, ⟨⟨fx, fy⟩, fd⟩, ⟨⟨tx, ty⟩, td⟩, ma, me⟩ := m
  refine (callsIn_wide (n := 9)).1 ?_
  have e : legalU W H us (kd, dir, n, ((fx, fy), fd), ((tx, ty), td), ma, me) = (((leadsP kd dir n ((fx, fy), fd)).2 && decide (((tx, ty), td) = (leadsP kd dir n ((fx, fy), fd)).1) && fitsU W H us ((fx, fy), fd)) && (boxOf ((fx, fy), fd) (leadsP kd dir n ((fx, fy), fd)).1).all (openU W H us)) := rfl
  rw [e]
  cases hno : ((leadsP kd dir n ((fx, fy), fd)).2 && decide (((tx, ty), td) = (leadsP kd dir n ((fx, fy), fd)).1) && fitsU W H us ((fx, fy), fd))
  · rw [Bool.false_and]
    exact legal_no g u W H us vp kd dir n fx fy fd tx ty td ma me w hG hno
  · rw [Bool.true_and]
    simp only [Bool.and_eq_true, decide_eq_true_eq] at hno
    obtain ⟨⟨h1, h2⟩, h3⟩ := hno
    have hin := (fits_in h3).1
    have hs := (fits_in h3).2
    have g1 := hG.w2
    have g2 := hG.h2
    unfold In at hin hs
    simp only at hin
    have hn := leads_near (kd := kd) (dir := dir) (n := n) (f := ((fx, fy), fd)) hin.1 (show fx < 16 by omega) hin.2.2.1 (show fy < 16 by omega) h1
    have hq : ∃ px py pd, leadsP kd dir n ((fx, fy), fd) = (((px, py), pd), true) := ⟨_, _, _, Prod.ext rfl h1⟩
    obtain ⟨px, py, pd, hq⟩ := hq
    rw [hq] at h2 hn ⊢
    simp only at hn
    have hs2 := second_near (p := ((px, py), pd)) (lo := -16) (hi := 32) (by simp only; omega) (by simp only; omega) (by simp only; omega) (by simp only; omega) (by omega) (by omega)
    have hb : spanP ((fx, fy), fd) ((px, py), pd) = ((min fx px, min fy py), (max (second ((fx, fy), fd)).1 (second ((px, py), pd)).1, max (second ((fx, fy), fd)).2 (second ((px, py), pd)).2)) := rfl
    unfold boxOf
    simp only [hb]
    exact legal_go g u W H us vp kd dir n fx fy fd tx ty td ma me w hG px py pd _ _ _ _ hq h2 h3 hb (by omega) (by omega) (by omega) (by omega)
end Go.Proofs.YtedhoghleelhfaaGreat.Grid
namespace Go.Proofs.YtedhoghleelhfaaGreat.Grid
set_option linter.unusedVariables false
set_option linter.unusedSimpArgs false
open Go Go.RowKit Go.Shelf Go.Proofs

def runM (p : Pose) (d n : Int) : Move := (1, d, n, p, shiftP p d n, 0, 0)
def turnM (p : Pose) : Move := (2, 0, 0, p, turnP p, 0, 0)
def runsP (W H : Int) (us : List Int) (p : Pose) (d : Int) : Nat → Int → List Move
  | 0, _ => []
  | k + 1, n => if fitsU W H us (shiftP p d n) then runM p d n :: runsP W H us p d k (n + 1) else []
def dirP (W H : Int) (us : List Int) (p : Pose) (d : Int) : List Move := runsP W H us p d 16 1
def dirsP (W H : Int) (us : List Int) (p : Pose) (j : Nat) : List Move := (List.range j).flatMap fun (i : Nat) => dirP W H us p (i : Int)
def lastP (W H : Int) (us : List Int) (p : Pose) : List Move := if legalU W H us (turnM p) then [turnM p] else []
def movesP (W H : Int) (us : List Int) (p : Pose) : List Move := if fitsU W H us p then dirsP W H us p 4 ++ lastP W H us p else []
theorem dirs_succ (W H : Int) (us : List Int) (p : Pose) (j : Nat) : dirsP W H us p (j + 1) = dirsP W H us p j ++ dirP W H us p (j : Int) := by
  unfold dirsP
  rw [List.range_succ, List.flatMap_append]
  simp
/- A grid, and two variables that hold it and a pose. -/
structure Ctx (w : World) (g u : Nat) (W H : Int) (us : List Int) (vp : Value) (Bg Bp : Nat) (p : Pose) : Prop where
  grid : GridAt w g u W H us vp
  bg : w.heap[Bg]? = some (.cells #[.pointer (some ⟨g, 0, none⟩)] 55 (0, 0))
  bp : w.heap[Bp]? = some (.cells #[.int .i64 p.1.1, .int .i64 p.1.2, .bool p.2] 42 (0, 0))
theorem Ctx.go {w w' : World} {g u : Nat} {W H : Int} {us : List Int} {vp : Value} {Bg Bp : Nat} {p : Pose} (h : Ctx w g u W H us vp Bg Bp p) (hb : Below w.heap.size w w') : Ctx w' g u W H us vp Bg Bp p :=
  ⟨h.grid.go hb, (hb.block _ (lt_of_heap h.bg)).trans h.bg, (hb.block _ (lt_of_heap h.bp)).trans h.bp⟩
theorem info_move : (Tryz.prog.info? 44).map (·.size) = some 11 := by kernel_rfl
end Go.Proofs.YtedhoghleelhfaaGreat.Grid
namespace Go.Proofs.YtedhoghleelhfaaGreat.Grid
set_option linter.unusedVariables false
set_option linter.unusedSimpArgs false
open Go Go.RowKit Go.Shelf Go.Proofs

def moveL (m : Move) : List Value := [.int .i64 m.1, .int .i64 m.2.1, .int .i64 m.2.2.1, .int .i64 m.2.2.2.1.1.1, .int .i64 m.2.2.2.1.1.2, .bool m.2.2.2.1.2, .int .i64 m.2.2.2.2.1.1.1, .int .i64 m.2.2.2.2.1.1.2, .bool m.2.2.2.2.1.2, .int .i64 m.2.2.2.2.2.1, .int .i64 m.2.2.2.2.2.2]
theorem infoMove : (Tryz.prog.info? 44).map (fun i => (i.zero, i.size, i.bytes)) = some (some (.agg #[.int .i64 0, .int .i64 0, .int .i64 0, .int .i64 0, .int .i64 0, .bool false, .int .i64 0, .int .i64 0, .bool false, .int .i64 0, .int .i64 0]), 11, 88) := by kernel_rfl
theorem kindMove : Kind moveL 84 44 11 88 :=
  ⟨fun _ => rfl, fun x u hu => by simp [moveL] at hu; rcases hu with rfl | rfl | rfl | rfl | rfl | rfl | rfl | rfl | rfl | rfl | rfl <;> rfl, Tryz.underlying84, by decide, by obtain ⟨i0, hi, hz0, hz1, hz2⟩ := info_parts infoMove; exact ⟨i0, _, hi, hz0, hz1, hz2, rfl⟩⟩
/- One item, in a block of its own. -/
theorem list_one {α : Type} {f : α → List Value} {S : Nat} (w : World) (x : α) (t : TypeId) (hf : (f x).length = S) : ListAt S (ElL f) (fun b => b = w.heap.size) [x] (.slice (some ⟨w.heap.size, 0, none⟩) 1 1) (w.alloc (.cells (f x).toArray t)) := by
  refine ⟨some ⟨w.heap.size, 0, none⟩, 1, [(x, (f x).toArray)], rfl, rfl, fun y hy => ?_, fun i hi => ⟨_, rfl, rfl, fun j u hj => ?_⟩, fun h => by cases h⟩
  · rw [List.mem_singleton.1 hy]; rfl
  · simp only [List.length_cons, List.length_nil] at hi
    obtain rfl : i = 0 := by omega
    rw [Addr.add_lit, Nat.zero_mul, Nat.zero_add, Nat.zero_add, new_cell]
    simpa using hj
/- Moves that are gathered in a variable; the greatest number in another one. -/
structure Gath (w : World) (N0 Bl Bm : Nat) (most : Int) (pre : List Move) (v : Value) : Prop where
  box : w.heap[Bl]? = some (.cells #[v] 84 (0, 0))
  most : w.heap[Bm]? = some (.cells #[.int .i64 most] 3 (0, 0))
  own : w.ownsRow N0 44 11 v pre.length (rowL moveL pre)
theorem Gath.go {w w' : World} {N0 Bl Bm : Nat} {most : Int} {pre : List Move} {v : Value} (h : Gath w N0 Bl Bm most pre v) (hb : Below w.heap.size w w') : Gath w' N0 Bl Bm most pre v :=
  ⟨(hb.block _ (lt_of_heap h.box)).trans h.box, (hb.block _ (lt_of_heap h.most)).trans h.most, owns_go h.own hb⟩
/- Below N0 nothing has turned but block Bl. -/
structure FrN (N0 Bl : Nat) (w w' : World) : Prop where
  os : w'.os = w.os
  tape : w'.tape = w.tape
  output : w'.output = w.output
  size : w.heap.size ≤ w'.heap.size
  block : ∀ k, k < N0 → k ≠ Bl → w'.heap[k]? = w.heap[k]?
theorem FrN.refl (N0 Bl : Nat) (w : World) : FrN N0 Bl w w := ⟨rfl, rfl, rfl, Nat.le_refl _, fun _ _ _ => rfl⟩
theorem FrN.trans {N0 Bl : Nat} {w w1 w2 : World} (h : FrN N0 Bl w w1) (k : FrN N0 Bl w1 w2) : FrN N0 Bl w w2 :=
  ⟨k.os.trans h.os, k.tape.trans h.tape, k.output.trans h.output, Nat.le_trans h.size k.size, fun j hj hn => (k.block j hj hn).trans (h.block j hj hn)⟩
theorem FrN.below {N0 Bl : Nat} {w w' : World} (h : Below w.heap.size w w') (hN : N0 ≤ w.heap.size) : FrN N0 Bl w w' := ⟨h.os, h.tape, h.output, h.size, fun k hk _ => h.block k (by omega)⟩
end Go.Proofs.YtedhoghleelhfaaGreat.Grid
namespace Go.Proofs.YtedhoghleelhfaaGreat.Grid
set_option linter.unusedVariables false
set_option linter.unusedSimpArgs false
open Go Go.RowKit Go.Shelf Go.Proofs

theorem mem_boxList {x0 y0 x1 y1 : Int} {c : Cell} : c ∈ boxList x0 y0 x1 y1 ↔ x0 ≤ c.1 ∧ c.1 ≤ x1 ∧ y0 ≤ c.2 ∧ c.2 ≤ y1 := by
  unfold boxList rows row
  simp only [List.mem_flatMap, List.mem_map, List.mem_range]
  constructor
  · rintro ⟨k, hk, j, hj, rfl⟩
    simp only
    omega
  · rintro ⟨h1, h2, h3, h4⟩
    refine ⟨(c.2 - y0).toNat, by omega, (c.1 - x0).toNat, by omega, ?_⟩
    exact Prod.ext (by simp only; omega) (by simp only; omega)
def dx (d : Int) : Int := if d = 1 then 1 else if d = 3 then -1 else 0
def dy (d : Int) : Int := if d = 0 then -1 else if d = 2 then 1 else 0
theorem shift_small {p : Pose} {d k : Int} (h1 : -100 ≤ p.1.1) (h2 : p.1.1 ≤ 100) (h3 : -100 ≤ p.1.2) (h4 : p.1.2 ≤ 100) (hk : 0 ≤ k) (hk2 : k ≤ 16) : shiftP p d k = ((p.1.1 + dx d * k, p.1.2 + dy d * k), p.2) := by
  unfold shiftP dx dy
  by_cases e0 : d = 0
  · subst e0; simp [w64_id (n := p.1.2 - k) (by omega) (by omega)]; omega
  · by_cases e1 : d = 1
    · subst e1; simp [w64_id (n := p.1.1 + k) (by omega) (by omega)]
    · by_cases e2 : d = 2
      · subst e2; simp [w64_id (n := p.1.2 + k) (by omega) (by omega)]
      · by_cases e3 : d = 3
        · subst e3; simp [w64_id (n := p.1.1 - k) (by omega) (by omega)]; omega
        · simp [e0, e1, e2, e3]
theorem second_small {p : Pose} (h1 : -200 ≤ p.1.1) (h2 : p.1.1 ≤ 200) (h3 : -200 ≤ p.1.2) (h4 : p.1.2 ≤ 200) : second p = if p.2 then (p.1.1, p.1.2 + 1) else (p.1.1 + 1, p.1.2) := by
  unfold second east south
  cases p.2
  · simp [w64_id (n := p.1.1 + 1) (by omega) (by omega)]
  · simp [w64_id (n := p.1.2 + 1) (by omega) (by omega)]
theorem fits_near {W H : Int} {us : List Int} {p : Pose} (hW : W ≤ 16) (hH : H ≤ 16) (h : fitsU W H us p = true) : 0 ≤ p.1.1 ∧ p.1.1 < 16 ∧ 0 ≤ p.1.2 ∧ p.1.2 < 16 := by
  obtain ⟨⟨a, b, c, d⟩, _⟩ := fits_in h
  exact ⟨a, by omega, c, by omega⟩
theorem fits_iff {W H : Int} {us : List Int} {p : Pose} : fitsU W H us p = true ↔ openU W H us p.1 = true ∧ openU W H us (second p) = true := by
  unfold fitsU
  rw [Bool.and_eq_true]
/- The box of a run is what its poses cover. -/
theorem box_run {W H : Int} {us : List Int} {p : Pose} {d n : Int} (h1 : 0 ≤ p.1.1) (h2 : p.1.1 < 16) (h3 : 0 ≤ p.1.2) (h4 : p.1.2 < 16) (hd : 0 ≤ d ∧ d ≤ 3) (hn : 0 ≤ n ∧ n ≤ 16) :
    (∀ c ∈ boxOf p (shiftP p d n), openU W H us c = true) ↔ ∀ k, 0 ≤ k → k ≤ n → fitsU W H us (shiftP p d k) = true := by
  have hs := fun k (q : 0 ≤ k) (r : k ≤ 16) => shift_small (p := p) (d := d) (k := k) (by omega) (by omega) (by omega) (by omega) q r
  have hb : -1 ≤ dx d ∧ dx d ≤ 1 ∧ -1 ≤ dy d ∧ dy d ≤ 1 ∧ (dx d = 0 ∨ dy d = 0) := by
    unfold dx dy
    rcases (show d = 0 ∨ d = 1 ∨ d = 2 ∨ d = 3 by omega) with rfl | rfl | rfl | rfl <;> decide
  have hx : ∀ k, 0 ≤ k → k ≤ 16 → -16 ≤ dx d * k ∧ dx d * k ≤ 16 ∧ -16 ≤ dy d * k ∧ dy d * k ≤ 16 := fun k q r => by
    rcases (show dx d = -1 ∨ dx d = 0 ∨ dx d = 1 by omega) with e | e | e <;> rcases (show dy d = -1 ∨ dy d = 0 ∨ dy d = 1 by omega) with f | f | f <;> rw [e, f] <;> omega
  have hsec := fun k (q : 0 ≤ k) (r : k ≤ 16) => second_small (p := ((p.1.1 + dx d * k, p.1.2 + dy d * k), p.2)) (by have := hx k q r; simp only; omega) (by have := hx k q r; simp only; omega) (by have := hx k q r; simp only; omega) (by have := hx k q r; simp only; omega)
  have hp := second_small (p := p) (by omega) (by omega) (by omega) (by omega)
  have hmem : ∀ c, c ∈ boxOf p (shiftP p d n) ↔ ∃ k, 0 ≤ k ∧ k ≤ n ∧ (c = (shiftP p d k).1 ∨ c = second (shiftP p d k)) := by
    intro c
    unfold boxOf spanP
    rw [mem_boxList, hs n hn.1 hn.2, hsec n hn.1 hn.2, hp]
    have hxn := hx n hn.1 hn.2
    constructor
    · rintro ⟨q1, q2, q3, q4⟩
      obtain ⟨cx, cy⟩ := c
      obtain ⟨⟨px, py⟩, pd⟩ := p
      simp only at *
      have key : ∃ k, 0 ≤ k ∧ k ≤ n ∧ ((cx, cy) = (px + dx d * k, py + dy d * k) ∨ (cx, cy) = if pd = true then (px + dx d * k, py + dy d * k + 1) else (px + dx d * k + 1, py + dy d * k)) := by
        cases pd
        · simp only [Bool.false_eq_true, if_false] at q1 q2 q3 q4 ⊢
          simp only [Prod.mk.injEq]
          rcases (show d = 0 ∨ d = 1 ∨ d = 2 ∨ d = 3 by omega) with rfl | rfl | rfl | rfl
          · simp only [show dx 0 = 0 from rfl, show dy 0 = -1 from rfl] at *
            exact ⟨py - cy, by omega, by omega, by omega⟩
          · simp only [show dx 1 = 1 from rfl, show dy 1 = 0 from rfl] at *
            by_cases q : cx - px ≤ n
            · exact ⟨cx - px, by omega, by omega, by omega⟩
            · exact ⟨n, by omega, by omega, by omega⟩
          · simp only [show dx 2 = 0 from rfl, show dy 2 = 1 from rfl] at *
            exact ⟨cy - py, by omega, by omega, by omega⟩
          · simp only [show dx 3 = -1 from rfl, show dy 3 = 0 from rfl] at *
            by_cases q : cx ≤ px
            · exact ⟨px - cx, by omega, by omega, by omega⟩
            · exact ⟨0, by omega, by omega, by omega⟩
        · simp only [if_true] at q1 q2 q3 q4 ⊢
          simp only [Prod.mk.injEq]
          rcases (show d = 0 ∨ d = 1 ∨ d = 2 ∨ d = 3 by omega) with rfl | rfl | rfl | rfl
          · simp only [show dx 0 = 0 from rfl, show dy 0 = -1 from rfl] at *
            by_cases q : cy ≤ py
            · exact ⟨py - cy, by omega, by omega, by omega⟩
            · exact ⟨0, by omega, by omega, by omega⟩
          · simp only [show dx 1 = 1 from rfl, show dy 1 = 0 from rfl] at *
            exact ⟨cx - px, by omega, by omega, by omega⟩
          · simp only [show dx 2 = 0 from rfl, show dy 2 = 1 from rfl] at *
            by_cases q : cy - py ≤ n
            · exact ⟨cy - py, by omega, by omega, by omega⟩
            · exact ⟨n, by omega, by omega, by omega⟩
          · simp only [show dx 3 = -1 from rfl, show dy 3 = 0 from rfl] at *
            exact ⟨px - cx, by omega, by omega, by omega⟩
      obtain ⟨k, k1, k2, k3⟩ := key
      refine ⟨k, k1, k2, ?_⟩
      rw [hs k k1 (by omega), hsec k k1 (by omega)]
      exact k3
    · rintro ⟨k, k1, k2, k3⟩
      rw [hs k k1 (by omega), hsec k k1 (by omega)] at k3
      have hxk := hx k k1 (by omega)
      obtain ⟨⟨px, py⟩, pd⟩ := p
      simp only at *
      rcases (show d = 0 ∨ d = 1 ∨ d = 2 ∨ d = 3 by omega) with rfl | rfl | rfl | rfl <;>
        simp only [show dx 0 = 0 from rfl, show dy 0 = -1 from rfl, show dx 1 = 1 from rfl, show dy 1 = 0 from rfl, show dx 2 = 0 from rfl, show dy 2 = 1 from rfl, show dx 3 = -1 from rfl, show dy 3 = 0 from rfl] at * <;>
        cases pd <;> simp only [Bool.false_eq_true, if_false, if_true] at * <;> rcases k3 with rfl | rfl <;> simp only <;> omega
  constructor
  · intro h k k1 k2
    rw [fits_iff]
    exact ⟨h _ ((hmem _).2 ⟨k, k1, k2, Or.inl rfl⟩), h _ ((hmem _).2 ⟨k, k1, k2, Or.inr rfl⟩)⟩
  · intro h c hc
    obtain ⟨k, k1, k2, k3⟩ := (hmem c).1 hc
    have := fits_iff.1 (h k k1 k2)
    rcases k3 with rfl | rfl
    · exact this.1
    · exact this.2
theorem shift_zero {p : Pose} {d : Int} (h1 : 0 ≤ p.1.1) (h2 : p.1.1 < 16) (h3 : 0 ≤ p.1.2) (h4 : p.1.2 < 16) : shiftP p d 0 = p := by
  rw [shift_small (by omega) (by omega) (by omega) (by omega) (by omega) (by omega)]
  simp
theorem legal_run {W H : Int} {us : List Int} {p : Pose} {d n : Int} (hW : W ≤ 16) (hH : H ≤ 16) (hd : 0 ≤ d ∧ d ≤ 3) (hn : 1 ≤ n ∧ n ≤ 16) :
    legalU W H us (runM p d n) = true ↔ fitsU W H us p = true ∧ ∀ k, 1 ≤ k → k ≤ n → fitsU W H us (shiftP p d k) = true := by
  have hm : mayShift d n = true := by unfold mayShift; simp; omega
  have e : legalU W H us (runM p d n) = (fitsU W H us p && (boxOf p (shiftP p d n)).all (openU W H us)) := by
    unfold legalU runM leadsP shiftR
    simp [hm, show 0 < n by omega]
  rw [e, Bool.and_eq_true, List.all_eq_true]
  constructor
  · rintro ⟨h, q⟩
    obtain ⟨a, b, c, f⟩ := fits_near hW hH h
    exact ⟨h, fun k k1 k2 => (box_run a b c f hd ⟨by omega, hn.2⟩).1 q k (by omega) k2⟩
  · rintro ⟨h, q⟩
    obtain ⟨a, b, c, f⟩ := fits_near hW hH h
    refine ⟨h, (box_run a b c f hd ⟨by omega, hn.2⟩).2 fun k k1 k2 => ?_⟩
    by_cases k0 : k = 0
    · rw [k0, shift_zero a b c f]; exact h
    · exact q k (by omega) k2
/- The moves of a pose: which there are, each once. -/
theorem mem_runs {W H : Int} {us : List Int} {p : Pose} {d : Int} : ∀ (f : Nat) (n0 : Int) (m : Move), m ∈ runsP W H us p d f n0 ↔ ∃ j, n0 ≤ j ∧ j < n0 + f ∧ m = runM p d j ∧ ∀ k, n0 ≤ k → k ≤ j → fitsU W H us (shiftP p d k) = true
  | 0, n0, m => by
    unfold runsP
    refine iff_of_false (by simp) ?_
    rintro ⟨j, h1, h2, _⟩
    omega
  | f + 1, n0, m => by
    unfold runsP
    split
    · rename_i hf
      rw [List.mem_cons, mem_runs f (n0 + 1) m]
      constructor
      · rintro (rfl | ⟨j, h1, h2, h3, h4⟩)
        · exact ⟨n0, Int.le_refl _, by omega, rfl, fun k k1 k2 => by rw [show k = n0 by omega]; exact hf⟩
        · refine ⟨j, by omega, by omega, h3, fun k k1 k2 => ?_⟩
          by_cases e : k = n0
          · rw [e]; exact hf
          · exact h4 k (by omega) k2
      · rintro ⟨j, h1, h2, h3, h4⟩
        by_cases e : j = n0
        · exact Or.inl (by rw [h3, e])
        · exact Or.inr ⟨j, by omega, by omega, h3, fun k k1 k2 => h4 k (by omega) k2⟩
    · rename_i hf
      refine iff_of_false (by simp) ?_
      rintro ⟨j, h1, h2, h3, h4⟩
      exact hf (h4 n0 (Int.le_refl _) h1)
theorem mem_dir {W H : Int} {us : List Int} {p : Pose} {d : Int} {m : Move} (hW : W ≤ 16) (hH : H ≤ 16) (hd : 0 ≤ d ∧ d ≤ 3) (hf : fitsU W H us p = true) : m ∈ dirP W H us p d ↔ ∃ j, 1 ≤ j ∧ j ≤ 16 ∧ m = runM p d j ∧ legalU W H us m = true := by
  unfold dirP
  rw [mem_runs]
  constructor
  · rintro ⟨j, h1, h2, h3, h4⟩
    refine ⟨j, h1, by omega, h3, ?_⟩
    rw [h3, legal_run hW hH hd ⟨h1, by omega⟩]
    exact ⟨hf, h4⟩
  · rintro ⟨j, h1, h2, h3, h4⟩
    refine ⟨j, h1, by omega, h3, ?_⟩
    rw [h3, legal_run hW hH hd ⟨h1, h2⟩] at h4
    exact h4.2
theorem mem_dirs {W H : Int} {us : List Int} {p : Pose} {m : Move} : ∀ j : Nat, m ∈ dirsP W H us p j ↔ ∃ i : Nat, i < j ∧ m ∈ dirP W H us p (i : Int) := by
  intro j
  unfold dirsP
  simp only [List.mem_flatMap, List.mem_range]
theorem runs_len {W H : Int} {us : List Int} {p : Pose} {d : Int} : ∀ (f : Nat) (n0 : Int), (runsP W H us p d f n0).length ≤ f
  | 0, n0 => by unfold runsP; simp
  | f + 1, n0 => by
    unfold runsP
    split
    · have := runs_len (W := W) (H := H) (us := us) (p := p) (d := d) f (n0 + 1)
      rw [List.length_cons]; omega
    · simp
theorem moves_len {W H : Int} {us : List Int} {p : Pose} : (movesP W H us p).length ≤ 65 := by
  have h : ∀ j : Nat, (dirsP W H us p j).length ≤ 16 * j := fun j => by
    induction j with
    | zero => simp [dirsP]
    | succ j ih =>
      rw [dirs_succ, List.length_append]
      have : (dirP W H us p (j : Int)).length ≤ 16 := runs_len 16 1
      omega
  unfold movesP
  split
  · rw [List.length_append]
    have := h 4
    have : (lastP W H us p).length ≤ 1 := by unfold lastP; split <;> simp
    omega
  · simp
end Go.Proofs.YtedhoghleelhfaaGreat.Grid
namespace Go.Proofs.YtedhoghleelhfaaGreat.Grid
set_option linter.unusedVariables false
set_option linter.unusedSimpArgs false
open Go Go.RowKit Go.Shelf Go.Proofs

end Go.Proofs.YtedhoghleelhfaaGreat.Grid
namespace Go.Proofs.YtedhoghleelhfaaGreat.Grid
set_option linter.unusedVariables false
set_option linter.unusedSimpArgs false
open Go Go.RowKit Go.Shelf Go.Proofs

end Go.Proofs.YtedhoghleelhfaaGreat.Grid
