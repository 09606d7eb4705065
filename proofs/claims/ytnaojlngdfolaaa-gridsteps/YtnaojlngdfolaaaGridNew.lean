/-
  A config's grid: what New answers.
-/
import Derived.Test.YtnaojlngdfolaaaGridLimit
namespace Go.Proofs.Ytnaojlngdfolaaa.Grid
set_option linter.unusedVariables false
set_option linter.unusedSimpArgs false
open Go Go.RowKit

/- One operation that stands alone and makes memory. -/
theorem value_held {P : Program} {S : World → Prop} {Q : Exit → Act → World → Prop} {md : Region.Mode} {l : List Oper} (i : Nat) {o : Oper} {fuel : Nat} {listed : Array Bool} {a : Act} {w : World} (hi : nth l i = some o)
    (hr : Region.ready md l.toArray listed = [i]) (hw : Region.wanted o (yielded l.toArray a.tmps) = true) (v : Value) (w' : World) (hrun : (execOp a.eval o).run P w = .ok (.value v) w') (hS : S w')
    (h : wpAnyH P md l.toArray Q S fuel (listed.setIfInBounds i true) (a.put o.dst v) w') : wpAnyH P md l.toArray Q S (fuel + 1) listed a w := by
  refine wpAnyH_ready hr (by simp) (AllReadyH.cons ((nth_eq l i).trans hi) ?_ AllReadyH.nil)
  intro K' hK
  rw [if_pos hw]
  unfold Oper.wp
  rw [hrun]
  exact hK.out _ _ hS fun _ => h
theorem run_made_op {o : Oper} {a : Act} {w w' : World} {v : Value} (t : TypeId) (l c : Operand) (ho : o.op = .makeSlice t l c) (n : Int) (hl : a.eval l = .int .i64 n) (hc : a.eval c = .int .i64 n)
    (h : (Instr.makeSlice t (.int .i64 n) (.int .i64 n)).run Try.prog w = .ok v w') : (execOp a.eval o).run Try.prog w = .ok (.value v) w' := by
  unfold execOp
  simp only [ho, hl, hc, Sem.run_bind, Sem.run_pure, Result.andThen_ok, h]
theorem infoUse : (Try.prog.info? 120).map (fun i => (i.zero, i.size, i.bytes)) = some (some (.int .u8 0), 1, 1) := by kernel_rfl
theorem below_fr {B g u : Nat} {w w1 w2 : World} (h : Below B w w1) (hf : Fr g u w1 w2) (hg : B ≤ g) (hu : B ≤ u) (hB : B ≤ w1.heap.size) : Below B w w2 :=
  ⟨hf.os.trans h.os, hf.tape.trans h.tape, hf.output.trans h.output, Nat.le_trans h.size hf.size, fun k hk => (hf.block k (by omega) (by omega) (by omega)).trans (h.block k hk)⟩
theorem owns_fr {w w' : World} {base g u : Nat} {e : TypeId} {size : Nat} {v : Value} {n : Nat} {xs : List Value} (h : w.ownsRow base e size v n xs) (f : Fr g u w w') (hg : g < base) (hu : u < base) : w'.ownsRow base e size v n xs :=
  owns_same h fun k hk => f.block k (h.lt k hk).2 (by have := (h.lt k hk).1; omega) (by have := (h.lt k hk).1; omega)
theorem carried_true {R : Option (List Int)} (h : carried R = true) : ∃ bins, R = some bins ∧ mayBeP bins := by
  cases R with
  | none => cases h
  | some bins => exact ⟨bins, rfl, of_decide_eq_true h⟩
theorem carried_false {α : Type} {R : Option (List Int)} {X : α} (h : carried R = false) : (R.bind fun bins => if mayBeP bins then some X else none) = none := by
  cases R with
  | none => rfl
  | some bins => rw [Option.bind_some, if_neg (of_decide_eq_false h)]
theorem grid_new (w : World) (W H : Int) (N : Nat) (hN : (N : Int) = W * H) (w1 : 1 ≤ W) (w2 : W ≤ 16) (h1 : 1 ≤ H) (h2 : H ≤ 16) :
    GridAt ((w.alloc (.cells (List.replicate N (Value.int .u8 0)).toArray 120)).alloc (.cells #[.int .i64 W, .int .i64 H, .slice (some ⟨w.heap.size, 0, none⟩) N N, .slice none 0 0] 110)) (w.heap.size + 1) w.heap.size W H (List.replicate N 0) (.slice none 0 0) := by
  refine ⟨?_, ?_, w1, w2, h1, h2, by rw [List.length_replicate]; exact hN, fun z hz => ?_, by omega⟩
  · rw [heap_new2, List.length_replicate]
  · rw [alloc_old _ _ _ (by simp), heap_alloc_new, List.map_replicate]
  · rw [List.eq_of_mem_replicate hz]; decide
set_option maxRecDepth 100000 in
set_option maxHeartbeats 4000000 in
theorem new_any (F : Nat → Prop) (cs : Array Value) (c : Conf) (vb vp vr vs : Value) (w : World) (hC : Cells cs c vb vp vr vs) (hA : ConfAt F c vb vp vr vs w) (hF : ∀ b, F b → b < w.heap.size)
    (hmb : c.blocked.length ≤ 9223372036854775807) (hmp : c.ports.length ≤ 9223372036854775807) (hmr : c.robots.length ≤ 9223372036854775807) (hms : c.stacks.length ≤ 9223372036854775807) :
    Calls Try.prog 15 #[.agg cs] w fun e w' => Below w.heap.size w w' ∧
      ((∃ G g u v', newP c = some G ∧ e = .returned (.tuple #[.pointer (some ⟨g, 0, none⟩), .int .i64 0]) ∧ GridAt w' g u c.W c.H G.uses v' ∧ w.heap.size ≤ g ∧ w.heap.size ≤ u ∧ w'.ownsRow w.heap.size 28 2 v' c.ports.length (rowL cellL c.ports)) ∨
       (newP c = none ∧ e = .returned (.tuple #[.pointer none, .int .i64 5]))) := by
  have bH : Below w.heap.size w (w.alloc (.cells cs 26)) := below_new (Below.refl _ _) _
  have eH : (w.alloc (.cells cs 26)).heap[w.heap.size]? = some (.cells cs 26 (0, 0)) := heap_alloc_new w _
  have sH : (w.alloc (.cells cs 26)).heap.size = w.heap.size + 1 := by simp
  have i0 : (Try.prog.info? 26).map (·.size) = some cs.size := by rw [hC.size]; exact info_conf
  have cL := fun u => limited_any cs c vb vp vr vs u hC
  have kc : Hid (∀ (u : World) (j : Nat), u.heap[w.heap.size]? = some (.cells cs 26 (0, 0)) → u.cell? ⟨w.heap.size, j, none⟩ = cs[j]?) := fun u j h => cell_of h j
  generalize hW : w.alloc (.cells cs 26) = wH at *
  cases hl : limited c
  · have HT : Hid (newP c = none) := by show newP c = none; unfold newP; rw [if_neg (by rw [hl]; decide)]
    rw [hl] at cL
    go_enter Try.func15, Try.ntmps15
    go_wp2_with (first
      | (refine wpList_load_row rfl 26 (.tmp 1) rfl w.heap.size rfl 26 cs (0, 0) _ eH Try.underlying26 rfl i0 ?_)
      | (go_at_call 64; refine (cL _).mono ?_; rintro e w1 ⟨rfl, b1⟩))
    exact bodyPost_ret (v := .tuple #[.pointer none, .int .i64 5]) (by simp [results, Try.results15, go_sem]) rfl ⟨bcat bH b1 (Nat.le_refl _), Or.inr ⟨HT.out, rfl⟩⟩
  · rw [hl] at cL
    obtain ⟨lw1, lw2, lh1, lh2, lg1, lg2⟩ := limited_sides hl
    have hWH : 0 ≤ c.W * c.H := Int.mul_nonneg (by omega) (by omega)
    have hWH2 : c.W * c.H ≤ 16 * c.H := Int.mul_le_mul_of_nonneg_right lw2 (by omega)
    obtain ⟨N, hN⟩ : ∃ N : Nat, (N : Int) = c.W * c.H := ⟨(c.W * c.H).toNat, by omega⟩
    have hwr : IntKind.i64.wrap (c.W * c.H) = (N : Int) := by rw [IntKind.wrap_i64]; omega
    have HNW : Hid (newP c = (takeAll c.W c.H 1 (List.replicate N 0) c.blocked).bind fun u1 => (if c.ports.length ≤ 8 then takeP c.W c.H u1 c.ports else none).bind fun u2 => (if c.robots.length ≤ 8 then takeR c.W c.H u2 c.robots else none).bind fun u3 =>
        (carry c.W c.H (stackUs c.W c.H u3) c.height (List.replicate N false) [] c.stacks).bind fun bins => if mayBeP bins then some ⟨c.W, c.H, stackUs c.W c.H u3, c.ports⟩ else none) := by
      show newP c = _
      unfold newP
      rw [if_pos hl, show (c.W * c.H).toNat = N by omega]
    have hNb : N ≤ 256 := by omega
    have HWR : Hid (IntKind.i64.wrap (c.W * c.H) = (N : Int)) := hwr
    have HNN : Hid ((N : Int) = c.W * c.H) := hN
    obtain ⟨hz, e0, e1, e2, e3, e4, e5, e6, _⟩ := hC
    clear hz hwr hN hWH hWH2
    obtain ⟨IH, hIH⟩ : ∃ I : World → Prop, I = fun u => u.heap[w.heap.size]? = some (.cells cs 26 (0, 0)) := ⟨_, rfl⟩
    have k0 : ∀ u, IH u → u.cell? ⟨w.heap.size, 0, none⟩ = some (.int .i64 c.W) := fun u hu => by rw [hIH] at hu; exact (kc.out u 0 hu).trans e0
    have k1 : ∀ u, IH u → u.cell? ⟨w.heap.size, 1, none⟩ = some (.int .i64 c.H) := fun u hu => by rw [hIH] at hu; exact (kc.out u 1 hu).trans e1
    have cA := fun wx (hb : Below w.heap.size w wx) => hA.stable fun b hb' => hb.block b (hF b hb')
    go_enter Try.func15, Try.ntmps15
    go_wp2_with (first
      | (refine wpList_load_row rfl 26 (.tmp 1) rfl w.heap.size rfl 26 cs (0, 0) _ eH Try.underlying26 rfl i0 ?_)
      | (go_at_call 64; refine (cL _).mono ?_; rintro e w1 ⟨rfl, b1⟩; have B1 := bcat bH b1 (Nat.le_refl _); have s1 := b1.size; have m1 := (b1.block w.heap.size (by rw [sH]; omega)).trans eH; have hS : IH w1.drew := by rw [hIH]; exact m1))
    refine start_held (S := IH) 13 rfl (by kernel_rfl) (hS) ?_
    simp only [Array.replicate_succ, Array.replicate_zero, List.push_toArray, List.nil_append, List.cons_append]
    refine take_held 0 (by assumption) rfl (by kernel_rfl) (by kernel_rfl) (by kernel_rfl) (fun _ _ _ h => h) (by kernel_rfl) (v := ?v0) ?y0 ?r0
    case y0 => (intro u hu; go_simp; try rfl)
    simp only [Act.put, List.setIfInBounds_toArray, List.set_cons_zero, List.set_cons_succ]
    refine take_held 1 (by assumption) rfl (by kernel_rfl) (by kernel_rfl) (by kernel_rfl) (fun _ _ _ h => h) (by kernel_rfl) (v := ?v1) ?y1 ?r1
    case y1 => (intro u hu; have := k0 u hu; go_simp; try rfl)
    simp only [Act.put, List.setIfInBounds_toArray, List.set_cons_zero, List.set_cons_succ]
    refine take_held 2 (by assumption) rfl (by kernel_rfl) (by kernel_rfl) (by kernel_rfl) (fun _ _ _ h => h) (by kernel_rfl) (v := ?v2) ?y2 ?r2
    case y2 => (intro u hu; go_simp; try rfl)
    simp only [Act.put, List.setIfInBounds_toArray, List.set_cons_zero, List.set_cons_succ]
    refine take_held 3 (by assumption) rfl (by kernel_rfl) (by kernel_rfl) (by kernel_rfl) (fun _ _ _ h => h) (by kernel_rfl) (v := ?v3) ?y3 ?r3
    case y3 => (intro u hu; have := k1 u hu; go_simp; try rfl)
    simp only [Act.put, List.setIfInBounds_toArray, List.set_cons_zero, List.set_cons_succ]
    refine take_held 4 (by assumption) rfl (by kernel_rfl) (by kernel_rfl) (by kernel_rfl) (fun _ _ _ h => h) (by kernel_rfl) (v := ?v4) ?y4 ?r4
    case y4 => (intro u hu; go_simp; try rfl)
    simp only [Act.put, List.setIfInBounds_toArray, List.set_cons_zero, List.set_cons_succ]
    refine take_held 5 (by assumption) rfl (by kernel_rfl) (by kernel_rfl) (by kernel_rfl) (fun _ _ _ h => h) (by kernel_rfl) (v := ?v5) ?y5 ?r5
    case y5 => (intro u hu; have := k0 u hu; go_simp; try rfl)
    simp only [Act.put, List.setIfInBounds_toArray, List.set_cons_zero, List.set_cons_succ]
    refine take_held 6 (by assumption) rfl (by kernel_rfl) (by kernel_rfl) (by kernel_rfl) (fun _ _ _ h => h) (by kernel_rfl) (v := ?v6) ?y6 ?r6
    case y6 => (intro u hu; go_simp; try rfl)
    simp only [Act.put, List.setIfInBounds_toArray, List.set_cons_zero, List.set_cons_succ]
    refine take_held 7 (by assumption) rfl (by kernel_rfl) (by kernel_rfl) (by kernel_rfl) (fun _ _ _ h => h) (by kernel_rfl) (v := ?v7) ?y7 ?r7
    case y7 => (intro u hu; have := k1 u hu; go_simp; try rfl)
    simp only [Act.put, List.setIfInBounds_toArray, List.set_cons_zero, List.set_cons_succ]
    refine take_held 8 (by assumption) rfl (by kernel_rfl) (by kernel_rfl) (by kernel_rfl) (fun _ _ _ h => h) (by kernel_rfl) (v := ?v8) ?y8 ?r8
    case y8 => (intro u hu; go_simp; try rfl)
    simp only [Act.put, List.setIfInBounds_toArray, List.set_cons_zero, List.set_cons_succ]
    have hmk := run_made 108 120 (.int .u8 0) 1 Try.underlying108 infoUse rfl N (by omega) (by omega) w1.drew
    rw [← HWR.out] at hmk
    have M1 : (w1.drew.alloc (.cells (List.replicate N (Value.int .u8 0)).toArray 120)).heap[w.heap.size]? = some (.cells cs 26 (0, 0)) := (alloc_old _ _ _ (by simp; omega)).trans m1
    refine value_held 9 rfl (by kernel_rfl) (by kernel_rfl) _ _ (run_made_op 108 (.tmp 16) (.tmp 16) rfl _ rfl rfl hmk) (by rw [hIH]; exact M1) ?_
    simp only [Act.put, List.setIfInBounds_toArray, List.set_cons_zero, List.set_cons_succ]
    have hS2 : IH (w1.drew.alloc (.cells (List.replicate N (Value.int .u8 0)).toArray 120)) := by rw [hIH]; exact M1
    refine take_held 10 (by assumption) rfl (by kernel_rfl) (by kernel_rfl) (by kernel_rfl) (fun _ _ _ h => h) (by kernel_rfl) (v := ?v9) ?y9 ?r9
    case y9 => (intro u hu; go_simp; try rfl)
    simp only [Act.put, List.setIfInBounds_toArray, List.set_cons_zero, List.set_cons_succ]
    have M2 : ((w1.drew.alloc (.cells (List.replicate N (Value.int .u8 0)).toArray 120)).alloc (.cells #[.int .i64 c.W, .int .i64 c.H, .slice (some ⟨w1.heap.size, 0, none⟩) N N, .slice none 0 0] 110)).heap[w.heap.size]? = some (.cells cs 26 (0, 0)) := (alloc_old _ _ _ (by simp; omega)).trans M1
    have hS3 : IH ((w1.drew.alloc (.cells (List.replicate N (Value.int .u8 0)).toArray 120)).alloc (.cells #[.int .i64 c.W, .int .i64 c.H, .slice (some ⟨w1.heap.size, 0, none⟩) N N, .slice none 0 0] 110)) := by rw [hIH]; exact M2
    have G3 : GridAt ((w1.drew.alloc (.cells (List.replicate N (Value.int .u8 0)).toArray 120)).alloc (.cells #[.int .i64 c.W, .int .i64 c.H, .slice (some ⟨w1.heap.size, 0, none⟩) N N, .slice none 0 0] 110)) (w1.heap.size + 1) w1.heap.size c.W c.H (List.replicate N 0) (.slice none 0 0) := grid_new w1.drew c.W c.H N HNN.out lw1 lw2 lh1 lh2
    have B3 : Below w.heap.size w ((w1.drew.alloc (.cells (List.replicate N (Value.int .u8 0)).toArray 120)).alloc (.cells #[.int .i64 c.W, .int .i64 c.H, .slice (some ⟨w1.heap.size, 0, none⟩) N N, .slice none 0 0] 110)) := below_new (below_new B1.drew _) _
    refine value_held 11 rfl (by kernel_rfl) (by kernel_rfl) (.pointer (some ⟨w1.heap.size + 1, 0, none⟩)) ((w1.drew.alloc (.cells (List.replicate N (Value.int .u8 0)).toArray 120)).alloc (.cells #[.int .i64 c.W, .int .i64 c.H, .slice (some ⟨w1.heap.size, 0, none⟩) N N, .slice none 0 0] 110)) (by go_simp; try rfl) hS3 ?_
    simp only [Act.put, List.setIfInBounds_toArray, List.set_cons_zero, List.set_cons_succ]
    refine take_held 12 (by assumption) rfl (by kernel_rfl) (by kernel_rfl) (by kernel_rfl) (fun _ _ _ h => h) (by kernel_rfl) (v := ?v10) ?y10 ?r10
    case y10 => (intro u hu; go_simp; try rfl)
    simp only [Act.put, List.setIfInBounds_toArray, List.set_cons_zero, List.set_cons_succ]
    refine done_held (by kernel_rfl) ?_ _
    generalize hW3 : ((w1.drew.alloc (.cells (List.replicate N (Value.int .u8 0)).toArray 120)).alloc (.cells #[.int .i64 c.W, .int .i64 c.H, .slice (some ⟨w1.heap.size, 0, none⟩) N N, .slice none 0 0] 110)) = w3 at *
    obtain ⟨g, hg⟩ : ∃ g, w1.heap.size + 1 = g := ⟨_, rfl⟩
    obtain ⟨u, hu⟩ : ∃ u, w1.heap.size = u := ⟨_, rfl⟩
    rw [hg, hu] at G3
    rw [hg]
    have hgu : w.heap.size < g ∧ w.heap.size < u := by omega
    have x3 : w3.cell? ⟨w.heap.size, 3, none⟩ = some vb := (kc.out w3 3 M2).trans e3
    have hFu : ∀ b, F b → b ≠ g ∧ b ≠ u := fun b hb => by have := hF b hb; omega
    clear hW3 hS hS2 hS3 hmk M1 hg hu k0 k1 hIH IH e0 e1 e3
    clear cL bH eH b1 s1 m1 B1 hW
    have cB := block_any g u c.W c.H (List.replicate N 0) (.slice none 0 0) F c.blocked vb w3 G3 (cA _ B3).b (fun b hb => ⟨Nat.lt_of_lt_of_le (hF b hb) B3.size, (hFu b hb).2⟩) hmb
    go_wp2_with (first
      | (go_at_call 65; refine cB.mono ?_; rintro e w4 ⟨g4, ⟨us1, t1, rfl, G4⟩ | ⟨t1, rfl⟩⟩; have f4 : Fr g u w3 w4 := Fr.of g4; have B4 := below_fr B3 f4 (by omega) (by omega) (by have := B3.size; omega); have M4 := (f4.block w.heap.size (lt_of_heap M2) (by omega) (by omega)).trans M2; have x4 : w4.cell? ⟨w.heap.size, 4, none⟩ = some vp := (kc.out w4 4 M4).trans e4)
      | (have X' := G4; go_at_call 66; refine (layPorts_any g u c.W c.H us1 (.slice none 0 0) F c.ports vp w4 G4 (cA _ B4).p (fun b hb => ⟨Nat.lt_of_lt_of_le (hF b hb) B4.size, hFu b hb⟩) hmp).mono ?_; rintro e w5 ⟨f5, ⟨us2, v5, t2, rfl, G5, own5⟩ | ⟨t2, rfl⟩⟩; have B5 := below_fr B4 f5 (by omega) (by omega) (by have := B4.size; omega); have M5 := (f5.block w.heap.size (lt_of_heap M4) (by omega) (by omega)).trans M4; have x5 : w5.cell? ⟨w.heap.size, 5, none⟩ = some vr := (kc.out w5 5 M5).trans e5)
      | (have X' := G5; go_at_call 67; refine (park_any g u c.W c.H us2 v5 F c.robots vr w5 G5 (cA _ B5).r (fun b hb => ⟨Nat.lt_of_lt_of_le (hF b hb) B5.size, (hFu b hb).2⟩) hmr).mono ?_; rintro e w6 ⟨g6, ⟨us3, t3, rfl, G6⟩ | ⟨t3, rfl⟩⟩; have f6 : Fr g u w5 w6 := Fr.of g6; have B6 := below_fr B5 f6 (by omega) (by omega) (by have := B5.size; omega); have M6 := (f6.block w.heap.size (lt_of_heap M5) (by omega) (by omega)).trans M5)
      | (have X' := G6; go_at_call 68; refine (layStackCells_any g u c.W c.H us3 v5 w6 G6).mono ?_; rintro e w7 ⟨g7, rfl, G7⟩; have f7 : Fr g u w6 w7 := Fr.of g7; have B7 := below_fr B6 f7 (by omega) (by omega) (by have := B6.size; omega); have M7 := (f7.block w.heap.size (lt_of_heap M6) (by omega) (by omega)).trans M6; have x6 : w7.cell? ⟨w.heap.size, 6, none⟩ = some vs := (kc.out w7 6 M7).trans e6; have x2 : w7.cell? ⟨w.heap.size, 2, none⟩ = some (.int .i64 c.height) := (kc.out w7 2 M7).trans e2)
      | (have X' := G7; go_at_call 69; refine (carries_any g u c.W c.H (stackUs c.W c.H us3) v5 F c.stacks vs c.height w7 G7 (cA _ B7).s (fun b hb => Nat.lt_of_lt_of_le (hF b hb) B7.size) hms lg2).mono ?_; rintro e w8 ⟨b8, rfl⟩; cases hcr : carried (carry c.W c.H (stackUs c.W c.H us3) c.height (List.replicate (stackUs c.W c.H us3).length false) [] c.stacks)))
    · exact bodyPost_ret (v := .tuple #[.pointer none, .int .i64 5]) (by simp [results, Try.results15, go_sem]) rfl ⟨bcat B7 b8 (by have := B7.size; omega), Or.inr ⟨by rw [HNW.out, t1, Option.bind_some, t2, Option.bind_some, t3, Option.bind_some]; rw [show (stackUs c.W c.H us3).length = N by have := G7.len; have := HNN.out; omega] at hcr; exact carried_false hcr, rfl⟩⟩
    · have hlg := G3.ltg
      have hlu := G3.ltu
      have h34 := f4.size
      have own8 := owns_go (owns_fr (owns_fr own5 f6 (by omega) (by omega)) f7 (by omega) (by omega)) b8
      refine bodyPost_ret (v := .tuple #[.pointer (some ⟨g, 0, none⟩), .int .i64 0]) (by simp [results, Try.results15, go_sem]) rfl ⟨bcat B7 b8 (by have := B7.size; omega), Or.inl ⟨⟨c.W, c.H, stackUs c.W c.H us3, c.ports⟩, g, u, v5, ?_, rfl, G7.go b8, by omega, by omega, owns_base B4.size own8⟩⟩
      rw [HNW.out, t1, Option.bind_some, t2, Option.bind_some, t3, Option.bind_some]
      rw [show (stackUs c.W c.H us3).length = N by have := G7.len; have := HNN.out; omega] at hcr
      obtain ⟨bins, q1, q2⟩ := carried_true hcr
      rw [q1, Option.bind_some, if_pos q2]
    · exact bodyPost_ret (v := .tuple #[.pointer none, .int .i64 5]) (by simp [results, Try.results15, go_sem]) rfl ⟨below_fr B5 (Fr.of (g := g) g6) (by omega) (by omega) (by have := B5.size; omega), Or.inr ⟨by rw [HNW.out, t1, Option.bind_some, t2, Option.bind_some, t3, Option.bind_none], rfl⟩⟩
    · exact bodyPost_ret (v := .tuple #[.pointer none, .int .i64 5]) (by simp [results, Try.results15, go_sem]) rfl ⟨below_fr B4 f5 (by omega) (by omega) (by have := B4.size; omega), Or.inr ⟨by rw [HNW.out, t1, Option.bind_some, t2, Option.bind_none], rfl⟩⟩
    · exact bodyPost_ret (v := .tuple #[.pointer none, .int .i64 5]) (by simp [results, Try.results15, go_sem]) rfl ⟨below_fr B3 (Fr.of (g := g) g4) (by omega) (by omega) (by have := B3.size; omega), Or.inr ⟨by rw [HNW.out, t1, Option.bind_none], rfl⟩⟩
end Go.Proofs.Ytnaojlngdfolaaa.Grid
