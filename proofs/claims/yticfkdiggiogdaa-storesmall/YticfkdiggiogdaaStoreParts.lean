/-
  The inner functions of package store: the other log, a head's bytes, the turn to a file.
-/
import Derived.Test.YticfkdiggiogdaaStoreState
namespace Go.Proofs.Yticfkdiggiogdaa.Store
set_option linter.unusedVariables false
set_option linter.unusedSimpArgs false
open Go Go.RowKit Go.Shelf Go.Proofs
open Go.Proofs.Yticfkdiggiogdaa.Disk (Row getD_in ret_int add_add DiskIs Kept St now setSt owns_row owns_same)
open Go.Proofs.Yticfkdiggiogdaa.Wal (start_held take_held call_held read_held done_held Owns Fr Live Free LogIs cell_block rec setSt_at setSt_two appSt now_app)
open Go.Proofs.Yticfkdiggiogdaa.Codec (num I64 Made Mine)

set_option maxHeartbeats 1000000 in
theorem other_any {W w : World} {own : Owns} {D S : Nat} {L : Nat → Nat} {σ : St} {m c : Nat} {g f n : Int} (h : StoreIs W w own D S L σ m c g f n) :
    Calls Try.prog 56 #[.pointer (Option.some ⟨S, 0, none⟩)] w fun e w' => e = .returned (.pointer (Option.some ⟨L (1 - c), 0, none⟩)) ∧ ∃ k, w' = w.drewN k := by
  have h0 := h.cell 0
  have h1 := h.cell 1
  have h2 := h.cell 2
  simp only [cellsOf, List.getElem?_toArray, List.getElem?_cons_zero, List.getElem?_cons_succ] at h0 h1 h2
  have hc := h.two
  rcases (show c = 0 ∨ c = 1 by omega) with rfl | rfl
  all_goals
    go_enter Try.func56, Try.ntmps56
    go_wp2
    go_quiet (fail)
    go_wp2
    go_ret
    exact ⟨rfl, nq, rfl⟩

theorem run_load_op {o : Oper} {a : Act} {w : World} (ty : TypeId) (x : Operand) (ho : o.op = .load ty x) (g : Nat) (cs : Array Value) (hx : a.eval x = .pointer (Option.some ⟨g, 0, none⟩))
    (h : (loadVar ty ⟨g, 0, none⟩).run Try.prog w = .ok (.agg cs) w) : (execOp a.eval o).run Try.prog w = .ok (.value (.agg cs)) w := by
  unfold execOp
  simp only [ho, hx, Instr.loadAt, Instr.sureAddr, Sem.run_bind, Sem.run_pure, Result.andThen_ok, h]
theorem wsizeHead : (Try.prog.info? 102).map (·.size) = Option.some 3 := by kernel_rfl
theorem wpList_index {P : Program} {ops : Array Oper} {rest : List Oper} {o : Oper} {a : Act} {w : World} {Q : Exit → Act → World → Prop} (hgd : o.guard = none) (t : TypeId) (x y : Operand) (ho : o.op = .index t x y) (cs : Array Value) (j : Int)
    (hx : a.eval x = .agg cs) (hy : a.eval y = .int .i64 j) (v : Value) (hr : (Instr.index t (.agg cs) (.int .i64 j)).run P w = .ok v w) (h : wpList P ops Q rest (a.put o.dst v) w) : wpList P ops Q (o :: rest) a w :=
  wpList_plain hgd fun _ hK => by
    unfold Oper.wp execOp
    simp only [ho, hx, hy, Sem.run_bind, Sem.run_pure, Result.andThen_ok, hr]
    exact hK _ _ h
theorem run_index0 (w : World) (p q : Value) : (Instr.index 95 (.agg #[p, q]) (.int .i64 0)).run Try.prog w = .ok p w := by kernel_rfl
theorem run_index1 (w : World) (p q : Value) : (Instr.index 95 (.agg #[p, q]) (.int .i64 1)).run Try.prog w = .ok q w := by kernel_rfl

set_option maxRecDepth 100000 in
set_option maxHeartbeats 2000000 in
theorem bytes_any (w : World) (g f : Int) (a : Option Addr) (n cap : Nat) (zs : List Int) (hr : Codec.Row w a n zs) (h0 : a = none → cap = 0) (hg : I64 g) (hf : I64 f) (hn : n ≤ 140737488351232) :
    Calls Try.prog 63 #[.agg #[.int .i64 g, .int .i64 f, .slice a n cap]] w (Made ((num g ++ num f) ++ zs) w) := by
  have lg := Codec.num_len g
  have lf := Codec.num_len f
  have lr := hr.len
  have c1 := fun u : World => Codec.PutNumber_any none 0 0 [] g u ⟨rfl, Codec.Bytes.nil, fun i hi => by omega⟩ (fun _ => rfl) (by decide) hg
  rw [List.nil_append] at c1
  have bH : Below w.heap.size w (w.alloc (.cells #[.int .i64 g, .int .i64 f, .slice a n cap] 102)) := (Below.refl _ _).alloc (Nat.le_refl _) _
  have eH : (w.alloc (.cells #[.int .i64 g, .int .i64 f, .slice a n cap] 102)).heap[w.heap.size]? = Option.some (.cells #[.int .i64 g, .int .i64 f, .slice a n cap] 102 (0, 0)) := heap_alloc_new w _
  have sH : w.heap.size < (w.alloc (.cells #[.int .i64 g, .int .i64 f, .slice a n cap] 102)).heap.size := by simp
  obtain ⟨IH, hIH⟩ : ∃ I : World → Prop, I = fun u => u.heap[w.heap.size]? = Option.some (.cells #[.int .i64 g, .int .i64 f, .slice a n cap] 102 (0, 0)) := ⟨_, rfl⟩
  have k0 : ∀ u, IH u → u.cell? ⟨w.heap.size, 0, none⟩ = Option.some (.int .i64 g) := fun u hu => by rw [hIH] at hu; exact cell_of_row u _ 0 _ _ _ hu
  have k1 : ∀ u, IH u → u.cell? ⟨w.heap.size, 1, none⟩ = Option.some (.int .i64 f) := fun u hu => by rw [hIH] at hu; exact cell_of_row u _ 1 _ _ _ hu
  have k2 : ∀ u, IH u → u.cell? ⟨w.heap.size, 2, none⟩ = Option.some (.slice a n cap) := fun u hu => by rw [hIH] at hu; exact cell_of_row u _ 2 _ _ _ hu
  have kH : ∀ u u', IH u → w.heap.size < u.heap.size → Below u.heap.size u u' → IH u' := fun u u' hu hs hb => by rw [hIH] at hu ⊢; exact (hb.block _ hs).trans hu
  have hS : IH (w.alloc (.cells #[.int .i64 g, .int .i64 f, .slice a n cap] 102)).drew := by rw [hIH]; exact eH
  generalize hW : w.alloc (.cells #[.int .i64 g, .int .i64 f, .slice a n cap] 102) = wH at *
  go_enter Try.func63, Try.ntmps63
  go_wp2
  try rw [hW]
  refine start_held (S := IH) 7 rfl (by kernel_rfl) (hS) ?_
  simp only [Array.replicate_succ, Array.replicate_zero, List.push_toArray, List.nil_append, List.cons_append]
  refine take_held 0 (by assumption) rfl (by kernel_rfl) (by kernel_rfl) (by kernel_rfl) (fun _ _ _ h => h) (by kernel_rfl) (v := ?v0) ?y0 ?r0
  case y0 => (intro u hu; go_simp; try rfl)
  simp only [Act.put, List.setIfInBounds_toArray, List.set_cons_zero, List.set_cons_succ]
  refine take_held 1 (by assumption) rfl (by kernel_rfl) (by kernel_rfl) (by kernel_rfl) (fun _ _ _ h => h) (by kernel_rfl) (v := ?v1) ?y1 ?r1
  case y1 => (intro u hu; have := k0 u hu; go_simp; try rfl)
  simp only [Act.put, List.setIfInBounds_toArray, List.set_cons_zero, List.set_cons_succ]
  refine take_held 3 (by assumption) rfl (by kernel_rfl) (by kernel_rfl) (by kernel_rfl) (fun _ _ _ h => h) (by kernel_rfl) (v := ?v2) ?y2 ?r2
  case y2 => (intro u hu; go_simp; try rfl)
  simp only [Act.put, List.setIfInBounds_toArray, List.set_cons_zero, List.set_cons_succ]
  refine take_held 4 (by assumption) rfl (by kernel_rfl) (by kernel_rfl) (by kernel_rfl) (fun _ _ _ h => h) (by kernel_rfl) (v := ?v3) ?y3 ?r3
  case y3 => (intro u hu; have := k1 u hu; go_simp; try rfl)
  simp only [Act.put, List.setIfInBounds_toArray, List.set_cons_zero, List.set_cons_succ]
  refine call_held 2 rfl (by kernel_rfl) (by kernel_rfl) 61 #[.slice none 0 0, .int .i64 g] (by go_simp) _ (c1 wH.drew) ?_
  rintro v w1 ⟨m1, b1, n1⟩
  have B1 : Below wH.heap.size wH w1 := (Below.refl wH.heap.size wH).drew.trans b1
  have hS1 : IH w1 := kH wH.drew w1 hS sH b1
  obtain ⟨a1, d1, rfl, r1, z1, l1, q1⟩ := m1.form
  have c2 := Codec.PutNumber_any a1 _ d1 _ f w1 r1 (fun h => (z1 h).2) (by omega) hf
  refine ⟨hS1, ?_⟩
  simp only [Act.put, List.setIfInBounds_toArray, List.set_cons_zero, List.set_cons_succ]
  refine call_held 5 rfl (by kernel_rfl) (by kernel_rfl) 61 #[.slice a1 (num g).length d1, .int .i64 f] (by go_simp) _ c2 ?_
  rintro v w2 ⟨m2, b2, n2⟩
  have B2 := Codec.bcat B1 b2 (Nat.le_refl _)
  have hS2 : IH w2 := kH w1 w2 hS1 (Nat.lt_of_lt_of_le sH B1.size) b2
  refine ⟨hS2, ?_⟩
  simp only [Act.put, List.setIfInBounds_toArray, List.set_cons_zero, List.set_cons_succ]
  refine take_held 6 (by assumption) rfl (by kernel_rfl) (by kernel_rfl) (by kernel_rfl) (fun _ _ _ h => h) (by kernel_rfl) (v := ?v4) ?y4 ?r4
  case y4 => (intro u hu; go_simp; try rfl)
  simp only [Act.put, List.setIfInBounds_toArray, List.set_cons_zero, List.set_cons_succ]
  refine done_held (by kernel_rfl) ?_ _
  have q2 := k2 w2 hS2
  go_wp2_with (at_builtin; refine Codec.wpList_append_mine rfl (.tmp 10) (.tmp 12) rfl _ (num g ++ num f) rfl m2 a n cap zs rfl (hr.after ((bH.trans (B2.mono (Nat.le_of_lt sH))))) h0 (by rw [List.length_append]; omega) ?_; intro v3 w3 m3 g3)
  go_ret
  have bW2 : Below w.heap.size w w2 := bH.trans (B2.mono (Nat.le_of_lt sH))
  have nW2 : ∀ x, Value.ownBlock v = Option.some x → w.heap.size ≤ x := fun x hx => Nat.le_trans (Nat.le_trans (Nat.le_of_lt sH) B1.size) (n2 x hx)
  exact ⟨v3, rfl, m3, g3.below_of bW2 nW2, g3.new_of nW2 bW2.size⟩

set_option maxRecDepth 100000 in
set_option maxHeartbeats 4000000 in
theorem turnTo_any {W w : World} {own : Owns} {D S : Nat} {L : Nat → Nat} {σ : St} {m c : Nat} {g0 f0 n0 : Int} (h : StoreIs W w own D S L σ m c g0 f0 n0) (i : Nat) (hi : i < 2) (g f : Int) (a : Option Addr) (n cap : Nat) :
    Calls Try.prog 55 #[.pointer (Option.some ⟨S, 0, none⟩), .int .i64 i, .agg #[.int .i64 g, .int .i64 f, .slice a n cap]] w fun e w' => e = .returned (.tuple #[]) ∧ StoreIs W w' own D S L σ m i g f f ∧ SFr S own own w w' := by
  have bH : Below w.heap.size w (w.alloc (.cells #[.int .i64 g, .int .i64 f, .slice a n cap] 102)) := (Below.refl _ _).alloc (Nat.le_refl _) _
  have eH : (w.alloc (.cells #[.int .i64 g, .int .i64 f, .slice a n cap] 102)).heap[w.heap.size]? = Option.some (.cells #[.int .i64 g, .int .i64 f, .slice a n cap] 102 (0, 0)) := heap_alloc_new w _
  obtain ⟨IH, hIH⟩ : ∃ I : World → Prop, I = fun u => u.heap[w.heap.size]? = Option.some (.cells #[.int .i64 g, .int .i64 f, .slice a n cap] 102 (0, 0)) := ⟨_, rfl⟩
  have k0 : ∀ u, IH u → u.cell? ⟨w.heap.size, 0, none⟩ = Option.some (.int .i64 g) := fun u hu => by rw [hIH] at hu; exact cell_of_row u _ 0 _ _ _ hu
  have k1 : ∀ u, IH u → u.cell? ⟨w.heap.size, 1, none⟩ = Option.some (.int .i64 f) := fun u hu => by rw [hIH] at hu; exact cell_of_row u _ 1 _ _ _ hu
  have hS : IH (w.alloc (.cells #[.int .i64 g, .int .i64 f, .slice a n cap] 102)).drew := by rw [hIH]; exact eH
  have hlt := h.free.1
  have kS : ∀ u j v, IH u → IH (u.setCell ⟨S, j, none⟩ v) := fun u j v hu => by rw [hIH] at hu ⊢; exact (heap_setCell_other u ⟨S, j, none⟩ _ v (by simp only; omega)).trans hu
  have s0 := (h.later bH).drew
  have F0 : SFr S own own w (w.alloc (.cells #[.int .i64 g, .int .i64 f, .slice a n cap] 102)).drew := SFr.below S bH.drew
  generalize hW : w.alloc (.cells #[.int .i64 g, .int .i64 f, .slice a n cap] 102) = wH at *
  go_enter Try.func55, Try.ntmps55
  go_wp2
  try rw [hW]
  refine start_held (S := IH) 23 rfl (by kernel_rfl) (hS) ?_
  simp only [Array.replicate_succ, Array.replicate_zero, List.push_toArray, List.nil_append, List.cons_append]
  refine take_held 0 (by assumption) rfl (by kernel_rfl) (by kernel_rfl) (by kernel_rfl) (fun _ _ _ h => h) (by kernel_rfl) (v := ?v5) ?y5 ?r5
  case y5 => (intro u hu; go_simp; try rfl)
  simp only [Act.put, List.setIfInBounds_toArray, List.set_cons_zero, List.set_cons_succ]
  refine take_held 1 (by assumption) rfl (by kernel_rfl) (by kernel_rfl) (by kernel_rfl) (fun _ _ _ h => h) (by kernel_rfl) (v := ?v6) ?y6 ?r6
  case y6 => (intro u hu; go_simp; try rfl)
  simp only [Act.put, List.setIfInBounds_toArray, List.set_cons_zero, List.set_cons_succ]
  refine take_held 2 (by assumption) rfl (by kernel_rfl) (by kernel_rfl) (by kernel_rfl) (fun _ _ _ h => h) (by kernel_rfl) (v := ?v7) ?y7 ?r7
  case y7 => (intro u hu; go_simp; try rfl)
  simp only [Act.put, List.setIfInBounds_toArray, List.set_cons_zero, List.set_cons_succ]
  refine take_held 3 (by assumption) rfl (by kernel_rfl) (by kernel_rfl) (by kernel_rfl) (fun _ _ _ h => h) (by kernel_rfl) (v := ?v8) ?y8 ?r8
  case y8 => (intro u hu; go_simp; try rfl)
  simp only [Act.put, List.setIfInBounds_toArray, List.set_cons_zero, List.set_cons_succ]
  refine take_held 4 (by assumption) rfl (by kernel_rfl) (by kernel_rfl) (by kernel_rfl) (fun _ _ _ h => h) (by kernel_rfl) (v := ?v9) ?y9 ?r9
  case y9 => (intro u hu; go_simp; try rfl)
  simp only [Act.put, List.setIfInBounds_toArray, List.set_cons_zero, List.set_cons_succ]
  refine take_held 5 (by assumption) rfl (by kernel_rfl) (by kernel_rfl) (by kernel_rfl) (fun _ _ _ h => h) (by kernel_rfl) (v := ?v10) ?y10 ?r10
  case y10 => (intro u hu; go_simp; try rfl)
  simp only [Act.put, List.setIfInBounds_toArray, List.set_cons_zero, List.set_cons_succ]
  refine take_held 6 (by assumption) rfl (by kernel_rfl) (by kernel_rfl) (by kernel_rfl) (fun _ _ _ h => h) (by kernel_rfl) (v := ?v11) ?y11 ?r11
  case y11 => (intro u hu; have := k0 u hu; go_simp; try rfl)
  simp only [Act.put, List.setIfInBounds_toArray, List.set_cons_zero, List.set_cons_succ]
  refine take_held 7 (by assumption) rfl (by kernel_rfl) (by kernel_rfl) (by kernel_rfl) (fun _ _ _ h => h) (by kernel_rfl) (v := ?v12) ?y12 ?r12
  case y12 => (intro u hu; go_simp; try rfl)
  simp only [Act.put, List.setIfInBounds_toArray, List.set_cons_zero, List.set_cons_succ]
  refine take_held 8 (by assumption) rfl (by kernel_rfl) (by kernel_rfl) (by kernel_rfl) (fun _ _ _ h => h) (by kernel_rfl) (v := ?v13) ?y13 ?r13
  case y13 => (intro u hu; have := k1 u hu; go_simp; try rfl)
  simp only [Act.put, List.setIfInBounds_toArray, List.set_cons_zero, List.set_cons_succ]
  refine take_held 9 (by assumption) rfl (by kernel_rfl) (by kernel_rfl) (by kernel_rfl) (fun _ _ _ h => h) (by kernel_rfl) (v := ?v14) ?y14 ?r14
  case y14 => (intro u hu; go_simp; try rfl)
  simp only [Act.put, List.setIfInBounds_toArray, List.set_cons_zero, List.set_cons_succ]
  refine take_held 10 (by assumption) rfl (by kernel_rfl) (by kernel_rfl) (by kernel_rfl) (fun _ _ _ h => h) (by kernel_rfl) (v := ?v15) ?y15 ?r15
  case y15 => (intro u hu; have := k1 u hu; go_simp; try rfl)
  simp only [Act.put, List.setIfInBounds_toArray, List.set_cons_zero, List.set_cons_succ]
  refine take_held 11 (by assumption) rfl (by kernel_rfl) (by kernel_rfl) (by kernel_rfl) (fun _ _ _ h => h) (by kernel_rfl) (v := ?v16) ?y16 ?r16
  case y16 => (intro u hu; go_simp; try rfl)
  simp only [Act.put, List.setIfInBounds_toArray, List.set_cons_zero, List.set_cons_succ]
  refine take_held 12 (by assumption) rfl (by kernel_rfl) (by kernel_rfl) (by kernel_rfl) (fun _ _ _ h => h) (by kernel_rfl) (v := ?v17) ?y17 ?r17
  case y17 => (intro u hu; go_simp; try rfl)
  simp only [Act.put, List.setIfInBounds_toArray, List.set_cons_zero, List.set_cons_succ]
  have y1 := s0.cell 2
  have z1 := s0.frozen 2
  simp only [cellsOf, List.getElem?_toArray, List.getElem?_cons_zero, List.getElem?_cons_succ] at y1
  have s1 : StoreIs W ((wH.drew).setCell ⟨S, 2, none⟩ (.int .i64 i)) own D S L σ m i g0 f0 n0 := s0.set 2 _ hi rfl
  have F1 := F0.trans (sfr_set (own := own) (wH.drew) S 2 (.int .i64 i))
  have hS1 := kS _ 2 (.int .i64 i) hS
  refine store_held 13 rfl (by kernel_rfl) (by kernel_rfl) ((wH.drew).setCell ⟨S, 2, none⟩ (.int .i64 i)) (by go_simp) hS1 ?_
  simp only [Act.put, List.setIfInBounds_toArray, List.set_cons_zero, List.set_cons_succ]
  clear y1 z1
  generalize hw1 : (wH.drew).setCell ⟨S, 2, none⟩ (.int .i64 i) = u1 at *
  clear hw1
  refine take_held 14 (by assumption) rfl (by kernel_rfl) (by kernel_rfl) (by kernel_rfl) (fun _ _ _ h => h) (by kernel_rfl) (v := ?v18) ?y18 ?r18
  case y18 => (intro u hu; go_simp; try rfl)
  simp only [Act.put, List.setIfInBounds_toArray, List.set_cons_zero, List.set_cons_succ]
  refine take_held 15 (by assumption) rfl (by kernel_rfl) (by kernel_rfl) (by kernel_rfl) (fun _ _ _ h => h) (by kernel_rfl) (v := ?v19) ?y19 ?r19
  case y19 => (intro u hu; go_simp; try rfl)
  simp only [Act.put, List.setIfInBounds_toArray, List.set_cons_zero, List.set_cons_succ]
  have y2 := s1.cell 3
  have z2 := s1.frozen 3
  simp only [cellsOf, List.getElem?_toArray, List.getElem?_cons_zero, List.getElem?_cons_succ] at y2
  have s2 : StoreIs W ((u1).setCell ⟨S, 3, none⟩ (.int .i64 g)) own D S L σ m i g f0 n0 := s1.set 3 _ hi rfl
  have F2 := F1.trans (sfr_set (own := own) (u1) S 3 (.int .i64 g))
  have hS2 := kS _ 3 (.int .i64 g) hS1
  refine store_held 16 rfl (by kernel_rfl) (by kernel_rfl) ((u1).setCell ⟨S, 3, none⟩ (.int .i64 g)) (by go_simp) hS2 ?_
  simp only [Act.put, List.setIfInBounds_toArray, List.set_cons_zero, List.set_cons_succ]
  clear y2 z2
  generalize hw2 : (u1).setCell ⟨S, 3, none⟩ (.int .i64 g) = u2 at *
  clear hw2
  refine take_held 17 (by assumption) rfl (by kernel_rfl) (by kernel_rfl) (by kernel_rfl) (fun _ _ _ h => h) (by kernel_rfl) (v := ?v20) ?y20 ?r20
  case y20 => (intro u hu; go_simp; try rfl)
  simp only [Act.put, List.setIfInBounds_toArray, List.set_cons_zero, List.set_cons_succ]
  refine take_held 18 (by assumption) rfl (by kernel_rfl) (by kernel_rfl) (by kernel_rfl) (fun _ _ _ h => h) (by kernel_rfl) (v := ?v21) ?y21 ?r21
  case y21 => (intro u hu; go_simp; try rfl)
  simp only [Act.put, List.setIfInBounds_toArray, List.set_cons_zero, List.set_cons_succ]
  have y3 := s2.cell 4
  have z3 := s2.frozen 4
  simp only [cellsOf, List.getElem?_toArray, List.getElem?_cons_zero, List.getElem?_cons_succ] at y3
  have s3 : StoreIs W ((u2).setCell ⟨S, 4, none⟩ (.int .i64 f)) own D S L σ m i g f n0 := s2.set 4 _ hi rfl
  have F3 := F2.trans (sfr_set (own := own) (u2) S 4 (.int .i64 f))
  have hS3 := kS _ 4 (.int .i64 f) hS2
  refine store_held 19 rfl (by kernel_rfl) (by kernel_rfl) ((u2).setCell ⟨S, 4, none⟩ (.int .i64 f)) (by go_simp) hS3 ?_
  simp only [Act.put, List.setIfInBounds_toArray, List.set_cons_zero, List.set_cons_succ]
  clear y3 z3
  generalize hw3 : (u2).setCell ⟨S, 4, none⟩ (.int .i64 f) = u3 at *
  clear hw3
  refine take_held 20 (by assumption) rfl (by kernel_rfl) (by kernel_rfl) (by kernel_rfl) (fun _ _ _ h => h) (by kernel_rfl) (v := ?v22) ?y22 ?r22
  case y22 => (intro u hu; go_simp; try rfl)
  simp only [Act.put, List.setIfInBounds_toArray, List.set_cons_zero, List.set_cons_succ]
  refine take_held 21 (by assumption) rfl (by kernel_rfl) (by kernel_rfl) (by kernel_rfl) (fun _ _ _ h => h) (by kernel_rfl) (v := ?v23) ?y23 ?r23
  case y23 => (intro u hu; go_simp; try rfl)
  simp only [Act.put, List.setIfInBounds_toArray, List.set_cons_zero, List.set_cons_succ]
  have y4 := s3.cell 5
  have z4 := s3.frozen 5
  simp only [cellsOf, List.getElem?_toArray, List.getElem?_cons_zero, List.getElem?_cons_succ] at y4
  have s4 : StoreIs W ((u3).setCell ⟨S, 5, none⟩ (.int .i64 f)) own D S L σ m i g f f := s3.set 5 _ hi rfl
  have F4 := F3.trans (sfr_set (own := own) (u3) S 5 (.int .i64 f))
  have hS4 := kS _ 5 (.int .i64 f) hS3
  refine store_held 22 rfl (by kernel_rfl) (by kernel_rfl) ((u3).setCell ⟨S, 5, none⟩ (.int .i64 f)) (by go_simp) hS4 ?_
  simp only [Act.put, List.setIfInBounds_toArray, List.set_cons_zero, List.set_cons_succ]
  clear y4 z4
  generalize hw4 : (u3).setCell ⟨S, 5, none⟩ (.int .i64 f) = u4 at *
  clear hw4
  refine done_held (by kernel_rfl) ?_ _
  go_end0
  exact ⟨rfl, s4, F4⟩

def layTo (σ : St) (i : Nat) (x : List Int) : St := setSt σ i (now σ i ++ rec x, [])
set_option maxRecDepth 100000 in
set_option maxHeartbeats 4000000 in
theorem lay_any {W w : World} {own : Owns} {D S : Nat} {L : Nat → Nat} {σ : St} {m c : Nat} {g0 f0 n0 : Int} (h : StoreIs W w own D S L σ m c g0 f0 n0) (hm : m + 2 < 4194304) (i : Nat) (hi : i < 2) (g f : Int) (a : Option Addr) (n cap : Nat) (zs : List Int)
    (hr : Codec.Row w a n zs) (h0 : a = none → cap = 0) (hg : I64 g) (hf : I64 f) (hn : ((num g ++ num f) ++ zs).length ≤ 65536) (hb : (now σ i).length + (8 + ((num g ++ num f) ++ zs).length) ≤ 16777216) :
    Calls Try.prog 65 #[.pointer (Option.some ⟨S, 0, none⟩), .int .i64 i, .agg #[.int .i64 g, .int .i64 f, .slice a n cap]] w fun e w' => e = .returned (.tuple #[]) ∧ ∃ own', StoreIs W w' own' D S L (layTo σ i ((num g ++ num f) ++ zs)) (m + 2) i g f f ∧ SFr S own own' w w' := by
  have lr := hr.len
  have lg := Codec.num_pos g
  have bH : Below w.heap.size w (w.alloc (.cells #[.int .i64 g, .int .i64 f, .slice a n cap] 102)) := (Below.refl _ _).alloc (Nat.le_refl _) _
  have eH : (w.alloc (.cells #[.int .i64 g, .int .i64 f, .slice a n cap] 102)).heap[w.heap.size]? = Option.some (.cells #[.int .i64 g, .int .i64 f, .slice a n cap] 102 (0, 0)) := heap_alloc_new w _
  have sH : w.heap.size < (w.alloc (.cells #[.int .i64 g, .int .i64 f, .slice a n cap] 102)).heap.size := by simp
  have s0 := (h.later bH).drew
  have cB := bytes_any (w.alloc (.cells #[.int .i64 g, .int .i64 f, .slice a n cap] 102)).drew g f a n cap zs (hr.after bH.drew) h0 hg hf (by simp only [List.length_append] at hn; omega)
  have F0 : SFr S own own w (w.alloc (.cells #[.int .i64 g, .int .i64 f, .slice a n cap] 102)).drew := SFr.below S bH.drew
  have eX := s0.row
  have nH : own w.heap.size = none := by
    by_cases hn : own w.heap.size = none
    · exact hn
    · have := h.live.disk.old _ hn; omega
  generalize hX : (num g ++ num f) ++ zs = X at *
  have hX1 : 1 ≤ X.length := by rw [← hX]; simp only [List.length_append]; omega
  obtain ⟨IH, hIH⟩ : ∃ I : World → Prop, I = fun u => u.heap[w.heap.size]? = Option.some (.cells #[.int .i64 g, .int .i64 f, .slice a n cap] 102 (0, 0)) ∧ u.heap[S]? = Option.some (.cells (cellsOf L c g0 f0 n0) 97 (0, 0)) := ⟨_, rfl⟩
  have k0 : ∀ u, IH u → u.cell? ⟨S, 0, none⟩ = Option.some (.pointer (Option.some ⟨L 0, 0, none⟩)) := fun u hu => by rw [hIH] at hu; exact cell_of_row u _ 0 _ _ _ hu.2
  have k1 : ∀ u, IH u → u.cell? ⟨S, 1, none⟩ = Option.some (.pointer (Option.some ⟨L 1, 0, none⟩)) := fun u hu => by rw [hIH] at hu; exact cell_of_row u _ 1 _ _ _ hu.2
  have kL : ∀ u, IH u → (loadVar 102 ⟨w.heap.size, 0, none⟩).run Try.prog u = .ok (.agg #[.int .i64 g, .int .i64 f, .slice a n cap]) u := fun u hu => by rw [hIH] at hu; exact run_loadVar_row _ _ _ _ _ (0, 0) _ hu.1 Try.underlying102 rfl wsizeHead
  have kH : ∀ u u', IH u → w.heap.size < u.heap.size → S < u.heap.size → Below u.heap.size u u' → IH u' := fun u u' hu hs hs2 hb => by rw [hIH] at hu ⊢; exact ⟨(hb.block _ hs).trans hu.1, (hb.block _ hs2).trans hu.2⟩
  have kF : ∀ u u' o o', IH u → w.heap.size < u.heap.size → S < u.heap.size → o w.heap.size = none → o S = none → Fr o o' u u' → IH u' := fun u u' o o' hu hs hs2 hn1 hn2 hb => by rw [hIH] at hu ⊢; exact ⟨(hb.kept.block _ hs hn1).trans hu.1, (hb.kept.block _ hs2 hn2).trans hu.2⟩
  have hS : IH (w.alloc (.cells #[.int .i64 g, .int .i64 f, .slice a n cap] 102)).drew := by rw [hIH]; exact ⟨eH, eX⟩
  have hlt := h.free.1
  have hno := h.free.2
  generalize hW : w.alloc (.cells #[.int .i64 g, .int .i64 f, .slice a n cap] 102) = wH at *
  have hsz := F0.size
  change w.heap.size ≤ wH.heap.size at hsz
  rcases (show i = 0 ∨ i = 1 by omega) with rfl | rfl
  · go_enter Try.func65, Try.ntmps65
    go_wp2
    try rw [hW]
    refine start_held (S := IH) 9 rfl (by kernel_rfl) (hS) ?_
    simp only [Array.replicate_succ, Array.replicate_zero, List.push_toArray, List.nil_append, List.cons_append]
    refine take_held 0 (by assumption) rfl (by kernel_rfl) (by kernel_rfl) (by kernel_rfl) (fun _ _ _ h => h) (by kernel_rfl) (v := ?v24) ?y24 ?r24
    case y24 => (intro u hu; go_simp; try rfl)
    simp only [Act.put, List.setIfInBounds_toArray, List.set_cons_zero, List.set_cons_succ]
    refine take_held 1 (by assumption) rfl (by kernel_rfl) (by kernel_rfl) (by kernel_rfl) (fun _ _ _ h => h) (by kernel_rfl) (v := ?v25) ?y25 ?r25
    case y25 => (intro u hu; go_simp; try rfl)
    simp only [Act.put, List.setIfInBounds_toArray, List.set_cons_zero, List.set_cons_succ]
    refine take_held 2 (by assumption) rfl (by kernel_rfl) (by kernel_rfl) (by kernel_rfl) (fun _ _ _ h => h) (by kernel_rfl) (v := ?v26) ?y26 ?r26
    case y26 => (intro u hu; go_simp; try rfl)
    simp only [Act.put, List.setIfInBounds_toArray, List.set_cons_zero, List.set_cons_succ]
    refine take_held 3 (by assumption) rfl (by kernel_rfl) (by kernel_rfl) (by kernel_rfl) (fun _ _ _ h => h) (by kernel_rfl) (v := ?v27) ?y27 ?r27
    case y27 => (intro u hu; go_simp; try rfl)
    simp only [Act.put, List.setIfInBounds_toArray, List.set_cons_zero, List.set_cons_succ]
    refine take_held 4 (by assumption) rfl (by kernel_rfl) (by kernel_rfl) (by kernel_rfl) (fun _ _ _ h => h) (by kernel_rfl) (v := ?v28) ?y28 ?r28
    case y28 => (intro u hu; go_simp; try rfl)
    simp only [Act.put, List.setIfInBounds_toArray, List.set_cons_zero, List.set_cons_succ]
    refine take_held 5 (by assumption) rfl (by kernel_rfl) (by kernel_rfl) (by kernel_rfl) (fun _ _ _ h => h) (by kernel_rfl) (v := ?v29) ?y29 ?r29
    case y29 => (intro u hu; have := k0 u hu; go_simp; try rfl)
    simp only [Act.put, List.setIfInBounds_toArray, List.set_cons_zero, List.set_cons_succ]
    refine take_held 6 (by assumption) rfl (by kernel_rfl) (by kernel_rfl) (by kernel_rfl) (fun _ _ _ h => h) (by kernel_rfl) (v := .agg #[.int .i64 g, .int .i64 f, .slice a n cap]) ?y30 ?r30
    case y30 => (intro u hu; exact run_load_op 102 (.tmp 5) rfl w.heap.size _ rfl (kL u hu))
    simp only [Act.put, List.setIfInBounds_toArray, List.set_cons_zero, List.set_cons_succ]
    refine call_held 7 rfl (by kernel_rfl) (by kernel_rfl) 63 #[.agg #[.int .i64 g, .int .i64 f, .slice a n cap]] (by go_simp) _ cB ?_
    rintro v w1 ⟨m1, b1, n1⟩
    have S1 := s0.later b1
    have hS1 : IH w1 := kH wH.drew w1 hS sH (by show S < wH.heap.size; omega) b1
    have B1 : wH.heap.size ≤ w1.heap.size := b1.size
    obtain ⟨a1, d1, rfl, r1, z1, l1, q1⟩ := m1.form
    have cA := Wal.append_any S1.live (by omega) (S1.log 0 hi) hi a1 X.length d1 X ⟨r1.len, r1.small, r1.cell⟩ (fun h => (z1 h).2) hX1 hn hb
    refine ⟨hS1, ?_⟩
    simp only [Act.put, List.setIfInBounds_toArray, List.set_cons_zero, List.set_cons_succ]
    refine call_held 8 rfl (by kernel_rfl) (by kernel_rfl) 59 #[.pointer (Option.some ⟨L 0, 0, none⟩), .slice a1 X.length d1] (by go_simp) _ (Wal.call_val cA) ?_
    rintro v w2 ⟨rfl, own2, h2, f2⟩
    have S2 := S1.fr h2 f2
    have hS2 : IH w2 := kF w1 w2 own own2 hS1 (by omega) (by omega) nH hno f2
    have cS := Wal.sync_any S2.live (by omega) (S2.log 0 hi) hi
    have F2 := (F0.trans (SFr.below S b1)).trans (SFr.of S f2)
    refine ⟨hS2, ?_⟩
    simp only [Act.put, List.setIfInBounds_toArray, List.set_cons_zero, List.set_cons_succ]
    refine done_held (by kernel_rfl) ?_ _
    have q0 := k0 w2 hS2
    go_wp2_with (first
      | (go_at_call 62; refine cS.mono ?_; rintro e w3 ⟨rfl, own3, h3, f3⟩; have S3 := S2.fr h3 f3; have F3 := F2.trans (SFr.of S f3); have hS3 : IH w3 := kF w2 w3 own2 own3 hS2 (Nat.lt_of_lt_of_le sH (Nat.le_trans B1 f2.kept.size)) S2.free.1 ((f2.up _ (Nat.lt_of_lt_of_le sH B1)).trans nH) S2.free.2 f3)
      | (refine wpList_load_row rfl 102 (.tmp 5) rfl w.heap.size rfl 102 #[.int .i64 g, .int .i64 f, .slice a n cap] (0, 0) _ (by rw [hIH] at hS3; exact hS3.1) Try.underlying102 rfl wsizeHead ?_)
      | (go_at_call 55; refine (turnTo_any S3 0 hi g f a n cap).mono ?_; rintro e w4 ⟨rfl, S4, F4⟩))
    go_end0
    refine ⟨rfl, own3, ?_, F3.trans F4⟩
    have e1 : setSt (appSt σ 0 (rec X)) 0 (now (appSt σ 0 (rec X)) 0, []) = layTo σ 0 X := by rw [now_app]; unfold appSt layTo; rw [setSt_two]
    rw [e1] at S4
    exact S4
  · go_enter Try.func65, Try.ntmps65
    go_wp2
    try rw [hW]
    refine start_held (S := IH) 9 rfl (by kernel_rfl) (hS) ?_
    simp only [Array.replicate_succ, Array.replicate_zero, List.push_toArray, List.nil_append, List.cons_append]
    refine take_held 0 (by assumption) rfl (by kernel_rfl) (by kernel_rfl) (by kernel_rfl) (fun _ _ _ h => h) (by kernel_rfl) (v := ?v31) ?y31 ?r31
    case y31 => (intro u hu; go_simp; try rfl)
    simp only [Act.put, List.setIfInBounds_toArray, List.set_cons_zero, List.set_cons_succ]
    refine take_held 1 (by assumption) rfl (by kernel_rfl) (by kernel_rfl) (by kernel_rfl) (fun _ _ _ h => h) (by kernel_rfl) (v := ?v32) ?y32 ?r32
    case y32 => (intro u hu; go_simp; try rfl)
    simp only [Act.put, List.setIfInBounds_toArray, List.set_cons_zero, List.set_cons_succ]
    refine take_held 2 (by assumption) rfl (by kernel_rfl) (by kernel_rfl) (by kernel_rfl) (fun _ _ _ h => h) (by kernel_rfl) (v := ?v33) ?y33 ?r33
    case y33 => (intro u hu; go_simp; try rfl)
    simp only [Act.put, List.setIfInBounds_toArray, List.set_cons_zero, List.set_cons_succ]
    refine take_held 3 (by assumption) rfl (by kernel_rfl) (by kernel_rfl) (by kernel_rfl) (fun _ _ _ h => h) (by kernel_rfl) (v := ?v34) ?y34 ?r34
    case y34 => (intro u hu; go_simp; try rfl)
    simp only [Act.put, List.setIfInBounds_toArray, List.set_cons_zero, List.set_cons_succ]
    refine take_held 4 (by assumption) rfl (by kernel_rfl) (by kernel_rfl) (by kernel_rfl) (fun _ _ _ h => h) (by kernel_rfl) (v := ?v35) ?y35 ?r35
    case y35 => (intro u hu; go_simp; try rfl)
    simp only [Act.put, List.setIfInBounds_toArray, List.set_cons_zero, List.set_cons_succ]
    refine take_held 5 (by assumption) rfl (by kernel_rfl) (by kernel_rfl) (by kernel_rfl) (fun _ _ _ h => h) (by kernel_rfl) (v := ?v36) ?y36 ?r36
    case y36 => (intro u hu; have := k1 u hu; go_simp; try rfl)
    simp only [Act.put, List.setIfInBounds_toArray, List.set_cons_zero, List.set_cons_succ]
    refine take_held 6 (by assumption) rfl (by kernel_rfl) (by kernel_rfl) (by kernel_rfl) (fun _ _ _ h => h) (by kernel_rfl) (v := .agg #[.int .i64 g, .int .i64 f, .slice a n cap]) ?y37 ?r37
    case y37 => (intro u hu; exact run_load_op 102 (.tmp 5) rfl w.heap.size _ rfl (kL u hu))
    simp only [Act.put, List.setIfInBounds_toArray, List.set_cons_zero, List.set_cons_succ]
    refine call_held 7 rfl (by kernel_rfl) (by kernel_rfl) 63 #[.agg #[.int .i64 g, .int .i64 f, .slice a n cap]] (by go_simp) _ cB ?_
    rintro v w1 ⟨m1, b1, n1⟩
    have S1 := s0.later b1
    have hS1 : IH w1 := kH wH.drew w1 hS sH (by show S < wH.heap.size; omega) b1
    have B1 : wH.heap.size ≤ w1.heap.size := b1.size
    obtain ⟨a1, d1, rfl, r1, z1, l1, q1⟩ := m1.form
    have cA := Wal.append_any S1.live (by omega) (S1.log 1 hi) hi a1 X.length d1 X ⟨r1.len, r1.small, r1.cell⟩ (fun h => (z1 h).2) hX1 hn hb
    refine ⟨hS1, ?_⟩
    simp only [Act.put, List.setIfInBounds_toArray, List.set_cons_zero, List.set_cons_succ]
    refine call_held 8 rfl (by kernel_rfl) (by kernel_rfl) 59 #[.pointer (Option.some ⟨L 1, 0, none⟩), .slice a1 X.length d1] (by go_simp) _ (Wal.call_val cA) ?_
    rintro v w2 ⟨rfl, own2, h2, f2⟩
    have S2 := S1.fr h2 f2
    have hS2 : IH w2 := kF w1 w2 own own2 hS1 (by omega) (by omega) nH hno f2
    have cS := Wal.sync_any S2.live (by omega) (S2.log 1 hi) hi
    have F2 := (F0.trans (SFr.below S b1)).trans (SFr.of S f2)
    refine ⟨hS2, ?_⟩
    simp only [Act.put, List.setIfInBounds_toArray, List.set_cons_zero, List.set_cons_succ]
    refine done_held (by kernel_rfl) ?_ _
    have q0 := k1 w2 hS2
    go_wp2_with (first
      | (go_at_call 62; refine cS.mono ?_; rintro e w3 ⟨rfl, own3, h3, f3⟩; have S3 := S2.fr h3 f3; have F3 := F2.trans (SFr.of S f3); have hS3 : IH w3 := kF w2 w3 own2 own3 hS2 (Nat.lt_of_lt_of_le sH (Nat.le_trans B1 f2.kept.size)) S2.free.1 ((f2.up _ (Nat.lt_of_lt_of_le sH B1)).trans nH) S2.free.2 f3)
      | (refine wpList_load_row rfl 102 (.tmp 5) rfl w.heap.size rfl 102 #[.int .i64 g, .int .i64 f, .slice a n cap] (0, 0) _ (by rw [hIH] at hS3; exact hS3.1) Try.underlying102 rfl wsizeHead ?_)
      | (go_at_call 55; refine (turnTo_any S3 1 hi g f a n cap).mono ?_; rintro e w4 ⟨rfl, S4, F4⟩))
    go_end0
    refine ⟨rfl, own3, ?_, F3.trans F4⟩
    have e1 : setSt (appSt σ 1 (rec X)) 1 (now (appSt σ 1 (rec X)) 1, []) = layTo σ 1 X := by rw [now_app]; unfold appSt layTo; rw [setSt_two]
    rw [e1] at S4
    exact S4
end Go.Proofs.Yticfkdiggiogdaa.Store
