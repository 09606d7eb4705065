/-
  The functions that read an item (over the reader in a variable), the methods that read lists, an event, a state.
-/
import Derived.Test.YthdgpadakmdlkaaCodecGetLists
import Derived.Test.YthdgpadakmdlkaaCodecOrder
namespace Go.Proofs.Ythdgpadakmdlkaa.Codec
set_option linter.unusedVariables false
set_option linter.unusedSimpArgs false
open Go Go.RowKit
set_option maxHeartbeats 1000000 in
theorem numbers_any (M : Nat) (hM24 : M ≤ 16777216) (u : World) (R : Nat) (a : Option Addr) (cap : Nat) (zs : List Int) (k : Nat) (hM : zs.length ≤ M) (h : Rd u R a cap zs k) :
    Calls Try.prog 107 #[.pointer (some ⟨R, 0, none⟩)] u (GotList 1 cNum intEl u R a cap zs k) := by
  have hmf : ∀ (fn : Fn) (first cap : Array Value) (w : World), (Instr.makeFunc fn first cap).run Try.prog w = .ok (.func fn first cap) w := fun _ _ _ _ => rfl
  have c1 := listInt_any M hM24 (u.alloc (.cells #[.pointer (some ⟨R, 0, none⟩)] 67)) R u.heap.size a cap zs k hM (h.alloc _) (by rw [cell_new]; rfl)
  go_enter Try.func107, Try.ntmps107
  go_wp2_with (go_at_call 117; refine c1.mono ?_; rintro e w1 (⟨xs, v, k1, F, q1, l1, o1, rfl, e1, f1, r1, g1⟩ | ⟨q1, rfl, g1⟩))
  · go_ret
    exact Or.inl ⟨xs, v, k1, F, q1, l1, o1, rfl, e1, f1.keep (by simp) (Nat.le_refl _), r1, (World.grownBy_alloc _ _ _).trans g1⟩
  · exact ⟨rfl, Or.inr ⟨q1, rfl, (World.grownBy_alloc _ _ _).trans g1⟩⟩
theorem zMove : (Try.prog.info? 42).map (·.size) = some 11 := by kernel_rfl
set_option maxRecDepth 100000 in
set_option maxHeartbeats 1000000 in
theorem itemMove (M : Nat) : Item M cMove moveEl 101 := by
  intro w R X a cap zs k hM h hX
  have hR := h.lt
  have hXR := rd_apart h hX
  have hXl := World.block_lt_of_cell? w _ hX
  simp only at hXl
  have hx : ∀ x, a = some x → zs.length ≠ 0 → x.block ≠ w.heap.size := fun x hx hn => Nat.ne_of_lt (h.row.lt x hx hn)
  have hX0 := ((Below.refl w.heap.size w).alloc (Nat.le_refl _) (.cells #[.int .i64 0, .int .i64 0, .int .i64 0, .int .i64 0, .int .i64 0, .bool false, .int .i64 0, .int .i64 0, .bool false, .int .i64 0, .int .i64 0] 42)).cell (p := ⟨X, 0, none⟩) hXl
  rw [hX] at hX0
  have c1 := readMove M (w.alloc (.cells #[.int .i64 0, .int .i64 0, .int .i64 0, .int .i64 0, .int .i64 0, .bool false, .int .i64 0, .int .i64 0, .bool false, .int .i64 0, .int .i64 0] 42)) R a cap zs k hM (h.alloc _)
  go_enter Try.func101, Try.ntmps101
  go_wp2_with (first
    | (go_at_call 78; refine c1.mono ?_; rintro e w1 (⟨x, cs, k1, F, q1, l1, o1, rfl, i1, f1, r1, g1⟩ | ⟨q1, rfl, g1⟩))
    | (refine wpList_store_row rfl 42 (.tmp 1) (.tmp 3) rfl w.heap.size cs rfl rfl 42 #[.int .i64 0, .int .i64 0, .int .i64 0, .int .i64 0, .int .i64 0, .bool false, .int .i64 0, .int .i64 0, .bool false, .int .i64 0, .int .i64 0] (heap_kept g1 (by simp) (by omega) (heap_alloc_new w _)) (by rw [heldMove.size i1]; exact zMove) (by rw [heldMove.size i1]; rfl) (heldMove.one i1) ?_))
  · refine bodyPost_ret (results_cell_row rfl _ _ w.heap.size 42 cs (0, 0) _ rfl (setRow_heap _ _ _ _ _ _ (heap_kept g1 (by simp) (by omega) (heap_alloc_new w _))) Try.underlying42 rfl (by rw [heldMove.size i1]; exact zMove)) rfl ?_
    exact Or.inl ⟨x, cs, k1, F, q1, l1, o1, rfl, i1, f1.keep (by simp) (by rw [setRow_size]; exact Nat.le_refl _), r1.setRow _ _ (by omega) hx, grown_setRow ((World.grownBy_alloc _ _ _).trans g1) (Nat.le_refl _) _⟩
  · exact ⟨rfl, Or.inr ⟨q1, rfl, (World.grownBy_alloc _ _ _).trans g1⟩⟩
set_option maxHeartbeats 1000000 in
theorem moves_any (M : Nat) (hM24 : M ≤ 16777216) (u : World) (R : Nat) (a : Option Addr) (cap : Nat) (zs : List Int) (k : Nat) (hM : zs.length ≤ M) (h : Rd u R a cap zs k) :
    Calls Try.prog 70 #[.pointer (some ⟨R, 0, none⟩)] u (GotList 11 cMove moveEl u R a cap zs k) := by
  have hmf : ∀ (fn : Fn) (first cap : Array Value) (w : World), (Instr.makeFunc fn first cap).run Try.prog w = .ok (.func fn first cap) w := fun _ _ _ _ => rfl
  have c1 := listMove_any M hM24 cMove gMove moveEl heldMoveEl (itemMove M) (u.alloc (.cells #[.pointer (some ⟨R, 0, none⟩)] 67)) R u.heap.size a cap zs k hM (h.alloc _) (by rw [cell_new]; rfl)
  go_enter Try.func70, Try.ntmps70
  go_wp2_with (go_at_call 100; refine c1.mono ?_; rintro e w1 (⟨xs, v, k1, F, q1, l1, o1, rfl, e1, f1, r1, g1⟩ | ⟨q1, rfl, g1⟩))
  · go_ret
    exact Or.inl ⟨xs, v, k1, F, q1, l1, o1, rfl, e1, f1.keep (by simp) (Nat.le_refl _), r1, (World.grownBy_alloc _ _ _).trans g1⟩
  · exact ⟨rfl, Or.inr ⟨q1, rfl, (World.grownBy_alloc _ _ _).trans g1⟩⟩
theorem zStack : (Try.prog.info? 99).map (·.size) = some 3 := by kernel_rfl
set_option maxRecDepth 100000 in
set_option maxHeartbeats 4000000 in
theorem itemStack (M : Nat) (hM24 : M ≤ 16777216) : Item M cStack stackEl 106 := by
  intro w R X a cap zs k hM h hX
  have hR := h.lt
  have hx : ∀ x, a = some x → zs.length ≠ 0 → x.block ≠ w.heap.size := fun x hx hn => Nat.ne_of_lt (h.row.lt x hx hn)
  have hXR := rd_apart h hX
  have hXl := World.block_lt_of_cell? w _ hX
  simp only at hXl
  have X0 : ((w.alloc (.cells #[.int .i64 0, .int .i64 0, .slice none 0 0] 99)).drew).cell? ⟨X, 0, none⟩ = some (.pointer (some ⟨R, 0, none⟩)) := (((Below.refl w.heap.size w).alloc (Nat.le_refl _) (.cells #[.int .i64 0, .int .i64 0, .slice none 0 0] 99)).cell (p := ⟨X, 0, none⟩) hXl).trans hX
  have h0 : Rd ((w.alloc (.cells #[.int .i64 0, .int .i64 0, .slice none 0 0] 99)).drew) R a cap zs k := (h.alloc _).drewN 1
  have G0 : w.grownBy ((w.alloc (.cells #[.int .i64 0, .int .i64 0, .slice none 0 0] 99)).drew) (some R) := (World.grownBy_alloc _ _ _).trans (grown_drewN _ 1 _)
  have hN0 : ((w.alloc (.cells #[.int .i64 0, .int .i64 0, .slice none 0 0] 99)).drew).heap[w.heap.size]? = some (.cells #[.int .i64 0, .int .i64 0, .slice none 0 0] 99 (0, 0)) := heap_alloc_new w _
  have sz0 : ((w.alloc (.cells #[.int .i64 0, .int .i64 0, .slice none 0 0] 99)).drew).heap.size = w.heap.size + 1 := by show (w.alloc (.cells #[.int .i64 0, .int .i64 0, .slice none 0 0] 99)).heap.size = _; simp
  go_enter Try.func106, Try.ntmps106
  go_wp2
  refine start_held (S := fun u => u.cell? ⟨X, 0, none⟩ = some (.pointer (some ⟨R, 0, none⟩))) 6 rfl (by kernel_rfl) X0 ?_
  simp only [Array.replicate_succ, Array.replicate_zero, List.push_toArray, List.nil_append, List.cons_append]
  refine take_held 0 X0 rfl (by kernel_rfl) (by kernel_rfl) (by kernel_rfl) (fun _ _ _ h => h) (by kernel_rfl) (v := .pointer (some ⟨R, 0, none⟩)) ?y0 ?r0
  case y0 => (intro u hu; go_simp; try rfl)
  simp only [Act.put, List.setIfInBounds_toArray, List.set_cons_zero, List.set_cons_succ]
  refine take_held 2 X0 rfl (by kernel_rfl) (by kernel_rfl) (by kernel_rfl) (fun _ _ _ h => h) (by kernel_rfl) (v := .pointer (some ⟨R, 0, none⟩)) ?y2 ?r2
  case y2 => (intro u hu; go_simp; try rfl)
  simp only [Act.put, List.setIfInBounds_toArray, List.set_cons_zero, List.set_cons_succ]
  refine call_held 1 rfl (by kernel_rfl) (by kernel_rfl) 99 #[.pointer (some ⟨R, 0, none⟩)] (by go_simp) _ (cell_flat _ R a cap zs k h0) ?_
  rintro e w1 (⟨y0, y1, k1, q1, l1, o1, rfl, r1, g1⟩ | ⟨q1, rfl, g1⟩)
  rotate_left
  · exact Or.inr ⟨_, rfl, rfl, Or.inr ⟨(pair_none q1), rfl, G0.trans g1⟩⟩
  have sz1 := g1.size
  have X1 := cell_go X0 g1 hXR
  refine Or.inl ⟨_, rfl, X1, ?_⟩
  simp only [Act.put, List.setIfInBounds_toArray, List.set_cons_zero, List.set_cons_succ]
  refine call_held 3 rfl (by kernel_rfl) (by kernel_rfl) 107 #[.pointer (some ⟨R, 0, none⟩)] (by go_simp) _ (numbers_any M hM24 _ R a cap zs k1 hM r1) ?_
  rintro e w2 (⟨xs2, v2, k2, F2, q2, l2, o2, rfl, e2, f2, r2, g2⟩ | ⟨q2, rfl, g2⟩)
  rotate_left
  · exact Or.inr ⟨_, rfl, rfl, Or.inr ⟨(pair_none2 q1 q2), rfl, G0.trans (g1.trans g2)⟩⟩
  obtain ⟨va2, vc2, rfl, _⟩ := e2.form
  have sz2 := g2.size
  have X2 := cell_go X1 g2 hXR
  refine Or.inl ⟨_, rfl, X2, ?_⟩
  simp only [Act.put, List.setIfInBounds_toArray, List.set_cons_zero, List.set_cons_succ]
  refine read_held 4 rfl (by kernel_rfl) (by kernel_rfl) (.agg #[.int .i64 y0, .int .i64 y1, .slice va2 xs2.length vc2]) (by go_simp) X2 ?_
  simp only [Act.put, List.setIfInBounds_toArray, List.set_cons_zero, List.set_cons_succ]
  have hNn := heap_kept (g1.trans g2) (by omega) (by omega) hN0
  have hst := run_storeVar_row (P := Try.prog) w2 w.heap.size 99 99 #[.int .i64 0, .int .i64 0, .slice none 0 0] #[.int .i64 y0, .int .i64 y1, .slice va2 xs2.length vc2] hNn zStack rfl (by simp [Value.oneCell'])
  refine store_held 5 rfl (by kernel_rfl) (by kernel_rfl) (w2.setRow w.heap.size #[.int .i64 y0, .int .i64 y1, .slice va2 xs2.length vc2]) (run_store_op 99 (.tmp 1) (.tmp 6) rfl w.heap.size _ rfl rfl hst) ?_ ?_
  · exact (cell_setRow_other _ _ _ _ (by simp only; omega)).trans X2
  simp only [Act.put, List.setIfInBounds_toArray, List.set_cons_zero, List.set_cons_succ]
  refine done_held (by kernel_rfl) ?_ _
  go_wp2
  refine bodyPost_ret (results_cell_row rfl _ _ w.heap.size 99 #[.int .i64 y0, .int .i64 y1, .slice va2 xs2.length vc2] (0, 0) _ rfl (setRow_heap _ _ _ _ _ _ (heap_kept (g1.trans g2) (by omega) (by omega) hN0)) Try.underlying99 rfl zStack) rfl ?_
  exact Or.inl ⟨((y0, y1), xs2), _, k2, fun g => F2 g, (pair_some q1 q2), by omega, ⟨o1, o2⟩, rfl, ⟨_, rfl, (e2.row heldIntEl _ f2 (by have := sz2; omega))⟩, (f2.keep (by have := sz2; omega) (by rw [setRow_size]; exact Nat.le_refl _)), r2.setRow _ _ (by omega) hx, grown_setRow (G0.trans (g1.trans g2)) (Nat.le_refl _) _⟩
set_option maxHeartbeats 1000000 in
theorem stacks_any (M : Nat) (hM24 : M ≤ 16777216) (u : World) (R : Nat) (a : Option Addr) (cap : Nat) (zs : List Int) (k : Nat) (hM : zs.length ≤ M) (h : Rd u R a cap zs k) :
    Calls Try.prog 92 #[.pointer (some ⟨R, 0, none⟩)] u (GotList 3 cStack stackEl u R a cap zs k) := by
  have hmf : ∀ (fn : Fn) (first cap : Array Value) (w : World), (Instr.makeFunc fn first cap).run Try.prog w = .ok (.func fn first cap) w := fun _ _ _ _ => rfl
  have c1 := listStack_any M hM24 cStack gStack stackEl heldStack (itemStack M hM24) (u.alloc (.cells #[.pointer (some ⟨R, 0, none⟩)] 67)) R u.heap.size a cap zs k hM (h.alloc _) (by rw [cell_new]; rfl)
  go_enter Try.func92, Try.ntmps92
  go_wp2_with (go_at_call 105; refine c1.mono ?_; rintro e w1 (⟨xs, v, k1, F, q1, l1, o1, rfl, e1, f1, r1, g1⟩ | ⟨q1, rfl, g1⟩))
  · go_ret
    exact Or.inl ⟨xs, v, k1, F, q1, l1, o1, rfl, e1, f1.keep (by simp) (Nat.le_refl _), r1, (World.grownBy_alloc _ _ _).trans g1⟩
  · exact ⟨rfl, Or.inr ⟨q1, rfl, (World.grownBy_alloc _ _ _).trans g1⟩⟩
theorem zPort : (Try.prog.info? 104).map (·.size) = some 3 := by kernel_rfl
set_option maxRecDepth 100000 in
set_option maxHeartbeats 4000000 in
theorem itemPort (M : Nat) (hM24 : M ≤ 16777216) : Item M cPort portEl 111 := by
  intro w R X a cap zs k hM h hX
  have hR := h.lt
  have hx : ∀ x, a = some x → zs.length ≠ 0 → x.block ≠ w.heap.size := fun x hx hn => Nat.ne_of_lt (h.row.lt x hx hn)
  have hXR := rd_apart h hX
  have hXl := World.block_lt_of_cell? w _ hX
  simp only at hXl
  have X0 : ((w.alloc (.cells #[.int .i64 0, .int .i64 0, .slice none 0 0] 104)).drew).cell? ⟨X, 0, none⟩ = some (.pointer (some ⟨R, 0, none⟩)) := (((Below.refl w.heap.size w).alloc (Nat.le_refl _) (.cells #[.int .i64 0, .int .i64 0, .slice none 0 0] 104)).cell (p := ⟨X, 0, none⟩) hXl).trans hX
  have h0 : Rd ((w.alloc (.cells #[.int .i64 0, .int .i64 0, .slice none 0 0] 104)).drew) R a cap zs k := (h.alloc _).drewN 1
  have G0 : w.grownBy ((w.alloc (.cells #[.int .i64 0, .int .i64 0, .slice none 0 0] 104)).drew) (some R) := (World.grownBy_alloc _ _ _).trans (grown_drewN _ 1 _)
  have hN0 : ((w.alloc (.cells #[.int .i64 0, .int .i64 0, .slice none 0 0] 104)).drew).heap[w.heap.size]? = some (.cells #[.int .i64 0, .int .i64 0, .slice none 0 0] 104 (0, 0)) := heap_alloc_new w _
  have sz0 : ((w.alloc (.cells #[.int .i64 0, .int .i64 0, .slice none 0 0] 104)).drew).heap.size = w.heap.size + 1 := by show (w.alloc (.cells #[.int .i64 0, .int .i64 0, .slice none 0 0] 104)).heap.size = _; simp
  go_enter Try.func111, Try.ntmps111
  go_wp2
  refine start_held (S := fun u => u.cell? ⟨X, 0, none⟩ = some (.pointer (some ⟨R, 0, none⟩))) 8 rfl (by kernel_rfl) X0 ?_
  simp only [Array.replicate_succ, Array.replicate_zero, List.push_toArray, List.nil_append, List.cons_append]
  refine take_held 0 X0 rfl (by kernel_rfl) (by kernel_rfl) (by kernel_rfl) (fun _ _ _ h => h) (by kernel_rfl) (v := .pointer (some ⟨R, 0, none⟩)) ?y0 ?r0
  case y0 => (intro u hu; go_simp; try rfl)
  simp only [Act.put, List.setIfInBounds_toArray, List.set_cons_zero, List.set_cons_succ]
  refine take_held 2 X0 rfl (by kernel_rfl) (by kernel_rfl) (by kernel_rfl) (fun _ _ _ h => h) (by kernel_rfl) (v := .pointer (some ⟨R, 0, none⟩)) ?y2 ?r2
  case y2 => (intro u hu; go_simp; try rfl)
  simp only [Act.put, List.setIfInBounds_toArray, List.set_cons_zero, List.set_cons_succ]
  refine take_held 4 X0 rfl (by kernel_rfl) (by kernel_rfl) (by kernel_rfl) (fun _ _ _ h => h) (by kernel_rfl) (v := .pointer (some ⟨R, 0, none⟩)) ?y4 ?r4
  case y4 => (intro u hu; go_simp; try rfl)
  simp only [Act.put, List.setIfInBounds_toArray, List.set_cons_zero, List.set_cons_succ]
  refine call_held 1 rfl (by kernel_rfl) (by kernel_rfl) 68 #[.pointer (some ⟨R, 0, none⟩)] (by go_simp) _ (num_flat _ R a cap zs k h0) ?_
  rintro e w1 (⟨y0, k1, q1, l1, o1, rfl, r1, g1⟩ | ⟨q1, rfl, g1⟩)
  rotate_left
  · exact Or.inr ⟨_, rfl, rfl, Or.inr ⟨(pair_none q1), rfl, G0.trans g1⟩⟩
  have sz1 := g1.size
  have X1 := cell_go X0 g1 hXR
  refine Or.inl ⟨_, rfl, X1, ?_⟩
  simp only [Act.put, List.setIfInBounds_toArray, List.set_cons_zero, List.set_cons_succ]
  refine call_held 3 rfl (by kernel_rfl) (by kernel_rfl) 68 #[.pointer (some ⟨R, 0, none⟩)] (by go_simp) _ (num_flat _ R a cap zs k1 r1) ?_
  rintro e w2 (⟨y1, k2, q2, l2, o2, rfl, r2, g2⟩ | ⟨q2, rfl, g2⟩)
  rotate_left
  · exact Or.inr ⟨_, rfl, rfl, Or.inr ⟨(pair_none2 q1 (pair_none q2)), rfl, G0.trans (g1.trans g2)⟩⟩
  have sz2 := g2.size
  have X2 := cell_go X1 g2 hXR
  refine Or.inl ⟨_, rfl, X2, ?_⟩
  simp only [Act.put, List.setIfInBounds_toArray, List.set_cons_zero, List.set_cons_succ]
  refine call_held 5 rfl (by kernel_rfl) (by kernel_rfl) 107 #[.pointer (some ⟨R, 0, none⟩)] (by go_simp) _ (numbers_any M hM24 _ R a cap zs k2 hM r2) ?_
  rintro e w3 (⟨xs3, v3, k3, F3, q3, l3, o3, rfl, e3, f3, r3, g3⟩ | ⟨q3, rfl, g3⟩)
  rotate_left
  · exact Or.inr ⟨_, rfl, rfl, Or.inr ⟨(pair_none2 q1 (pair_none2 q2 q3)), rfl, G0.trans (g1.trans (g2.trans g3))⟩⟩
  obtain ⟨va3, vc3, rfl, _⟩ := e3.form
  have sz3 := g3.size
  have X3 := cell_go X2 g3 hXR
  refine Or.inl ⟨_, rfl, X3, ?_⟩
  simp only [Act.put, List.setIfInBounds_toArray, List.set_cons_zero, List.set_cons_succ]
  refine read_held 6 rfl (by kernel_rfl) (by kernel_rfl) (.agg #[.int .i64 y0, .int .i64 y1, .slice va3 xs3.length vc3]) (by go_simp) X3 ?_
  simp only [Act.put, List.setIfInBounds_toArray, List.set_cons_zero, List.set_cons_succ]
  have hNn := heap_kept (g1.trans (g2.trans g3)) (by omega) (by omega) hN0
  have hst := run_storeVar_row (P := Try.prog) w3 w.heap.size 104 104 #[.int .i64 0, .int .i64 0, .slice none 0 0] #[.int .i64 y0, .int .i64 y1, .slice va3 xs3.length vc3] hNn zPort rfl (by simp [Value.oneCell'])
  refine store_held 7 rfl (by kernel_rfl) (by kernel_rfl) (w3.setRow w.heap.size #[.int .i64 y0, .int .i64 y1, .slice va3 xs3.length vc3]) (run_store_op 104 (.tmp 1) (.tmp 8) rfl w.heap.size _ rfl rfl hst) ?_ ?_
  · exact (cell_setRow_other _ _ _ _ (by simp only; omega)).trans X3
  simp only [Act.put, List.setIfInBounds_toArray, List.set_cons_zero, List.set_cons_succ]
  refine done_held (by kernel_rfl) ?_ _
  go_wp2
  refine bodyPost_ret (results_cell_row rfl _ _ w.heap.size 104 #[.int .i64 y0, .int .i64 y1, .slice va3 xs3.length vc3] (0, 0) _ rfl (setRow_heap _ _ _ _ _ _ (heap_kept (g1.trans (g2.trans g3)) (by omega) (by omega) hN0)) Try.underlying104 rfl zPort) rfl ?_
  exact Or.inl ⟨(y0, y1, xs3), _, k3, fun g => F3 g, (pair_some q1 (pair_some q2 q3)), by omega, ⟨o1, o2, o3⟩, rfl, ⟨_, rfl, (e3.row heldIntEl _ f3 (by have := sz3; omega))⟩, (f3.keep (by have := sz3; omega) (by rw [setRow_size]; exact Nat.le_refl _)), r3.setRow _ _ (by omega) hx, grown_setRow (G0.trans (g1.trans (g2.trans g3))) (Nat.le_refl _) _⟩
set_option maxHeartbeats 1000000 in
theorem ports_any (M : Nat) (hM24 : M ≤ 16777216) (u : World) (R : Nat) (a : Option Addr) (cap : Nat) (zs : List Int) (k : Nat) (hM : zs.length ≤ M) (h : Rd u R a cap zs k) :
    Calls Try.prog 94 #[.pointer (some ⟨R, 0, none⟩)] u (GotList 3 cPort portEl u R a cap zs k) := by
  have hmf : ∀ (fn : Fn) (first cap : Array Value) (w : World), (Instr.makeFunc fn first cap).run Try.prog w = .ok (.func fn first cap) w := fun _ _ _ _ => rfl
  have c1 := listPort_any M hM24 cPort gPort portEl heldPort (itemPort M hM24) (u.alloc (.cells #[.pointer (some ⟨R, 0, none⟩)] 67)) R u.heap.size a cap zs k hM (h.alloc _) (by rw [cell_new]; rfl)
  go_enter Try.func94, Try.ntmps94
  go_wp2_with (go_at_call 110; refine c1.mono ?_; rintro e w1 (⟨xs, v, k1, F, q1, l1, o1, rfl, e1, f1, r1, g1⟩ | ⟨q1, rfl, g1⟩))
  · go_ret
    exact Or.inl ⟨xs, v, k1, F, q1, l1, o1, rfl, e1, f1.keep (by simp) (Nat.le_refl _), r1, (World.grownBy_alloc _ _ _).trans g1⟩
  · exact ⟨rfl, Or.inr ⟨q1, rfl, (World.grownBy_alloc _ _ _).trans g1⟩⟩
theorem zRobot : (Try.prog.info? 101).map (·.size) = some 9 := by kernel_rfl
set_option maxRecDepth 100000 in
set_option maxHeartbeats 4000000 in
theorem itemRobot (M : Nat) (hM24 : M ≤ 16777216) : Item M cRobot robotEl 109 := by
  intro w R X a cap zs k hM h hX
  have hR := h.lt
  have hx : ∀ x, a = some x → zs.length ≠ 0 → x.block ≠ w.heap.size := fun x hx hn => Nat.ne_of_lt (h.row.lt x hx hn)
  have hXR := rd_apart h hX
  have hXl := World.block_lt_of_cell? w _ hX
  simp only at hXl
  have X0 : ((w.alloc (.cells #[.int .i64 0, .int .i64 0, .bool false, .int .i64 0, .int .i64 0, .slice none 0 0, .bool false, .int .i64 0, .bool false] 101)).drew).cell? ⟨X, 0, none⟩ = some (.pointer (some ⟨R, 0, none⟩)) := (((Below.refl w.heap.size w).alloc (Nat.le_refl _) (.cells #[.int .i64 0, .int .i64 0, .bool false, .int .i64 0, .int .i64 0, .slice none 0 0, .bool false, .int .i64 0, .bool false] 101)).cell (p := ⟨X, 0, none⟩) hXl).trans hX
  have h0 : Rd ((w.alloc (.cells #[.int .i64 0, .int .i64 0, .bool false, .int .i64 0, .int .i64 0, .slice none 0 0, .bool false, .int .i64 0, .bool false] 101)).drew) R a cap zs k := (h.alloc _).drewN 1
  have G0 : w.grownBy ((w.alloc (.cells #[.int .i64 0, .int .i64 0, .bool false, .int .i64 0, .int .i64 0, .slice none 0 0, .bool false, .int .i64 0, .bool false] 101)).drew) (some R) := (World.grownBy_alloc _ _ _).trans (grown_drewN _ 1 _)
  have hN0 : ((w.alloc (.cells #[.int .i64 0, .int .i64 0, .bool false, .int .i64 0, .int .i64 0, .slice none 0 0, .bool false, .int .i64 0, .bool false] 101)).drew).heap[w.heap.size]? = some (.cells #[.int .i64 0, .int .i64 0, .bool false, .int .i64 0, .int .i64 0, .slice none 0 0, .bool false, .int .i64 0, .bool false] 101 (0, 0)) := heap_alloc_new w _
  have sz0 : ((w.alloc (.cells #[.int .i64 0, .int .i64 0, .bool false, .int .i64 0, .int .i64 0, .slice none 0 0, .bool false, .int .i64 0, .bool false] 101)).drew).heap.size = w.heap.size + 1 := by show (w.alloc (.cells #[.int .i64 0, .int .i64 0, .bool false, .int .i64 0, .int .i64 0, .slice none 0 0, .bool false, .int .i64 0, .bool false] 101)).heap.size = _; simp
  go_enter Try.func109, Try.ntmps109
  go_wp2
  refine start_held (S := fun u => u.cell? ⟨X, 0, none⟩ = some (.pointer (some ⟨R, 0, none⟩))) 16 rfl (by kernel_rfl) X0 ?_
  simp only [Array.replicate_succ, Array.replicate_zero, List.push_toArray, List.nil_append, List.cons_append]
  refine take_held 0 X0 rfl (by kernel_rfl) (by kernel_rfl) (by kernel_rfl) (fun _ _ _ h => h) (by kernel_rfl) (v := .pointer (some ⟨R, 0, none⟩)) ?y0 ?r0
  case y0 => (intro u hu; go_simp; try rfl)
  simp only [Act.put, List.setIfInBounds_toArray, List.set_cons_zero, List.set_cons_succ]
  refine take_held 2 X0 rfl (by kernel_rfl) (by kernel_rfl) (by kernel_rfl) (fun _ _ _ h => h) (by kernel_rfl) (v := .pointer (some ⟨R, 0, none⟩)) ?y2 ?r2
  case y2 => (intro u hu; go_simp; try rfl)
  simp only [Act.put, List.setIfInBounds_toArray, List.set_cons_zero, List.set_cons_succ]
  refine take_held 4 X0 rfl (by kernel_rfl) (by kernel_rfl) (by kernel_rfl) (fun _ _ _ h => h) (by kernel_rfl) (v := .pointer (some ⟨R, 0, none⟩)) ?y4 ?r4
  case y4 => (intro u hu; go_simp; try rfl)
  simp only [Act.put, List.setIfInBounds_toArray, List.set_cons_zero, List.set_cons_succ]
  refine take_held 6 X0 rfl (by kernel_rfl) (by kernel_rfl) (by kernel_rfl) (fun _ _ _ h => h) (by kernel_rfl) (v := .pointer (some ⟨R, 0, none⟩)) ?y6 ?r6
  case y6 => (intro u hu; go_simp; try rfl)
  simp only [Act.put, List.setIfInBounds_toArray, List.set_cons_zero, List.set_cons_succ]
  refine take_held 8 X0 rfl (by kernel_rfl) (by kernel_rfl) (by kernel_rfl) (fun _ _ _ h => h) (by kernel_rfl) (v := .pointer (some ⟨R, 0, none⟩)) ?y8 ?r8
  case y8 => (intro u hu; go_simp; try rfl)
  simp only [Act.put, List.setIfInBounds_toArray, List.set_cons_zero, List.set_cons_succ]
  refine take_held 10 X0 rfl (by kernel_rfl) (by kernel_rfl) (by kernel_rfl) (fun _ _ _ h => h) (by kernel_rfl) (v := .pointer (some ⟨R, 0, none⟩)) ?y10 ?r10
  case y10 => (intro u hu; go_simp; try rfl)
  simp only [Act.put, List.setIfInBounds_toArray, List.set_cons_zero, List.set_cons_succ]
  refine take_held 12 X0 rfl (by kernel_rfl) (by kernel_rfl) (by kernel_rfl) (fun _ _ _ h => h) (by kernel_rfl) (v := .pointer (some ⟨R, 0, none⟩)) ?y12 ?r12
  case y12 => (intro u hu; go_simp; try rfl)
  simp only [Act.put, List.setIfInBounds_toArray, List.set_cons_zero, List.set_cons_succ]
  refine call_held 1 rfl (by kernel_rfl) (by kernel_rfl) 69 #[.pointer (some ⟨R, 0, none⟩)] (by go_simp) _ (pose_flat _ R a cap zs k h0) ?_
  rintro e w1 (⟨y0, y1, y2, k1, q1, l1, o1, rfl, r1, g1⟩ | ⟨q1, rfl, g1⟩)
  rotate_left
  · exact Or.inr ⟨_, rfl, rfl, Or.inr ⟨(pair_none q1), rfl, G0.trans g1⟩⟩
  have sz1 := g1.size
  have X1 := cell_go X0 g1 hXR
  refine Or.inl ⟨_, rfl, X1, ?_⟩
  simp only [Act.put, List.setIfInBounds_toArray, List.set_cons_zero, List.set_cons_succ]
  refine call_held 3 rfl (by kernel_rfl) (by kernel_rfl) 68 #[.pointer (some ⟨R, 0, none⟩)] (by go_simp) _ (num_flat _ R a cap zs k1 r1) ?_
  rintro e w2 (⟨y3, k2, q2, l2, o2, rfl, r2, g2⟩ | ⟨q2, rfl, g2⟩)
  rotate_left
  · exact Or.inr ⟨_, rfl, rfl, Or.inr ⟨(pair_none2 q1 (pair_none q2)), rfl, G0.trans (g1.trans g2)⟩⟩
  have sz2 := g2.size
  have X2 := cell_go X1 g2 hXR
  refine Or.inl ⟨_, rfl, X2, ?_⟩
  simp only [Act.put, List.setIfInBounds_toArray, List.set_cons_zero, List.set_cons_succ]
  refine call_held 5 rfl (by kernel_rfl) (by kernel_rfl) 68 #[.pointer (some ⟨R, 0, none⟩)] (by go_simp) _ (num_flat _ R a cap zs k2 r2) ?_
  rintro e w3 (⟨y4, k3, q3, l3, o3, rfl, r3, g3⟩ | ⟨q3, rfl, g3⟩)
  rotate_left
  · exact Or.inr ⟨_, rfl, rfl, Or.inr ⟨(pair_none2 q1 (pair_none2 q2 (pair_none q3))), rfl, G0.trans (g1.trans (g2.trans g3))⟩⟩
  have sz3 := g3.size
  have X3 := cell_go X2 g3 hXR
  refine Or.inl ⟨_, rfl, X3, ?_⟩
  simp only [Act.put, List.setIfInBounds_toArray, List.set_cons_zero, List.set_cons_succ]
  refine call_held 7 rfl (by kernel_rfl) (by kernel_rfl) 70 #[.pointer (some ⟨R, 0, none⟩)] (by go_simp) _ (moves_any M hM24 _ R a cap zs k3 hM r3) ?_
  rintro e w4 (⟨xs4, v4, k4, F4, q4, l4, o4, rfl, e4, f4, r4, g4⟩ | ⟨q4, rfl, g4⟩)
  rotate_left
  · exact Or.inr ⟨_, rfl, rfl, Or.inr ⟨(pair_none2 q1 (pair_none2 q2 (pair_none2 q3 (pair_none q4)))), rfl, G0.trans (g1.trans (g2.trans (g3.trans g4)))⟩⟩
  obtain ⟨va4, vc4, rfl, _⟩ := e4.form
  have sz4 := g4.size
  have X4 := cell_go X3 g4 hXR
  refine Or.inl ⟨_, rfl, X4, ?_⟩
  simp only [Act.put, List.setIfInBounds_toArray, List.set_cons_zero, List.set_cons_succ]
  refine call_held 9 rfl (by kernel_rfl) (by kernel_rfl) 91 #[.pointer (some ⟨R, 0, none⟩)] (by go_simp) _ (flag_flat _ R a cap zs k4 r4) ?_
  rintro e w5 (⟨y6, k5, q5, l5, o5, rfl, r5, g5⟩ | ⟨q5, rfl, g5⟩)
  rotate_left
  · exact Or.inr ⟨_, rfl, rfl, Or.inr ⟨(pair_none2 q1 (pair_none2 q2 (pair_none2 q3 (pair_none2 q4 (pair_none q5))))), rfl, G0.trans (g1.trans (g2.trans (g3.trans (g4.trans g5))))⟩⟩
  have sz5 := g5.size
  have X5 := cell_go X4 g5 hXR
  refine Or.inl ⟨_, rfl, X5, ?_⟩
  simp only [Act.put, List.setIfInBounds_toArray, List.set_cons_zero, List.set_cons_succ]
  refine call_held 11 rfl (by kernel_rfl) (by kernel_rfl) 68 #[.pointer (some ⟨R, 0, none⟩)] (by go_simp) _ (num_flat _ R a cap zs k5 r5) ?_
  rintro e w6 (⟨y7, k6, q6, l6, o6, rfl, r6, g6⟩ | ⟨q6, rfl, g6⟩)
  rotate_left
  · exact Or.inr ⟨_, rfl, rfl, Or.inr ⟨(pair_none2 q1 (pair_none2 q2 (pair_none2 q3 (pair_none2 q4 (pair_none2 q5 (pair_none q6)))))), rfl, G0.trans (g1.trans (g2.trans (g3.trans (g4.trans (g5.trans g6)))))⟩⟩
  have sz6 := g6.size
  have X6 := cell_go X5 g6 hXR
  refine Or.inl ⟨_, rfl, X6, ?_⟩
  simp only [Act.put, List.setIfInBounds_toArray, List.set_cons_zero, List.set_cons_succ]
  refine call_held 13 rfl (by kernel_rfl) (by kernel_rfl) 91 #[.pointer (some ⟨R, 0, none⟩)] (by go_simp) _ (flag_flat _ R a cap zs k6 r6) ?_
  rintro e w7 (⟨y8, k7, q7, l7, o7, rfl, r7, g7⟩ | ⟨q7, rfl, g7⟩)
  rotate_left
  · exact Or.inr ⟨_, rfl, rfl, Or.inr ⟨(pair_none2 q1 (pair_none2 q2 (pair_none2 q3 (pair_none2 q4 (pair_none2 q5 (pair_none2 q6 q7)))))), rfl, G0.trans (g1.trans (g2.trans (g3.trans (g4.trans (g5.trans (g6.trans g7))))))⟩⟩
  have sz7 := g7.size
  have X7 := cell_go X6 g7 hXR
  refine Or.inl ⟨_, rfl, X7, ?_⟩
  simp only [Act.put, List.setIfInBounds_toArray, List.set_cons_zero, List.set_cons_succ]
  refine read_held 14 rfl (by kernel_rfl) (by kernel_rfl) (.agg #[.int .i64 y0, .int .i64 y1, .bool y2, .int .i64 y3, .int .i64 y4, .slice va4 xs4.length vc4, .bool y6, .int .i64 y7, .bool y8]) (by go_simp) X7 ?_
  simp only [Act.put, List.setIfInBounds_toArray, List.set_cons_zero, List.set_cons_succ]
  have hNn := heap_kept (g1.trans (g2.trans (g3.trans (g4.trans (g5.trans (g6.trans g7)))))) (by omega) (by omega) hN0
  have hst := run_storeVar_row (P := Try.prog) w7 w.heap.size 101 101 #[.int .i64 0, .int .i64 0, .bool false, .int .i64 0, .int .i64 0, .slice none 0 0, .bool false, .int .i64 0, .bool false] #[.int .i64 y0, .int .i64 y1, .bool y2, .int .i64 y3, .int .i64 y4, .slice va4 xs4.length vc4, .bool y6, .int .i64 y7, .bool y8] hNn zRobot rfl (by simp [Value.oneCell'])
  refine store_held 15 rfl (by kernel_rfl) (by kernel_rfl) (w7.setRow w.heap.size #[.int .i64 y0, .int .i64 y1, .bool y2, .int .i64 y3, .int .i64 y4, .slice va4 xs4.length vc4, .bool y6, .int .i64 y7, .bool y8]) (run_store_op 101 (.tmp 1) (.tmp 16) rfl w.heap.size _ rfl rfl hst) ?_ ?_
  · exact (cell_setRow_other _ _ _ _ (by simp only; omega)).trans X7
  simp only [Act.put, List.setIfInBounds_toArray, List.set_cons_zero, List.set_cons_succ]
  refine done_held (by kernel_rfl) ?_ _
  go_wp2
  refine bodyPost_ret (results_cell_row rfl _ _ w.heap.size 101 #[.int .i64 y0, .int .i64 y1, .bool y2, .int .i64 y3, .int .i64 y4, .slice va4 xs4.length vc4, .bool y6, .int .i64 y7, .bool y8] (0, 0) _ rfl (setRow_heap _ _ _ _ _ _ (heap_kept (g1.trans (g2.trans (g3.trans (g4.trans (g5.trans (g6.trans g7)))))) (by omega) (by omega) hN0)) Try.underlying101 rfl zRobot) rfl ?_
  exact Or.inl ⟨(((y0, y1), y2), y3, y4, xs4, y6, y7, y8), _, k7, fun g => F4 g, (pair_some q1 (pair_some q2 (pair_some q3 (pair_some q4 (pair_some q5 (pair_some q6 q7)))))), by omega, ⟨o1, o2, o3, o4, o5, o6, o7⟩, rfl, ⟨_, rfl, ((e4.go heldMoveEl f4 (g5.trans (g6.trans g7)) (by have := sz4; omega)).row heldMoveEl _ (f4.go (g5.trans (g6.trans g7))) (by have := sz4; omega))⟩, ((f4.go (g5.trans (g6.trans g7))).keep (by have := sz4; omega) (by rw [setRow_size]; exact Nat.le_refl _)), r7.setRow _ _ (by omega) hx, grown_setRow (G0.trans (g1.trans (g2.trans (g3.trans (g4.trans (g5.trans (g6.trans g7))))))) (Nat.le_refl _) _⟩
set_option maxHeartbeats 1000000 in
theorem robots_any (M : Nat) (hM24 : M ≤ 16777216) (u : World) (R : Nat) (a : Option Addr) (cap : Nat) (zs : List Int) (k : Nat) (hM : zs.length ≤ M) (h : Rd u R a cap zs k) :
    Calls Try.prog 93 #[.pointer (some ⟨R, 0, none⟩)] u (GotList 9 cRobot robotEl u R a cap zs k) := by
  have hmf : ∀ (fn : Fn) (first cap : Array Value) (w : World), (Instr.makeFunc fn first cap).run Try.prog w = .ok (.func fn first cap) w := fun _ _ _ _ => rfl
  have c1 := listRobot_any M hM24 cRobot gRobot robotEl heldRobot (itemRobot M hM24) (u.alloc (.cells #[.pointer (some ⟨R, 0, none⟩)] 67)) R u.heap.size a cap zs k hM (h.alloc _) (by rw [cell_new]; rfl)
  go_enter Try.func93, Try.ntmps93
  go_wp2_with (go_at_call 108; refine c1.mono ?_; rintro e w1 (⟨xs, v, k1, F, q1, l1, o1, rfl, e1, f1, r1, g1⟩ | ⟨q1, rfl, g1⟩))
  · go_ret
    exact Or.inl ⟨xs, v, k1, F, q1, l1, o1, rfl, e1, f1.keep (by simp) (Nat.le_refl _), r1, (World.grownBy_alloc _ _ _).trans g1⟩
  · exact ⟨rfl, Or.inr ⟨q1, rfl, (World.grownBy_alloc _ _ _).trans g1⟩⟩
theorem zOrder : (Try.prog.info? 106).map (·.size) = some 4 := by kernel_rfl
set_option maxRecDepth 100000 in
set_option maxHeartbeats 4000000 in
theorem itemOrder (M : Nat) (hM24 : M ≤ 16777216) : Item M cOrder orderEl 113 := by
  intro w R X a cap zs k hM h hX
  have hR := h.lt
  have hx : ∀ x, a = some x → zs.length ≠ 0 → x.block ≠ w.heap.size := fun x hx hn => Nat.ne_of_lt (h.row.lt x hx hn)
  have hXR := rd_apart h hX
  have hXl := World.block_lt_of_cell? w _ hX
  simp only at hXl
  have X0 : ((w.alloc (.cells #[.int .i64 0, .int .i64 0, .int .i64 0, .int .i64 0] 106)).drew).cell? ⟨X, 0, none⟩ = some (.pointer (some ⟨R, 0, none⟩)) := (((Below.refl w.heap.size w).alloc (Nat.le_refl _) (.cells #[.int .i64 0, .int .i64 0, .int .i64 0, .int .i64 0] 106)).cell (p := ⟨X, 0, none⟩) hXl).trans hX
  have h0 : Rd ((w.alloc (.cells #[.int .i64 0, .int .i64 0, .int .i64 0, .int .i64 0] 106)).drew) R a cap zs k := (h.alloc _).drewN 1
  have G0 : w.grownBy ((w.alloc (.cells #[.int .i64 0, .int .i64 0, .int .i64 0, .int .i64 0] 106)).drew) (some R) := (World.grownBy_alloc _ _ _).trans (grown_drewN _ 1 _)
  have hN0 : ((w.alloc (.cells #[.int .i64 0, .int .i64 0, .int .i64 0, .int .i64 0] 106)).drew).heap[w.heap.size]? = some (.cells #[.int .i64 0, .int .i64 0, .int .i64 0, .int .i64 0] 106 (0, 0)) := heap_alloc_new w _
  have sz0 : ((w.alloc (.cells #[.int .i64 0, .int .i64 0, .int .i64 0, .int .i64 0] 106)).drew).heap.size = w.heap.size + 1 := by show (w.alloc (.cells #[.int .i64 0, .int .i64 0, .int .i64 0, .int .i64 0] 106)).heap.size = _; simp
  go_enter Try.func113, Try.ntmps113
  go_wp2
  refine start_held (S := fun u => u.cell? ⟨X, 0, none⟩ = some (.pointer (some ⟨R, 0, none⟩))) 10 rfl (by kernel_rfl) X0 ?_
  simp only [Array.replicate_succ, Array.replicate_zero, List.push_toArray, List.nil_append, List.cons_append]
  refine take_held 0 X0 rfl (by kernel_rfl) (by kernel_rfl) (by kernel_rfl) (fun _ _ _ h => h) (by kernel_rfl) (v := .pointer (some ⟨R, 0, none⟩)) ?y0 ?r0
  case y0 => (intro u hu; go_simp; try rfl)
  simp only [Act.put, List.setIfInBounds_toArray, List.set_cons_zero, List.set_cons_succ]
  refine take_held 2 X0 rfl (by kernel_rfl) (by kernel_rfl) (by kernel_rfl) (fun _ _ _ h => h) (by kernel_rfl) (v := .pointer (some ⟨R, 0, none⟩)) ?y2 ?r2
  case y2 => (intro u hu; go_simp; try rfl)
  simp only [Act.put, List.setIfInBounds_toArray, List.set_cons_zero, List.set_cons_succ]
  refine take_held 4 X0 rfl (by kernel_rfl) (by kernel_rfl) (by kernel_rfl) (fun _ _ _ h => h) (by kernel_rfl) (v := .pointer (some ⟨R, 0, none⟩)) ?y4 ?r4
  case y4 => (intro u hu; go_simp; try rfl)
  simp only [Act.put, List.setIfInBounds_toArray, List.set_cons_zero, List.set_cons_succ]
  refine take_held 6 X0 rfl (by kernel_rfl) (by kernel_rfl) (by kernel_rfl) (fun _ _ _ h => h) (by kernel_rfl) (v := .pointer (some ⟨R, 0, none⟩)) ?y6 ?r6
  case y6 => (intro u hu; go_simp; try rfl)
  simp only [Act.put, List.setIfInBounds_toArray, List.set_cons_zero, List.set_cons_succ]
  refine call_held 1 rfl (by kernel_rfl) (by kernel_rfl) 68 #[.pointer (some ⟨R, 0, none⟩)] (by go_simp) _ (num_flat _ R a cap zs k h0) ?_
  rintro e w1 (⟨y0, k1, q1, l1, o1, rfl, r1, g1⟩ | ⟨q1, rfl, g1⟩)
  rotate_left
  · exact Or.inr ⟨_, rfl, rfl, Or.inr ⟨(pair_none q1), rfl, G0.trans g1⟩⟩
  have sz1 := g1.size
  have X1 := cell_go X0 g1 hXR
  refine Or.inl ⟨_, rfl, X1, ?_⟩
  simp only [Act.put, List.setIfInBounds_toArray, List.set_cons_zero, List.set_cons_succ]
  refine call_held 3 rfl (by kernel_rfl) (by kernel_rfl) 68 #[.pointer (some ⟨R, 0, none⟩)] (by go_simp) _ (num_flat _ R a cap zs k1 r1) ?_
  rintro e w2 (⟨y1, k2, q2, l2, o2, rfl, r2, g2⟩ | ⟨q2, rfl, g2⟩)
  rotate_left
  · exact Or.inr ⟨_, rfl, rfl, Or.inr ⟨(pair_none2 q1 (pair_none q2)), rfl, G0.trans (g1.trans g2)⟩⟩
  have sz2 := g2.size
  have X2 := cell_go X1 g2 hXR
  refine Or.inl ⟨_, rfl, X2, ?_⟩
  simp only [Act.put, List.setIfInBounds_toArray, List.set_cons_zero, List.set_cons_succ]
  refine call_held 5 rfl (by kernel_rfl) (by kernel_rfl) 68 #[.pointer (some ⟨R, 0, none⟩)] (by go_simp) _ (num_flat _ R a cap zs k2 r2) ?_
  rintro e w3 (⟨y2, k3, q3, l3, o3, rfl, r3, g3⟩ | ⟨q3, rfl, g3⟩)
  rotate_left
  · exact Or.inr ⟨_, rfl, rfl, Or.inr ⟨(pair_none2 q1 (pair_none2 q2 (pair_none q3))), rfl, G0.trans (g1.trans (g2.trans g3))⟩⟩
  have sz3 := g3.size
  have X3 := cell_go X2 g3 hXR
  refine Or.inl ⟨_, rfl, X3, ?_⟩
  simp only [Act.put, List.setIfInBounds_toArray, List.set_cons_zero, List.set_cons_succ]
  refine call_held 7 rfl (by kernel_rfl) (by kernel_rfl) 68 #[.pointer (some ⟨R, 0, none⟩)] (by go_simp) _ (num_flat _ R a cap zs k3 r3) ?_
  rintro e w4 (⟨y3, k4, q4, l4, o4, rfl, r4, g4⟩ | ⟨q4, rfl, g4⟩)
  rotate_left
  · exact Or.inr ⟨_, rfl, rfl, Or.inr ⟨(pair_none2 q1 (pair_none2 q2 (pair_none2 q3 q4))), rfl, G0.trans (g1.trans (g2.trans (g3.trans g4)))⟩⟩
  have sz4 := g4.size
  have X4 := cell_go X3 g4 hXR
  refine Or.inl ⟨_, rfl, X4, ?_⟩
  simp only [Act.put, List.setIfInBounds_toArray, List.set_cons_zero, List.set_cons_succ]
  refine read_held 8 rfl (by kernel_rfl) (by kernel_rfl) (.agg #[.int .i64 y0, .int .i64 y1, .int .i64 y2, .int .i64 y3]) (by go_simp) X4 ?_
  simp only [Act.put, List.setIfInBounds_toArray, List.set_cons_zero, List.set_cons_succ]
  have hNn := heap_kept (g1.trans (g2.trans (g3.trans g4))) (by omega) (by omega) hN0
  have hst := run_storeVar_row (P := Try.prog) w4 w.heap.size 106 106 #[.int .i64 0, .int .i64 0, .int .i64 0, .int .i64 0] #[.int .i64 y0, .int .i64 y1, .int .i64 y2, .int .i64 y3] hNn zOrder rfl (by simp [Value.oneCell'])
  refine store_held 9 rfl (by kernel_rfl) (by kernel_rfl) (w4.setRow w.heap.size #[.int .i64 y0, .int .i64 y1, .int .i64 y2, .int .i64 y3]) (run_store_op 106 (.tmp 1) (.tmp 10) rfl w.heap.size _ rfl rfl hst) ?_ ?_
  · exact (cell_setRow_other _ _ _ _ (by simp only; omega)).trans X4
  simp only [Act.put, List.setIfInBounds_toArray, List.set_cons_zero, List.set_cons_succ]
  refine done_held (by kernel_rfl) ?_ _
  go_wp2
  refine bodyPost_ret (results_cell_row rfl _ _ w.heap.size 106 #[.int .i64 y0, .int .i64 y1, .int .i64 y2, .int .i64 y3] (0, 0) _ rfl (setRow_heap _ _ _ _ _ _ (heap_kept (g1.trans (g2.trans (g3.trans g4))) (by omega) (by omega) hN0)) Try.underlying106 rfl zOrder) rfl ?_
  exact Or.inl ⟨(y0, y1, y2, y3), _, k4, fun _ => False, (pair_some q1 (pair_some q2 (pair_some q3 q4))), by omega, ⟨o1, o2, o3, o4⟩, rfl, rfl, (none_new _ _), r4.setRow _ _ (by omega) hx, grown_setRow (G0.trans (g1.trans (g2.trans (g3.trans g4)))) (Nat.le_refl _) _⟩
set_option maxHeartbeats 1000000 in
theorem orders_any (M : Nat) (hM24 : M ≤ 16777216) (u : World) (R : Nat) (a : Option Addr) (cap : Nat) (zs : List Int) (k : Nat) (hM : zs.length ≤ M) (h : Rd u R a cap zs k) :
    Calls Try.prog 95 #[.pointer (some ⟨R, 0, none⟩)] u (GotList 4 cOrder orderEl u R a cap zs k) := by
  have hmf : ∀ (fn : Fn) (first cap : Array Value) (w : World), (Instr.makeFunc fn first cap).run Try.prog w = .ok (.func fn first cap) w := fun _ _ _ _ => rfl
  have c1 := listOrder_any M hM24 cOrder gOrder orderEl heldOrder (itemOrder M hM24) (u.alloc (.cells #[.pointer (some ⟨R, 0, none⟩)] 67)) R u.heap.size a cap zs k hM (h.alloc _) (by rw [cell_new]; rfl)
  go_enter Try.func95, Try.ntmps95
  go_wp2_with (go_at_call 112; refine c1.mono ?_; rintro e w1 (⟨xs, v, k1, F, q1, l1, o1, rfl, e1, f1, r1, g1⟩ | ⟨q1, rfl, g1⟩))
  · go_ret
    exact Or.inl ⟨xs, v, k1, F, q1, l1, o1, rfl, e1, f1.keep (by simp) (Nat.le_refl _), r1, (World.grownBy_alloc _ _ _).trans g1⟩
  · exact ⟨rfl, Or.inr ⟨q1, rfl, (World.grownBy_alloc _ _ _).trans g1⟩⟩
theorem zJob : (Try.prog.info? 108).map (·.size) = some 9 := by kernel_rfl
set_option maxRecDepth 100000 in
set_option maxHeartbeats 4000000 in
theorem itemJob (M : Nat) (hM24 : M ≤ 16777216) : Item M cJob jobEl 115 := by
  intro w R X a cap zs k hM h hX
  have hR := h.lt
  have hx : ∀ x, a = some x → zs.length ≠ 0 → x.block ≠ w.heap.size := fun x hx hn => Nat.ne_of_lt (h.row.lt x hx hn)
  have hXR := rd_apart h hX
  have hXl := World.block_lt_of_cell? w _ hX
  simp only at hXl
  have X0 : ((w.alloc (.cells #[.int .i64 0, .int .i64 0, .int .i64 0, .int .i64 0, .int .i64 0, .int .i64 0, .int .i64 0, .int .i64 0, .int .i64 0] 108)).drew).cell? ⟨X, 0, none⟩ = some (.pointer (some ⟨R, 0, none⟩)) := (((Below.refl w.heap.size w).alloc (Nat.le_refl _) (.cells #[.int .i64 0, .int .i64 0, .int .i64 0, .int .i64 0, .int .i64 0, .int .i64 0, .int .i64 0, .int .i64 0, .int .i64 0] 108)).cell (p := ⟨X, 0, none⟩) hXl).trans hX
  have h0 : Rd ((w.alloc (.cells #[.int .i64 0, .int .i64 0, .int .i64 0, .int .i64 0, .int .i64 0, .int .i64 0, .int .i64 0, .int .i64 0, .int .i64 0] 108)).drew) R a cap zs k := (h.alloc _).drewN 1
  have G0 : w.grownBy ((w.alloc (.cells #[.int .i64 0, .int .i64 0, .int .i64 0, .int .i64 0, .int .i64 0, .int .i64 0, .int .i64 0, .int .i64 0, .int .i64 0] 108)).drew) (some R) := (World.grownBy_alloc _ _ _).trans (grown_drewN _ 1 _)
  have hN0 : ((w.alloc (.cells #[.int .i64 0, .int .i64 0, .int .i64 0, .int .i64 0, .int .i64 0, .int .i64 0, .int .i64 0, .int .i64 0, .int .i64 0] 108)).drew).heap[w.heap.size]? = some (.cells #[.int .i64 0, .int .i64 0, .int .i64 0, .int .i64 0, .int .i64 0, .int .i64 0, .int .i64 0, .int .i64 0, .int .i64 0] 108 (0, 0)) := heap_alloc_new w _
  have sz0 : ((w.alloc (.cells #[.int .i64 0, .int .i64 0, .int .i64 0, .int .i64 0, .int .i64 0, .int .i64 0, .int .i64 0, .int .i64 0, .int .i64 0] 108)).drew).heap.size = w.heap.size + 1 := by show (w.alloc (.cells #[.int .i64 0, .int .i64 0, .int .i64 0, .int .i64 0, .int .i64 0, .int .i64 0, .int .i64 0, .int .i64 0, .int .i64 0] 108)).heap.size = _; simp
  go_enter Try.func115, Try.ntmps115
  go_wp2
  refine start_held (S := fun u => u.cell? ⟨X, 0, none⟩ = some (.pointer (some ⟨R, 0, none⟩))) 16 rfl (by kernel_rfl) X0 ?_
  simp only [Array.replicate_succ, Array.replicate_zero, List.push_toArray, List.nil_append, List.cons_append]
  refine take_held 0 X0 rfl (by kernel_rfl) (by kernel_rfl) (by kernel_rfl) (fun _ _ _ h => h) (by kernel_rfl) (v := .pointer (some ⟨R, 0, none⟩)) ?y0 ?r0
  case y0 => (intro u hu; go_simp; try rfl)
  simp only [Act.put, List.setIfInBounds_toArray, List.set_cons_zero, List.set_cons_succ]
  refine take_held 2 X0 rfl (by kernel_rfl) (by kernel_rfl) (by kernel_rfl) (fun _ _ _ h => h) (by kernel_rfl) (v := .pointer (some ⟨R, 0, none⟩)) ?y2 ?r2
  case y2 => (intro u hu; go_simp; try rfl)
  simp only [Act.put, List.setIfInBounds_toArray, List.set_cons_zero, List.set_cons_succ]
  refine take_held 4 X0 rfl (by kernel_rfl) (by kernel_rfl) (by kernel_rfl) (fun _ _ _ h => h) (by kernel_rfl) (v := .pointer (some ⟨R, 0, none⟩)) ?y4 ?r4
  case y4 => (intro u hu; go_simp; try rfl)
  simp only [Act.put, List.setIfInBounds_toArray, List.set_cons_zero, List.set_cons_succ]
  refine take_held 6 X0 rfl (by kernel_rfl) (by kernel_rfl) (by kernel_rfl) (fun _ _ _ h => h) (by kernel_rfl) (v := .pointer (some ⟨R, 0, none⟩)) ?y6 ?r6
  case y6 => (intro u hu; go_simp; try rfl)
  simp only [Act.put, List.setIfInBounds_toArray, List.set_cons_zero, List.set_cons_succ]
  refine take_held 8 X0 rfl (by kernel_rfl) (by kernel_rfl) (by kernel_rfl) (fun _ _ _ h => h) (by kernel_rfl) (v := .pointer (some ⟨R, 0, none⟩)) ?y8 ?r8
  case y8 => (intro u hu; go_simp; try rfl)
  simp only [Act.put, List.setIfInBounds_toArray, List.set_cons_zero, List.set_cons_succ]
  refine take_held 10 X0 rfl (by kernel_rfl) (by kernel_rfl) (by kernel_rfl) (fun _ _ _ h => h) (by kernel_rfl) (v := .pointer (some ⟨R, 0, none⟩)) ?y10 ?r10
  case y10 => (intro u hu; go_simp; try rfl)
  simp only [Act.put, List.setIfInBounds_toArray, List.set_cons_zero, List.set_cons_succ]
  refine take_held 12 X0 rfl (by kernel_rfl) (by kernel_rfl) (by kernel_rfl) (fun _ _ _ h => h) (by kernel_rfl) (v := .pointer (some ⟨R, 0, none⟩)) ?y12 ?r12
  case y12 => (intro u hu; go_simp; try rfl)
  simp only [Act.put, List.setIfInBounds_toArray, List.set_cons_zero, List.set_cons_succ]
  refine call_held 1 rfl (by kernel_rfl) (by kernel_rfl) 68 #[.pointer (some ⟨R, 0, none⟩)] (by go_simp) _ (num_flat _ R a cap zs k h0) ?_
  rintro e w1 (⟨y0, k1, q1, l1, o1, rfl, r1, g1⟩ | ⟨q1, rfl, g1⟩)
  rotate_left
  · exact Or.inr ⟨_, rfl, rfl, Or.inr ⟨(pair_none q1), rfl, G0.trans g1⟩⟩
  have sz1 := g1.size
  have X1 := cell_go X0 g1 hXR
  refine Or.inl ⟨_, rfl, X1, ?_⟩
  simp only [Act.put, List.setIfInBounds_toArray, List.set_cons_zero, List.set_cons_succ]
  refine call_held 3 rfl (by kernel_rfl) (by kernel_rfl) 68 #[.pointer (some ⟨R, 0, none⟩)] (by go_simp) _ (num_flat _ R a cap zs k1 r1) ?_
  rintro e w2 (⟨y1, k2, q2, l2, o2, rfl, r2, g2⟩ | ⟨q2, rfl, g2⟩)
  rotate_left
  · exact Or.inr ⟨_, rfl, rfl, Or.inr ⟨(pair_none2 q1 (pair_none q2)), rfl, G0.trans (g1.trans g2)⟩⟩
  have sz2 := g2.size
  have X2 := cell_go X1 g2 hXR
  refine Or.inl ⟨_, rfl, X2, ?_⟩
  simp only [Act.put, List.setIfInBounds_toArray, List.set_cons_zero, List.set_cons_succ]
  refine call_held 5 rfl (by kernel_rfl) (by kernel_rfl) 68 #[.pointer (some ⟨R, 0, none⟩)] (by go_simp) _ (num_flat _ R a cap zs k2 r2) ?_
  rintro e w3 (⟨y2, k3, q3, l3, o3, rfl, r3, g3⟩ | ⟨q3, rfl, g3⟩)
  rotate_left
  · exact Or.inr ⟨_, rfl, rfl, Or.inr ⟨(pair_none2 q1 (pair_none2 q2 (pair_none q3))), rfl, G0.trans (g1.trans (g2.trans g3))⟩⟩
  have sz3 := g3.size
  have X3 := cell_go X2 g3 hXR
  refine Or.inl ⟨_, rfl, X3, ?_⟩
  simp only [Act.put, List.setIfInBounds_toArray, List.set_cons_zero, List.set_cons_succ]
  refine call_held 7 rfl (by kernel_rfl) (by kernel_rfl) 68 #[.pointer (some ⟨R, 0, none⟩)] (by go_simp) _ (num_flat _ R a cap zs k3 r3) ?_
  rintro e w4 (⟨y3, k4, q4, l4, o4, rfl, r4, g4⟩ | ⟨q4, rfl, g4⟩)
  rotate_left
  · exact Or.inr ⟨_, rfl, rfl, Or.inr ⟨(pair_none2 q1 (pair_none2 q2 (pair_none2 q3 (pair_none q4)))), rfl, G0.trans (g1.trans (g2.trans (g3.trans g4)))⟩⟩
  have sz4 := g4.size
  have X4 := cell_go X3 g4 hXR
  refine Or.inl ⟨_, rfl, X4, ?_⟩
  simp only [Act.put, List.setIfInBounds_toArray, List.set_cons_zero, List.set_cons_succ]
  refine call_held 9 rfl (by kernel_rfl) (by kernel_rfl) 99 #[.pointer (some ⟨R, 0, none⟩)] (by go_simp) _ (cell_flat _ R a cap zs k4 r4) ?_
  rintro e w5 (⟨y4, y5, k5, q5, l5, o5, rfl, r5, g5⟩ | ⟨q5, rfl, g5⟩)
  rotate_left
  · exact Or.inr ⟨_, rfl, rfl, Or.inr ⟨(pair_none2 q1 (pair_none2 q2 (pair_none2 q3 (pair_none2 q4 (pair_none q5))))), rfl, G0.trans (g1.trans (g2.trans (g3.trans (g4.trans g5))))⟩⟩
  have sz5 := g5.size
  have X5 := cell_go X4 g5 hXR
  refine Or.inl ⟨_, rfl, X5, ?_⟩
  simp only [Act.put, List.setIfInBounds_toArray, List.set_cons_zero, List.set_cons_succ]
  refine call_held 11 rfl (by kernel_rfl) (by kernel_rfl) 99 #[.pointer (some ⟨R, 0, none⟩)] (by go_simp) _ (cell_flat _ R a cap zs k5 r5) ?_
  rintro e w6 (⟨y6, y7, k6, q6, l6, o6, rfl, r6, g6⟩ | ⟨q6, rfl, g6⟩)
  rotate_left
  · exact Or.inr ⟨_, rfl, rfl, Or.inr ⟨(pair_none2 q1 (pair_none2 q2 (pair_none2 q3 (pair_none2 q4 (pair_none2 q5 (pair_none q6)))))), rfl, G0.trans (g1.trans (g2.trans (g3.trans (g4.trans (g5.trans g6)))))⟩⟩
  have sz6 := g6.size
  have X6 := cell_go X5 g6 hXR
  refine Or.inl ⟨_, rfl, X6, ?_⟩
  simp only [Act.put, List.setIfInBounds_toArray, List.set_cons_zero, List.set_cons_succ]
  refine call_held 13 rfl (by kernel_rfl) (by kernel_rfl) 68 #[.pointer (some ⟨R, 0, none⟩)] (by go_simp) _ (num_flat _ R a cap zs k6 r6) ?_
  rintro e w7 (⟨y8, k7, q7, l7, o7, rfl, r7, g7⟩ | ⟨q7, rfl, g7⟩)
  rotate_left
  · exact Or.inr ⟨_, rfl, rfl, Or.inr ⟨(pair_none2 q1 (pair_none2 q2 (pair_none2 q3 (pair_none2 q4 (pair_none2 q5 (pair_none2 q6 q7)))))), rfl, G0.trans (g1.trans (g2.trans (g3.trans (g4.trans (g5.trans (g6.trans g7))))))⟩⟩
  have sz7 := g7.size
  have X7 := cell_go X6 g7 hXR
  refine Or.inl ⟨_, rfl, X7, ?_⟩
  simp only [Act.put, List.setIfInBounds_toArray, List.set_cons_zero, List.set_cons_succ]
  refine read_held 14 rfl (by kernel_rfl) (by kernel_rfl) (.agg #[.int .i64 y0, .int .i64 y1, .int .i64 y2, .int .i64 y3, .int .i64 y4, .int .i64 y5, .int .i64 y6, .int .i64 y7, .int .i64 y8]) (by go_simp) X7 ?_
  simp only [Act.put, List.setIfInBounds_toArray, List.set_cons_zero, List.set_cons_succ]
  have hNn := heap_kept (g1.trans (g2.trans (g3.trans (g4.trans (g5.trans (g6.trans g7)))))) (by omega) (by omega) hN0
  have hst := run_storeVar_row (P := Try.prog) w7 w.heap.size 108 108 #[.int .i64 0, .int .i64 0, .int .i64 0, .int .i64 0, .int .i64 0, .int .i64 0, .int .i64 0, .int .i64 0, .int .i64 0] #[.int .i64 y0, .int .i64 y1, .int .i64 y2, .int .i64 y3, .int .i64 y4, .int .i64 y5, .int .i64 y6, .int .i64 y7, .int .i64 y8] hNn zJob rfl (by simp [Value.oneCell'])
  refine store_held 15 rfl (by kernel_rfl) (by kernel_rfl) (w7.setRow w.heap.size #[.int .i64 y0, .int .i64 y1, .int .i64 y2, .int .i64 y3, .int .i64 y4, .int .i64 y5, .int .i64 y6, .int .i64 y7, .int .i64 y8]) (run_store_op 108 (.tmp 1) (.tmp 16) rfl w.heap.size _ rfl rfl hst) ?_ ?_
  · exact (cell_setRow_other _ _ _ _ (by simp only; omega)).trans X7
  simp only [Act.put, List.setIfInBounds_toArray, List.set_cons_zero, List.set_cons_succ]
  refine done_held (by kernel_rfl) ?_ _
  go_wp2
  refine bodyPost_ret (results_cell_row rfl _ _ w.heap.size 108 #[.int .i64 y0, .int .i64 y1, .int .i64 y2, .int .i64 y3, .int .i64 y4, .int .i64 y5, .int .i64 y6, .int .i64 y7, .int .i64 y8] (0, 0) _ rfl (setRow_heap _ _ _ _ _ _ (heap_kept (g1.trans (g2.trans (g3.trans (g4.trans (g5.trans (g6.trans g7)))))) (by omega) (by omega) hN0)) Try.underlying108 rfl zJob) rfl ?_
  exact Or.inl ⟨(y0, y1, y2, y3, (y4, y5), (y6, y7), y8), _, k7, fun _ => False, (pair_some q1 (pair_some q2 (pair_some q3 (pair_some q4 (pair_some q5 (pair_some q6 q7)))))), by omega, ⟨o1, o2, o3, o4, o5, o6, o7⟩, rfl, rfl, (none_new _ _), r7.setRow _ _ (by omega) hx, grown_setRow (G0.trans (g1.trans (g2.trans (g3.trans (g4.trans (g5.trans (g6.trans g7))))))) (Nat.le_refl _) _⟩
set_option maxHeartbeats 1000000 in
theorem jobs_any (M : Nat) (hM24 : M ≤ 16777216) (u : World) (R : Nat) (a : Option Addr) (cap : Nat) (zs : List Int) (k : Nat) (hM : zs.length ≤ M) (h : Rd u R a cap zs k) :
    Calls Try.prog 96 #[.pointer (some ⟨R, 0, none⟩)] u (GotList 9 cJob jobEl u R a cap zs k) := by
  have hmf : ∀ (fn : Fn) (first cap : Array Value) (w : World), (Instr.makeFunc fn first cap).run Try.prog w = .ok (.func fn first cap) w := fun _ _ _ _ => rfl
  have c1 := listJob_any M hM24 cJob gJob jobEl heldJob (itemJob M hM24) (u.alloc (.cells #[.pointer (some ⟨R, 0, none⟩)] 67)) R u.heap.size a cap zs k hM (h.alloc _) (by rw [cell_new]; rfl)
  go_enter Try.func96, Try.ntmps96
  go_wp2_with (go_at_call 114; refine c1.mono ?_; rintro e w1 (⟨xs, v, k1, F, q1, l1, o1, rfl, e1, f1, r1, g1⟩ | ⟨q1, rfl, g1⟩))
  · go_ret
    exact Or.inl ⟨xs, v, k1, F, q1, l1, o1, rfl, e1, f1.keep (by simp) (Nat.le_refl _), r1, (World.grownBy_alloc _ _ _).trans g1⟩
  · exact ⟨rfl, Or.inr ⟨q1, rfl, (World.grownBy_alloc _ _ _).trans g1⟩⟩
theorem zEvent : (Try.prog.info? 28).map (·.size) = some 7 := by kernel_rfl
set_option maxRecDepth 100000 in
set_option maxHeartbeats 4000000 in
theorem readEvent (M : Nat) (hM24 : M ≤ 16777216) : Reader M cEvent eventEl 26 := by
  intro w R a cap zs k hM h
  have hR := h.lt
  have hx : ∀ x, a = some x → zs.length ≠ 0 → x.block ≠ w.heap.size := fun x hx hn => Nat.ne_of_lt (h.row.lt x hx hn)
  have h0 := h.alloc (.cells #[.int .i64 0, .int .i64 0, .int .i64 0, .int .i64 0, .int .i64 0, .bool false, .slice none 0 0] 28)
  have sz0 : (w.alloc (.cells #[.int .i64 0, .int .i64 0, .int .i64 0, .int .i64 0, .int .i64 0, .bool false, .slice none 0 0] 28)).heap.size = w.heap.size + 1 := by simp
  have G0 : w.grownBy (w.alloc (.cells #[.int .i64 0, .int .i64 0, .int .i64 0, .int .i64 0, .int .i64 0, .bool false, .slice none 0 0] 28)) (some R) := World.grownBy_alloc _ _ _
  have hN0 : (w.alloc (.cells #[.int .i64 0, .int .i64 0, .int .i64 0, .int .i64 0, .int .i64 0, .bool false, .slice none 0 0] 28)).heap[w.heap.size]? = some (.cells #[.int .i64 0, .int .i64 0, .int .i64 0, .int .i64 0, .int .i64 0, .bool false, .slice none 0 0] 28 (0, 0)) := heap_alloc_new w _
  go_enter Try.func26, Try.ntmps26
  go_wp2_with (first
    | (have X' := r5; refine wpList_store_row rfl 28 (.tmp 2) (.tmp 13) rfl w.heap.size #[.int .i64 y0, .int .i64 y1, .int .i64 y2, .int .i64 y3, .int .i64 y4, .bool y5, .slice va5 xs5.length vc5] rfl rfl 28 #[.int .i64 0, .int .i64 0, .int .i64 0, .int .i64 0, .int .i64 0, .bool false, .slice none 0 0] (heap_kept (g1.trans (g2.trans (g3.trans (g4.trans g5)))) (by omega) (by omega) hN0) zEvent rfl (by simp [Value.oneCell']) ?_)
    | (have X' := r4; go_at_call 70; refine (moves_any M hM24 _ R a cap zs k4 hM r4).mono ?_; rintro e w5 (⟨xs5, v5, k5, F5, q5, l5, o5, rfl, e5, f5, r5, g5⟩ | ⟨q5, rfl, g5⟩); (try (have sz5 := g5.size)); (obtain ⟨va5, vc5, rfl, _⟩ := e5.form))
    | (have X' := r3; go_at_call 69; refine (pose_flat _ R a cap zs k3 r3).mono ?_; rintro e w4 (⟨y3, y4, y5, k4, q4, l4, o4, rfl, r4, g4⟩ | ⟨q4, rfl, g4⟩); (try (have sz4 := g4.size)))
    | (have X' := r2; go_at_call 68; refine (num_flat _ R a cap zs k2 r2).mono ?_; rintro e w3 (⟨y2, k3, q3, l3, o3, rfl, r3, g3⟩ | ⟨q3, rfl, g3⟩); (try (have sz3 := g3.size)))
    | (have X' := r1; go_at_call 68; refine (num_flat _ R a cap zs k1 r1).mono ?_; rintro e w2 (⟨y1, k2, q2, l2, o2, rfl, r2, g2⟩ | ⟨q2, rfl, g2⟩); (try (have sz2 := g2.size)))
    | (go_at_call 68; refine (num_flat _ R a cap zs k h0).mono ?_; rintro e w1 (⟨y0, k1, q1, l1, o1, rfl, r1, g1⟩ | ⟨q1, rfl, g1⟩); (try (have sz1 := g1.size))))
  · refine bodyPost_ret (results_cell_row rfl _ _ w.heap.size 28 #[.int .i64 y0, .int .i64 y1, .int .i64 y2, .int .i64 y3, .int .i64 y4, .bool y5, .slice va5 xs5.length vc5] (0, 0) _ rfl (setRow_heap _ _ _ _ _ _ (heap_kept (g1.trans (g2.trans (g3.trans (g4.trans g5)))) (by omega) (by omega) hN0)) Try.underlying28 rfl zEvent) rfl ?_
    exact Or.inl ⟨(y0, y1, y2, ((y3, y4), y5), xs5), _, k5, fun g => F5 g, (pair_some q1 (pair_some q2 (pair_some q3 (pair_some q4 q5)))), by omega, ⟨o1, o2, o3, o4, o5⟩, rfl, ⟨_, rfl, (e5.row heldMoveEl _ f5 (by have := sz5; omega))⟩, (f5.keep (by have := sz5; omega) (by rw [setRow_size]; exact Nat.le_refl _)), r5.setRow _ _ (by omega) hx, grown_setRow (G0.trans (g1.trans (g2.trans (g3.trans (g4.trans g5))))) (Nat.le_refl _) _⟩
  · exact ⟨rfl, Or.inr ⟨(pair_none2 q1 (pair_none2 q2 (pair_none2 q3 (pair_none2 q4 q5)))), rfl, G0.trans (g1.trans (g2.trans (g3.trans (g4.trans g5))))⟩⟩
  · exact ⟨rfl, Or.inr ⟨(pair_none2 q1 (pair_none2 q2 (pair_none2 q3 (pair_none q4)))), rfl, G0.trans (g1.trans (g2.trans (g3.trans g4)))⟩⟩
  · exact ⟨rfl, Or.inr ⟨(pair_none2 q1 (pair_none2 q2 (pair_none q3))), rfl, G0.trans (g1.trans (g2.trans g3))⟩⟩
  · exact ⟨rfl, Or.inr ⟨(pair_none2 q1 (pair_none q2)), rfl, G0.trans (g1.trans g2)⟩⟩
  · exact ⟨rfl, Or.inr ⟨(pair_none q1), rfl, G0.trans g1⟩⟩
theorem zState : (Try.prog.info? 57).map (·.size) = some 10 := by kernel_rfl
set_option maxRecDepth 100000 in
set_option maxHeartbeats 4000000 in
theorem readState (M : Nat) (hM24 : M ≤ 16777216) : Reader M cState stateEl 47 := by
  intro w R a cap zs k hM h
  have hR := h.lt
  have hx : ∀ x, a = some x → zs.length ≠ 0 → x.block ≠ w.heap.size := fun x hx hn => Nat.ne_of_lt (h.row.lt x hx hn)
  have h0 := h.alloc (.cells #[.int .i64 0, .int .i64 0, .bool false, .slice none 0 0, .slice none 0 0, .slice none 0 0, .slice none 0 0, .slice none 0 0, .int .i64 0, .int .i64 0] 57)
  have sz0 : (w.alloc (.cells #[.int .i64 0, .int .i64 0, .bool false, .slice none 0 0, .slice none 0 0, .slice none 0 0, .slice none 0 0, .slice none 0 0, .int .i64 0, .int .i64 0] 57)).heap.size = w.heap.size + 1 := by simp
  have G0 : w.grownBy (w.alloc (.cells #[.int .i64 0, .int .i64 0, .bool false, .slice none 0 0, .slice none 0 0, .slice none 0 0, .slice none 0 0, .slice none 0 0, .int .i64 0, .int .i64 0] 57)) (some R) := World.grownBy_alloc _ _ _
  have hN0 : (w.alloc (.cells #[.int .i64 0, .int .i64 0, .bool false, .slice none 0 0, .slice none 0 0, .slice none 0 0, .slice none 0 0, .slice none 0 0, .int .i64 0, .int .i64 0] 57)).heap[w.heap.size]? = some (.cells #[.int .i64 0, .int .i64 0, .bool false, .slice none 0 0, .slice none 0 0, .slice none 0 0, .slice none 0 0, .slice none 0 0, .int .i64 0, .int .i64 0] 57 (0, 0)) := heap_alloc_new w _
  go_enter Try.func47, Try.ntmps47
  go_wp2_with (first
    | (have X' := r10; refine wpList_store_row rfl 57 (.tmp 2) (.tmp 23) rfl w.heap.size #[.int .i64 y0, .int .i64 y1, .bool y2, .slice va4 xs4.length vc4, .slice va5 xs5.length vc5, .slice va6 xs6.length vc6, .slice va7 xs7.length vc7, .slice va8 xs8.length vc8, .int .i64 y8, .int .i64 y9] rfl rfl 57 #[.int .i64 0, .int .i64 0, .bool false, .slice none 0 0, .slice none 0 0, .slice none 0 0, .slice none 0 0, .slice none 0 0, .int .i64 0, .int .i64 0] (heap_kept (g1.trans (g2.trans (g3.trans (g4.trans (g5.trans (g6.trans (g7.trans (g8.trans (g9.trans g10))))))))) (by omega) (by omega) hN0) zState rfl (by simp [Value.oneCell']) ?_)
    | (have X' := r9; go_at_call 68; refine (num_flat _ R a cap zs k9 r9).mono ?_; rintro e w10 (⟨y9, k10, q10, l10, o10, rfl, r10, g10⟩ | ⟨q10, rfl, g10⟩); (try (have sz10 := g10.size)))
    | (have X' := r8; go_at_call 68; refine (num_flat _ R a cap zs k8 r8).mono ?_; rintro e w9 (⟨y8, k9, q9, l9, o9, rfl, r9, g9⟩ | ⟨q9, rfl, g9⟩); (try (have sz9 := g9.size)))
    | (have X' := r7; go_at_call 96; refine (jobs_any M hM24 _ R a cap zs k7 hM r7).mono ?_; rintro e w8 (⟨xs8, v8, k8, F8, q8, l8, o8, rfl, e8, f8, r8, g8⟩ | ⟨q8, rfl, g8⟩); (try (have sz8 := g8.size)); (obtain ⟨va8, vc8, rfl, _⟩ := e8.form))
    | (have X' := r6; go_at_call 95; refine (orders_any M hM24 _ R a cap zs k6 hM r6).mono ?_; rintro e w7 (⟨xs7, v7, k7, F7, q7, l7, o7, rfl, e7, f7, r7, g7⟩ | ⟨q7, rfl, g7⟩); (try (have sz7 := g7.size)); (obtain ⟨va7, vc7, rfl, _⟩ := e7.form))
    | (have X' := r5; go_at_call 94; refine (ports_any M hM24 _ R a cap zs k5 hM r5).mono ?_; rintro e w6 (⟨xs6, v6, k6, F6, q6, l6, o6, rfl, e6, f6, r6, g6⟩ | ⟨q6, rfl, g6⟩); (try (have sz6 := g6.size)); (obtain ⟨va6, vc6, rfl, _⟩ := e6.form))
    | (have X' := r4; go_at_call 93; refine (robots_any M hM24 _ R a cap zs k4 hM r4).mono ?_; rintro e w5 (⟨xs5, v5, k5, F5, q5, l5, o5, rfl, e5, f5, r5, g5⟩ | ⟨q5, rfl, g5⟩); (try (have sz5 := g5.size)); (obtain ⟨va5, vc5, rfl, _⟩ := e5.form))
    | (have X' := r3; go_at_call 92; refine (stacks_any M hM24 _ R a cap zs k3 hM r3).mono ?_; rintro e w4 (⟨xs4, v4, k4, F4, q4, l4, o4, rfl, e4, f4, r4, g4⟩ | ⟨q4, rfl, g4⟩); (try (have sz4 := g4.size)); (obtain ⟨va4, vc4, rfl, _⟩ := e4.form))
    | (have X' := r2; go_at_call 91; refine (flag_flat _ R a cap zs k2 r2).mono ?_; rintro e w3 (⟨y2, k3, q3, l3, o3, rfl, r3, g3⟩ | ⟨q3, rfl, g3⟩); (try (have sz3 := g3.size)))
    | (have X' := r1; go_at_call 68; refine (num_flat _ R a cap zs k1 r1).mono ?_; rintro e w2 (⟨y1, k2, q2, l2, o2, rfl, r2, g2⟩ | ⟨q2, rfl, g2⟩); (try (have sz2 := g2.size)))
    | (go_at_call 68; refine (num_flat _ R a cap zs k h0).mono ?_; rintro e w1 (⟨y0, k1, q1, l1, o1, rfl, r1, g1⟩ | ⟨q1, rfl, g1⟩); (try (have sz1 := g1.size))))
  · refine bodyPost_ret (results_cell_row rfl _ _ w.heap.size 57 #[.int .i64 y0, .int .i64 y1, .bool y2, .slice va4 xs4.length vc4, .slice va5 xs5.length vc5, .slice va6 xs6.length vc6, .slice va7 xs7.length vc7, .slice va8 xs8.length vc8, .int .i64 y8, .int .i64 y9] (0, 0) _ rfl (setRow_heap _ _ _ _ _ _ (heap_kept (g1.trans (g2.trans (g3.trans (g4.trans (g5.trans (g6.trans (g7.trans (g8.trans (g9.trans g10))))))))) (by omega) (by omega) hN0)) Try.underlying57 rfl zState) rfl ?_
    exact Or.inl ⟨(y0, y1, y2, xs4, xs5, xs6, xs7, xs8, y8, y9), _, k10, fun g => F4 g ∨ F5 g ∨ F6 g ∨ F7 g ∨ F8 g, (pair_some q1 (pair_some q2 (pair_some q3 (pair_some q4 (pair_some q5 (pair_some q6 (pair_some q7 (pair_some q8 (pair_some q9 q10))))))))), by omega, ⟨o1, o2, o3, o4, o5, o6, o7, o8, o9, o10⟩, rfl, ⟨_, _, _, _, _, rfl, (((e4.go heldStack f4 (g5.trans (g6.trans (g7.trans (g8.trans (g9.trans g10))))) (by have := sz4; omega)).row heldStack _ (f4.go (g5.trans (g6.trans (g7.trans (g8.trans (g9.trans g10)))))) (by have := sz4; omega)).mono heldStack fun b hb => Or.inl hb), (((e5.go heldRobot f5 (g6.trans (g7.trans (g8.trans (g9.trans g10)))) (by have := sz5; omega)).row heldRobot _ (f5.go (g6.trans (g7.trans (g8.trans (g9.trans g10))))) (by have := sz5; omega)).mono heldRobot fun b hb => Or.inr (Or.inl hb)), (((e6.go heldPort f6 (g7.trans (g8.trans (g9.trans g10))) (by have := sz6; omega)).row heldPort _ (f6.go (g7.trans (g8.trans (g9.trans g10)))) (by have := sz6; omega)).mono heldPort fun b hb => Or.inr (Or.inr (Or.inl hb))), (((e7.go heldOrder f7 (g8.trans (g9.trans g10)) (by have := sz7; omega)).row heldOrder _ (f7.go (g8.trans (g9.trans g10))) (by have := sz7; omega)).mono heldOrder fun b hb => Or.inr (Or.inr (Or.inr (Or.inl hb)))), (((e8.go heldJob f8 (g9.trans g10) (by have := sz8; omega)).row heldJob _ (f8.go (g9.trans g10)) (by have := sz8; omega)).mono heldJob fun b hb => Or.inr (Or.inr (Or.inr (Or.inr (hb)))))⟩, (fun b hb => by
      rw [setRow_size]
      rcases hb with hb | hb | hb | hb | hb
      · have h1 := (f4.go (g5.trans (g6.trans (g7.trans (g8.trans (g9.trans g10)))))) b hb
        have := sz4
        exact ⟨by omega, h1.2⟩
      · have h1 := (f5.go (g6.trans (g7.trans (g8.trans (g9.trans g10))))) b hb
        have := sz5
        exact ⟨by omega, h1.2⟩
      · have h1 := (f6.go (g7.trans (g8.trans (g9.trans g10)))) b hb
        have := sz6
        exact ⟨by omega, h1.2⟩
      · have h1 := (f7.go (g8.trans (g9.trans g10))) b hb
        have := sz7
        exact ⟨by omega, h1.2⟩
      · have h1 := (f8.go (g9.trans g10)) b hb
        have := sz8
        exact ⟨by omega, h1.2⟩
      ), r10.setRow _ _ (by omega) hx, grown_setRow (G0.trans (g1.trans (g2.trans (g3.trans (g4.trans (g5.trans (g6.trans (g7.trans (g8.trans (g9.trans g10)))))))))) (Nat.le_refl _) _⟩
  · exact ⟨rfl, Or.inr ⟨(pair_none2 q1 (pair_none2 q2 (pair_none2 q3 (pair_none2 q4 (pair_none2 q5 (pair_none2 q6 (pair_none2 q7 (pair_none2 q8 (pair_none2 q9 q10))))))))), rfl, G0.trans (g1.trans (g2.trans (g3.trans (g4.trans (g5.trans (g6.trans (g7.trans (g8.trans (g9.trans g10)))))))))⟩⟩
  · exact ⟨rfl, Or.inr ⟨(pair_none2 q1 (pair_none2 q2 (pair_none2 q3 (pair_none2 q4 (pair_none2 q5 (pair_none2 q6 (pair_none2 q7 (pair_none2 q8 (pair_none q9))))))))), rfl, G0.trans (g1.trans (g2.trans (g3.trans (g4.trans (g5.trans (g6.trans (g7.trans (g8.trans g9))))))))⟩⟩
  · exact ⟨rfl, Or.inr ⟨(pair_none2 q1 (pair_none2 q2 (pair_none2 q3 (pair_none2 q4 (pair_none2 q5 (pair_none2 q6 (pair_none2 q7 (pair_none q8)))))))), rfl, G0.trans (g1.trans (g2.trans (g3.trans (g4.trans (g5.trans (g6.trans (g7.trans g8)))))))⟩⟩
  · exact ⟨rfl, Or.inr ⟨(pair_none2 q1 (pair_none2 q2 (pair_none2 q3 (pair_none2 q4 (pair_none2 q5 (pair_none2 q6 (pair_none q7))))))), rfl, G0.trans (g1.trans (g2.trans (g3.trans (g4.trans (g5.trans (g6.trans g7))))))⟩⟩
  · exact ⟨rfl, Or.inr ⟨(pair_none2 q1 (pair_none2 q2 (pair_none2 q3 (pair_none2 q4 (pair_none2 q5 (pair_none q6)))))), rfl, G0.trans (g1.trans (g2.trans (g3.trans (g4.trans (g5.trans g6)))))⟩⟩
  · exact ⟨rfl, Or.inr ⟨(pair_none2 q1 (pair_none2 q2 (pair_none2 q3 (pair_none2 q4 (pair_none q5))))), rfl, G0.trans (g1.trans (g2.trans (g3.trans (g4.trans g5))))⟩⟩
  · exact ⟨rfl, Or.inr ⟨(pair_none2 q1 (pair_none2 q2 (pair_none2 q3 (pair_none q4)))), rfl, G0.trans (g1.trans (g2.trans (g3.trans g4)))⟩⟩
  · exact ⟨rfl, Or.inr ⟨(pair_none2 q1 (pair_none2 q2 (pair_none q3))), rfl, G0.trans (g1.trans (g2.trans g3))⟩⟩
  · exact ⟨rfl, Or.inr ⟨(pair_none2 q1 (pair_none q2)), rfl, G0.trans (g1.trans g2)⟩⟩
  · exact ⟨rfl, Or.inr ⟨(pair_none q1), rfl, G0.trans g1⟩⟩
end Go.Proofs.Ythdgpadakmdlkaa.Codec
