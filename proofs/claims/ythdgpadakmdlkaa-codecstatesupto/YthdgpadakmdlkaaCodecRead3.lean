/-
  The reader of package codec: a cell, a pose, a move, an operation, a telegram, part by part.
-/
import Derived.Test.YthdgpadakmdlkaaCodecRead2
import Derived.Laws.Rows
namespace Go.Proofs.Ythdgpadakmdlkaa.Codec
set_option linter.unusedVariables false
set_option linter.unusedSimpArgs false
open Go Go.RowKit
theorem num_flat (w : World) (R : Nat) (a : Option Addr) (cap : Nat) (zs : List Int) (k : Nat) (h : Rd w R a cap zs k) :
    Calls Try.prog 68 #[.pointer (some ⟨R, 0, none⟩)] w fun e w' =>
      (∃ x0 k', cNum.get (zs.drop k) = some (x0, zs.drop k') ∧ k < k' ∧ cNum.ok x0 ∧ e = .returned (.int .i64 x0) ∧ Rd w' R a cap zs k' ∧ w.grownBy w' (some R)) ∨
      (cNum.get (zs.drop k) = none ∧ e = .panicked [{ v := .iface 32 (.int .i64 4), recovered := false }] ∧ w.grownBy w' (some R)) := number_any w R a cap zs k h
theorem flag_flat (w : World) (R : Nat) (a : Option Addr) (cap : Nat) (zs : List Int) (k : Nat) (h : Rd w R a cap zs k) :
    Calls Try.prog 91 #[.pointer (some ⟨R, 0, none⟩)] w fun e w' =>
      (∃ x0 k', cFlag.get (zs.drop k) = some (x0, zs.drop k') ∧ k < k' ∧ cFlag.ok x0 ∧ e = .returned (.bool x0) ∧ Rd w' R a cap zs k' ∧ w.grownBy w' (some R)) ∨
      (cFlag.get (zs.drop k) = none ∧ e = .panicked [{ v := .iface 32 (.int .i64 4), recovered := false }] ∧ w.grownBy w' (some R)) := flag_any w R a cap zs k h
theorem info_cell : (Try.prog.info? 23).map (·.size) = some 2 := by kernel_rfl
set_option maxRecDepth 100000 in
set_option maxHeartbeats 2000000 in
theorem cell_flat (w : World) (R : Nat) (a : Option Addr) (cap : Nat) (zs : List Int) (k : Nat) (h : Rd w R a cap zs k) :
    Calls Try.prog 99 #[.pointer (some ⟨R, 0, none⟩)] w fun e w' =>
      (∃ x0 x1 k', cCell.get (zs.drop k) = some ((x0, x1), zs.drop k') ∧ k < k' ∧ cCell.ok (x0, x1) ∧ e = .returned (.agg #[.int .i64 x0, .int .i64 x1]) ∧ Rd w' R a cap zs k' ∧ w.grownBy w' (some R)) ∨
      (cCell.get (zs.drop k) = none ∧ e = .panicked [{ v := .iface 32 (.int .i64 4), recovered := false }] ∧ w.grownBy w' (some R)) := by
  have hR := h.lt
  have hx : ∀ x, a = some x → zs.length ≠ 0 → x.block ≠ w.heap.size := fun x hx hn => Nat.ne_of_lt (h.row.lt x hx hn)
  have h0 := h.alloc (.cells #[.int .i64 0, .int .i64 0] 23)
  go_enter Try.func99, Try.ntmps99
  go_wp2_with (first
    | (refine wpList_store_row rfl 23 (.tmp 2) (.tmp 7) rfl w.heap.size #[.int .i64 y0, .int .i64 y1] rfl rfl 23 #[.int .i64 0, .int .i64 0] (heap_kept (g1.trans g2) (by simp) (by omega) (heap_alloc_new w _)) info_cell rfl (by simp [Value.oneCell']) ?_)
    | (go_at_call 68; refine (num_flat _ R a cap zs k1 r1).mono ?_; rintro e w2 (⟨y1, k2, q2, l2, o2, rfl, r2, g2⟩ | ⟨q2, rfl, g2⟩))
    | (go_at_call 68; refine (num_flat _ R a cap zs k h0).mono ?_; rintro e w1 (⟨y0, k1, q1, l1, o1, rfl, r1, g1⟩ | ⟨q1, rfl, g1⟩)))
  · refine bodyPost_ret (results_cell_row rfl _ _ w.heap.size 23 #[.int .i64 y0, .int .i64 y1] (0, 0) _ rfl (setRow_heap _ _ _ _ _ _ (heap_kept (g1.trans g2) (by simp) (by omega) (heap_alloc_new w _))) Try.underlying23 rfl info_cell) rfl ?_
    exact Or.inl ⟨y0, y1, k2, (pair_some q1 q2), by omega, ⟨o1, o2⟩, rfl, r2.setRow _ _ (by omega) hx, grown_setRow ((World.grownBy_alloc _ _ _).trans (g1.trans g2)) (Nat.le_refl _) _⟩
  · exact ⟨rfl, Or.inr ⟨(pair_none2 q1 q2), rfl, (World.grownBy_alloc _ _ _).trans (g1.trans g2)⟩⟩
  · exact ⟨rfl, Or.inr ⟨(pair_none q1), rfl, (World.grownBy_alloc _ _ _).trans g1⟩⟩

theorem info_pose : (Try.prog.info? 25).map (·.size) = some 3 := by kernel_rfl
set_option maxRecDepth 100000 in
set_option maxHeartbeats 2000000 in
theorem pose_flat (w : World) (R : Nat) (a : Option Addr) (cap : Nat) (zs : List Int) (k : Nat) (h : Rd w R a cap zs k) :
    Calls Try.prog 69 #[.pointer (some ⟨R, 0, none⟩)] w fun e w' =>
      (∃ x0 x1 x2 k', cPose.get (zs.drop k) = some (((x0, x1), x2), zs.drop k') ∧ k < k' ∧ cPose.ok ((x0, x1), x2) ∧ e = .returned (.agg #[.int .i64 x0, .int .i64 x1, .bool x2]) ∧ Rd w' R a cap zs k' ∧ w.grownBy w' (some R)) ∨
      (cPose.get (zs.drop k) = none ∧ e = .panicked [{ v := .iface 32 (.int .i64 4), recovered := false }] ∧ w.grownBy w' (some R)) := by
  have hR := h.lt
  have hx : ∀ x, a = some x → zs.length ≠ 0 → x.block ≠ w.heap.size := fun x hx hn => Nat.ne_of_lt (h.row.lt x hx hn)
  have h0 := h.alloc (.cells #[.int .i64 0, .int .i64 0, .bool false] 25)
  go_enter Try.func69, Try.ntmps69
  go_wp2_with (first
    | (refine wpList_store_row rfl 25 (.tmp 2) (.tmp 7) rfl w.heap.size #[.int .i64 y0, .int .i64 y1, .bool y2] rfl rfl 25 #[.int .i64 0, .int .i64 0, .bool false] (heap_kept (g1.trans g2) (by simp) (by omega) (heap_alloc_new w _)) info_pose rfl (by simp [Value.oneCell']) ?_)
    | (go_at_call 91; refine (flag_flat _ R a cap zs k1 r1).mono ?_; rintro e w2 (⟨y2, k2, q2, l2, o2, rfl, r2, g2⟩ | ⟨q2, rfl, g2⟩))
    | (go_at_call 99; refine (cell_flat _ R a cap zs k h0).mono ?_; rintro e w1 (⟨y0, y1, k1, q1, l1, o1, rfl, r1, g1⟩ | ⟨q1, rfl, g1⟩)))
  · refine bodyPost_ret (results_cell_row rfl _ _ w.heap.size 25 #[.int .i64 y0, .int .i64 y1, .bool y2] (0, 0) _ rfl (setRow_heap _ _ _ _ _ _ (heap_kept (g1.trans g2) (by simp) (by omega) (heap_alloc_new w _))) Try.underlying25 rfl info_pose) rfl ?_
    exact Or.inl ⟨y0, y1, y2, k2, (pair_some q1 q2), by omega, ⟨o1, o2⟩, rfl, r2.setRow _ _ (by omega) hx, grown_setRow ((World.grownBy_alloc _ _ _).trans (g1.trans g2)) (Nat.le_refl _) _⟩
  · exact ⟨rfl, Or.inr ⟨(pair_none2 q1 q2), rfl, (World.grownBy_alloc _ _ _).trans (g1.trans g2)⟩⟩
  · exact ⟨rfl, Or.inr ⟨(pair_none q1), rfl, (World.grownBy_alloc _ _ _).trans g1⟩⟩

theorem info_move : (Try.prog.info? 42).map (·.size) = some 11 := by kernel_rfl
set_option maxRecDepth 100000 in
set_option maxHeartbeats 2000000 in
theorem move_flat (w : World) (R : Nat) (a : Option Addr) (cap : Nat) (zs : List Int) (k : Nat) (h : Rd w R a cap zs k) :
    Calls Try.prog 78 #[.pointer (some ⟨R, 0, none⟩)] w fun e w' =>
      (∃ x0 x1 x2 x3 x4 x5 x6 x7 x8 x9 x10 k', cMove.get (zs.drop k) = some ((x0, x1, x2, ((x3, x4), x5), ((x6, x7), x8), x9, x10), zs.drop k') ∧ k < k' ∧ cMove.ok (x0, x1, x2, ((x3, x4), x5), ((x6, x7), x8), x9, x10) ∧ e = .returned (.agg #[.int .i64 x0, .int .i64 x1, .int .i64 x2, .int .i64 x3, .int .i64 x4, .bool x5, .int .i64 x6, .int .i64 x7, .bool x8, .int .i64 x9, .int .i64 x10]) ∧ Rd w' R a cap zs k' ∧ w.grownBy w' (some R)) ∨
      (cMove.get (zs.drop k) = none ∧ e = .panicked [{ v := .iface 32 (.int .i64 4), recovered := false }] ∧ w.grownBy w' (some R)) := by
  have hR := h.lt
  have hx : ∀ x, a = some x → zs.length ≠ 0 → x.block ≠ w.heap.size := fun x hx hn => Nat.ne_of_lt (h.row.lt x hx hn)
  have h0 := h.alloc (.cells #[.int .i64 0, .int .i64 0, .int .i64 0, .int .i64 0, .int .i64 0, .bool false, .int .i64 0, .int .i64 0, .bool false, .int .i64 0, .int .i64 0] 42)
  go_enter Try.func78, Try.ntmps78
  go_wp2_with (first
    | (refine wpList_store_row rfl 42 (.tmp 2) (.tmp 17) rfl w.heap.size #[.int .i64 y0, .int .i64 y1, .int .i64 y2, .int .i64 y3, .int .i64 y4, .bool y5, .int .i64 y6, .int .i64 y7, .bool y8, .int .i64 y9, .int .i64 y10] rfl rfl 42 #[.int .i64 0, .int .i64 0, .int .i64 0, .int .i64 0, .int .i64 0, .bool false, .int .i64 0, .int .i64 0, .bool false, .int .i64 0, .int .i64 0] (heap_kept (g1.trans (g2.trans (g3.trans (g4.trans (g5.trans (g6.trans g7)))))) (by simp) (by omega) (heap_alloc_new w _)) info_move rfl (by simp [Value.oneCell']) ?_)
    | (go_at_call 68; refine (num_flat _ R a cap zs k6 r6).mono ?_; rintro e w7 (⟨y10, k7, q7, l7, o7, rfl, r7, g7⟩ | ⟨q7, rfl, g7⟩))
    | (go_at_call 68; refine (num_flat _ R a cap zs k5 r5).mono ?_; rintro e w6 (⟨y9, k6, q6, l6, o6, rfl, r6, g6⟩ | ⟨q6, rfl, g6⟩))
    | (go_at_call 69; refine (pose_flat _ R a cap zs k4 r4).mono ?_; rintro e w5 (⟨y6, y7, y8, k5, q5, l5, o5, rfl, r5, g5⟩ | ⟨q5, rfl, g5⟩))
    | (go_at_call 69; refine (pose_flat _ R a cap zs k3 r3).mono ?_; rintro e w4 (⟨y3, y4, y5, k4, q4, l4, o4, rfl, r4, g4⟩ | ⟨q4, rfl, g4⟩))
    | (go_at_call 68; refine (num_flat _ R a cap zs k2 r2).mono ?_; rintro e w3 (⟨y2, k3, q3, l3, o3, rfl, r3, g3⟩ | ⟨q3, rfl, g3⟩))
    | (go_at_call 68; refine (num_flat _ R a cap zs k1 r1).mono ?_; rintro e w2 (⟨y1, k2, q2, l2, o2, rfl, r2, g2⟩ | ⟨q2, rfl, g2⟩))
    | (go_at_call 68; refine (num_flat _ R a cap zs k h0).mono ?_; rintro e w1 (⟨y0, k1, q1, l1, o1, rfl, r1, g1⟩ | ⟨q1, rfl, g1⟩)))
  · refine bodyPost_ret (results_cell_row rfl _ _ w.heap.size 42 #[.int .i64 y0, .int .i64 y1, .int .i64 y2, .int .i64 y3, .int .i64 y4, .bool y5, .int .i64 y6, .int .i64 y7, .bool y8, .int .i64 y9, .int .i64 y10] (0, 0) _ rfl (setRow_heap _ _ _ _ _ _ (heap_kept (g1.trans (g2.trans (g3.trans (g4.trans (g5.trans (g6.trans g7)))))) (by simp) (by omega) (heap_alloc_new w _))) Try.underlying42 rfl info_move) rfl ?_
    exact Or.inl ⟨y0, y1, y2, y3, y4, y5, y6, y7, y8, y9, y10, k7, (pair_some q1 (pair_some q2 (pair_some q3 (pair_some q4 (pair_some q5 (pair_some q6 q7)))))), by omega, ⟨o1, o2, o3, o4, o5, o6, o7⟩, rfl, r7.setRow _ _ (by omega) hx, grown_setRow ((World.grownBy_alloc _ _ _).trans (g1.trans (g2.trans (g3.trans (g4.trans (g5.trans (g6.trans g7))))))) (Nat.le_refl _) _⟩
  · exact ⟨rfl, Or.inr ⟨(pair_none2 q1 (pair_none2 q2 (pair_none2 q3 (pair_none2 q4 (pair_none2 q5 (pair_none2 q6 q7)))))), rfl, (World.grownBy_alloc _ _ _).trans (g1.trans (g2.trans (g3.trans (g4.trans (g5.trans (g6.trans g7))))))⟩⟩
  · exact ⟨rfl, Or.inr ⟨(pair_none2 q1 (pair_none2 q2 (pair_none2 q3 (pair_none2 q4 (pair_none2 q5 (pair_none q6)))))), rfl, (World.grownBy_alloc _ _ _).trans (g1.trans (g2.trans (g3.trans (g4.trans (g5.trans g6)))))⟩⟩
  · exact ⟨rfl, Or.inr ⟨(pair_none2 q1 (pair_none2 q2 (pair_none2 q3 (pair_none2 q4 (pair_none q5))))), rfl, (World.grownBy_alloc _ _ _).trans (g1.trans (g2.trans (g3.trans (g4.trans g5))))⟩⟩
  · exact ⟨rfl, Or.inr ⟨(pair_none2 q1 (pair_none2 q2 (pair_none2 q3 (pair_none q4)))), rfl, (World.grownBy_alloc _ _ _).trans (g1.trans (g2.trans (g3.trans g4)))⟩⟩
  · exact ⟨rfl, Or.inr ⟨(pair_none2 q1 (pair_none2 q2 (pair_none q3))), rfl, (World.grownBy_alloc _ _ _).trans (g1.trans (g2.trans g3))⟩⟩
  · exact ⟨rfl, Or.inr ⟨(pair_none2 q1 (pair_none q2)), rfl, (World.grownBy_alloc _ _ _).trans (g1.trans g2)⟩⟩
  · exact ⟨rfl, Or.inr ⟨(pair_none q1), rfl, (World.grownBy_alloc _ _ _).trans g1⟩⟩

theorem info_op : (Try.prog.info? 81).map (·.size) = some 3 := by kernel_rfl
set_option maxRecDepth 100000 in
set_option maxHeartbeats 2000000 in
theorem op_flat (w : World) (R : Nat) (a : Option Addr) (cap : Nat) (zs : List Int) (k : Nat) (h : Rd w R a cap zs k) :
    Calls Try.prog 74 #[.pointer (some ⟨R, 0, none⟩)] w fun e w' =>
      (∃ x0 x1 x2 k', cOp.get (zs.drop k) = some ((x0, x1, x2), zs.drop k') ∧ k < k' ∧ cOp.ok (x0, x1, x2) ∧ e = .returned (.agg #[.int .i64 x0, .int .i64 x1, .int .i64 x2]) ∧ Rd w' R a cap zs k' ∧ w.grownBy w' (some R)) ∨
      (cOp.get (zs.drop k) = none ∧ e = .panicked [{ v := .iface 32 (.int .i64 4), recovered := false }] ∧ w.grownBy w' (some R)) := by
  have hR := h.lt
  have hx : ∀ x, a = some x → zs.length ≠ 0 → x.block ≠ w.heap.size := fun x hx hn => Nat.ne_of_lt (h.row.lt x hx hn)
  have h0 := h.alloc (.cells #[.int .i64 0, .int .i64 0, .int .i64 0] 81)
  go_enter Try.func74, Try.ntmps74
  go_wp2_with (first
    | (refine wpList_store_row rfl 81 (.tmp 2) (.tmp 9) rfl w.heap.size #[.int .i64 y0, .int .i64 y1, .int .i64 y2] rfl rfl 81 #[.int .i64 0, .int .i64 0, .int .i64 0] (heap_kept (g1.trans (g2.trans g3)) (by simp) (by omega) (heap_alloc_new w _)) info_op rfl (by simp [Value.oneCell']) ?_)
    | (go_at_call 68; refine (num_flat _ R a cap zs k2 r2).mono ?_; rintro e w3 (⟨y2, k3, q3, l3, o3, rfl, r3, g3⟩ | ⟨q3, rfl, g3⟩))
    | (go_at_call 68; refine (num_flat _ R a cap zs k1 r1).mono ?_; rintro e w2 (⟨y1, k2, q2, l2, o2, rfl, r2, g2⟩ | ⟨q2, rfl, g2⟩))
    | (go_at_call 68; refine (num_flat _ R a cap zs k h0).mono ?_; rintro e w1 (⟨y0, k1, q1, l1, o1, rfl, r1, g1⟩ | ⟨q1, rfl, g1⟩)))
  · refine bodyPost_ret (results_cell_row rfl _ _ w.heap.size 81 #[.int .i64 y0, .int .i64 y1, .int .i64 y2] (0, 0) _ rfl (setRow_heap _ _ _ _ _ _ (heap_kept (g1.trans (g2.trans g3)) (by simp) (by omega) (heap_alloc_new w _))) Try.underlying81 rfl info_op) rfl ?_
    exact Or.inl ⟨y0, y1, y2, k3, (pair_some q1 (pair_some q2 q3)), by omega, ⟨o1, o2, o3⟩, rfl, r3.setRow _ _ (by omega) hx, grown_setRow ((World.grownBy_alloc _ _ _).trans (g1.trans (g2.trans g3))) (Nat.le_refl _) _⟩
  · exact ⟨rfl, Or.inr ⟨(pair_none2 q1 (pair_none2 q2 q3)), rfl, (World.grownBy_alloc _ _ _).trans (g1.trans (g2.trans g3))⟩⟩
  · exact ⟨rfl, Or.inr ⟨(pair_none2 q1 (pair_none q2)), rfl, (World.grownBy_alloc _ _ _).trans (g1.trans g2)⟩⟩
  · exact ⟨rfl, Or.inr ⟨(pair_none q1), rfl, (World.grownBy_alloc _ _ _).trans g1⟩⟩

theorem info_tele : (Try.prog.info? 44).map (·.size) = some 19 := by kernel_rfl
set_option maxRecDepth 100000 in
set_option maxHeartbeats 2000000 in
theorem tele_flat (w : World) (R : Nat) (a : Option Addr) (cap : Nat) (zs : List Int) (k : Nat) (h : Rd w R a cap zs k) :
    Calls Try.prog 41 #[.pointer (some ⟨R, 0, none⟩)] w fun e w' =>
      (∃ x0 x1 x2 x3 x4 x5 x6 x7 x8 x9 x10 x11 x12 x13 x14 x15 x16 x17 x18 k', cTele.get (zs.drop k) = some ((x0, x1, x2, x3, (x4, x5, x6, ((x7, x8), x9), ((x10, x11), x12), x13, x14), ((x15, x16), x17), x18), zs.drop k') ∧ k < k' ∧ cTele.ok (x0, x1, x2, x3, (x4, x5, x6, ((x7, x8), x9), ((x10, x11), x12), x13, x14), ((x15, x16), x17), x18) ∧ e = .returned (.agg #[.int .i64 x0, .int .i64 x1, .int .i64 x2, .int .i64 x3, .int .i64 x4, .int .i64 x5, .int .i64 x6, .int .i64 x7, .int .i64 x8, .bool x9, .int .i64 x10, .int .i64 x11, .bool x12, .int .i64 x13, .int .i64 x14, .int .i64 x15, .int .i64 x16, .bool x17, .int .i64 x18]) ∧ Rd w' R a cap zs k' ∧ w.grownBy w' (some R)) ∨
      (cTele.get (zs.drop k) = none ∧ e = .panicked [{ v := .iface 32 (.int .i64 4), recovered := false }] ∧ w.grownBy w' (some R)) := by
  have hR := h.lt
  have hx : ∀ x, a = some x → zs.length ≠ 0 → x.block ≠ w.heap.size := fun x hx hn => Nat.ne_of_lt (h.row.lt x hx hn)
  have h0 := h.alloc (.cells #[.int .i64 0, .int .i64 0, .int .i64 0, .int .i64 0, .int .i64 0, .int .i64 0, .int .i64 0, .int .i64 0, .int .i64 0, .bool false, .int .i64 0, .int .i64 0, .bool false, .int .i64 0, .int .i64 0, .int .i64 0, .int .i64 0, .bool false, .int .i64 0] 44)
  go_enter Try.func41, Try.ntmps41
  go_wp2_with (first
    | (refine wpList_store_row rfl 44 (.tmp 2) (.tmp 17) rfl w.heap.size #[.int .i64 y0, .int .i64 y1, .int .i64 y2, .int .i64 y3, .int .i64 y4, .int .i64 y5, .int .i64 y6, .int .i64 y7, .int .i64 y8, .bool y9, .int .i64 y10, .int .i64 y11, .bool y12, .int .i64 y13, .int .i64 y14, .int .i64 y15, .int .i64 y16, .bool y17, .int .i64 y18] rfl rfl 44 #[.int .i64 0, .int .i64 0, .int .i64 0, .int .i64 0, .int .i64 0, .int .i64 0, .int .i64 0, .int .i64 0, .int .i64 0, .bool false, .int .i64 0, .int .i64 0, .bool false, .int .i64 0, .int .i64 0, .int .i64 0, .int .i64 0, .bool false, .int .i64 0] (heap_kept (g1.trans (g2.trans (g3.trans (g4.trans (g5.trans (g6.trans g7)))))) (by simp) (by omega) (heap_alloc_new w _)) info_tele rfl (by simp [Value.oneCell']) ?_)
    | (go_at_call 68; refine (num_flat _ R a cap zs k6 r6).mono ?_; rintro e w7 (⟨y18, k7, q7, l7, o7, rfl, r7, g7⟩ | ⟨q7, rfl, g7⟩))
    | (go_at_call 69; refine (pose_flat _ R a cap zs k5 r5).mono ?_; rintro e w6 (⟨y15, y16, y17, k6, q6, l6, o6, rfl, r6, g6⟩ | ⟨q6, rfl, g6⟩))
    | (go_at_call 78; refine (move_flat _ R a cap zs k4 r4).mono ?_; rintro e w5 (⟨y4, y5, y6, y7, y8, y9, y10, y11, y12, y13, y14, k5, q5, l5, o5, rfl, r5, g5⟩ | ⟨q5, rfl, g5⟩))
    | (go_at_call 68; refine (num_flat _ R a cap zs k3 r3).mono ?_; rintro e w4 (⟨y3, k4, q4, l4, o4, rfl, r4, g4⟩ | ⟨q4, rfl, g4⟩))
    | (go_at_call 68; refine (num_flat _ R a cap zs k2 r2).mono ?_; rintro e w3 (⟨y2, k3, q3, l3, o3, rfl, r3, g3⟩ | ⟨q3, rfl, g3⟩))
    | (go_at_call 68; refine (num_flat _ R a cap zs k1 r1).mono ?_; rintro e w2 (⟨y1, k2, q2, l2, o2, rfl, r2, g2⟩ | ⟨q2, rfl, g2⟩))
    | (go_at_call 68; refine (num_flat _ R a cap zs k h0).mono ?_; rintro e w1 (⟨y0, k1, q1, l1, o1, rfl, r1, g1⟩ | ⟨q1, rfl, g1⟩)))
  · refine bodyPost_ret (results_cell_row rfl _ _ w.heap.size 44 #[.int .i64 y0, .int .i64 y1, .int .i64 y2, .int .i64 y3, .int .i64 y4, .int .i64 y5, .int .i64 y6, .int .i64 y7, .int .i64 y8, .bool y9, .int .i64 y10, .int .i64 y11, .bool y12, .int .i64 y13, .int .i64 y14, .int .i64 y15, .int .i64 y16, .bool y17, .int .i64 y18] (0, 0) _ rfl (setRow_heap _ _ _ _ _ _ (heap_kept (g1.trans (g2.trans (g3.trans (g4.trans (g5.trans (g6.trans g7)))))) (by simp) (by omega) (heap_alloc_new w _))) Try.underlying44 rfl info_tele) rfl ?_
    exact Or.inl ⟨y0, y1, y2, y3, y4, y5, y6, y7, y8, y9, y10, y11, y12, y13, y14, y15, y16, y17, y18, k7, (pair_some q1 (pair_some q2 (pair_some q3 (pair_some q4 (pair_some q5 (pair_some q6 q7)))))), by omega, ⟨o1, o2, o3, o4, o5, o6, o7⟩, rfl, r7.setRow _ _ (by omega) hx, grown_setRow ((World.grownBy_alloc _ _ _).trans (g1.trans (g2.trans (g3.trans (g4.trans (g5.trans (g6.trans g7))))))) (Nat.le_refl _) _⟩
  · exact ⟨rfl, Or.inr ⟨(pair_none2 q1 (pair_none2 q2 (pair_none2 q3 (pair_none2 q4 (pair_none2 q5 (pair_none2 q6 q7)))))), rfl, (World.grownBy_alloc _ _ _).trans (g1.trans (g2.trans (g3.trans (g4.trans (g5.trans (g6.trans g7))))))⟩⟩
  · exact ⟨rfl, Or.inr ⟨(pair_none2 q1 (pair_none2 q2 (pair_none2 q3 (pair_none2 q4 (pair_none2 q5 (pair_none q6)))))), rfl, (World.grownBy_alloc _ _ _).trans (g1.trans (g2.trans (g3.trans (g4.trans (g5.trans g6)))))⟩⟩
  · exact ⟨rfl, Or.inr ⟨(pair_none2 q1 (pair_none2 q2 (pair_none2 q3 (pair_none2 q4 (pair_none q5))))), rfl, (World.grownBy_alloc _ _ _).trans (g1.trans (g2.trans (g3.trans (g4.trans g5))))⟩⟩
  · exact ⟨rfl, Or.inr ⟨(pair_none2 q1 (pair_none2 q2 (pair_none2 q3 (pair_none q4)))), rfl, (World.grownBy_alloc _ _ _).trans (g1.trans (g2.trans (g3.trans g4)))⟩⟩
  · exact ⟨rfl, Or.inr ⟨(pair_none2 q1 (pair_none2 q2 (pair_none q3))), rfl, (World.grownBy_alloc _ _ _).trans (g1.trans (g2.trans g3))⟩⟩
  · exact ⟨rfl, Or.inr ⟨(pair_none2 q1 (pair_none q2)), rfl, (World.grownBy_alloc _ _ _).trans (g1.trans g2)⟩⟩
  · exact ⟨rfl, Or.inr ⟨(pair_none q1), rfl, (World.grownBy_alloc _ _ _).trans g1⟩⟩

end Go.Proofs.Ythdgpadakmdlkaa.Codec
