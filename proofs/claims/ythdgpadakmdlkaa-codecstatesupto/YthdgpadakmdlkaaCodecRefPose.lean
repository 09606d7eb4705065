/-
  The chapter's own answer: a pose that its reader reads.
-/
import Derived.Test.YthdgpadakmdlkaaCodecRefCell
namespace Go.Proofs.Ythdgpadakmdlkaa.Codec
set_option linter.unusedVariables false
set_option linter.unusedSimpArgs false
open Go Go.RowKit

def poseCells (x : (Int × Int) × Bool) : Array Value := #[.int .i64 x.1.1, .int .i64 x.1.2, .bool x.2]
theorem zPose3 : (Try.prog.info? 25).map (·.size) = some 3 := by kernel_rfl
theorem rflag_one (w : World) (R : Nat) (a : Option Addr) (cap : Nat) (zs : List Int) (k : Nat) (bad : Bool) (h : RR w R a cap zs k bad) :
    Calls Try.prog 48 #[.pointer (some ⟨R, 0, none⟩)] w fun e w' => w.grownBy w' (some R) ∧ ∃ (x : Bool) (k' : Nat), e = .returned (.bool x) ∧ ∃ bad', RR w' R a cap zs k' bad' ∧
      ((bad = false ∧ bad' = false ∧ cFlag.get (zs.drop k) = some (x, zs.drop k') ∧ k < k' ∧ cFlag.ok x) ∨ (bad' = true ∧ (bad = true ∨ cFlag.get (zs.drop k) = none))) := by
  refine (rflag_any w R a cap zs k bad h).mono ?_
  rintro e w' ⟨g, ⟨x, k', hb, q, l, o, rfl, rr⟩ | ⟨q, rfl, k', rr⟩⟩
  · exact ⟨g, x, k', rfl, false, rr, Or.inl ⟨hb, rfl, q, l, o⟩⟩
  · exact ⟨g, false, k', rfl, true, rr, Or.inr ⟨rfl, q⟩⟩
theorem rcell_one (w : World) (R : Nat) (a : Option Addr) (cap : Nat) (zs : List Int) (k : Nat) (bad : Bool) (h : RR w R a cap zs k bad) :
    Calls Try.prog 50 #[.pointer (some ⟨R, 0, none⟩)] w fun e w' => w.grownBy w' (some R) ∧ ∃ (x y : Int) (k' : Nat), e = .returned (.agg #[.int .i64 x, .int .i64 y]) ∧ ∃ bad', RR w' R a cap zs k' bad' ∧
      ((bad = false ∧ bad' = false ∧ cCell.get (zs.drop k) = some ((x, y), zs.drop k') ∧ k < k' ∧ cCell.ok (x, y)) ∨ (bad' = true ∧ (bad = true ∨ cCell.get (zs.drop k) = none))) := by
  refine (rcell_any w R a cap zs k bad h).mono ?_
  rintro e w' ⟨g, ⟨x, y⟩, k', rfl, ⟨hb, q, l, o, rr⟩ | ⟨q, rr⟩⟩
  · exact ⟨g, x, y, k', rfl, false, rr, Or.inl ⟨hb, rfl, q, l, o⟩⟩
  · exact ⟨g, x, y, k', rfl, true, rr, Or.inr ⟨rfl, q⟩⟩
set_option maxRecDepth 100000 in
set_option maxHeartbeats 2000000 in
theorem rpose_any (w : World) (R : Nat) (a : Option Addr) (cap : Nat) (zs : List Int) (k : Nat) (bad : Bool) (h : RR w R a cap zs k bad) :
    Calls Try.prog 28 #[.pointer (some ⟨R, 0, none⟩)] w (RGets cPose poseCells w R a cap zs k bad) := by
  have hR := h.lt
  have hx : ∀ x, a = some x → zs.length ≠ 0 → x.block ≠ w.heap.size := fun x hx hn => Nat.ne_of_lt (h.row.lt x hx hn)
  have h0 : RR (w.alloc (.cells #[.int .i64 0, .int .i64 0, .bool false] 25)) R a cap zs k bad := h.same ((Below.refl _ _).alloc (Nat.le_refl _) _)
  have G0 : w.grownBy (w.alloc (.cells #[.int .i64 0, .int .i64 0, .bool false] 25)) (some R) := World.grownBy_alloc _ _ _
  have hN0 : (w.alloc (.cells #[.int .i64 0, .int .i64 0, .bool false] 25)).heap[w.heap.size]? = some (.cells #[.int .i64 0, .int .i64 0, .bool false] 25 (0, 0)) := heap_alloc_new w _
  have sz0 : (w.alloc (.cells #[.int .i64 0, .int .i64 0, .bool false] 25)).heap.size = w.heap.size + 1 := by simp
  have c1 := rcell_one _ R a cap zs k bad h0
  have c2 := fun (u : World) (k1 : Nat) (b1 : Bool) (h : RR u R a cap zs k1 b1) => rflag_one u R a cap zs k1 b1 h
  clear h
  go_enter Try.func28, Try.ntmps28
  go_upto_region 2 with (go_at_call 50; refine c1.mono ?_; rintro e1 w1 ⟨g1, x1, y1, k1, rfl, bad1, rr1, st1⟩)
  have sz1 := g1.size
  have rr1' : RR (w1.alloc (.cells #[.int .i64 x1, .int .i64 y1] 23)) R a cap zs k1 bad1 := rr1.same ((Below.refl _ _).alloc (Nat.le_refl _) _)
  have G1 : w1.grownBy (w1.alloc (.cells #[.int .i64 x1, .int .i64 y1] 23)) (some R) := World.grownBy_alloc _ _ _
  have hC0 : (w1.alloc (.cells #[.int .i64 x1, .int .i64 y1] 23)).heap[w1.heap.size]? = some (.cells #[.int .i64 x1, .int .i64 y1] 23 (0, 0)) := heap_alloc_new w1 _
  have sz2 : (w1.alloc (.cells #[.int .i64 x1, .int .i64 y1] 23)).heap.size = w1.heap.size + 1 := by simp
  have cF := c2 _ _ _ rr1'
  clear c2
  go_wp2_with (first
    | (go_at_call 48; refine cF.mono ?_; rintro e2 w2 ⟨g2, x2, k2, rfl, bad2, rr2, st2⟩; have hNn := heap_kept ((g1.trans G1).trans g2) (by omega) (by omega) hN0; have hC := heap_kept g2 (by omega) (by omega) hC0)
    | (have X' := hC; refine wpList_load_row rfl 23 (.tmp 3) rfl w1.heap.size rfl 23 #[.int .i64 x1, .int .i64 y1] (0, 0) _ hC Try.underlying23 rfl zCell3 ?_)
    | (have X' := hNn; refine wpList_store_row rfl 25 (.tmp 2) (.tmp 11) rfl w.heap.size #[.int .i64 x1, .int .i64 y1, .bool x2] rfl rfl 25 #[.int .i64 0, .int .i64 0, .bool false] hNn zPose3 rfl (by simp [Value.oneCell']) ?_))
  refine bodyPost_ret (results_cell_row rfl _ _ w.heap.size 25 #[.int .i64 x1, .int .i64 y1, .bool x2] (0, 0) _ rfl (setRow_heap _ _ _ _ _ _ hNn) Try.underlying25 rfl zPose3) rfl ?_
  refine ⟨grown_setRow (G0.trans ((g1.trans G1).trans g2)) (Nat.le_refl _) _, ((x1, y1), x2), k2, rfl, ?_⟩
  have rr3 := rr2.setRow w.heap.size #[.int .i64 x1, .int .i64 y1, .bool x2] (by omega) hx
  rcases st1 with ⟨rfl, rfl, q1, l1, o1⟩ | ⟨rfl, q1⟩
  · rcases st2 with ⟨_, rfl, q2, l2, o2⟩ | ⟨rfl, q2⟩
    · exact Or.inl ⟨rfl, pair_some q1 q2, by omega, ⟨o1, o2⟩, rr3⟩
    · refine Or.inr ⟨Or.inr ?_, rr3⟩
      rcases q2 with q2 | q2
      · cases q2
      · exact pair_none2 q1 q2
  · rcases st2 with ⟨hb, _⟩ | ⟨rfl, q2⟩
    · cases hb
    · refine Or.inr ⟨?_, rr3⟩
      rcases q1 with q1 | q1
      · exact Or.inl q1
      · exact Or.inr (pair_none q1)
end Go.Proofs.Ythdgpadakmdlkaa.Codec
