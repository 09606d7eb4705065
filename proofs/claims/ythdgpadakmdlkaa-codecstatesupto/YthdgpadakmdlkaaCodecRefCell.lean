/-
  The chapter's own answer: a cell that its reader reads.
-/
import Derived.Test.YthdgpadakmdlkaaCodecRefFlag
import Derived.Test.YthdgpadakmdlkaaCodecFace
namespace Go.Proofs.Ythdgpadakmdlkaa.Codec
set_option linter.unusedVariables false
set_option linter.unusedSimpArgs false
open Go Go.RowKit

/- What a call of the chapter's reader comes to that reads a thing of cells. -/
def RGets {α : Type} (c : Cod α) (cells : α → Array Value) (w : World) (R : Nat) (a : Option Addr) (cap : Nat) (zs : List Int) (k : Nat) (bad : Bool) (e : Ending) (w' : World) : Prop :=
  w.grownBy w' (some R) ∧ ∃ x k', e = .returned (.agg (cells x)) ∧ ((bad = false ∧ c.get (zs.drop k) = some (x, zs.drop k') ∧ k < k' ∧ c.ok x ∧ RR w' R a cap zs k' false) ∨
  ((bad = true ∨ c.get (zs.drop k) = none) ∧ RR w' R a cap zs k' true))
theorem RR.setRow {w : World} {R : Nat} {a : Option Addr} {cap : Nat} {zs : List Int} {k : Nat} {bad : Bool} (h : RR w R a cap zs k bad) (N : Nat) (cs : Array Value) (hN : N ≠ R) (hx : ∀ x, a = some x → zs.length ≠ 0 → x.block ≠ N) : RR (w.setRow N cs) R a cap zs k bad := by
  refine ⟨?_, ?_, ?_, ?_, ?_, ⟨h.row.len, h.row.small, fun i hi => ?_⟩, h.apart, h.le, h.cap1, h.cap2, h.nil⟩
  · rw [cell_setRow_other _ _ _ _ (fun e => hN e.symm)]; exact h.s
  · rw [cell_setRow_other _ _ _ _ (fun e => hN e.symm)]; exact h.i
  · rw [cell_setRow_other _ _ _ _ (fun e => hN e.symm)]; exact h.b
  · rw [← h.fz]; unfold World.frozen?; rw [setRow_other _ _ _ _ (fun e => hN e.symm)]
  · rw [← h.fb]; unfold World.frozen?; rw [setRow_other _ _ _ _ (fun e => hN e.symm)]
  · obtain ⟨x, hx', hc⟩ := h.row.cell i hi
    refine ⟨x, hx', ?_⟩
    rw [cell_setRow_other _ _ _ _ (by rw [block_add]; exact hx x hx' (by omega))]
    exact hc
def cellCells (x : Int × Int) : Array Value := #[.int .i64 x.1, .int .i64 x.2]
theorem zCell3 : (Try.prog.info? 23).map (·.size) = some 2 := by kernel_rfl
/- A number, whatever came of it. -/
theorem rnumber_one (w : World) (R : Nat) (a : Option Addr) (cap : Nat) (zs : List Int) (k : Nat) (bad : Bool) (h : RR w R a cap zs k bad) :
    Calls Try.prog 27 #[.pointer (some ⟨R, 0, none⟩)] w fun e w' => w.grownBy w' (some R) ∧ ∃ (x : Int) (k' : Nat), e = .returned (.int .i64 x) ∧ ∃ bad', RR w' R a cap zs k' bad' ∧
      ((bad = false ∧ bad' = false ∧ cNum.get (zs.drop k) = some (x, zs.drop k') ∧ k < k' ∧ cNum.ok x) ∨ (bad' = true ∧ (bad = true ∨ cNum.get (zs.drop k) = none))) := by
  refine (rnumber_any w R a cap zs k bad h).mono ?_
  rintro e w' ⟨g, ⟨x, k', hb, q, l, o, rfl, rr⟩ | ⟨q, rfl, k', rr⟩⟩
  · exact ⟨g, x, k', rfl, false, rr, Or.inl ⟨hb, rfl, q, l, o⟩⟩
  · exact ⟨g, 0, k', rfl, true, rr, Or.inr ⟨rfl, q⟩⟩
set_option maxRecDepth 100000 in
set_option maxHeartbeats 2000000 in
theorem rcell_any (w : World) (R : Nat) (a : Option Addr) (cap : Nat) (zs : List Int) (k : Nat) (bad : Bool) (h : RR w R a cap zs k bad) :
    Calls Try.prog 50 #[.pointer (some ⟨R, 0, none⟩)] w (RGets cCell cellCells w R a cap zs k bad) := by
  have hR := h.lt
  have hx : ∀ x, a = some x → zs.length ≠ 0 → x.block ≠ w.heap.size := fun x hx hn => Nat.ne_of_lt (h.row.lt x hx hn)
  have h0 : RR (w.alloc (.cells #[.int .i64 0, .int .i64 0] 23)) R a cap zs k bad := h.same ((Below.refl _ _).alloc (Nat.le_refl _) _)
  have G0 : w.grownBy (w.alloc (.cells #[.int .i64 0, .int .i64 0] 23)) (some R) := World.grownBy_alloc _ _ _
  have hN0 : (w.alloc (.cells #[.int .i64 0, .int .i64 0] 23)).heap[w.heap.size]? = some (.cells #[.int .i64 0, .int .i64 0] 23 (0, 0)) := heap_alloc_new w _
  have sz0 : (w.alloc (.cells #[.int .i64 0, .int .i64 0] 23)).heap.size = w.heap.size + 1 := by simp
  have c1 := rnumber_one _ R a cap zs k bad h0
  have c2 := fun (u : World) (k1 : Nat) (b1 : Bool) (h : RR u R a cap zs k1 b1) => rnumber_one u R a cap zs k1 b1 h
  clear h
  go_enter Try.func50, Try.ntmps50
  go_wp2_with (first
    | (have X' := rr1; go_at_call 27; refine (c2 _ _ _ rr1).mono ?_; rintro e2 w2 ⟨g2, x2, k2, rfl, bad2, rr2, st2⟩; have hNn := heap_kept (g1.trans g2) (by omega) (by omega) hN0)
    | (go_at_call 27; refine c1.mono ?_; rintro e1 w1 ⟨g1, x1, k1, rfl, bad1, rr1, st1⟩)
    | (have X' := hNn; refine wpList_store_row rfl 23 (.tmp 2) (.tmp 11) rfl w.heap.size #[.int .i64 x1, .int .i64 x2] rfl rfl 23 #[.int .i64 0, .int .i64 0] hNn zCell3 rfl (by simp [Value.oneCell']) ?_))
  refine bodyPost_ret (results_cell_row rfl _ _ w.heap.size 23 #[.int .i64 x1, .int .i64 x2] (0, 0) _ rfl (setRow_heap _ _ _ _ _ _ hNn) Try.underlying23 rfl zCell3) rfl ?_
  refine ⟨grown_setRow (G0.trans (g1.trans g2)) (Nat.le_refl _) _, (x1, x2), k2, rfl, ?_⟩
  have rr3 := rr2.setRow w.heap.size #[.int .i64 x1, .int .i64 x2] (by omega) hx
  rcases st1 with ⟨rfl, rfl, q1, l1, o1⟩ | ⟨rfl, q1⟩
  · rcases st2 with ⟨_, rfl, q2, l2, o2⟩ | ⟨rfl, q2⟩
    · exact Or.inl ⟨rfl, pair_some q1 q2, by omega, ⟨o1, o2⟩, rr3⟩
    · refine Or.inr ⟨Or.inr ?_, rr3⟩
      rcases q2 with q2 | q2
      · cases q2
      · exact pair_none2 q1 q2
  · rcases st2 with ⟨hb, _⟩ | ⟨rfl, q2⟩
    · cases hb
    · refine Or.inr ⟨?_, rr3⟩
      rcases q1 with q1 | q1
      · exact Or.inl q1
      · exact Or.inr (pair_none q1)
end Go.Proofs.Ythdgpadakmdlkaa.Codec
