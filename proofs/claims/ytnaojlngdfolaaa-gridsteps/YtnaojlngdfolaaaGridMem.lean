/-
  Lists and grids in memory: by which blocks they are held; what stays while nothing old is turned.
-/
import Derived.Test.YtnaojlngdfolaaaChecked
import Derived.Test.YtnaojlngdfolaaaGridPlain2
import Derived.WalkKit
import Derived.ProofKit
import Derived.OpenShut
import Derived.BigQuiet
import Derived.Deep.QuietTactic
import Derived.WalkSmall
import Derived.Laws.AppendOwnNone
import Derived.OwnWalk
import Derived.Laws.Cover1
import Derived.Laws.Pointers
import Derived.Deep.AppendLies
import Derived.Maps.AppendAt
namespace Go.Proofs.Ytnaojlngdfolaaa.Grid
set_option linter.unusedVariables false
set_option linter.unusedSimpArgs false
open Go Go.RowKit

theorem ret_int {k : IntKind} {a b : Int} (h : a = b) : Ending.returned (.int k a) = .returned (.int k b) := by rw [h]
theorem ret_bool {a b : Bool} (h : a = b) : Ending.returned (.bool a) = .returned (.bool b) := by rw [h]
theorem bcat {B : Nat} {w w1 w2 : World} (h : Below B w w1) (h1 : Below w1.heap.size w1 w2) (hB : B ≤ w.heap.size) : Below B w w2 := h.trans (h1.mono (Nat.le_trans hB h.size))
theorem below_new {w w1 : World} (h : Below w.heap.size w w1) (o : Obj) : Below w.heap.size w (w1.alloc o) := h.alloc h.size _
theorem alloc_old (w : World) (o : Obj) (k : Nat) (h : k < w.heap.size) : (w.alloc o).heap[k]? = w.heap[k]? := ((Below.refl _ _).alloc (Nat.le_refl _) o).block k h
theorem block_add (x : Addr) (i : Nat) : (x.add i).block = x.block := by unfold Addr.add; split <;> rfl
theorem cell_same {w w' : World} {p : Addr} (h : w'.heap[p.block]? = w.heap[p.block]?) : w'.cell? p = w.cell? p := by unfold World.cell?; rw [h]
theorem froz_same {w w' : World} {p : Addr} (h : w'.heap[p.block]? = w.heap[p.block]?) : w'.frozen? p = w.frozen? p := by unfold World.frozen?; rw [h]
theorem lt_of_heap {w : World} {g : Nat} {o : Obj} (h : w.heap[g]? = some o) : g < w.heap.size := (Array.getElem?_eq_some_iff.1 h).1
theorem frozen_of {w : World} {N : Nat} {cs : Array Value} {t : TypeId} (h : w.heap[N]? = some (.cells cs t (0, 0))) (j : Nat) : w.frozen? ⟨N, j, none⟩ = false := by unfold World.frozen?; rw [h]; simp
theorem cell_of {w : World} {N : Nat} {cs : Array Value} {t : TypeId} (h : w.heap[N]? = some (.cells cs t (0, 0))) (j : Nat) : w.cell? ⟨N, j, none⟩ = cs[j]? := cell_of_row w N j cs t _ h

/- A grid: its struct in block g, the uses in block u. -/
structure GridAt (w : World) (g u : Nat) (W H : Int) (us : List Int) (vp : Value) : Prop where
  hd : w.heap[g]? = some (.cells #[.int .i64 W, .int .i64 H, .slice (some ⟨u, 0, none⟩) us.length us.length, vp] 110 (0, 0))
  row : w.heap[u]? = some (.cells (us.map (Value.int .u8)).toArray 120 (0, 0))
  w1 : 1 ≤ W
  w2 : W ≤ 16
  h1 : 1 ≤ H
  h2 : H ≤ 16
  len : (us.length : Int) = W * H
  small : ∀ z ∈ us, 0 ≤ z ∧ z < 256
  ne : g ≠ u
section
variable {w : World} {g u : Nat} {W H : Int} {us : List Int} {vp : Value}
theorem GridAt.ltg (h : GridAt w g u W H us vp) : g < w.heap.size := lt_of_heap h.hd
theorem GridAt.ltu (h : GridAt w g u W H us vp) : u < w.heap.size := lt_of_heap h.row
theorem GridAt.c0 (h : GridAt w g u W H us vp) : w.cell? ⟨g, 0, none⟩ = some (.int .i64 W) := by rw [cell_of h.hd]; rfl
theorem GridAt.c1 (h : GridAt w g u W H us vp) : w.cell? ⟨g, 1, none⟩ = some (.int .i64 H) := by rw [cell_of h.hd]; rfl
theorem GridAt.c2 (h : GridAt w g u W H us vp) : w.cell? ⟨g, 2, none⟩ = some (.slice (some ⟨u, 0, none⟩) us.length us.length) := by rw [cell_of h.hd]; rfl
theorem GridAt.c3 (h : GridAt w g u W H us vp) : w.cell? ⟨g, 3, none⟩ = some vp := by rw [cell_of h.hd]; rfl
theorem GridAt.at_ (h : GridAt w g u W H us vp) (k : Nat) (hk : k < us.length) : w.cell? ⟨u, k, none⟩ = some (.int .u8 (us.getD k 0)) := by
  rw [cell_of h.row, List.getElem?_toArray, List.getElem?_map, List.getElem?_eq_getElem hk, List.getD_eq_getElem?_getD, List.getElem?_eq_getElem hk]
  rfl
theorem GridAt.bd (h : GridAt w g u W H us vp) (k : Nat) : 0 ≤ us.getD k 0 ∧ us.getD k 0 < 256 := by
  rw [List.getD_eq_getElem?_getD]
  by_cases hk : k < us.length
  · rw [List.getElem?_eq_getElem hk]; exact h.small _ (List.getElem_mem hk)
  · rw [List.getElem?_eq_none (by omega)]; simp
theorem GridAt.same {w' : World} (h : GridAt w g u W H us vp) (hg : w'.heap[g]? = w.heap[g]?) (hu : w'.heap[u]? = w.heap[u]?) : GridAt w' g u W H us vp :=
  ⟨hg.trans h.hd, hu.trans h.row, h.w1, h.w2, h.h1, h.h2, h.len, h.small, h.ne⟩
theorem GridAt.go {w' : World} (h : GridAt w g u W H us vp) (hb : Below w.heap.size w w') : GridAt w' g u W H us vp :=
  h.same (hb.block g h.ltg) (hb.block u h.ltu)
theorem GridAt.alloc (h : GridAt w g u W H us vp) (o : Obj) : GridAt (w.alloc o) g u W H us vp := h.go ((Below.refl _ _).alloc (Nat.le_refl _) o)
theorem GridAt.le (h : GridAt w g u W H us vp) : us.length ≤ 256 := by
  have h1 := h.len
  have h2 : W * H ≤ 16 * H := Int.mul_le_mul_of_nonneg_right h.w2 (by have := h.h1; omega)
  have := h.h2
  omega
theorem GridAt.num_lt (h : GridAt w g u W H us vp) {c : Cell} (hc : In W H c) : 0 ≤ c.2 * W + c.1 ∧ c.2 * W + c.1 < us.length := by
  have := Grid.num_lt hc
  have := h.len
  omega
theorem GridAt.set (h : GridAt w g u W H us vp) (k : Nat) (x : Int) (hx : 0 ≤ x ∧ x < 256) : GridAt (w.setCell ⟨u, k, none⟩ (.int .u8 x)) g u W H (us.set k x) vp := by
  refine ⟨?_, ?_, h.w1, h.w2, h.h1, h.h2, by rw [List.length_set]; exact h.len, fun z hz => ?_, h.ne⟩
  · rw [heap_setCell_other _ _ _ _ h.ne, List.length_set]; exact h.hd
  · rw [heap_setCell_same _ _ _ _ _ _ h.row, List.map_set]
    simp
  · rcases List.mem_or_eq_of_mem_set hz with hz | rfl
    · exact h.small z hz
    · exact hx
end
end Go.Proofs.Ytnaojlngdfolaaa.Grid
