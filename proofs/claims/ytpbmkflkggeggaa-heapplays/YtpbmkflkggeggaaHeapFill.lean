/-
  What was put in one by one, in plain words; slices of numbers that came in.
-/
import Derived.Test.YtpbmkflkggeggaaHeapLaw
namespace Go.Proofs.Ytpbmkflkggeggaa.Hp
set_option linter.unusedVariables false
set_option linter.unusedSimpArgs false
open Go Go.RowKit Go.Shelf Go.Proofs
attribute [local go_sem] Oper.semAt_some

/- The first i of the keys, put in one by one. -/
def fill (ks : List Int) : Nat → List It
  | 0 => []
  | i + 1 => ins ⟨ks.getD i 0, i, i⟩ (fill ks i)
theorem fill_mem (ks : List Int) : ∀ (i : Nat) (x : It), x ∈ fill ks i → x.t < i ∧ x.n = (x.t : Int) ∧ x.k = ks.getD x.t 0
  | 0, x, h => by simp [fill] at h
  | i + 1, x, h => by
    rcases List.mem_cons.1 ((ins_perm _ _).mem_iff.1 h) with rfl | h
    · exact ⟨Nat.lt_succ_self _, rfl, rfl⟩
    · obtain ⟨h1, h2⟩ := fill_mem ks i x h
      exact ⟨by omega, h2⟩
theorem fill_len (ks : List Int) : ∀ i, (fill ks i).length = i
  | 0 => rfl
  | i + 1 => by rw [fill, (ins_perm _ _).length_eq, List.length_cons, fill_len ks i]
theorem fill_sorted (ks : List Int) : ∀ i, Sorted (fill ks i)
  | 0 => List.Pairwise.nil
  | i + 1 => ins_sorted rfl _ (fill_sorted ks i) fun y hy => (fill_mem ks i y hy).1
theorem fill_apart (ks : List Int) : ∀ i, (fill ks i).Pairwise (fun x y => x.t ≠ y.t)
  | 0 => List.Pairwise.nil
  | i + 1 => by
    refine ((ins_perm _ _).pairwise_iff (fun h => fun e => h e.symm)).2 (List.pairwise_cons.2 ⟨fun y hy => ?_, fill_apart ks i⟩)
    have := (fill_mem ks i y hy).1
    show i ≠ y.t
    omega
structure Ks (w : World) (a : Option Addr) (n : Nat) (zs : List Int) : Prop where
  len : zs.length = n
  cell : ∀ i, i < n → ∃ x, a = some x ∧ w.cell? (x.add i) = some (.int .i64 (zs.getD i 0))
theorem Ks.after {w w' : World} {a : Option Addr} {n : Nat} {zs : List Int} (h : Ks w a n zs) (hb : Below w.heap.size w w') : Ks w' a n zs :=
  ⟨h.len, fun i hi => by
    obtain ⟨x, hx, hc⟩ := h.cell i hi
    exact ⟨x, hx, (hb.cell (World.block_lt_of_cell? w _ hc)).trans hc⟩⟩
theorem ks_of {w : World} {a : Option Addr} {len cap : Nat} {zs : List Int} (h : (a = none ∧ len = 0 ∧ cap = 0 ∧ zs = []) ∨
    ∃ x, a = some x ∧ len ≤ cap ∧ cap ≤ maxLen ∧ zs.length = cap ∧ (∀ i, i < zs.length → w.cell? (x.add i) = some (.int .i64 (zs.getD i 0))) ∧ ∀ n ∈ zs, (Lit.int .i64 n).wf = true) : Ks w a len (zs.take len) ∧ len ≤ maxLen := by
  rcases h with ⟨rfl, rfl, rfl, rfl⟩ | ⟨x, rfl, hl, hm, hz, hc, hw⟩
  · exact ⟨⟨rfl, fun i hi => by omega⟩, Nat.zero_le _⟩
  · refine ⟨⟨by rw [List.length_take]; omega, fun i hi => ⟨x, rfl, ?_⟩⟩, Nat.le_trans hl hm⟩
    rw [hc i (by omega)]
    simp only [List.getD_eq_getElem?_getD, List.getElem?_take, if_pos hi]
/- A row of Booleans that was made. -/
structure Bs (w : World) (g n : Nat) (f : Nat → Bool) : Prop where
  cell : ∀ i, i < n → w.cell? ⟨g, i, none⟩ = some (.bool (f i))
  froz : ∀ o, w.frozen? ⟨g, o, none⟩ = false
theorem Bs.same {w w' : World} {g n : Nat} {f : Nat → Bool} (h : Bs w g n f) (e : w'.heap[g]? = w.heap[g]?) : Bs w' g n f := ⟨fun i hi => (cell_same e).trans (h.cell i hi), fun o => (frozen_same e).trans (h.froz o)⟩
theorem Bs.set {w : World} {g n : Nat} {f : Nat → Bool} (h : Bs w g n f) (j : Nat) (hj : j < n) (x : Bool) : Bs (w.setCell ⟨g, j, none⟩ (.bool x)) g n (fun i => if i = j then x else f i) := by
  refine ⟨fun i hi => ?_, fun o => by rw [World.frozen?_setCell]; exact h.froz o⟩
  by_cases e : i = j
  · subst e
    simp only [if_pos]
    exact World.cell?_setCell_same _ _ _ (h.cell i hi)
  · simp only [if_neg e]
    exact (World.cell?_setCell_other _ _ _ _ (fun q => e (by have := congrArg Addr.off q; simp only at this; omega))).trans (h.cell i hi)
theorem infoBool : (Try.prog.info? 4).map (fun i => (i.zero, i.size, i.bytes)) = some (some (.bool false), 1, 1) := by kernel_rfl
theorem run_mkBool (M : Nat) (hM : M ≤ 1000) (w : World) : (Instr.makeSlice 48 (.int .i64 (M : Int)) (.int .i64 (M : Int))).run Try.prog w = .ok (.slice (some ⟨w.heap.size, 0, none⟩) M M) (w.alloc (.cells (madeCells #[.bool false] (M * 1)) 4)) := by
  obtain ⟨i0, hi, hz0, hz1, hz2⟩ := info_parts infoBool
  have := run_make (P := Try.prog) w 48 4 i0 _ Try.underlying48 hi hz0 .i64 .i64 M M (by omega) (by omega) (by rw [hz2]; omega) (by omega)
  simp only [Int.toNat_natCast, hz1] at this
  exact this
theorem made_bools (w : World) (M : Nat) : Bs (w.alloc (.cells (madeCells #[.bool false] M) 4)) w.heap.size M (fun _ => false) := by
  rw [show M = M * 1 by omega]
  have hB : (w.alloc (.cells (madeCells #[.bool false] (M * 1)) 4)).heap[w.heap.size]? = some (.cells (madeCells #[.bool false] (M * 1)) 4 (0, 0)) := World.alloc_heap_new _ _
  refine ⟨fun i hi => ?_, fun o => by simp⟩
  have e : (w.alloc (.cells (madeCells #[.bool false] (M * 1)) 4)).cell? ⟨w.heap.size, i, none⟩ = (madeCells #[.bool false] (M * 1))[i]? := by simp only [World.cell?, hB]; rfl
  rw [e]
  unfold madeCells
  rw [Array.getElem?_map, Array.getElem?_range, if_pos (by omega)]
  simp [Nat.mod_one]
end Go.Proofs.Ytpbmkflkggeggaa.Hp
