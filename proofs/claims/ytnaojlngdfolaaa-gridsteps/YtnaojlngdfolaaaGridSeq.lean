/-
  The iterator that goes through a box's cells: what it tells to whatever loop ranges over it.
-/
import Derived.RangeFuncNested
import Derived.RangeFuncBound
import Derived.RangeFuncCalls
import Derived.RangeFuncLeaves
import Derived.RangeFuncBox
import Derived.Shelf.Abstract
import Derived.Shelf.RegionOpen
import Derived.OwnWalkIn
import Derived.TacticsInMore
import Derived.LoopNIn
import Derived.LoopIn
import Derived.Test.YtnaojlngdfolaaaGridSpan
namespace Go.Proofs.Ytnaojlngdfolaaa.Grid
set_option linter.unusedVariables false
set_option linter.unusedSimpArgs false
open Go Go.RowKit Go.Shelf Go.Proofs

attribute [local go_sem] Oper.semAt_some

/- The cells of a box, row by row. -/
def row (x0 y : Int) (i : Nat) : List Cell := (List.range i).map fun (k : Nat) => (x0 + (k : Int), y)
def rows (x0 y0 : Int) (m : Nat) (j : Nat) : List Cell := (List.range j).flatMap fun (k : Nat) => row x0 (y0 + (k : Int)) m
def boxList (x0 y0 x1 y1 : Int) : List Cell := rows x0 y0 (x1 + 1 - x0).toNat (y1 + 1 - y0).toNat
theorem row_succ (x0 y : Int) (i : Nat) : row x0 y (i + 1) = row x0 y i ++ [(x0 + (i : Int), y)] := by
  unfold row
  rw [List.range_succ, List.map_append]
  rfl
theorem rows_succ (x0 y0 : Int) (m j : Nat) : rows x0 y0 m (j + 1) = rows x0 y0 m j ++ row x0 (y0 + (j : Int)) m := by
  unfold rows
  rw [List.range_succ, List.flatMap_append]
  simp
theorem row_len (x0 y : Int) (i : Nat) : (row x0 y i).length = i := by simp [row]
theorem rows_len (x0 y0 : Int) (m j : Nat) : (rows x0 y0 m j).length = j * m := by
  induction j with
  | zero => simp [rows]
  | succ j ih => rw [rows_succ, List.length_append, ih, row_len, Nat.succ_mul]
theorem row_pre (x0 y : Int) {i m : Nat} (h : i ≤ m) : row x0 y i <+: row x0 y m := by
  induction m with
  | zero => rw [show i = 0 by omega]; exact List.prefix_rfl
  | succ m ih =>
    by_cases e : i = m + 1
    · rw [e]; exact List.prefix_rfl
    · rw [row_succ]; exact (ih (by omega)).trans (List.prefix_append _ _)
theorem rows_pre (x0 y0 : Int) (m : Nat) {j n : Nat} (h : j ≤ n) : rows x0 y0 m j <+: rows x0 y0 m n := by
  induction n with
  | zero => rw [show j = 0 by omega]; exact List.prefix_rfl
  | succ n ih =>
    by_cases e : j = n + 1
    · rw [e]; exact List.prefix_rfl
    · rw [rows_succ]; exact (ih (by omega)).trans (List.prefix_append _ _)
theorem mid_pre (x0 y0 : Int) {m j n i : Nat} (hj : j < n) (hi : i ≤ m) : rows x0 y0 m j ++ row x0 (y0 + (j : Int)) i <+: rows x0 y0 m n := by
  refine List.IsPrefix.trans ?_ (rows_pre x0 y0 m (show j + 1 ≤ n by omega))
  rw [rows_succ]
  exact (List.prefix_append_right_inj _).2 (row_pre x0 _ hi)
def KB (Bn : Nat) (W W' : World) : Prop := W'.heap[Bn]? = W.heap[Bn]?
theorem KB.trans {Bn : Nat} {A B C : World} (h : KB Bn A B) (h' : KB Bn B C) : KB Bn A C := Eq.trans h' h
def encC (c : Cell) : Array Value := #[.agg #[.int .i64 c.1, .int .i64 c.2]]
theorem grown_of_below {w w' : World} (h : Below w.heap.size w w') : w.grownBy w' none := ⟨h.os, h.tape, h.output, h.size, fun k hk _ => h.block k hk⟩

set_option maxRecDepth 100000 in
set_option maxHeartbeats 2000000 in
theorem cells1_in (n : Nat) (l Bn : Nat) (x0 y0 x1 y1 : Int) (hx0 : -1000 ≤ x0) (hy0 : -1000 ≤ y0) (hx1 : x1 ≤ 1000) (hy1 : y1 ≤ 1000) (J Jx : List Cell → World → Prop) (W : World) (fr : Nat × Nat)
    (hJ : AbidesFrom W.heap.size J)
    (hY : ∀ pre c W1, J pre W1 → pre.length < (boxList x0 y0 x1 y1).length → YieldAt Fence.wide (n - 1) Try.prog l (encC c) W1 fun e W' =>
      (e = .returned (.bool true) ∧ J (pre ++ [c]) W' ∧ KB Bn W1 W') ∨ (e = .returned (.bool false) ∧ Jx (pre ++ [c]) W'))
    (hn : 1 ≤ n) (hBn : W.heap[Bn]? = some (.cells #[.int .i64 x0, .int .i64 y0, .int .i64 x1, .int .i64 y1] 126 (0, 0))) (h0 : J [] W) :
    CallsIn Fence.wide n Try.prog 130 #[.func (.yield l) #[] #[], .pointer (some ⟨Bn, 0, none⟩)] W fun e W' => (∃ v, e = .returned v) ∧
      ((∃ ys : List Cell, ys = boxList x0 y0 x1 y1 ∧ J ys W') ∨ (∃ pre : List Cell, pre <+: boxList x0 y0 x1 y1 ∧ Jx pre W')) := by
  obtain ⟨m, hm⟩ : ∃ m : Nat, (x1 + 1 - x0).toNat = m := ⟨_, rfl⟩
  obtain ⟨h, hh⟩ : ∃ h : Nat, (y1 + 1 - y0).toNat = h := ⟨_, rfl⟩
  have HB : Hid (boxList x0 y0 x1 y1 = rows x0 y0 m h) := by unfold Hid boxList; rw [hm, hh]
  have HM : Hid ((x1 + 1 - x0).toNat = m) := hm
  have HH : Hid ((y1 + 1 - y0).toNat = h) := hh
  clear hm hh
  have HCell : Hid (∀ wr : World, KB Bn W wr → wr.cell? ⟨Bn, 0, none⟩ = some (.int .i64 x0) ∧ wr.cell? ⟨Bn, 1, none⟩ = some (.int .i64 y0) ∧ wr.cell? ⟨Bn, 2, none⟩ = some (.int .i64 x1) ∧ wr.cell? ⟨Bn, 3, none⟩ = some (.int .i64 y1)) := by
    intro wr hk
    have := Eq.trans hk hBn
    exact ⟨cell_of this 0, cell_of this 1, cell_of this 2, cell_of this 3⟩
  have cw0 := (HCell.out W rfl).2.1
  refine callsIn_of_wp Try.func130 rfl trivial ?_ rfl
  simp only [Try.ntmps130, List.size_toArray, List.length_cons, List.length_nil, Nat.reduceAdd, Nat.reduceSub, Array.replicate_succ, Array.replicate_zero, List.push_toArray, List.append_toArray, List.nil_append, List.cons_append]
  gi_wp2
  gi_loopw [3] (fun p wr => ∃ (j : Nat), p = .int .i64 (y0 + (j : Int)) ∧ (j = 0 ∨ y0 + (j : Int) ≤ y1 + 1) ∧ J (rows x0 y0 m j) wr ∧ KB Bn W wr)
    (fun p wr => (y1 + 1 - intOf p).toNat)
  case atStart => exact ⟨0, by simp, Or.inl rfl, h0, rfl⟩
  case round =>
    obtain ⟨j, rfl, hj, hJs, hk⟩ := hrel
    obtain ⟨q0, q1, q2, q3⟩ := HCell.out wr hk
    by_cases hlt : y0 + (j : Int) ≤ y1
    · have hjh : j < h := by have := HH.out; omega
      gi_wp2
      gi_loopw [4] (fun p wr => ∃ (i : Nat), p = .int .i64 (x0 + (i : Int)) ∧ (i = 0 ∨ x0 + (i : Int) ≤ x1 + 1) ∧ J (rows x0 y0 m j ++ row x0 (y0 + (j : Int)) i) wr ∧ KB Bn W wr)
        (fun p wr => (x1 + 1 - intOf p).toNat)
      case atStart => exact ⟨0, by simp, Or.inl rfl, by simpa [row] using hJs, hk⟩
      case round =>
        obtain ⟨i, rfl, hi, hJi, hki⟩ := hrel
        obtain ⟨r0, r1, r2, r3⟩ := HCell.out wr hki
        by_cases hlx : x0 + (i : Int) ≤ x1
        · have him : i < m := by have := HM.out; omega
          have HS : Hid (rows x0 y0 m j ++ row x0 (y0 + (j : Int)) (i + 1) = (rows x0 y0 m j ++ row x0 (y0 + (j : Int)) i) ++ [(x0 + (i : Int), y0 + (j : Int))]) := by show _ = _; rw [row_succ, List.append_assoc]
          have HP : Hid ((rows x0 y0 m j ++ row x0 (y0 + (j : Int)) i) ++ [(x0 + (i : Int), y0 + (j : Int))] <+: boxList x0 y0 x1 y1) := by
            show _ <+: _
            rw [← HS.out, HB.out]
            exact mid_pre x0 y0 hjh (by omega)
          have hY' := hY (rows x0 y0 m j ++ row x0 (y0 + (j : Int)) i) (x0 + (i : Int), y0 + (j : Int)) wr hJi (by have := HP.out.length_le; rw [List.length_append] at this; simp only [List.length_cons, List.length_nil] at this; omega)
          simp only [encC] at hY'
          obtain ⟨fn, tmps, assign, body, hyy, hR⟩ := hY'
          gi_wp2
          refine hR.mono ?_
          rintro e W3 (⟨rfl, hJ3, hk3⟩ | ⟨rfl, hJx3⟩)
          · gi_wp2
            go_roundw
            case rel =>
              refine ⟨i + 1, by go_num, by omega, ?_, hki.trans hk3⟩
              rw [HS.out]
              exact hJ3
            case measure => simp [intOf]; omega
          · gi_wp2
            exact bodyPost_ret (results_none rfl _ _ _) rfl ⟨⟨_, rfl⟩, .inr ⟨_, HP.out, hJx3⟩⟩
        · have hie : Hid (i = m) := by show i = m; have := HM.out; omega
          gi_wp2
          go_roundw
          case rel =>
            refine ⟨j + 1, by go_num, by omega, ?_, hki⟩
            rw [rows_succ]
            have := hJi
            rw [show row x0 (y0 + (j : Int)) i = row x0 (y0 + (j : Int)) m by rw [hie.out]] at this
            exact this
          case measure => simp [intOf]; omega
    · have hje : Hid (j = h) := by show j = h; have := HH.out; omega
      gi_wp2
      go_end0
      exact ⟨⟨_, rfl⟩, .inl (by rw [HB.out, ← hje.out]; exact hJs)⟩
/- The iterator, as whatever ranges over it takes it. -/
theorem cells_stops (n : Nat) (hn : 1 ≤ n) (Bn : Nat) (x0 y0 x1 y1 : Int) (hx0 : -1000 ≤ x0) (hy0 : -1000 ≤ y0) (hx1 : x1 ≤ 1000) (hy1 : y1 ≤ 1000) (w : World) (hBn : w.heap[Bn]? = some (.cells #[.int .i64 x0, .int .i64 y0, .int .i64 x1, .int .i64 y1] 126 (0, 0))) :
    SeqStopsK Fence.wide n Try.prog 130 #[.pointer (some ⟨Bn, 0, none⟩)] encC (KB Bn) (fun ys => ys = boxList x0 y0 x1 y1) (fun pre => pre <+: boxList x0 y0 x1 y1) (boxList x0 y0 x1 y1).length w := by
  intro l J Jx W hW hJ hJx hY h0
  exact cells1_in n l Bn x0 y0 x1 y1 hx0 hy0 hx1 hy1 J Jx W (0, 0) hJ hY hn ((hW.block _ (lt_of_heap hBn)).trans hBn) h0
theorem cells_any (a b c d : Int) (w : World) : Calls Try.prog 90 #[.agg #[.int .i64 a, .int .i64 b, .int .i64 c, .int .i64 d]] w fun e w' => e = .returned (.func (.func 130) #[] #[.pointer (some ⟨w.heap.size, 0, none⟩)]) ∧ w' = w.alloc (.cells #[.int .i64 a, .int .i64 b, .int .i64 c, .int .i64 d] 126) := by
  go_enter Try.func90, Try.ntmps90
  go_wp2
  go_ret
  exact ⟨rfl, rfl⟩
end Go.Proofs.Ytnaojlngdfolaaa.Grid
