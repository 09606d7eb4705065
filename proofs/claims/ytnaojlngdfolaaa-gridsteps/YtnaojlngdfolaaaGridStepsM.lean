/-
  A run of many cells, in plain words: as many runs of one; the numbers of the cells that are swept rise.
  The beginning of a list of one's own; any number as one from 0 to n - 1.
  What a run of many steps keeps in memory: where it is, where it leads, the cells that were swept.
  The law GridSteps: a run of many cells is as many runs of one.
-/
import Derived.Test.YtnaojlngdfolaaaGridRSM
import Derived.Test.YtnaojlngdfolaaaGridSwept2
import Derived.Test.YtnaojlngdfolaaaGridLaw
import Derived.Test.YtnaojlngdfolaaaGridIn3
import Derived.BigRegion
import Derived.Deep.DeepCutAuto
import Derived.Deep.CutRange
namespace Go.Proofs.Ytnaojlngdfolaaa.Grid
set_option linter.unusedVariables false
set_option linter.unusedSimpArgs false
open Go Go.RowKit Go.Shelf Go.Proofs

theorem shift_none {p : Pose} {d : Int} (h1 : 0 ≤ p.1.1) (h2 : p.1.1 < 16) (h3 : 0 ≤ p.1.2) (h4 : p.1.2 < 16) : shiftP p d 0 = p := by
  rw [shift_small (by omega) (by omega) (by omega) (by omega) (by omega) (by omega)]
  simp
theorem shift_next {p : Pose} {d k : Int} (h1 : 0 ≤ p.1.1) (h2 : p.1.1 < 16) (h3 : 0 ≤ p.1.2) (h4 : p.1.2 < 16) (hk : 0 ≤ k ∧ k + 1 ≤ 16) (hq : 0 ≤ (shiftP p d k).1.1 ∧ (shiftP p d k).1.1 < 16 ∧ 0 ≤ (shiftP p d k).1.2 ∧ (shiftP p d k).1.2 < 16) : shiftP (shiftP p d k) d 1 = shiftP p d (k + 1) := by
  rw [shift_small (p := shiftP p d k) (by omega) (by omega) (by omega) (by omega) (by omega) (by omega), shift_small (k := k + 1) (by omega) (by omega) (by omega) (by omega) (by omega) (by omega), shift_small (k := k) (by omega) (by omega) (by omega) (by omega) (by omega) (by omega)]
  simp only [Int.mul_add, Int.mul_one, Int.add_assoc]
def numN (W : Int) (c : Cell) : Nat := (c.2 * W + c.1).toNat
/- What the first i steps sweep. -/
def StepSet (W : Int) (p : Pose) (d : Int) (i k : Nat) : Prop := ∃ j : Nat, j < i ∧ ∃ c ∈ boxOf (shiftP p d (j : Int)) (shiftP p d ((j : Int) + 1)), numN W c = k
theorem steps_box {W H : Int} {us : List Int} {p : Pose} {d : Int} (hW : W ≤ 16) (hH : H ≤ 16) (hd : 0 ≤ d ∧ d ≤ 3) {n : Nat} (hn : 1 ≤ n ∧ n ≤ 16) (hf : ∀ j : Nat, j ≤ n → fitsU W H us (shiftP p d (j : Int)) = true) (hp : fitsU W H us p = true) (c : Cell) :
    c ∈ boxOf p (shiftP p d (n : Int)) ↔ ∃ j : Nat, j < n ∧ c ∈ boxOf (shiftP p d (j : Int)) (shiftP p d ((j : Int) + 1)) := by
  obtain ⟨p1, p2, p3, p4⟩ := fits_near hW hH hp
  have key : ∀ j : Nat, j < n → (c ∈ boxOf (shiftP p d (j : Int)) (shiftP p d ((j : Int) + 1)) ↔ (c = (shiftP p d (j : Int)).1 ∨ c = second (shiftP p d (j : Int))) ∨ (c = (shiftP p d ((j : Int) + 1)).1 ∨ c = second (shiftP p d ((j : Int) + 1)))) := by
    intro j hj
    have q := fits_near hW hH (hf j (by omega))
    have e := shift_next (d := d) p1 p2 p3 p4 (k := (j : Int)) ⟨by omega, by omega⟩ q
    have e0 := shift_none (p := shiftP p d (j : Int)) (d := d) q.1 q.2.1 q.2.2.1 q.2.2.2
    have := box_mem (p := shiftP p d (j : Int)) (d := d) (n := 1) q.1 q.2.1 q.2.2.1 q.2.2.2 hd ⟨by omega, by omega⟩ c
    rw [e] at this
    rw [this]
    constructor
    · rintro ⟨k, k1, k2, h⟩
      rcases (show k = 0 ∨ k = 1 by omega) with rfl | rfl
      · rw [e0] at h; exact Or.inl h
      · rw [e] at h; exact Or.inr h
    · rintro (h | h)
      · exact ⟨0, by omega, by omega, by rw [e0]; exact h⟩
      · exact ⟨1, by omega, by omega, by rw [e]; exact h⟩
  rw [box_mem p1 p2 p3 p4 hd ⟨by omega, by omega⟩ c]
  constructor
  · rintro ⟨k, k1, k2, h⟩
    obtain ⟨kn, rfl⟩ := Int.eq_ofNat_of_zero_le k1
    by_cases e : kn < n
    · exact ⟨kn, e, (key kn e).2 (Or.inl h)⟩
    · refine ⟨n - 1, by omega, (key (n - 1) (by omega)).2 (Or.inr ?_)⟩
      rw [show ((n - 1 : Nat) : Int) + 1 = (kn : Int) by omega]
      exact h
  · rintro ⟨j, hj, h⟩
    rcases (key j hj).1 h with h | h
    · exact ⟨j, by omega, by omega, h⟩
    · exact ⟨(j : Int) + 1, by omega, by omega, h⟩
theorem steps_all {W H : Int} {us : List Int} {p : Pose} {d : Int} (hW : W ≤ 16) (hH : H ≤ 16) (hd : 0 ≤ d ∧ d ≤ 3) {n : Nat} (hn : 1 ≤ n ∧ n ≤ 16) (hf : ∀ j : Nat, j ≤ n → fitsU W H us (shiftP p d (j : Int)) = true) (hp : fitsU W H us p = true) (k : Nat) :
    StepSet W p d n k ↔ ∃ c ∈ boxOf p (shiftP p d (n : Int)), numN W c = k := by
  unfold StepSet
  constructor
  · rintro ⟨j, hj, c, hc, e⟩
    exact ⟨c, (steps_box hW hH hd hn hf hp c).2 ⟨j, hj, hc⟩, e⟩
  · rintro ⟨c, hc, e⟩
    obtain ⟨j, hj, h⟩ := (steps_box hW hH hd hn hf hp c).1 hc
    exact ⟨j, hj, c, h, e⟩
theorem step_none (W : Int) (p : Pose) (d : Int) (k : Nat) : ¬ StepSet W p d 0 k := by
  rintro ⟨j, hj, _⟩
  omega
theorem step_succ (W : Int) (p : Pose) (d : Int) (i k : Nat) : StepSet W p d (i + 1) k ↔ StepSet W p d i k ∨ ∃ c ∈ boxOf (shiftP p d (i : Int)) (shiftP p d ((i : Int) + 1)), numN W c = k := by
  unfold StepSet
  constructor
  · rintro ⟨j, hj, h⟩
    by_cases e : j = i
    · rw [e] at h; exact Or.inr h
    · exact Or.inl ⟨j, by omega, h⟩
  · rintro (⟨j, hj, h⟩ | h)
    · exact ⟨j, by omega, h⟩
    · exact ⟨i, by omega, h⟩
/- The numbers of a box's cells rise. -/
theorem row_rises (W x0 y : Int) (m : Nat) : (row x0 y m).Pairwise (fun a b => a.2 * W + a.1 < b.2 * W + b.1) := by
  unfold row
  rw [List.pairwise_map]
  refine List.Pairwise.imp ?_ List.pairwise_lt_range
  intro a b h
  simp only
  omega
theorem rows_rise {W x0 y0 : Int} {m : Nat} (h0 : 0 ≤ x0) (h1 : x0 + m ≤ W) : ∀ h : Nat, (rows x0 y0 m h).Pairwise (fun a b => a.2 * W + a.1 < b.2 * W + b.1)
  | 0 => by simp [rows]
  | h + 1 => by
    rw [rows_succ, List.pairwise_append]
    refine ⟨rows_rise h0 h1 h, row_rises W x0 _ m, fun a ha b hb => ?_⟩
    unfold rows at ha
    rw [List.mem_flatMap] at ha
    obtain ⟨k, hk, ha⟩ := ha
    unfold row at ha hb
    rw [List.mem_map] at ha hb
    obtain ⟨i, hi, rfl⟩ := ha
    obtain ⟨j, hj, rfl⟩ := hb
    rw [List.mem_range] at hk hi hj
    simp only
    have e : (y0 + (k : Int) + 1) * W ≤ (y0 + (h : Int)) * W := Int.mul_le_mul_of_nonneg_right (by omega) (by omega)
    rw [Int.add_mul (y0 + (k : Int)) 1 W, Int.one_mul] at e
    omega
theorem box_rises {W H : Int} {a b : Pose} (hin : ∀ c ∈ boxOf a b, In W H c) (hne : (spanP a b).1.1 ≤ (spanP a b).2.1 ∧ (spanP a b).1.2 ≤ (spanP a b).2.2) : (boxOf a b).Pairwise (fun c e => c.2 * W + c.1 < e.2 * W + e.1) := by
  have c1 := hin ((spanP a b).1.1, (spanP a b).1.2) (by unfold boxOf; rw [mem_boxList]; simp only; omega)
  have c2 := hin ((spanP a b).2.1, (spanP a b).2.2) (by unfold boxOf; rw [mem_boxList]; simp only; omega)
  unfold In at c1 c2
  simp only at c1 c2
  unfold boxOf boxList
  exact rows_rise (by omega) (by omega) _
theorem num_grid {W H : Int} {c : Cell} (hW : W ≤ 16) (hH : H ≤ 16) (h : In W H c) : number W H c = (numN W c : Int) ∧ numN W c < 256 ∧ 0 ≤ c.2 * W + c.1 := by
  have q := num_lt h
  obtain ⟨a, b, e, f⟩ := h
  have e0 : 0 ≤ c.2 * W := Int.mul_nonneg e (by omega)
  have e1 : W * H ≤ 16 * 16 := by
    have i1 : W * H ≤ 16 * H := Int.mul_le_mul_of_nonneg_right hW (by omega)
    omega
  refine ⟨?_, ?_, by omega⟩
  · unfold number numN
    rw [if_pos ⟨a, b, e, f⟩]
    omega
  · unfold numN
    omega
/- Two lists without doubles that have the same items are as long. -/
theorem len_le_of_sub {α : Type} [BEq α] [LawfulBEq α] : ∀ (l m : List α), l.Nodup → (∀ x ∈ l, x ∈ m) → l.length ≤ m.length
  | [], m, _, _ => Nat.zero_le _
  | x :: l, m, hn, hs => by
    have h1 := List.nodup_cons.1 hn
    have hx := hs x (by simp)
    have := len_le_of_sub l (m.erase x) h1.2 (fun y hy => (List.mem_erase_of_ne (fun (e : y = x) => h1.1 (by rw [← e]; exact hy))).2 (hs y (by simp [hy])))
    rw [List.length_erase_of_mem hx] at this
    have hp : 0 < m.length := List.length_pos_of_mem hx
    simp only [List.length_cons]
    omega
def countB (bs : List Bool) (i : Nat) : Nat := ((List.range i).filter (fun k => bs.getD k false)).length
theorem countB_succ (bs : List Bool) (i : Nat) : countB bs (i + 1) = countB bs i + if bs.getD i false = true then 1 else 0 := by
  unfold countB
  rw [List.range_succ, List.filter_append, List.length_append]
  congr 1
  by_cases h : bs.getD i false = true
  · rw [if_pos h, List.filter_cons_of_pos (p := fun k => bs.getD k false) h]; rfl
  · rw [if_neg h, List.filter_cons_of_neg (p := fun k => bs.getD k false) h]; rfl
theorem countB_le (bs : List Bool) (i : Nat) : countB bs i ≤ i := by
  unfold countB
  exact Nat.le_trans (List.length_filter_le _ _) (by simp)
theorem count_all {W : Int} {l : List Cell} {bs : List Bool} (hr : l.Pairwise (fun c e => c.2 * W + c.1 < e.2 * W + e.1)) (h0 : ∀ c ∈ l, 0 ≤ c.2 * W + c.1 ∧ numN W c < 256) (hm : ∀ k, k < 256 → (bs.getD k false = true ↔ ∃ c ∈ l, numN W c = k)) : countB bs 256 = l.length := by
  have hd : (l.map (numN W)).Nodup := by
    unfold List.Nodup
    rw [List.pairwise_map]
    refine List.Pairwise.imp_of_mem ?_ hr
    intro a b ha hb h e
    have q1 := h0 a ha
    have q2 := h0 b hb
    unfold numN at e
    omega
  have hd2 : ((List.range 256).filter (fun k => bs.getD k false)).Nodup := List.Pairwise.filter _ List.nodup_range
  have hs : ∀ x, x ∈ l.map (numN W) ↔ x ∈ (List.range 256).filter (fun k => bs.getD k false) := by
    intro x
    rw [List.mem_map, List.mem_filter, List.mem_range]
    constructor
    · rintro ⟨c, hc, rfl⟩
      exact ⟨(h0 c hc).2, (hm _ (h0 c hc).2).2 ⟨c, hc, rfl⟩⟩
    · rintro ⟨h1, h2⟩
      obtain ⟨c, hc, e⟩ := (hm x h1).1 h2
      exact ⟨c, hc, e⟩
  have a := len_le_of_sub _ _ hd fun x hx => (hs x).1 hx
  have b := len_le_of_sub _ _ hd2 fun x hx => (hs x).2 hx
  rw [List.length_map] at a b
  unfold countB
  omega
end Go.Proofs.Ytnaojlngdfolaaa.Grid
namespace Go.Proofs.Ytnaojlngdfolaaa.Grid
set_option linter.unusedVariables false
set_option linter.unusedSimpArgs false
open Go Go.RowKit Go.Shelf Go.Proofs
attribute [local go_sem] Oper.semAt_some

def takeV (v : Value) (k : Nat) : Value := match v with
  | .slice (some a) _ c => .slice (some a) k c
  | .slice none _ _ => .slice none 0 0
  | v => v
theorem rowL_take {α : Type} {f : α → List Value} {S : Nat} (hf : ∀ x, (f x).length = S) : ∀ (l : List α) (k : Nat), (rowL f l).take (k * S) = rowL f (l.take k)
  | [], k => by simp [rowL]
  | x :: l, 0 => by simp [rowL]
  | x :: l, k + 1 => by
    have ih := rowL_take hf l k
    have e1 : rowL f (x :: l) = f x ++ rowL f l := by simp [rowL]
    have e2 : rowL f ((x :: l).take (k + 1)) = f x ++ rowL f (l.take k) := by simp [rowL]
    rw [e1, e2, List.take_append, hf x, ← ih]
    congr 1
    · rw [List.take_of_length_le (by rw [hf x, Nat.succ_mul]; omega)]
    · rw [Nat.succ_mul, Nat.add_sub_cancel]
theorem own_take {α : Type} {f : α → List Value} {S : Nat} (hf : ∀ x, (f x).length = S) {w : World} {b : Nat} {e : TypeId} {v : Value} {l : List α} (h : w.ownsRow b e S v l.length (rowL f l)) (k : Nat) (hk : k ≤ l.length) : w.ownsRow b e S (takeV v k) (l.take k).length (rowL f (l.take k)) := by
  have e0 : (l.take k).length = k := by rw [List.length_take]; omega
  refine ⟨rowL_len hf _, ?_⟩
  rcases h.2 with ⟨hv, h0⟩ | ⟨g, cap, cur, hv, h1, h2, h3, h4, h5, h6⟩
  · left
    refine ⟨by rw [hv]; rfl, by omega⟩
  · right
    refine ⟨g, cap, cur, by rw [hv, e0]; rfl, h1, h2, by omega, h4, h5, ?_⟩
    rw [e0, ← rowL_take hf l k, ← h6, List.take_take, Nat.min_eq_left (Nat.mul_le_mul_right S hk)]
theorem run_take_move {w : World} {b : Nat} {v : Value} {n : Nat} {xs : List Value} (h : w.ownsRow b 56 11 v n xs) (k : Nat) (hk : k ≤ n) (u : World) : (Instr.sliceAt 44 v none (some (.int .i64 k)) none).run Try.prog u = .ok (takeV v k) u := by
  rcases h.2 with ⟨hv, h0⟩ | ⟨g, cap, cur, hv, h1, h2, h3, h4, h5, h6⟩
  · obtain rfl : k = 0 := by omega
    subst hv
    clear h
    unfold takeV
    go_simp
  · subst hv
    have a2 : (k : Int) ≤ (cap : Int) := by omega
    clear h h1 h2 h3 h4 h5 h6 hk
    unfold takeV
    go_simp
theorem run_take_cell {w : World} {b : Nat} {v : Value} {n : Nat} {xs : List Value} (h : w.ownsRow b 28 2 v n xs) (k : Nat) (hk : k ≤ n) (u : World) : (Instr.sliceAt 22 v none (some (.int .i64 k)) none).run Try.prog u = .ok (takeV v k) u := by
  rcases h.2 with ⟨hv, h0⟩ | ⟨g, cap, cur, hv, h1, h2, h3, h4, h5, h6⟩
  · obtain rfl : k = 0 := by omega
    subst hv
    clear h
    unfold takeV
    go_simp
  · subst hv
    have a2 : (k : Int) ≤ (cap : Int) := by omega
    clear h h1 h2 h3 h4 h5 h6 hk
    unfold takeV
    go_simp
theorem run_take_int {w : World} {b : Nat} {v : Value} {n : Nat} {xs : List Value} (h : w.ownsRow b 3 1 v n xs) (k : Nat) (hk : k ≤ n) (u : World) : (Instr.sliceAt 75 v none (some (.int .i64 k)) none).run Try.prog u = .ok (takeV v k) u := by
  rcases h.2 with ⟨hv, h0⟩ | ⟨g, cap, cur, hv, h1, h2, h3, h4, h5, h6⟩
  · obtain rfl : k = 0 := by omega
    subst hv
    clear h
    unfold takeV
    go_simp
  · subst hv
    have a2 : (k : Int) ≤ (cap : Int) := by omega
    clear h h1 h2 h3 h4 h5 h6 hk
    unfold takeV
    go_simp
def placeG (v n : Int) : Int := if v.tmod n < 0 then v.tmod n + n else v.tmod n
theorem tmod_lowG (v n : Int) (h : 0 < n) : -n < v.tmod n := by
  by_cases g : 0 ≤ v
  · have := Int.tmod_nonneg n g
    omega
  · have h1 := Int.neg_tmod (a := v) (b := n)
    have h2 := Int.tmod_lt_of_pos (-v) h
    omega
theorem placeG_bd (v n : Int) (h : 0 < n) : 0 ≤ placeG v n ∧ placeG v n < n := by
  have h2 := Int.tmod_lt_of_pos v h
  have h3 := tmod_lowG v n h
  unfold placeG
  split <;> omega
theorem placeG_any (v n : Int) (w : World) (h0 : 0 < n) (h1 : n ≤ 9223372036854775807) : Calls Try.prog 23 #[.int .i64 v, .int .i64 n] w fun e w' => e = .returned (.int .i64 (placeG v n)) ∧ w' = w := by
  have h2 := Int.tmod_lt_of_pos v h0
  have h3 := tmod_lowG v n h0
  have H : Hid (placeG v n = if v.tmod n < 0 then v.tmod n + n else v.tmod n) := rfl
  have hn : (n == 0) = false := by rw [beq_eq_false_iff_ne]; omega
  have hn1 : ¬ n = 0 := by omega
  obtain ⟨q, hq⟩ : ∃ q, v.tmod n = q := ⟨_, rfl⟩
  rw [hq] at h2 h3 H
  by_cases hc : q < 0
  · go_enter Try.func23, Try.ntmps23
    go_wp2
    go_ret
    exact ⟨ret_int (by rw [H.out, if_pos hc]), rfl⟩
  · go_enter Try.func23, Try.ntmps23
    go_wp2
    go_ret
    exact ⟨ret_int (by rw [H.out, if_neg (by omega)]), rfl⟩
end Go.Proofs.Ytnaojlngdfolaaa.Grid
namespace Go.Proofs.Ytnaojlngdfolaaa.Grid
set_option linter.unusedVariables false
set_option linter.unusedSimpArgs false
open Go Go.RowKit Go.Shelf Go.Proofs
attribute [local go_sem] Oper.semAt_some

def z256 : Array Value := (List.replicate 256 (Value.bool false)).toArray
theorem run_all (ρ : Operand → Value) (o : Oper) (ho : o.op = .alloc 57) (w : World) (N : Nat) (hN : w.heap.size = N) : (execOp ρ o).run Try.prog w = .ok (.value (.pointer (some ⟨N, 0, none⟩))) (w.alloc (.cells z256 57)) := by
  subst hN
  unfold execOp
  rw [ho]
  kernel_rfl
theorem wpList_allocAll {ops : Array Oper} {rest : List Oper} {o : Oper} {a : Act} {w : World} {Q : Exit → Act → World → Prop} (hg : o.guard = none) (ho : o.op = .alloc 57) (N : Nat) (hN : w.heap.size = N)
    (h : wpList Try.prog ops Q rest (a.put o.dst (.pointer (some ⟨N, 0, none⟩))) (w.alloc (.cells z256 57))) : wpList Try.prog ops Q (o :: rest) a w := by
  refine wpList_plain hg fun K hK => ?_
  unfold Oper.wp
  rw [run_all _ _ ho _ _ hN, Oper.upon_value]
  exact hK _ _ h
/- Nothing old has turned but block g. -/
structure FxG (g : Nat) (w w' : World) : Prop where
  os : w'.os = w.os
  tape : w'.tape = w.tape
  output : w'.output = w.output
  size : w.heap.size ≤ w'.heap.size
  block : ∀ k, k < w.heap.size → k ≠ g → w'.heap[k]? = w.heap[k]?
theorem FxG.refl (g : Nat) (w : World) : FxG g w w := ⟨rfl, rfl, rfl, Nat.le_refl _, fun _ _ _ => rfl⟩
theorem FxG.trans {g : Nat} {w w1 w2 : World} (h : FxG g w w1) (k : FxG g w1 w2) : FxG g w w2 :=
  ⟨k.os.trans h.os, k.tape.trans h.tape, k.output.trans h.output, Nat.le_trans h.size k.size, fun j hj hn => (k.block j (Nat.lt_of_lt_of_le hj h.size) hn).trans (h.block j hj hn)⟩
theorem FxG.below {g : Nat} {w w' : World} (h : Below w.heap.size w w') : FxG g w w' := ⟨h.os, h.tape, h.output, h.size, fun k hk _ => h.block k hk⟩
theorem FxG.set (g : Nat) (w : World) (o : Nat) (v : Value) : FxG g w (w.setCell ⟨g, o, none⟩ v) := ⟨rfl, rfl, rfl, by simp, fun k _ hk => heap_setCell_other _ _ _ _ hk⟩
theorem FxG.old {g N : Nat} {w0 w w' : World} (h : FxG g w w') (hb : Below N w0 w) (hN : N ≤ g) (hN2 : N ≤ w0.heap.size) : Below N w0 w' :=
  ⟨h.os.trans hb.os, h.tape.trans hb.tape, h.output.trans hb.output, Nat.le_trans hb.size h.size, fun k hk => (h.block k (Nat.lt_of_lt_of_le (Nat.lt_of_lt_of_le hk hN2) hb.size) (by omega)).trans (hb.block k hk)⟩
/- The flags. -/
def flags (bs : List Bool) : Array Value := (bs.map Value.bool).toArray
theorem flags_none : z256 = flags (List.replicate 256 false) := by
  unfold z256 flags
  rw [List.map_replicate]
theorem flags_at (bs : List Bool) (k : Nat) (hk : k < bs.length) : (flags bs)[k]? = some (.bool (bs.getD k false)) := by
  unfold flags
  rw [List.getElem?_toArray, List.getElem?_map, List.getElem?_eq_getElem hk, List.getD_eq_getElem?_getD, List.getElem?_eq_getElem hk]
  rfl
theorem flags_set (bs : List Bool) (k : Nat) : (flags bs).setIfInBounds k (.bool true) = flags (bs.set k true) := by
  unfold flags
  rw [List.map_set]
  simp
theorem flags_getD (bs : List Bool) (k j : Nat) (hk : k < bs.length) : (bs.set k true).getD j false = (decide (j = k) || bs.getD j false) := by
  rw [List.getD_eq_getElem?_getD, List.getElem?_set, List.getD_eq_getElem?_getD]
  by_cases e : k = j
  · rw [if_pos e, if_pos (by omega), decide_eq_true e.symm]; rfl
  · rw [if_neg e, decide_eq_false (by omega)]; rfl
/- The law's own boxes, from block n on: where it leads, the whole run, the flags, where it is. -/
structure St (w4 : World) (tq : Pose) (wh : Move) (bs : List Bool) (q : Pose) (w : World) : Prop where
  below : Below w4.heap.size w4 w
  bto : w.heap[w4.heap.size]? = some (.cells (poseCs tq) 30 (0, 0))
  bwh : w.heap[w4.heap.size + 1]? = some (.cells (moveCs wh) 56 (0, 0))
  ba : w.heap[w4.heap.size + 2]? = some (.cells (flags bs) 57 (0, 0))
  bq : w.heap[w4.heap.size + 3]? = some (.cells (poseCs q) 30 (0, 0))
  len : bs.length = 256
theorem St.go {w4 : World} {tq : Pose} {wh : Move} {bs : List Bool} {q : Pose} {w w' : World} (h : St w4 tq wh bs q w) (hb : Below w.heap.size w w') : St w4 tq wh bs q w' :=
  ⟨bcat h.below hb (Nat.le_refl _), (hb.block _ (lt_of_heap h.bto)).trans h.bto, (hb.block _ (lt_of_heap h.bwh)).trans h.bwh, (hb.block _ (lt_of_heap h.ba)).trans h.ba, (hb.block _ (lt_of_heap h.bq)).trans h.bq, h.len⟩
theorem St.new (w4 : World) (tq : Pose) (wh : Move) (q : Pose) : St w4 tq wh (List.replicate 256 false) q ((((w4.alloc (.cells (poseCs tq) 30)).alloc (.cells (moveCs wh) 56)).alloc (.cells z256 57)).alloc (.cells (poseCs q) 30)) := by
  have s1 : (w4.alloc (.cells (poseCs tq) 30)).heap.size = w4.heap.size + 1 := by simp
  have s2 : ((w4.alloc (.cells (poseCs tq) 30)).alloc (.cells (moveCs wh) 56)).heap.size = w4.heap.size + 2 := by simp
  have s3 : (((w4.alloc (.cells (poseCs tq) 30)).alloc (.cells (moveCs wh) 56)).alloc (.cells z256 57)).heap.size = w4.heap.size + 3 := by simp
  refine ⟨below_new (below_new (below_new (below_new (Below.refl _ _) _) _) _) _, ?_, ?_, ?_, ?_, List.length_replicate⟩
  · rw [alloc_old _ _ _ (by omega), alloc_old _ _ _ (by omega), alloc_old _ _ _ (by omega)]
    exact heap_alloc_new w4 _
  · rw [alloc_old _ _ _ (by omega), alloc_old _ _ _ (by omega), ← s1]
    exact heap_alloc_new _ _
  · rw [alloc_old _ _ _ (by omega), ← s2, heap_alloc_new, flags_none]
  · rw [← s3]
    exact heap_alloc_new _ _
/- Behind a change of the flags alone. -/
theorem St.flag {w4 : World} {tq : Pose} {wh : Move} {bs bs' : List Bool} {q : Pose} {w w' : World} (h : St w4 tq wh bs q w) (f : FxG (w4.heap.size + 2) w w') (ha : w'.heap[w4.heap.size + 2]? = some (.cells (flags bs') 57 (0, 0))) (hl : bs'.length = 256) : St w4 tq wh bs' q w' :=
  ⟨f.old h.below (by omega) (Nat.le_refl _), (f.block _ (lt_of_heap h.bto) (by omega)).trans h.bto, (f.block _ (lt_of_heap h.bwh) (by omega)).trans h.bwh, ha, (f.block _ (lt_of_heap h.bq) (by omega)).trans h.bq, hl⟩
theorem St.goto {w4 : World} {tq : Pose} {wh : Move} {bs : List Bool} {qx qy rx ry : Int} {qd rd : Bool} {w : World} (h : St w4 tq wh bs ((qx, qy), qd) w) : St w4 tq wh bs ((rx, ry), rd) (((w.setCell ⟨w4.heap.size + 3, 0, none⟩ (.int .i64 rx)).setCell ⟨w4.heap.size + 3, 1, none⟩ (.int .i64 ry)).setCell ⟨w4.heap.size + 3, 2, none⟩ (.bool rd)) := by
  have o : ∀ k, k ≠ w4.heap.size + 3 → (((w.setCell ⟨w4.heap.size + 3, 0, none⟩ (.int .i64 rx)).setCell ⟨w4.heap.size + 3, 1, none⟩ (.int .i64 ry)).setCell ⟨w4.heap.size + 3, 2, none⟩ (.bool rd)).heap[k]? = w.heap[k]? := fun k hk => (heap_setCell_other _ _ _ _ hk).trans ((heap_setCell_other _ _ _ _ hk).trans (heap_setCell_other _ _ _ _ hk))
  refine ⟨below_set (below_set (below_set h.below (by omega) _ _) (by omega) _ _) (by omega) _ _, (o _ (by omega)).trans h.bto, (o _ (by omega)).trans h.bwh, (o _ (by omega)).trans h.ba, ?_, h.len⟩
  exact heap_setCell_same _ _ _ _ _ _ (heap_setCell_same _ _ _ _ _ _ (heap_setCell_same _ _ _ _ _ _ h.bq))
/- Where a run is behind i steps. -/
structure Inv (W H : Int) (us : List Int) (p : Pose) (d : Int) (i : Nat) (q : Pose) : Prop where
  first : i = 0 → q = p
  more : 0 < i → fitsU W H us p = true ∧ q = shiftP p d (i : Int) ∧ ∀ j : Nat, j ≤ i → fitsU W H us (shiftP p d (j : Int)) = true
theorem Inv.start (W H : Int) (us : List Int) (p : Pose) (d : Int) : Inv W H us p d 0 p := ⟨fun _ => rfl, fun h => absurd h (by omega)⟩
section
variable {W H : Int} {us : List Int} {p q : Pose} {d : Int} {i : Nat} (hW : W ≤ 16) (hH : H ≤ 16) (hd : 0 ≤ d ∧ d ≤ 3) (h : Inv W H us p d i q)
include hW hH hd h
theorem Inv.here (hl : legalU W H us (runM q d 1) = true) : fitsU W H us p = true ∧ q = shiftP p d (i : Int) ∧ (∀ j : Nat, j ≤ i → fitsU W H us (shiftP p d (j : Int)) = true) ∧ fitsU W H us (shiftP q d 1) = true := by
  have hr := (legal_run (us := us) (p := q) hW hH hd ⟨by omega, by omega⟩).1 hl
  have h1 := hr.2 1 (by omega) (by omega)
  by_cases e : 0 < i
  · obtain ⟨a, b, c⟩ := h.more e
    exact ⟨a, b, c, h1⟩
  · obtain rfl : i = 0 := by omega
    obtain rfl := h.first rfl
    have f := fits_near hW hH hr.1
    have z := shift_none (d := d) f.1 f.2.1 f.2.2.1 f.2.2.2
    refine ⟨hr.1, z.symm, fun j hj => ?_, h1⟩
    obtain rfl : j = 0 := by omega
    rw [show ((0 : Nat) : Int) = 0 from rfl, z]
    exact hr.1
theorem Inv.to (hl : legalU W H us (runM q d 1) = true) (hi : i + 1 ≤ 16) : shiftP q d 1 = shiftP p d ((i : Int) + 1) := by
  obtain ⟨a, b, c, e⟩ := Inv.here hW hH hd h hl
  have f := fits_near hW hH a
  have g := fits_near hW hH (c i (Nat.le_refl _))
  rw [b]
  exact shift_next f.1 f.2.1 f.2.2.1 f.2.2.2 ⟨by omega, by omega⟩ g
theorem Inv.next (hl : legalU W H us (runM q d 1) = true) (hi : i + 1 ≤ 16) : Inv W H us p d (i + 1) (shiftP q d 1) := by
  obtain ⟨a, b, c, e⟩ := Inv.here hW hH hd h hl
  have t := Inv.to hW hH hd h hl hi
  refine ⟨fun q => absurd q (by omega), fun _ => ⟨a, by rw [t]; rfl, fun j hj => ?_⟩⟩
  by_cases ej : j ≤ i
  · exact c j ej
  · obtain rfl : j = i + 1 := by omega
    rw [show ((i + 1 : Nat) : Int) = (i : Int) + 1 by omega, ← t]
    exact e
theorem Inv.box (hl : legalU W H us (runM q d 1) = true) (hi : i + 1 ≤ 16) : boxOf q (shiftP q d 1) = boxOf (shiftP p d (i : Int)) (shiftP p d ((i : Int) + 1)) := by
  have t := Inv.to hW hH hd h hl hi
  obtain ⟨a, b, c, e⟩ := Inv.here hW hH hd h hl
  rw [t, ← b]
theorem Inv.stop (hl : legalU W H us (runM q d 1) = false) {n : Int} (hn : 1 ≤ n ∧ n ≤ 16) (hi : (i : Int) < n) : legalU W H us (runM p d n) = false := by
  rw [Bool.eq_false_iff]
  intro hw
  have hr := (legal_run (us := us) (p := p) hW hH hd hn).1 hw
  have f := fits_near hW hH hr.1
  have hq : q = shiftP p d (i : Int) ∧ fitsU W H us q = true := by
    by_cases e : 0 < i
    · obtain ⟨a, b, c⟩ := h.more e
      exact ⟨b, by rw [b]; exact c i (Nat.le_refl _)⟩
    · obtain rfl : i = 0 := by omega
      obtain rfl := h.first rfl
      exact ⟨(shift_none (d := d) f.1 f.2.1 f.2.2.1 f.2.2.2).symm, hr.1⟩
  have g := fits_near hW hH hq.2
  rw [hq.1] at g
  have t := shift_next (p := p) (d := d) f.1 f.2.1 f.2.2.1 f.2.2.2 (k := (i : Int)) ⟨by omega, by omega⟩ g
  have : legalU W H us (runM q d 1) = true := by
    rw [legal_run (us := us) (p := q) hW hH hd ⟨by omega, by omega⟩]
    refine ⟨hq.2, fun k k1 k2 => ?_⟩
    obtain rfl : k = 1 := by omega
    rw [hq.1, t]
    exact hr.2 _ (by omega) (by omega)
  rw [this] at hl
  cases hl
theorem Inv.last (hi : 1 ≤ i ∧ i ≤ 16) : legalU W H us (runM p d (i : Int)) = true ∧ q = shiftP p d (i : Int) ∧ (∀ k, StepSet W p d i k ↔ ∃ c ∈ boxOf p (shiftP p d (i : Int)), numN W c = k) := by
  obtain ⟨a, b, c⟩ := h.more (by omega)
  refine ⟨?_, b, steps_all hW hH hd hi c a⟩
  rw [legal_run (us := us) (p := p) hW hH hd ⟨by omega, by omega⟩]
  refine ⟨a, fun k k1 k2 => ?_⟩
  obtain ⟨j, rfl⟩ := Int.eq_ofNat_of_zero_le (show 0 ≤ k by omega)
  exact c j (by omega)
end
end Go.Proofs.Ytnaojlngdfolaaa.Grid
namespace Go.Proofs.Ytnaojlngdfolaaa.Grid
set_option linter.unusedVariables false
set_option linter.unusedSimpArgs false
open Go Go.RowKit Go.Shelf Go.Proofs
attribute [local go_sem] Oper.semAt_some

theorem shift_yes (v : Value) (x y : Int) (d : Bool) (dir n : Int) (w : World) (hm : mayShift dir n = true) :
    Calls Try.prog 28 #[v, .agg #[.int .i64 x, .int .i64 y, .bool d], .int .i64 dir, .int .i64 n] w fun e w' => e = .returned (.tuple #[.agg (poseCs (shiftP ((x, y), d) dir n)), .bool true]) ∧ Below w.heap.size w w' := by
  have := shift_any v x y d dir n w
  unfold shiftR at this
  rw [hm, if_pos rfl] at this
  exact this
theorem info_pose3 : (Try.prog.info? 30).map (·.size) = some 3 := by kernel_rfl
theorem own_item {w : World} {b : Nat} {v : Value} {l : List Cell} (h : w.ownsRow b 28 2 v l.length (rowL cellL l)) {k : Nat} (hk : k < l.length) : ∃ p cap, v = .slice (some p) l.length cap ∧ ∀ j z, #[Value.int .i64 (l[k]'hk).1, .int .i64 (l[k]'hk).2][j]? = some z → w.cell? ((p.add (k * 2)).add j) = some z := by
  obtain ⟨p, cs, cap2, hv, _, hcs, hrd⟩ := (list_of_own kindCell.len h).item hk
  have hcs2 : cs = #[Value.int .i64 (l[k]'hk).1, .int .i64 (l[k]'hk).2] := hcs
  subst hcs2
  exact ⟨p, cap2, hv, hrd⟩
theorem sweptL_yes {W H : Int} {us : List Int} {m : Move} (h : legalU W H us m = true) : sweptL W H us m = boxOf m.2.2.2.1 m.2.2.2.2.1 := by unfold sweptL; rw [if_pos h]
theorem sweptL_no {W H : Int} {us : List Int} {m : Move} (h : legalU W H us m = false) : sweptL W H us m = [] := by unfold sweptL; rw [if_neg (by rw [h]; simp)]
/- What is wanted of the cells that a legal move sweeps. -/
structure Bx (W H : Int) (l : List Cell) : Prop where
  inn : ∀ c ∈ l, In W H c
  rise : l.Pairwise (fun c e => c.2 * W + c.1 < e.2 * W + e.1)
theorem bx_of {W H : Int} {us : List Int} {m : Move} (hW : W ≤ 16) (hH : H ≤ 16) (h : legalU W H us m = true) : Bx W H (boxOf m.2.2.2.1 m.2.2.2.2.1) := by
  obtain ⟨hf, hin⟩ := legal_in hW hH h
  obtain ⟨n1, n2, n3, n4⟩ := fits_near hW hH hf
  exact ⟨hin, box_rises hin (span_le (b := m.2.2.2.2.1) n1 n2 n3 n4)⟩
set_option maxRecDepth 100000 in
set_option maxHeartbeats 4000000 in
theorem steps_all_law (c : Conf) (vb vp vr vs : Value) (w : World) (hA : ConfAt (Old w) c vb vp vr vs w) (l1 : c.blocked.length ≤ 8796093022208) (l2 : c.ports.length ≤ 8796093022208) (l3 : c.robots.length ≤ 5864062014805) (l4 : c.stacks.length ≤ 3518437208880) (l5 : ∀ s ∈ c.stacks, s.2.length ≤ 17592186044416) (x y : Int) (d : Bool) (dr nn : Int) : Calls Try.prog 4 #[.agg #[.int .i64 c.W, .int .i64 c.H, .int .i64 c.height, vb, vp, vr, vs, .int .i64 c.unit, .int .i64 c.accel, .int .i64 c.speed, .int .i64 c.turn, .int .i64 c.hoist, .int .i64 c.queue, .int .i64 c.resend, .int .i64 c.budget, .bool c.back], .agg #[.int .i64 x, .int .i64 y, .bool d], .int .i64 dr, .int .i64 nn] w fun e w' => e = .returned (.bool true) ∧ Below w.heap.size w w' := by
  have L := fun (u : World) (b : Below w.heap.size w u) g (hg : Old w g) => Nat.lt_of_lt_of_le hg b.size
  have hAu := fun u (b : Below w.heap.size w u) => hA.go (fun _ h => h) b
  have cC := fun u (b : Below w.heap.size w u) => copyConf_any (Old w) c vb vp vr vs u (hAu u b) (L u b) l1 l2 l3 l4 l5
  have cM := fun u (b : Below w.heap.size w u) => mayR_call (F := Old w) (hAu u b) (L u b) l1 l2 l3 l4 l5
  have Q0 := two_new w #[.int .i64 c.W, .int .i64 c.H, .int .i64 c.height, vb, vp, vr, vs, .int .i64 c.unit, .int .i64 c.accel, .int .i64 c.speed, .int .i64 c.turn, .int .i64 c.hoist, .int .i64 c.queue, .int .i64 c.resend, .int .i64 c.budget, .bool c.back] #[.int .i64 x, .int .i64 y, .bool d] 30
  cases hN : newP c with
  | none =>
    have cN := fun {n : Nat} {u : World} {v1 v2 v3 v4 : Value} (a : ConfAt (Since n u) c v1 v2 v3 v4 u) => new_no a since_lt l1 l2 l3 l4 hN
    rw [hN] at cM
    simp only [Option.isSome_none, Option.isSome_some] at cM
    clear hA L hN hAu
    go_enter Try.func4, Try.ntmps4
    go_wp2_with (first
      | (have X' := Q2; refine wpList_load_row rfl 26 (.tmp 4) rfl (w.heap.size) rfl 26 #[.int .i64 c.W, .int .i64 c.H, .int .i64 c.height, vb, vp, vr, vs, .int .i64 c.unit, .int .i64 c.accel, .int .i64 c.speed, .int .i64 c.turn, .int .i64 c.hoist, .int .i64 c.queue, .int .i64 c.resend, .int .i64 c.budget, .bool c.back] (0, 0) _ Q2.a Try.underlying26 rfl info_conf ?_)
      | (refine wpList_load_row rfl 26 (.tmp 4) rfl (w.heap.size) rfl 26 #[.int .i64 c.W, .int .i64 c.H, .int .i64 c.height, vb, vp, vr, vs, .int .i64 c.unit, .int .i64 c.accel, .int .i64 c.speed, .int .i64 c.turn, .int .i64 c.hoist, .int .i64 c.queue, .int .i64 c.resend, .int .i64 c.budget, .bool c.back] (0, 0) _ Q0.a Try.underlying26 rfl info_conf ?_)
      | (go_at_call 16; refine (cC _ Q0.below).mono ?_; rintro e w1 ⟨r1, rfl, ⟨v1, v2, v3, v4, rfl, A1⟩, b1⟩; have Q1 := Q0.go b1)
      | (go_at_call 15; refine (cN A1).mono ?_; rintro e w2 ⟨rfl, b2⟩; have Q2 := Q1.go b2)
      | (go_at_call 17; refine (cM _ Q2.below).mono ?_; rintro e w3 ⟨r3, rfl, rfl, b3⟩; have Q3 := Q2.go b3)
      | (go_at_call 18; refine (awake_any _).mono ?_; rintro e w9 ⟨rfl, b9⟩))
    go_ret
    exact ⟨rfl, bcat Q3.below b9 (Nat.le_refl _)⟩
  | some G =>
    have cN := fun {n : Nat} {u : World} {v1 v2 v3 v4 : Value} (a : ConfAt (Since n u) c v1 v2 v3 v4 u) => new_yes a since_lt l1 l2 l3 l4 hN
    rw [hN] at cM
    simp only [Option.isSome_none, Option.isSome_some] at cM
    have hsd := limited_sides (new_some hN).1.1
    have HSD : Hid (c.W ≤ 16 ∧ c.H ≤ 16) := ⟨by omega, by omega⟩
    obtain ⟨kn, hkn⟩ : ∃ kn : Nat, placeG nn 16 = kn := Int.eq_ofNat_of_zero_le (placeG_bd nn 16 (by decide)).1
    have hk16 : kn < 16 := by have := (placeG_bd nn 16 (by decide)).2; omega
    have Hkn : Hid (placeG nn 16 = (kn : Int)) := hkn
    obtain ⟨dn, hdn⟩ : ∃ dn, placeG dr 4 = dn := ⟨_, rfl⟩
    have hd4 := placeG_bd dr 4 (by decide)
    rw [hdn] at hd4
    have Hdn : Hid (placeG dr 4 = dn) := hdn
    have hms : mayShift dn (1 + (kn : Int)) = true := by unfold mayShift; simp; omega
    have hms1 : mayShift dn 1 = true := by unfold mayShift; simp; omega
    have cS0 := fun (v : Value) u => shift_yes v x y d dn (1 + (kn : Int)) u hms
    have cS1 := fun (v : Value) (qx qy : Int) (qd : Bool) u => shift_yes v qx qy qd dn 1 u hms1
    have HTo : Hid (shiftP ((x, y), d) dn (1 + (kn : Int)) = shiftP ((x, y), d) dn (1 + (kn : Int))) := rfl
    generalize htq : shiftP ((x, y), d) dn (1 + (kn : Int)) = tq at cS0 HTo
    have HTq : Hid (shiftP ((x, y), d) dn (1 + (kn : Int)) = tq) := htq
    obtain ⟨⟨tx, ty⟩, td⟩ := tq
    unfold poseCs at cS0
    simp only at cS0
    have HD : Hid (0 ≤ dn ∧ dn ≤ 3) := ⟨by omega, by omega⟩
    clear htq HTo hkn hdn hms hms1 hA hN hAu hsd
    go_enter Try.func4, Try.ntmps4
    go_upto_region 4 with (first
      | (refine wpList_load_row rfl 26 (.tmp 4) rfl (w.heap.size) rfl 26 #[.int .i64 c.W, .int .i64 c.H, .int .i64 c.height, vb, vp, vr, vs, .int .i64 c.unit, .int .i64 c.accel, .int .i64 c.speed, .int .i64 c.turn, .int .i64 c.hoist, .int .i64 c.queue, .int .i64 c.resend, .int .i64 c.budget, .bool c.back] (0, 0) _ Q0.a Try.underlying26 rfl info_conf ?_)
      | (go_at_call 16; refine (cC _ Q0.below).mono ?_; rintro e w1 ⟨r1, rfl, ⟨v1, v2, v3, v4, rfl, A1⟩, b1⟩; have Q1 := Q0.go b1)
      | (go_at_call 15; refine (cN A1).mono ?_; rintro e w2 ⟨g, u0, v', rfl, G2, _, _, own2, b2⟩; have Q2 := Q1.go b2))
    go_upto_region 5 with (go_at_call 23; refine (placeG_any nn 16 _ (by decide) (by decide)).mono ?_; rintro e w8 ⟨rfl, h8⟩; have h8' := h8.symm; subst h8'; rw [Hkn.out])
    go_upto_region 6 with (go_at_call 23; refine (placeG_any dr 4 _ (by decide) (by decide)).mono ?_; rintro e w8 ⟨rfl, h8⟩; have h8' := h8.symm; subst h8'; rw [Hdn.out])
    go_upto_region 7 with (first
      | (refine wpList_load_row rfl 30 (.tmp 5) rfl (w.heap.size + 1) rfl 30 #[.int .i64 x, .int .i64 y, .bool d] (0, 0) _ Q2.b Try.underlying30 rfl info_pose3 ?_)
      | (go_at_call 28; refine (cS0 _ _).mono ?_; rintro e w4 ⟨rfl, b4⟩; have Q4 := Q2.go b4; have HQ4 : Hid _ := Q4))
    have G4 := G2.go b4
    have y0 : w4.cell? ⟨w.heap.size + 1, 0, none⟩ = some (.int .i64 x) := cell_of Q4.b 0
    have y1 : w4.cell? ⟨w.heap.size + 1, 1, none⟩ = some (.int .i64 y) := cell_of Q4.b 1
    have y2 : w4.cell? ⟨w.heap.size + 1, 2, none⟩ = some (.bool d) := cell_of Q4.b 2
    obtain ⟨wB, hwB⟩ : ∃ wB, wB = ((w4.alloc (.cells #[.int .i64 tx, .int .i64 ty, .bool td] 30)).alloc (.cells #[.int .i64 1, .int .i64 dn, .int .i64 (1 + (kn : Int)), .int .i64 x, .int .i64 y, .bool d, .int .i64 tx, .int .i64 ty, .bool td, .int .i64 0, .int .i64 0] 56)).alloc (.cells z256 57) := ⟨_, rfl⟩
    obtain ⟨wC, hwC⟩ : ∃ wC, wC = wB.alloc (.cells #[.int .i64 x, .int .i64 y, .bool d] 30) := ⟨_, rfl⟩
    have S0 : St w4 ((tx, ty), td) ((1 : Int), dn, 1 + (kn : Int), ((x, y), d), ((tx, ty), td), (0 : Int), (0 : Int)) (List.replicate 256 false) ((x, y), d) wC := by rw [hwC, hwB]; exact St.new w4 ((tx, ty), td) ((1 : Int), dn, 1 + (kn : Int), ((x, y), d), ((tx, ty), td), (0 : Int), (0 : Int)) ((x, y), d)
    have lq := lt_of_heap Q4.b
    have hpB : wB.heap[w.heap.size + 1]? = some (.cells #[.int .i64 x, .int .i64 y, .bool d] 30 (0, 0)) := by
      rw [hwB, alloc_old _ _ _ (by simp; omega), alloc_old _ _ _ (by simp; omega), alloc_old _ _ _ (by omega)]
      exact Q4.b
    have sB : wB.heap.size = w4.heap.size + 3 := by rw [hwB]; simp
    have HG : Hid (∀ bs q wr, St w4 ((tx, ty), td) ((1 : Int), dn, 1 + (kn : Int), ((x, y), d), ((tx, ty), td), (0 : Int), (0 : Int)) bs q wr → GridAt wr g u0 c.W c.H G.uses v') := fun bs q wr s => G4.go s.below
    have HBe : Hid (Below w.heap.size w w4) := Q4.below
    clear Q0 Q1 Q2 Q4 HQ4 cC cM cN A1 own2 G2 b4 L Hkn Hdn cS0 G4
    go_upto_region 11 with fail
    go_upto_region 12 with (refine wpList_allocAll rfl rfl (w4.heap.size + 2) (by simp) ?_; simp only [Act.put, List.setIfInBounds_toArray, List.set_cons_zero, List.set_cons_succ])
    rw [← hwB]
    clear hwB y0 y1 y2 lq
    go_upto_region 14 with (refine wpList_load_row rfl 30 (.tmp 5) rfl (w.heap.size + 1) rfl 30 #[.int .i64 x, .int .i64 y, .bool d] (0, 0) _ hpB Try.underlying30 rfl info_pose3 ?_)
    rw [← hwC]
    clear hwC hpB
    have HS0 : Hid (St w4 ((tx, ty), td) ((1 : Int), dn, 1 + (kn : Int), ((x, y), d), ((tx, ty), td), (0 : Int), (0 : Int)) (List.replicate 256 false) ((x, y), d) wC) := S0
    have HI0 : Hid (Inv c.W c.H G.uses ((x, y), d) dn 0 ((x, y), d)) := Inv.start _ _ _ _ _
    have HF0 : Hid (∀ k, k < 256 → ((List.replicate 256 false).getD k false = true ↔ StepSet c.W ((x, y), d) dn 0 k)) := fun k hk => by
      refine iff_of_false ?_ (step_none _ _ _ _)
      rw [List.getD_eq_getElem?_getD, List.getElem?_replicate, if_pos hk]
      simp
    clear S0
    go_loopw [14, 17] (fun v14 v17 wr => v14 = .bool true ∧ ∃ (i : Nat) (bs : List Bool) (q : Pose), i ≤ kn + 1 ∧ v17 = .int .i64 i ∧ Hid (St w4 ((tx, ty), td) ((1 : Int), dn, 1 + (kn : Int), ((x, y), d), ((tx, ty), td), (0 : Int), (0 : Int)) bs q wr) ∧ Hid (Inv c.W c.H G.uses ((x, y), d) dn i q) ∧ Hid (∀ k, k < 256 → (bs.getD k false = true ↔ StepSet c.W ((x, y), d) dn i k))) (fun _ v17 _ => kn + 1 - (intOf v17).toNat)
    case atStart => exact ⟨rfl, 0, _, ((x, y), d), Nat.zero_le _, rfl, HS0, HI0, HF0⟩
    case round =>
      clear HS0 HI0 HF0
      obtain ⟨rfl, i, bs, q, hi, rfl, HS, HI, HF⟩ := hrel
      obtain ⟨⟨qx, qy⟩, qd⟩ := q
      by_cases hlt : i < kn + 1
      · have hd : decide ((i : Int) < 1 + (kn : Int)) = true := decide_eq_true (by omega)
        have hq : wr.heap[w4.heap.size + 3]? = some (.cells #[.int .i64 qx, .int .i64 qy, .bool qd] 30 (0, 0)) := HS.out.bq
        have cSh := cS1 (.pointer (some ⟨g, 0, none⟩)) qx qy qd wr
        generalize hrq : shiftP ((qx, qy), qd) dn 1 = rq at cSh
        have HRq : Hid (shiftP ((qx, qy), qd) dn 1 = rq) := hrq
        obtain ⟨⟨rx, ry⟩, rd⟩ := rq
        unfold poseCs at cSh
        simp only at cSh
        clear hrq
        go_upto_region 17 with (first
          | (refine wpList_load_row rfl 30 (.tmp 16) rfl (w4.heap.size + 3) rfl 30 #[.int .i64 qx, .int .i64 qy, .bool qd] (0, 0) _ hq Try.underlying30 rfl info_pose3 ?_)
          | (go_at_call 28; refine cSh.mono ?_; rintro e w5 ⟨rfl, b5⟩))
        have S5 := HS.out.go b5
        have hq5 : w5.heap[w4.heap.size + 3]? = some (.cells #[.int .i64 qx, .int .i64 qy, .bool qd] 30 (0, 0)) := S5.bq
        have y0 : w5.cell? ⟨w4.heap.size + 3, 0, none⟩ = some (.int .i64 qx) := cell_of hq5 0
        have y1 : w5.cell? ⟨w4.heap.size + 3, 1, none⟩ = some (.int .i64 qy) := cell_of hq5 1
        have y2 : w5.cell? ⟨w4.heap.size + 3, 2, none⟩ = some (.bool qd) := cell_of hq5 2
        have lq := lt_of_heap hq5
        obtain ⟨wm, hwm⟩ : ∃ wm, wm = (w5.alloc (.cells #[.int .i64 rx, .int .i64 ry, .bool rd] 30)).alloc (.cells #[.int .i64 1, .int .i64 dn, .int .i64 1, .int .i64 qx, .int .i64 qy, .bool qd, .int .i64 rx, .int .i64 ry, .bool rd, .int .i64 0, .int .i64 0] 56) := ⟨_, rfl⟩
        have bm : Below w5.heap.size w5 wm := by rw [hwm]; exact below_two _ _ _
        have hrb : wm.heap[w5.heap.size]? = some (.cells #[.int .i64 rx, .int .i64 ry, .bool rd] 30 (0, 0)) := by rw [hwm]; exact (alloc_old _ _ _ (by simp)).trans (heap_alloc_new _ _)
        have hmb : wm.heap[w5.heap.size + 1]? = some (.cells #[.int .i64 1, .int .i64 dn, .int .i64 1, .int .i64 qx, .int .i64 qy, .bool qd, .int .i64 rx, .int .i64 ry, .bool rd, .int .i64 0, .int .i64 0] 56 (0, 0)) := by rw [hwm]; exact heap_new2 _ _ _
        have Sm := S5.go bm
        go_upto_region 18 with fail
        rw [← hwm]
        clear hwm y0 y1 y2
        have cL := legal_any g u0 c.W c.H G.uses v' ((1 : Int), dn, (1 : Int), ((qx, qy), qd), ((rx, ry), rd), (0 : Int), (0 : Int)) wm (HG.out _ _ _ Sm)
        have HRb : Hid (w4.heap.size + 4 ≤ w5.heap.size) := lq
        have HLm : Hid (legalU c.W c.H G.uses ((1 : Int), dn, (1 : Int), ((qx, qy), qd), ((rx, ry), rd), (0 : Int), (0 : Int)) = legalU c.W c.H G.uses (runM ((qx, qy), qd) dn 1)) := by show _ = _; unfold runM; rw [HRq.out]
        cases hlg : legalU c.W c.H G.uses ((1 : Int), dn, (1 : Int), ((qx, qy), qd), ((rx, ry), rd), (0 : Int), (0 : Int))
        · rw [hlg] at cL
          unfold moveCs at cL
          simp only at cL
          have HWn : Hid (legalU c.W c.H G.uses ((1 : Int), dn, 1 + (kn : Int), ((x, y), d), ((tx, ty), td), (0 : Int), (0 : Int)) = false) := by
            have e := Inv.stop HSD.out.1 HSD.out.2 HD.out HI.out (by rw [← HLm.out]; exact hlg) (n := 1 + (kn : Int)) ⟨by omega, by omega⟩ (by omega)
            unfold runM at e
            rw [HTq.out] at e
            exact e
          have cLw := fun u (b : Below wm.heap.size wm u) => legal_any g u0 c.W c.H G.uses v' ((1 : Int), dn, 1 + (kn : Int), ((x, y), d), ((tx, ty), td), (0 : Int), (0 : Int)) u (HG.out _ _ _ (Sm.go b))
          have cSw := fun u (b : Below wm.heap.size wm u) => swept_both g u0 c.W c.H G.uses v' ((1 : Int), dn, 1 + (kn : Int), ((x, y), d), ((tx, ty), td), (0 : Int), (0 : Int)) HSD.out.1 HSD.out.2 u (HG.out _ _ _ (Sm.go b))
          rw [HWn.out] at cLw
          rw [sweptL_no HWn.out] at cSw
          unfold moveCs at cLw cSw
          simp only at cLw cSw
          have hwh := fun u (b : Below wm.heap.size wm u) => (Sm.go b).bwh
          unfold moveCs at hwh
          simp only at hwh
          have HB9 : Hid (Below w4.heap.size w4 wm) := Sm.below
          clear HS HI HF hlg HLm Sm S5 hq hq5 cSh cS1 bm
          go_wp2_with (first
            | (have X' := b8; go_at_call 30; refine (cSw _ (bcat b7 b8 (Nat.le_refl _))).mono ?_; rintro e w9 ⟨vv, rfl, own9, b9⟩; obtain ⟨va, vc, hvv⟩ : ∃ a cap, vv = .slice a 0 cap := (by rcases own9.2 with ⟨hv, h0⟩ | ⟨g', cap', cur, hv, _⟩ <;> exact ⟨_, _, hv⟩); subst hvv)
            | (have X' := b8; refine wpList_load_row rfl 56 (.tmp 13) rfl (w4.heap.size + 1) rfl 56 #[.int .i64 1, .int .i64 dn, .int .i64 (1 + (kn : Int)), .int .i64 x, .int .i64 y, .bool d, .int .i64 tx, .int .i64 ty, .bool td, .int .i64 0, .int .i64 0] (0, 0) _ (hwh _ (bcat b7 b8 (Nat.le_refl _))) Try.underlying56 rfl info_move ?_)
            | (have X' := b7; go_at_call 29; refine (cLw _ b7).mono ?_; rintro e w8 ⟨rfl, b8⟩)
            | (have X' := b7; refine wpList_load_row rfl 56 (.tmp 13) rfl (w4.heap.size + 1) rfl 56 #[.int .i64 1, .int .i64 dn, .int .i64 (1 + (kn : Int)), .int .i64 x, .int .i64 y, .bool d, .int .i64 tx, .int .i64 ty, .bool td, .int .i64 0, .int .i64 0] (0, 0) _ (hwh _ b7) Try.underlying56 rfl info_move ?_)
            | (refine wpList_load_want (by kernel_rfl) 56 (.tmp 20) rfl (w5.heap.size + 1) rfl 56 #[.int .i64 1, .int .i64 dn, .int .i64 1, .int .i64 qx, .int .i64 qy, .bool qd, .int .i64 rx, .int .i64 ry, .bool rd, .int .i64 0, .int .i64 0] (0, 0) hmb Try.underlying56 info_move ?_)
            | (go_at_call 29; refine cL.mono ?_; rintro e w7 ⟨rfl, b7⟩)
            | (go_at_call 18; refine (awake_any _).mono ?_; rintro e wa ⟨rfl, ba⟩))
          go_ret
          exact ⟨rfl, bcat HBe.out (bcat HB9.out (bcat (bcat (bcat b7 b8 (Nat.le_refl _)) b9 (Nat.le_refl _)) ba (Nat.le_refl _)) (Nat.le_refl _)) (Nat.le_refl _)⟩
        · rw [hlg] at cL
          have hlq : legalU c.W c.H G.uses (runM ((qx, qy), qd) dn 1) = true := by rw [← HLm.out]; exact hlg
          have HNx := Inv.next HSD.out.1 HSD.out.2 HD.out HI.out hlq (by omega)
          rw [HRq.out] at HNx
          have HNx2 : Hid (Inv c.W c.H G.uses ((x, y), d) dn (i + 1) ((rx, ry), rd)) := HNx
          have HBox := Inv.box HSD.out.1 HSD.out.2 HD.out HI.out hlq (by omega)
          rw [HRq.out] at HBox
          have HBx : Hid (Bx c.W c.H (boxOf ((qx, qy), qd) ((rx, ry), rd))) := bx_of HSD.out.1 HSD.out.2 hlg
          have cSw := fun u (b : Below wm.heap.size wm u) => swept_both g u0 c.W c.H G.uses v' ((1 : Int), dn, (1 : Int), ((qx, qy), qd), ((rx, ry), rd), (0 : Int), (0 : Int)) HSD.out.1 HSD.out.2 u (HG.out _ _ _ (Sm.go b))
          rw [sweptL_yes hlg] at cSw
          simp only at cSw
          have HSs : Hid (∀ k, StepSet c.W ((x, y), d) dn (i + 1) k ↔ StepSet c.W ((x, y), d) dn i k ∨ ∃ cc ∈ boxOf ((qx, qy), qd) ((rx, ry), rd), numN c.W cc = k) := fun k => by rw [step_succ, HBox]
          unfold moveCs at cL cSw
          simp only at cL cSw
          generalize boxOf ((qx, qy), qd) ((rx, ry), rd) = Ls at *
          have HSm : Hid (St w4 ((tx, ty), td) ((1 : Int), dn, 1 + (kn : Int), ((x, y), d), ((tx, ty), td), (0 : Int), (0 : Int)) bs ((qx, qy), qd) wm) := Sm
          have HRbm : Hid (wm.heap[w5.heap.size]? = some (.cells #[.int .i64 rx, .int .i64 ry, .bool rd] 30 (0, 0))) := hrb
          clear HNx HBox hlq hlg HLm Sm S5 hq hq5 cSh bm HS HI hrb
          go_upto_region 21 with (first
            | (have X' := b7; refine wpList_load_row rfl 56 (.tmp 20) rfl (w5.heap.size + 1) rfl 56 #[.int .i64 1, .int .i64 dn, .int .i64 1, .int .i64 qx, .int .i64 qy, .bool qd, .int .i64 rx, .int .i64 ry, .bool rd, .int .i64 0, .int .i64 0] (0, 0) _ ((b7.block _ (lt_of_heap hmb)).trans hmb) Try.underlying56 rfl info_move ?_)
            | (have X' := b7; go_at_call 30; refine (cSw _ b7).mono ?_; rintro e w8 ⟨vv, rfl, own8, b8⟩)
            | (refine wpList_load_want (by kernel_rfl) 56 (.tmp 20) rfl (w5.heap.size + 1) rfl 56 #[.int .i64 1, .int .i64 dn, .int .i64 1, .int .i64 qx, .int .i64 qy, .bool qd, .int .i64 rx, .int .i64 ry, .bool rd, .int .i64 0, .int .i64 0] (0, 0) hmb Try.underlying56 info_move ?_)
            | (go_at_call 29; refine cL.mono ?_; rintro e w7 ⟨rfl, b7⟩))
          obtain ⟨va, vc, hvv⟩ : ∃ a cap, vv = .slice a Ls.length cap := by
            obtain ⟨a, cap, h, _⟩ := own_form own8
            exact ⟨a, cap, h⟩
          subst hvv
          have B8 := bcat b7 b8 (Nat.le_refl _)
          have HS8 : Hid (St w4 ((tx, ty), td) ((1 : Int), dn, 1 + (kn : Int), ((x, y), d), ((tx, ty), td), (0 : Int), (0 : Int)) bs ((qx, qy), qd) w8) := HSm.out.go B8
          have HR8 : Hid (w8.heap[w5.heap.size]? = some (.cells #[.int .i64 rx, .int .i64 ry, .bool rd] 30 (0, 0))) := (B8.block _ (lt_of_heap HRbm.out)).trans HRbm.out
          have HO8 : Hid (w8.ownsRow w7.heap.size 28 2 (.slice va Ls.length vc) Ls.length (rowL cellL Ls)) := own8
          have H7 : Hid (w4.heap.size + 4 ≤ w7.heap.size) := by have := b7.size; have := lt_of_heap HRbm.out; have := HRb.out; show _ ≤ _; omega
          obtain ⟨LL, hLL⟩ : ∃ LL, Ls.length = LL := ⟨_, rfl⟩
          have HLL : Hid (Ls.length = LL) := hLL
          have hL1 : LL ≤ 1000000 := by
            have h1 : Ls.length ≤ (List.range 256).length := by
              rw [← List.length_map (f := numN c.W)]
              refine len_le_of_sub _ _ ?_ ?_
              · unfold List.Nodup
                rw [List.pairwise_map]
                refine List.Pairwise.imp_of_mem ?_ HBx.out.rise
                intro p1 p2 h1 h2 h e
                have q1 := num_grid HSD.out.1 HSD.out.2 (HBx.out.inn _ h1)
                have q2 := num_grid HSD.out.1 HSD.out.2 (HBx.out.inn _ h2)
                unfold numN at e
                omega
              · intro z hz
                rw [List.mem_map] at hz
                obtain ⟨p1, h1, rfl⟩ := hz
                exact List.mem_range.2 (num_grid HSD.out.1 HSD.out.2 (HBx.out.inn _ h1)).2.1
            rw [List.length_range] at h1
            omega
          rw [hLL]
          clear hLL own8 b7 b8 B8 cL cSw hmb HSm HRbm
          go_wp2_with fail
          go_loopw [22] (fun v22 wr => ∃ (k : Nat) (bs' : List Bool), k ≤ LL ∧ v22 = .int .i64 k ∧ Hid (FxG (w4.heap.size + 2) w8 wr) ∧ Hid (wr.heap[w4.heap.size + 2]? = some (.cells (flags bs') 57 (0, 0)) ∧ bs'.length = 256) ∧ Hid (∀ z, z < 256 → (bs'.getD z false = true ↔ bs.getD z false = true ∨ ∃ cc ∈ Ls.take k, numN c.W cc = z))) (fun v22 _ => LL - (intOf v22).toNat)
          case atStart => exact ⟨0, bs, Nat.zero_le _, rfl, FxG.refl _ _, (⟨HS8.out.ba, HS8.out.len⟩ : w8.heap[w4.heap.size + 2]? = some (.cells (flags bs) 57 (0, 0)) ∧ bs.length = 256), fun z hz => by simp⟩
          case round =>
            obtain ⟨k, bs', hk, rfl, HX, HA, HB'⟩ := hrel
            by_cases hkl : k < LL
            · have hd2 : decide ((k : Int) < (LL : Int)) = true := decide_eq_true (by omega)
              have hkL : k < Ls.length := by rw [HLL.out]; exact hkl
              have own9 : wr.ownsRow w7.heap.size 28 2 (.slice va Ls.length vc) Ls.length (rowL cellL Ls) := owns_same HO8.out fun b hb => HX.out.block b (own_since HO8.out b hb).2 (by have := (own_since HO8.out b hb).1; have := H7.out; omega)
              obtain ⟨pa, cap2, hv, hrd⟩ := own_item own9 hkL
              obtain ⟨rfl, rfl⟩ : va = some pa ∧ vc = cap2 := by injection hv with h1 h2 h3; exact ⟨h1, h3⟩
              have S9 := HS8.out.flag HX.out HA.out.1 HA.out.2
              have hin := HBx.out.inn (Ls[k]'hkL) (List.getElem_mem hkL)
              have hng := num_grid HSD.out.1 HSD.out.2 hin
              have HTk : Hid (Ls.take (k + 1) = Ls.take k ++ [Ls[k]'hkL]) := by show _ = _; rw [List.take_add_one, List.getElem?_eq_getElem hkL]; rfl
              generalize Ls[k]'hkL = ck at *
              obtain ⟨nk, hnk⟩ : ∃ nk, numN c.W ck = nk := ⟨_, rfl⟩
              rw [hnk] at hng
              have cN := number_any g u0 c.W c.H G.uses v' ck.1 ck.2 wr (HG.out _ _ _ S9)
              rw [show number c.W c.H (ck.1, ck.2) = (nk : Int) from hng.1] at cN
              have hnk2 : nk < 256 := hng.2.1
              have hnk3 : (nk : Int) < 256 := by omega
              have HNk : Hid (numN c.W ck = nk) := hnk
              clear hv own9 hin hng hnk
              go_wp2_with (first
                | (refine wpList_load_at rfl 28 (.tmp 102) rfl (pa.add (k * 2)) rfl #[.int .i64 ck.1, .int .i64 ck.2] hrd (aggCell _) infoCell2 ?_)
                | (go_at_call 31; refine cN.mono ?_; rintro e w10 ⟨rfl, b10⟩; have A10 := (b10.block _ (lt_of_heap HA.out.1)).trans HA.out.1; have f10 : w10.cell? ⟨w4.heap.size + 2, nk, none⟩ = some (.bool (bs'.getD nk false)) := (cell_of A10 nk).trans (flags_at bs' nk (by have := HA.out.2; omega)); have z10 := frozen_of A10 nk))
              go_roundw
              case rel =>
                refine ⟨k + 1, bs'.set nk true, by omega, by go_num, (HX.out.trans (FxG.below b10)).trans (FxG.set _ _ _ _), ?_, fun z hz => ?_⟩
                · show _ ∧ _
                  refine ⟨?_, by rw [List.length_set]; exact HA.out.2⟩
                  rw [heap_setCell_same _ _ _ _ _ _ A10, flags_set]
                · rw [flags_getD _ _ _ (by have := HA.out.2; omega), Bool.or_eq_true, decide_eq_true_eq, HB'.out z hz, HTk.out]
                  constructor
                  · rintro (e | h | ⟨cc, h1, h2⟩)
                    · exact Or.inr ⟨ck, by simp, by rw [HNk.out, e]⟩
                    · exact Or.inl h
                    · exact Or.inr ⟨cc, by simp [h1], h2⟩
                  · rintro (h | ⟨cc, h1, h2⟩)
                    · exact Or.inr (Or.inl h)
                    · rw [List.mem_append, List.mem_singleton] at h1
                      rcases h1 with h1 | rfl
                      · exact Or.inr (Or.inr ⟨cc, h1, h2⟩)
                      · exact Or.inl (by rw [← h2, HNk.out])
              case measure => simp only [intOf]; omega
            · have hkk : k = LL := by omega
              have hd2 : decide ((k : Int) < (LL : Int)) = false := decide_eq_false (by omega)
              have HB2 : Hid (∀ z, z < 256 → (bs'.getD z false = true ↔ StepSet c.W ((x, y), d) dn (i + 1) z)) := fun z hz => by
                rw [HB'.out z hz, HSs.out, HF.out z hz, List.take_of_length_le (by rw [HLL.out]; omega)]
              have S9 := HS8.out.flag HX.out HA.out.1 HA.out.2
              have hr9 : wr.heap[w5.heap.size]? = some (.cells #[.int .i64 rx, .int .i64 ry, .bool rd] 30 (0, 0)) := (HX.out.block _ (lt_of_heap HR8.out) (by have := HRb.out; omega)).trans HR8.out
              have hq9 : wr.heap[w4.heap.size + 3]? = some (.cells #[.int .i64 qx, .int .i64 qy, .bool qd] 30 (0, 0)) := S9.bq
              have y0 : wr.cell? ⟨w4.heap.size + 3, 0, none⟩ = some (.int .i64 qx) := cell_of hq9 0
              have y1 : wr.cell? ⟨w4.heap.size + 3, 1, none⟩ = some (.int .i64 qy) := cell_of hq9 1
              have y2 : wr.cell? ⟨w4.heap.size + 3, 2, none⟩ = some (.bool qd) := cell_of hq9 2
              have z0 := frozen_of hq9 0
              have z1 := frozen_of hq9 1
              have z2 := frozen_of hq9 2
              have HS9 : Hid (St w4 ((tx, ty), td) ((1 : Int), dn, 1 + (kn : Int), ((x, y), d), ((tx, ty), td), (0 : Int), (0 : Int)) bs' ((rx, ry), rd) (((wr.setCell ⟨w4.heap.size + 3, 0, none⟩ (.int .i64 rx)).setCell ⟨w4.heap.size + 3, 1, none⟩ (.int .i64 ry)).setCell ⟨w4.heap.size + 3, 2, none⟩ (.bool rd))) := S9.goto
              clear hkk S9
              go_wp2_with (first | (refine wpList_load_row rfl 30 (.tmp 18) rfl (w5.heap.size) rfl 30 #[.int .i64 rx, .int .i64 ry, .bool rd] (0, 0) _ hr9 Try.underlying30 rfl info_pose3 ?_))
              go_roundw
              case rel => exact ⟨rfl, i + 1, bs', ((rx, ry), rd), by omega, by go_num, HS9, HNx2, HB2⟩
              case measure => simp only [intOf]; omega
      · obtain rfl : i = kn + 1 := by omega
        have hd : decide ((((kn + 1 : Nat) : Int)) < 1 + (kn : Int)) = false := decide_eq_false (by omega)
        obtain ⟨e1, e2, e3⟩ := Inv.last HSD.out.1 HSD.out.2 HD.out HI.out ⟨by omega, by omega⟩
        rw [show (((kn + 1 : Nat) : Int)) = 1 + (kn : Int) by omega] at e1 e2 e3
        rw [HTq.out] at e2 e3
        obtain ⟨⟨rfl, rfl⟩, rfl⟩ : (qx = tx ∧ qy = ty) ∧ qd = td := by
          have e4 := e2
          simp only [Prod.mk.injEq] at e4
          exact ⟨⟨e4.1.1, e4.1.2⟩, e4.2⟩
        have HWy : Hid (legalU c.W c.H G.uses ((1 : Int), dn, 1 + (kn : Int), ((x, y), d), ((qx, qy), qd), (0 : Int), (0 : Int)) = true) := by
          unfold runM at e1
          rw [HTq.out] at e1
          exact e1
        have cLw := fun u (b : Below wr.heap.size wr u) => legal_any g u0 c.W c.H G.uses v' ((1 : Int), dn, 1 + (kn : Int), ((x, y), d), ((qx, qy), qd), (0 : Int), (0 : Int)) u (HG.out _ _ _ (HS.out.go b))
        have cSw := fun u (b : Below wr.heap.size wr u) => swept_both g u0 c.W c.H G.uses v' ((1 : Int), dn, 1 + (kn : Int), ((x, y), d), ((qx, qy), qd), (0 : Int), (0 : Int)) HSD.out.1 HSD.out.2 u (HG.out _ _ _ (HS.out.go b))
        have HBx : Hid (Bx c.W c.H (boxOf ((x, y), d) ((qx, qy), qd))) := bx_of HSD.out.1 HSD.out.2 HWy.out
        rw [HWy.out] at cLw
        rw [sweptL_yes HWy.out] at cSw
        simp only at cSw
        unfold moveCs at cLw cSw
        simp only at cLw cSw
        have HMem : Hid (∀ z, z < 256 → (bs.getD z false = true ↔ ∃ cc ∈ boxOf ((x, y), d) ((qx, qy), qd), numN c.W cc = z)) := fun z hz => by
          rw [HF.out z hz, ← e3]
        have HCnt : Hid (countB bs 256 = (boxOf ((x, y), d) ((qx, qy), qd)).length) := count_all HBx.out.rise (fun cc hc => ⟨(num_grid HSD.out.1 HSD.out.2 (HBx.out.inn _ hc)).2.2, (num_grid HSD.out.1 HSD.out.2 (HBx.out.inn _ hc)).2.1⟩) HMem.out
        generalize boxOf ((x, y), d) ((qx, qy), qd) = Ls at *
        have hwh := fun u (b : Below wr.heap.size wr u) => (HS.out.go b).bwh
        unfold moveCs at hwh
        simp only at hwh
        have W0 := hwh wr (Below.refl _ _)
        have HSW : Hid (St w4 ((qx, qy), qd) ((1 : Int), dn, 1 + (kn : Int), ((x, y), d), ((qx, qy), qd), (0 : Int), (0 : Int)) bs ((qx, qy), qd) wr) := HS.out
        clear e1 e2 e3 HF HI HS
        go_upto_region 31 with (first
          | (have X' := b7; go_at_call 30; refine (cSw _ b7).mono ?_; rintro e w8 ⟨vv, rfl, own8, b8⟩)
          | (have X' := b7; refine wpList_load_row rfl 56 (.tmp 13) rfl (w4.heap.size + 1) rfl 56 #[.int .i64 1, .int .i64 dn, .int .i64 (1 + (kn : Int)), .int .i64 x, .int .i64 y, .bool d, .int .i64 qx, .int .i64 qy, .bool qd, .int .i64 0, .int .i64 0] (0, 0) _ (hwh _ b7) Try.underlying56 rfl info_move ?_)
          | (go_at_call 29; refine (cLw _ (Below.refl _ _)).mono ?_; rintro e w7 ⟨rfl, b7⟩)
          | (refine wpList_load_row rfl 56 (.tmp 13) rfl (w4.heap.size + 1) rfl 56 #[.int .i64 1, .int .i64 dn, .int .i64 (1 + (kn : Int)), .int .i64 x, .int .i64 y, .bool d, .int .i64 qx, .int .i64 qy, .bool qd, .int .i64 0, .int .i64 0] (0, 0) _ W0 Try.underlying56 rfl info_move ?_))
        obtain ⟨va, vc, hvv⟩ : ∃ a cap, vv = .slice a Ls.length cap := by
          obtain ⟨a, cap, h, _⟩ := own_form own8
          exact ⟨a, cap, h⟩
        subst hvv
        have HS8 : Hid (St w4 ((qx, qy), qd) ((1 : Int), dn, 1 + (kn : Int), ((x, y), d), ((qx, qy), qd), (0 : Int), (0 : Int)) bs ((qx, qy), qd) w8) := HSW.out.go (bcat b7 b8 (Nat.le_refl _))
        have HO8 : Hid (w8.ownsRow w7.heap.size 28 2 (.slice va Ls.length vc) Ls.length (rowL cellL Ls)) := own8
        obtain ⟨LL, hLL⟩ : ∃ LL, Ls.length = LL := ⟨_, rfl⟩
        have HLL : Hid (Ls.length = LL) := hLL
        have hL1 : LL ≤ 256 := by have := countB_le bs 256; have := HCnt.out; omega
        rw [hLL]
        have HC2 : Hid (countB bs 256 = LL) := by have := HCnt.out; show _ = _; omega
        clear hLL own8 b7 b8 cLw cSw hwh W0 HSW HCnt
        go_upto_region 33 with fail
        go_loopw [24, 25] (fun v24 v25 wr => ∃ z : Nat, z ≤ 256 ∧ v24 = .int .i64 (countB bs z : Nat) ∧ v25 = .int .i64 z ∧ wr = w8) (fun _ v25 _ => 256 - (intOf v25).toNat)
        case atStart => exact ⟨0, Nat.zero_le _, rfl, rfl, rfl⟩
        case round =>
          obtain ⟨z, hz, rfl, rfl, hw8⟩ := hrel
          have hw8' := hw8.symm
          subst hw8'
          by_cases hzl : z < 256
          · have hd3 : decide ((z : Int) < 256) = true := decide_eq_true (by omega)
            have f8 : w8.cell? ⟨w4.heap.size + 2, z, none⟩ = some (.bool (bs.getD z false)) := (cell_of HS8.out.ba z).trans (flags_at bs z (by have := HS8.out.len; omega))
            have hz2 : (z : Int) < 256 := by omega
            have hcs := countB_succ bs z
            have hcl := countB_le bs z
            cases hbz : bs.getD z false
            · rw [hbz] at f8 hcs
              simp only [Bool.false_eq_true, if_false, Nat.add_zero] at hcs
              have HCs : Hid (countB bs (z + 1) = countB bs z) := hcs
              clear hcs hbz
              go_wp2_with fail
              go_roundw
              case rel => exact ⟨z + 1, by omega, by rw [HCs.out], by go_num, by first | trivial | rfl⟩
              case measure => simp only [intOf]; omega
            · rw [hbz] at f8 hcs
              simp only [if_true] at hcs
              have HCs : Hid (countB bs (z + 1) = countB bs z + 1) := hcs
              clear hcs hbz
              go_wp2_with fail
              go_roundw
              case rel => exact ⟨z + 1, by omega, by rw [HCs.out]; go_num, by go_num, by first | trivial | rfl⟩
              case measure => simp only [intOf]; omega
          · obtain rfl : z = 256 := by omega
            rw [HC2.out]
            go_wp2_with fail
            go_loopw [26] (fun v26 wr => ∃ k : Nat, k ≤ LL ∧ v26 = .int .i64 k ∧ Hid (Below w8.heap.size w8 wr)) (fun v26 _ => LL - (intOf v26).toNat)
            case atStart => exact ⟨0, Nat.zero_le _, rfl, Below.refl _ _⟩
            case round =>
              obtain ⟨k, hk, rfl, HB⟩ := hrel
              by_cases hkl : k < LL
              · have hd2 : decide ((k : Int) < (LL : Int)) = true := decide_eq_true (by omega)
                have hkL : k < Ls.length := by rw [HLL.out]; exact hkl
                have own9 := own_go HO8.out HB.out
                obtain ⟨pa, cap2, hv, hrd⟩ := own_item own9 hkL
                obtain ⟨rfl, rfl⟩ : va = some pa ∧ vc = cap2 := by injection hv with h1 h2 h3; exact ⟨h1, h3⟩
                have S9 := HS8.out.go HB.out
                have hng := num_grid HSD.out.1 HSD.out.2 (HBx.out.inn (Ls[k]'hkL) (List.getElem_mem hkL))
                have hfl : bs.getD (numN c.W (Ls[k]'hkL)) false = true := (HMem.out _ hng.2.1).2 ⟨_, List.getElem_mem hkL, rfl⟩
                have S0 : Below wr.heap.size wr wr.drew := (Below.refl _ _).drew
                have hkn : (k : Int) < (LL : Int) := by omega
                by_cases hk0 : k = 0
                · have hk1 : decide ((0 : Int) < (k : Int)) = false := decide_eq_false (by omega)
                  have HK0 : Hid (k = 0) := hk0
                  clear hk0
                  have HK : Hid (∀ u, Below wr.heap.size wr u → ∀ j z, #[Value.int .i64 (Ls[k]'hkL).1, .int .i64 (Ls[k]'hkL).2][j]? = some z → u.cell? ((pa.add (k * 2)).add j) = some z) := fun u hu j z hj => cell_below (hrd j z hj) hu
                  generalize Ls[k]'hkL = ck at *
                  obtain ⟨nk, hnk⟩ : ∃ nk, numN c.W ck = nk := ⟨_, rfl⟩
                  rw [hnk] at hng hfl
                  have HNk : Hid (∀ u, Below wr.heap.size wr u → Calls Try.prog 31 #[.pointer (some ⟨g, 0, none⟩), .agg #[.int .i64 ck.1, .int .i64 ck.2]] u fun e w' => ∃ v, e = .returned v ∧ (v = .int .i64 (nk : Nat) ∧ Below u.heap.size u w')) := fun u hu => by
                    have := number_any g u0 c.W c.H G.uses v' ck.1 ck.2 u (HG.out _ _ _ (S9.go hu))
                    rw [show number c.W c.H (ck.1, ck.2) = (nk : Int) from hng.1] at this
                    exact ret_of this
                  have hnk3 : (nk : Int) < 256 := by omega
                  have HFl : Hid (∀ u, Below wr.heap.size wr u → u.cell? ⟨w4.heap.size + 2, nk, none⟩ = some (.bool true)) := fun u hu => by
                    rw [cell_of (S9.go hu).ba nk, flags_at bs nk (by have := S9.len; omega), hfl]
                  clear hv own9 hrd hng hnk hfl S9
                  go_upto_region 40 with fail
                  refine start_held (S := fun u => Below wr.heap.size wr u) 29 rfl (by kernel_rfl) (S0) ?_
                  simp only [Array.replicate_succ, Array.replicate_zero, List.push_toArray, List.nil_append, List.cons_append]
                  refine take_held 0 S0 rfl (by kernel_rfl) (by kernel_rfl) (by kernel_rfl) (fun _ _ _ h => h) (by kernel_rfl) (v := ?v29) ?y29 ?r29
                  case y29 => (intro u hu; go_simp; try rfl)
                  simp only [Act.put, List.setIfInBounds_toArray, List.set_cons_zero, List.set_cons_succ]
                  refine take_held 1 S0 rfl (by kernel_rfl) (by kernel_rfl) (by kernel_rfl) (fun _ _ _ h => h) (by kernel_rfl) (v := ?v30) ?y30 ?r30
                  case y30 => (intro u hu; go_simp; try rfl)
                  simp only [Act.put, List.setIfInBounds_toArray, List.set_cons_zero, List.set_cons_succ]
                  refine take_held 2 S0 rfl (by kernel_rfl) (by kernel_rfl) (by kernel_rfl) (fun _ _ _ h => h) (by kernel_rfl) (v := ?v31) ?y31 ?r31
                  case y31 => (intro u hu; go_simp; try rfl)
                  simp only [Act.put, List.setIfInBounds_toArray, List.set_cons_zero, List.set_cons_succ]
                  refine take_held 3 S0 rfl (by kernel_rfl) (by kernel_rfl) (by kernel_rfl) (fun _ _ _ h => h) (by kernel_rfl) (v := ?v32) ?y32 ?r32
                  case y32 => (intro u hu; go_simp; try rfl)
                  simp only [Act.put, List.setIfInBounds_toArray, List.set_cons_zero, List.set_cons_succ]
                  refine take_held 4 S0 rfl (by kernel_rfl) (by kernel_rfl) (by kernel_rfl) (fun _ _ _ h => h) (by kernel_rfl) (v := .agg #[.int .i64 ck.1, .int .i64 ck.2]) ?y33 ?r33
                  case y33 => (intro u hu; exact run_load_op 28 _ rfl (pa.add (k * 2)) _ rfl (HK.out u hu) (aggCell u) infoCell2)
                  simp only [Act.put, List.setIfInBounds_toArray, List.set_cons_zero, List.set_cons_succ]
                  refine wpAnyH_ready (rs := [5]) (by kernel_rfl) (by simp) (AllReadyH.cons ((nth_eq _ 5).trans rfl) ?_ AllReadyH.nil)
                  intro K' hK
                  refine call_in hK (by kernel_rfl) 31 #[.pointer (some ⟨g, 0, none⟩), .agg #[.int .i64 ck.1, .int .i64 ck.2]] (by go_simp) _ (HNk.out _ S0) ?_
                  rintro v1 x1 ⟨rfl, b1⟩
                  have S1 : Below wr.heap.size wr x1 := bcat S0 b1 (Nat.le_refl _)
                  refine ⟨S1, ?_⟩
                  simp only [Act.put, List.setIfInBounds_toArray, List.set_cons_zero, List.set_cons_succ]
                  refine take_held 6 S1 rfl (by kernel_rfl) (by kernel_rfl) (by kernel_rfl) (fun _ _ _ h => h) (by kernel_rfl) (v := ?v34) ?y34 ?r34
                  case y34 => (intro u hu; go_simp; try rfl)
                  simp only [Act.put, List.setIfInBounds_toArray, List.set_cons_zero, List.set_cons_succ]
                  refine take_held 7 S1 rfl (by kernel_rfl) (by kernel_rfl) (by kernel_rfl) (fun _ _ _ h => h) (by kernel_rfl) (v := .bool true) ?y35 ?r35
                  case y35 => (intro u hu; have zz := HFl.out u hu; go_simp; try rfl)
                  simp only [Act.put, List.setIfInBounds_toArray, List.set_cons_zero, List.set_cons_succ]
                  refine take_held 8 S1 rfl (by kernel_rfl) (by kernel_rfl) (by kernel_rfl) (fun _ _ _ h => h) (by kernel_rfl) (v := ?v36) ?y36 ?r36
                  case y36 => (intro u hu; go_simp; try rfl)
                  simp only [Act.put, List.setIfInBounds_toArray, List.set_cons_zero, List.set_cons_succ]
                  refine take_held 9 S1 rfl (by kernel_rfl) (by kernel_rfl) (by kernel_rfl) (fun _ _ _ h => h) (by kernel_rfl) (v := ?v37) ?y37 ?r37
                  case y37 => (intro u hu; go_simp; try rfl)
                  simp only [Act.put, List.setIfInBounds_toArray, List.set_cons_zero, List.set_cons_succ]
                  refine take_held 10 S1 rfl (by kernel_rfl) (by kernel_rfl) (by kernel_rfl) (fun _ _ _ h => h) (by kernel_rfl) (v := ?v38) ?y38 ?r38
                  case y38 => (intro u hu; go_simp; try rfl)
                  simp only [Act.put, List.setIfInBounds_toArray, List.set_cons_zero, List.set_cons_succ]
                  refine take_held 11 S1 rfl (by kernel_rfl) (by kernel_rfl) (by kernel_rfl) (fun _ _ _ h => h) (by kernel_rfl) (v := .bool false) ?y39 ?r39
                  case y39 => (intro u hu; go_simp <;> first | rfl | (have := HK0.out; omega))
                  simp only [Act.put, List.setIfInBounds_toArray, List.set_cons_zero, List.set_cons_succ]
                  refine take_held 12 S1 rfl (by kernel_rfl) (by kernel_rfl) (by kernel_rfl) (fun _ _ _ h => h) (by kernel_rfl) (v := ?v40) ?y40 ?r40
                  case y40 => (intro u hu; go_simp; try rfl)
                  simp only [Act.put, List.setIfInBounds_toArray, List.set_cons_zero, List.set_cons_succ]
                  refine skip_held 13 S1 rfl (by kernel_rfl) (by kernel_rfl) (by kernel_rfl) (fun _ _ _ h => h) (by kernel_rfl) ?_
                  simp only [Act.put, List.setIfInBounds_toArray, List.set_cons_zero, List.set_cons_succ]
                  refine skip_held 14 S1 rfl (by kernel_rfl) (by kernel_rfl) (by kernel_rfl) (fun _ _ _ h => h) (by kernel_rfl) ?_
                  simp only [Act.put, List.setIfInBounds_toArray, List.set_cons_zero, List.set_cons_succ]
                  refine skip_held 15 S1 rfl (by kernel_rfl) (by kernel_rfl) (by kernel_rfl) (fun _ _ _ h => h) (by kernel_rfl) ?_
                  simp only [Act.put, List.setIfInBounds_toArray, List.set_cons_zero, List.set_cons_succ]
                  refine skip_held 16 S1 rfl (by kernel_rfl) (by kernel_rfl) (by kernel_rfl) (fun _ _ _ h => h) (by kernel_rfl) ?_
                  simp only [Act.put, List.setIfInBounds_toArray, List.set_cons_zero, List.set_cons_succ]
                  refine skip_held 17 S1 rfl (by kernel_rfl) (by kernel_rfl) (by kernel_rfl) (fun _ _ _ h => h) (by kernel_rfl) ?_
                  simp only [Act.put, List.setIfInBounds_toArray, List.set_cons_zero, List.set_cons_succ]
                  refine skip_held 18 S1 rfl (by kernel_rfl) (by kernel_rfl) (by kernel_rfl) (fun _ _ _ h => h) (by kernel_rfl) ?_
                  simp only [Act.put, List.setIfInBounds_toArray, List.set_cons_zero, List.set_cons_succ]
                  refine skip_held 19 S1 rfl (by kernel_rfl) (by kernel_rfl) (by kernel_rfl) (fun _ _ _ h => h) (by kernel_rfl) ?_
                  simp only [Act.put, List.setIfInBounds_toArray, List.set_cons_zero, List.set_cons_succ]
                  refine skip_held 20 S1 rfl (by kernel_rfl) (by kernel_rfl) (by kernel_rfl) (fun _ _ _ h => h) (by kernel_rfl) ?_
                  simp only [Act.put, List.setIfInBounds_toArray, List.set_cons_zero, List.set_cons_succ]
                  refine skip_held 21 S1 rfl (by kernel_rfl) (by kernel_rfl) (by kernel_rfl) (fun _ _ _ h => h) (by kernel_rfl) ?_
                  simp only [Act.put, List.setIfInBounds_toArray, List.set_cons_zero, List.set_cons_succ]
                  refine skip_held 22 S1 rfl (by kernel_rfl) (by kernel_rfl) (by kernel_rfl) (fun _ _ _ h => h) (by kernel_rfl) ?_
                  simp only [Act.put, List.setIfInBounds_toArray, List.set_cons_zero, List.set_cons_succ]
                  refine skip_held 23 S1 rfl (by kernel_rfl) (by kernel_rfl) (by kernel_rfl) (fun _ _ _ h => h) (by kernel_rfl) ?_
                  simp only [Act.put, List.setIfInBounds_toArray, List.set_cons_zero, List.set_cons_succ]
                  refine skip_held 24 S1 rfl (by kernel_rfl) (by kernel_rfl) (by kernel_rfl) (fun _ _ _ h => h) (by kernel_rfl) ?_
                  simp only [Act.put, List.setIfInBounds_toArray, List.set_cons_zero, List.set_cons_succ]
                  refine skip_held 25 S1 rfl (by kernel_rfl) (by kernel_rfl) (by kernel_rfl) (fun _ _ _ h => h) (by kernel_rfl) ?_
                  simp only [Act.put, List.setIfInBounds_toArray, List.set_cons_zero, List.set_cons_succ]
                  refine skip_held 26 S1 rfl (by kernel_rfl) (by kernel_rfl) (by kernel_rfl) (fun _ _ _ h => h) (by kernel_rfl) ?_
                  simp only [Act.put, List.setIfInBounds_toArray, List.set_cons_zero, List.set_cons_succ]
                  refine take_held 27 S1 rfl (by kernel_rfl) (by kernel_rfl) (by kernel_rfl) (fun _ _ _ h => h) (by kernel_rfl) (v := ?v41) ?y41 ?r41
                  case y41 => (intro u hu; go_simp; try rfl)
                  simp only [Act.put, List.setIfInBounds_toArray, List.set_cons_zero, List.set_cons_succ]
                  refine take_held 28 S1 rfl (by kernel_rfl) (by kernel_rfl) (by kernel_rfl) (fun _ _ _ h => h) (by kernel_rfl) (v := ?v42) ?y42 ?r42
                  case y42 => (intro u hu; go_simp; try rfl)
                  simp only [Act.put, List.setIfInBounds_toArray, List.set_cons_zero, List.set_cons_succ]
                  refine done_held (by kernel_rfl) ?_ _
                  go_wp2_with fail
                  go_roundw
                  case rel => exact ⟨k + 1, by omega, by go_num, bcat HB.out S1 (Nat.le_refl _)⟩
                  case measure => simp only [intOf]; omega
                · obtain ⟨kj, hkj⟩ : ∃ kj, k = kj + 1 := ⟨k - 1, by omega⟩
                  have hjL : kj < Ls.length := by omega
                  have hrise := List.pairwise_iff_getElem.1 HBx.out.rise kj k hjL hkL (by omega)
                  obtain ⟨pa2, cap3, hv2, hrd2⟩ := own_item own9 hjL
                  obtain rfl : pa = pa2 := by injection hv2 with h1 h2 h3; injection h1
                  have hng2 := num_grid HSD.out.1 HSD.out.2 (HBx.out.inn (Ls[kj]'hjL) (List.getElem_mem hjL))
                  have HK : Hid (∀ u, Below wr.heap.size wr u → ∀ j z, #[Value.int .i64 (Ls[k]'hkL).1, .int .i64 (Ls[k]'hkL).2][j]? = some z → u.cell? ((pa.add (k * 2)).add j) = some z) := fun u hu j z hj => cell_below (hrd j z hj) hu
                  have HJ : Hid (∀ u, Below wr.heap.size wr u → ∀ j z, #[Value.int .i64 (Ls[kj]'hjL).1, .int .i64 (Ls[kj]'hjL).2][j]? = some z → u.cell? ((pa.add (kj * 2)).add j) = some z) := fun u hu j z hj => cell_below (hrd2 j z hj) hu
                  generalize Ls[k]'hkL = ck at *
                  generalize Ls[kj]'hjL = cj at *
                  obtain ⟨nk, hnk⟩ : ∃ nk, numN c.W ck = nk := ⟨_, rfl⟩
                  obtain ⟨nj, hnj⟩ : ∃ nj, numN c.W cj = nj := ⟨_, rfl⟩
                  have hlt9 : nj < nk := by
                    have q1 := hng.2.2
                    have q2 := hng2.2.2
                    unfold numN at hnk hnj
                    omega
                  rw [hnk] at hng hfl
                  rw [hnj] at hng2
                  have HNk : Hid (∀ u, Below wr.heap.size wr u → Calls Try.prog 31 #[.pointer (some ⟨g, 0, none⟩), .agg #[.int .i64 ck.1, .int .i64 ck.2]] u fun e w' => ∃ v, e = .returned v ∧ (v = .int .i64 (nk : Nat) ∧ Below u.heap.size u w')) := fun u hu => by
                    have := number_any g u0 c.W c.H G.uses v' ck.1 ck.2 u (HG.out _ _ _ (S9.go hu))
                    rw [show number c.W c.H (ck.1, ck.2) = (nk : Int) from hng.1] at this
                    exact ret_of this
                  have HNj : Hid (∀ u, Below wr.heap.size wr u → Calls Try.prog 31 #[.pointer (some ⟨g, 0, none⟩), .agg #[.int .i64 cj.1, .int .i64 cj.2]] u fun e w' => ∃ v, e = .returned v ∧ (v = .int .i64 (nj : Nat) ∧ Below u.heap.size u w')) := fun u hu => by
                    have := number_any g u0 c.W c.H G.uses v' cj.1 cj.2 u (HG.out _ _ _ (S9.go hu))
                    rw [show number c.W c.H (cj.1, cj.2) = (nj : Int) from hng2.1] at this
                    exact ret_of this
                  have hnk3 : (nk : Int) < 256 := by omega
                  have HFl : Hid (∀ u, Below wr.heap.size wr u → u.cell? ⟨w4.heap.size + 2, nk, none⟩ = some (.bool true)) := fun u hu => by
                    rw [cell_of (S9.go hu).ba nk, flags_at bs nk (by have := S9.len; omega), hfl]
                  have w1' : (k : Int) - 1 = (kj : Int) := by omega
                  have w1'' : IntKind.i64.wrap (kj : Int) = (kj : Int) := by rw [IntKind.wrap_i64]; omega
                  have hjn : (kj : Int) < (LL : Int) := by omega
                  clear hv own9 hrd hng hnk hfl S9 hkj hv2 hrd2 hng2 hnj hrise
                  go_upto_region 40 with fail
                  refine start_held (S := fun u => Below wr.heap.size wr u) 29 rfl (by kernel_rfl) (S0) ?_
                  simp only [Array.replicate_succ, Array.replicate_zero, List.push_toArray, List.nil_append, List.cons_append]
                  refine take_held 0 S0 rfl (by kernel_rfl) (by kernel_rfl) (by kernel_rfl) (fun _ _ _ h => h) (by kernel_rfl) (v := ?v43) ?y43 ?r43
                  case y43 => (intro u hu; go_simp; try rfl)
                  simp only [Act.put, List.setIfInBounds_toArray, List.set_cons_zero, List.set_cons_succ]
                  refine take_held 1 S0 rfl (by kernel_rfl) (by kernel_rfl) (by kernel_rfl) (fun _ _ _ h => h) (by kernel_rfl) (v := ?v44) ?y44 ?r44
                  case y44 => (intro u hu; go_simp; try rfl)
                  simp only [Act.put, List.setIfInBounds_toArray, List.set_cons_zero, List.set_cons_succ]
                  refine take_held 2 S0 rfl (by kernel_rfl) (by kernel_rfl) (by kernel_rfl) (fun _ _ _ h => h) (by kernel_rfl) (v := ?v45) ?y45 ?r45
                  case y45 => (intro u hu; go_simp; try rfl)
                  simp only [Act.put, List.setIfInBounds_toArray, List.set_cons_zero, List.set_cons_succ]
                  refine take_held 3 S0 rfl (by kernel_rfl) (by kernel_rfl) (by kernel_rfl) (fun _ _ _ h => h) (by kernel_rfl) (v := ?v46) ?y46 ?r46
                  case y46 => (intro u hu; go_simp; try rfl)
                  simp only [Act.put, List.setIfInBounds_toArray, List.set_cons_zero, List.set_cons_succ]
                  refine take_held 4 S0 rfl (by kernel_rfl) (by kernel_rfl) (by kernel_rfl) (fun _ _ _ h => h) (by kernel_rfl) (v := .agg #[.int .i64 ck.1, .int .i64 ck.2]) ?y47 ?r47
                  case y47 => (intro u hu; exact run_load_op 28 _ rfl (pa.add (k * 2)) _ rfl (HK.out u hu) (aggCell u) infoCell2)
                  simp only [Act.put, List.setIfInBounds_toArray, List.set_cons_zero, List.set_cons_succ]
                  refine wpAnyH_ready (rs := [5]) (by kernel_rfl) (by simp) (AllReadyH.cons ((nth_eq _ 5).trans rfl) ?_ AllReadyH.nil)
                  intro K' hK
                  refine call_in hK (by kernel_rfl) 31 #[.pointer (some ⟨g, 0, none⟩), .agg #[.int .i64 ck.1, .int .i64 ck.2]] (by go_simp) _ (HNk.out _ S0) ?_
                  rintro v1 x1 ⟨rfl, b1⟩
                  have S1 : Below wr.heap.size wr x1 := bcat S0 b1 (Nat.le_refl _)
                  refine ⟨S1, ?_⟩
                  simp only [Act.put, List.setIfInBounds_toArray, List.set_cons_zero, List.set_cons_succ]
                  refine take_held 6 S1 rfl (by kernel_rfl) (by kernel_rfl) (by kernel_rfl) (fun _ _ _ h => h) (by kernel_rfl) (v := ?v48) ?y48 ?r48
                  case y48 => (intro u hu; go_simp; try rfl)
                  simp only [Act.put, List.setIfInBounds_toArray, List.set_cons_zero, List.set_cons_succ]
                  refine take_held 7 S1 rfl (by kernel_rfl) (by kernel_rfl) (by kernel_rfl) (fun _ _ _ h => h) (by kernel_rfl) (v := .bool true) ?y49 ?r49
                  case y49 => (intro u hu; have zz := HFl.out u hu; go_simp; try rfl)
                  simp only [Act.put, List.setIfInBounds_toArray, List.set_cons_zero, List.set_cons_succ]
                  refine take_held 8 S1 rfl (by kernel_rfl) (by kernel_rfl) (by kernel_rfl) (fun _ _ _ h => h) (by kernel_rfl) (v := ?v50) ?y50 ?r50
                  case y50 => (intro u hu; go_simp; try rfl)
                  simp only [Act.put, List.setIfInBounds_toArray, List.set_cons_zero, List.set_cons_succ]
                  refine take_held 9 S1 rfl (by kernel_rfl) (by kernel_rfl) (by kernel_rfl) (fun _ _ _ h => h) (by kernel_rfl) (v := ?v51) ?y51 ?r51
                  case y51 => (intro u hu; go_simp; try rfl)
                  simp only [Act.put, List.setIfInBounds_toArray, List.set_cons_zero, List.set_cons_succ]
                  refine take_held 10 S1 rfl (by kernel_rfl) (by kernel_rfl) (by kernel_rfl) (fun _ _ _ h => h) (by kernel_rfl) (v := ?v52) ?y52 ?r52
                  case y52 => (intro u hu; go_simp; try rfl)
                  simp only [Act.put, List.setIfInBounds_toArray, List.set_cons_zero, List.set_cons_succ]
                  refine take_held 11 S1 rfl (by kernel_rfl) (by kernel_rfl) (by kernel_rfl) (fun _ _ _ h => h) (by kernel_rfl) (v := .bool true) ?y53 ?r53
                  case y53 => (intro u hu; go_simp <;> first | rfl | omega)
                  simp only [Act.put, List.setIfInBounds_toArray, List.set_cons_zero, List.set_cons_succ]
                  refine take_held 12 S1 rfl (by kernel_rfl) (by kernel_rfl) (by kernel_rfl) (fun _ _ _ h => h) (by kernel_rfl) (v := ?v54) ?y54 ?r54
                  case y54 => (intro u hu; go_simp; try rfl)
                  simp only [Act.put, List.setIfInBounds_toArray, List.set_cons_zero, List.set_cons_succ]
                  refine take_held 13 S1 rfl (by kernel_rfl) (by kernel_rfl) (by kernel_rfl) (fun _ _ _ h => h) (by kernel_rfl) (v := ?v55) ?y55 ?r55
                  case y55 => (intro u hu; go_simp; try rfl)
                  simp only [Act.put, List.setIfInBounds_toArray, List.set_cons_zero, List.set_cons_succ]
                  refine take_held 14 S1 rfl (by kernel_rfl) (by kernel_rfl) (by kernel_rfl) (fun _ _ _ h => h) (by kernel_rfl) (v := ?v56) ?y56 ?r56
                  case y56 => (intro u hu; go_simp; try rfl)
                  simp only [Act.put, List.setIfInBounds_toArray, List.set_cons_zero, List.set_cons_succ]
                  refine take_held 15 S1 rfl (by kernel_rfl) (by kernel_rfl) (by kernel_rfl) (fun _ _ _ h => h) (by kernel_rfl) (v := ?v57) ?y57 ?r57
                  case y57 => (intro u hu; go_simp; try rfl)
                  simp only [Act.put, List.setIfInBounds_toArray, List.set_cons_zero, List.set_cons_succ]
                  refine take_held 16 S1 rfl (by kernel_rfl) (by kernel_rfl) (by kernel_rfl) (fun _ _ _ h => h) (by kernel_rfl) (v := ?v58) ?y58 ?r58
                  case y58 => (intro u hu; go_simp; try rfl)
                  simp only [Act.put, List.setIfInBounds_toArray, List.set_cons_zero, List.set_cons_succ]
                  refine take_held 17 S1 rfl (by kernel_rfl) (by kernel_rfl) (by kernel_rfl) (fun _ _ _ h => h) (by kernel_rfl) (v := .agg #[.int .i64 ck.1, .int .i64 ck.2]) ?y59 ?r59
                  case y59 => (intro u hu; exact run_load_op 28 _ rfl (pa.add (k * 2)) _ rfl (HK.out u hu) (aggCell u) infoCell2)
                  simp only [Act.put, List.setIfInBounds_toArray, List.set_cons_zero, List.set_cons_succ]
                  refine take_held 19 S1 rfl (by kernel_rfl) (by kernel_rfl) (by kernel_rfl) (fun _ _ _ h => h) (by kernel_rfl) (v := ?v60) ?y60 ?r60
                  case y60 => (intro u hu; go_simp; try rfl)
                  simp only [Act.put, List.setIfInBounds_toArray, List.set_cons_zero, List.set_cons_succ]
                  refine take_held 20 S1 rfl (by kernel_rfl) (by kernel_rfl) (by kernel_rfl) (fun _ _ _ h => h) (by kernel_rfl) (v := ?v61) ?y61 ?r61
                  case y61 => (intro u hu; go_simp; try rfl)
                  simp only [Act.put, List.setIfInBounds_toArray, List.set_cons_zero, List.set_cons_succ]
                  refine take_held 21 S1 rfl (by kernel_rfl) (by kernel_rfl) (by kernel_rfl) (fun _ _ _ h => h) (by kernel_rfl) (v := ?v62) ?y62 ?r62
                  case y62 => (intro u hu; go_simp; try rfl)
                  simp only [Act.put, List.setIfInBounds_toArray, List.set_cons_zero, List.set_cons_succ]
                  refine take_held 22 S1 rfl (by kernel_rfl) (by kernel_rfl) (by kernel_rfl) (fun _ _ _ h => h) (by kernel_rfl) (v := ?v63) ?y63 ?r63
                  case y63 => (intro u hu; go_simp; try rfl)
                  simp only [Act.put, List.setIfInBounds_toArray, List.set_cons_zero, List.set_cons_succ]
                  refine take_held 23 S1 rfl (by kernel_rfl) (by kernel_rfl) (by kernel_rfl) (fun _ _ _ h => h) (by kernel_rfl) (v := ?v64) ?y64 ?r64
                  case y64 => (intro u hu; go_simp; try rfl)
                  simp only [Act.put, List.setIfInBounds_toArray, List.set_cons_zero, List.set_cons_succ]
                  refine take_held 24 S1 rfl (by kernel_rfl) (by kernel_rfl) (by kernel_rfl) (fun _ _ _ h => h) (by kernel_rfl) (v := .agg #[.int .i64 cj.1, .int .i64 cj.2]) ?y65 ?r65
                  case y65 => (intro u hu; exact run_load_op 28 _ rfl (pa.add (kj * 2)) _ rfl (HJ.out u hu) (aggCell u) infoCell2)
                  simp only [Act.put, List.setIfInBounds_toArray, List.set_cons_zero, List.set_cons_succ]
                  refine wpAnyH_ready (rs := [18]) (by kernel_rfl) (by simp) (AllReadyH.cons ((nth_eq _ 18).trans rfl) ?_ AllReadyH.nil)
                  intro K' hK
                  refine call_in hK (by kernel_rfl) 31 #[.pointer (some ⟨g, 0, none⟩), .agg #[.int .i64 ck.1, .int .i64 ck.2]] (by go_simp) _ (HNk.out _ S1) ?_
                  rintro v2 x2 ⟨rfl, b2⟩
                  have S2 : Below wr.heap.size wr x2 := bcat S1 b2 (Nat.le_refl _)
                  refine ⟨S2, ?_⟩
                  simp only [Act.put, List.setIfInBounds_toArray, List.set_cons_zero, List.set_cons_succ]
                  refine wpAnyH_ready (rs := [25]) (by kernel_rfl) (by simp) (AllReadyH.cons ((nth_eq _ 25).trans rfl) ?_ AllReadyH.nil)
                  intro K' hK
                  refine call_in hK (by kernel_rfl) 31 #[.pointer (some ⟨g, 0, none⟩), .agg #[.int .i64 cj.1, .int .i64 cj.2]] (by go_simp) _ (HNj.out _ S2) ?_
                  rintro v3 x3 ⟨rfl, b3⟩
                  have S3 : Below wr.heap.size wr x3 := bcat S2 b3 (Nat.le_refl _)
                  refine ⟨S3, ?_⟩
                  simp only [Act.put, List.setIfInBounds_toArray, List.set_cons_zero, List.set_cons_succ]
                  refine take_held 26 S3 rfl (by kernel_rfl) (by kernel_rfl) (by kernel_rfl) (fun _ _ _ h => h) (by kernel_rfl) (v := .bool false) ?y66 ?r66
                  case y66 => (intro u hu; go_simp <;> first | rfl | omega)
                  simp only [Act.put, List.setIfInBounds_toArray, List.set_cons_zero, List.set_cons_succ]
                  refine take_held 27 S3 rfl (by kernel_rfl) (by kernel_rfl) (by kernel_rfl) (fun _ _ _ h => h) (by kernel_rfl) (v := ?v67) ?y67 ?r67
                  case y67 => (intro u hu; go_simp; try rfl)
                  simp only [Act.put, List.setIfInBounds_toArray, List.set_cons_zero, List.set_cons_succ]
                  refine take_held 28 S3 rfl (by kernel_rfl) (by kernel_rfl) (by kernel_rfl) (fun _ _ _ h => h) (by kernel_rfl) (v := ?v68) ?y68 ?r68
                  case y68 => (intro u hu; go_simp; try rfl)
                  simp only [Act.put, List.setIfInBounds_toArray, List.set_cons_zero, List.set_cons_succ]
                  refine done_held (by kernel_rfl) ?_ _
                  go_wp2_with fail
                  go_roundw
                  case rel => exact ⟨k + 1, by omega, by go_num, bcat HB.out S3 (Nat.le_refl _)⟩
                  case measure => simp only [intOf]; omega
              · have hd2 : decide ((k : Int) < (LL : Int)) = false := decide_eq_false (by omega)
                have S9 := HS8.out.go HB.out
                have hq9 : wr.heap[w4.heap.size + 3]? = some (.cells #[.int .i64 qx, .int .i64 qy, .bool qd] 30 (0, 0)) := S9.bq
                have ht9 : wr.heap[w4.heap.size]? = some (.cells #[.int .i64 qx, .int .i64 qy, .bool qd] 30 (0, 0)) := S9.bto
                have HB9 : Hid (Below w4.heap.size w4 wr) := S9.below
                clear S9
                go_wp2_with (first
                  | (refine wpList_load_row rfl 30 (.tmp 16) rfl (w4.heap.size + 3) rfl 30 #[.int .i64 qx, .int .i64 qy, .bool qd] (0, 0) _ hq9 Try.underlying30 rfl info_pose3 ?_)
                  | (refine wpList_load_row rfl 30 (.tmp 11) rfl (w4.heap.size) rfl 30 #[.int .i64 qx, .int .i64 qy, .bool qd] (0, 0) _ ht9 Try.underlying30 rfl info_pose3 ?_)
                  | (go_at_call 18; refine (awake_any _).mono ?_; rintro e wa ⟨rfl, ba⟩))
                go_ret
                exact ⟨rfl, bcat HBe.out (bcat HB9.out ba (Nat.le_refl _)) (Nat.le_refl _)⟩
end Go.Proofs.Ytnaojlngdfolaaa.Grid
