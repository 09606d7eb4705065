/-
  The cells of a grid, row by row, that lie in a box: they are the box.
  What a move sweeps, in plain words: the cells of the chapter's list are the box.
  The chapter's own answer, further: the cells that a move sweeps.
  The chapter's own answer, further: the cells that a legal move sweeps.
  What a move sweeps: the code's answer and the chapter's, legal or not.
-/
import Derived.Test.YtnaojlngdfolaaaGridRuns
import Derived.Test.YtnaojlngdfolaaaGridRLegal2
namespace Go.Proofs.Ytnaojlngdfolaaa.Grid
set_option linter.unusedVariables false
set_option linter.unusedSimpArgs false
open Go Go.RowKit Go.Shelf Go.Proofs

theorem filter_range (a : Nat) : ∀ n b : Nat, a ≤ b → b ≤ n → (List.range n).filter (fun i => decide (a ≤ i ∧ i < b)) = List.range' a (b - a)
  | 0, b, h1, h2 => by
    obtain rfl : b = 0 := by omega
    obtain rfl : a = 0 := by omega
    rfl
  | n + 1, b, h1, h2 => by
    rw [List.range_succ, List.filter_append]
    by_cases hb : b ≤ n
    · rw [filter_range a n b h1 hb, List.filter_cons_of_neg (by simp; omega)]
      simp
    · obtain rfl : b = n + 1 := by omega
      by_cases ha : a ≤ n
      · have e : (List.range n).filter (fun i => decide (a ≤ i ∧ i < n + 1)) = (List.range n).filter (fun i => decide (a ≤ i ∧ i < n)) := by
          refine List.filter_congr fun i hi => ?_
          have := List.mem_range.1 hi
          exact decide_eq_decide.2 (by omega)
        rw [e, filter_range a n n ha (Nat.le_refl _), List.filter_cons_of_pos (by simp; omega)]
        rw [show n + 1 - a = (n - a) + 1 by omega, List.range'_concat]
        simp
        omega
      · obtain rfl : a = n + 1 := by omega
        rw [List.filter_cons_of_neg (by simp)]
        have e : (List.range n).filter (fun i => decide (n + 1 ≤ i ∧ i < n + 1)) = [] := by
          rw [List.filter_eq_nil_iff]
          intro i hi
          simp
          try omega
        rw [e]
        simp
/- The cells of a row, and of the grid, that P takes. -/
def gridRow (W : Nat) (y : Int) (P : Cell → Bool) : List Cell := ((List.range W).map (fun (x : Nat) => ((x : Int), y))).filter P
def gridCells (W H : Nat) (P : Cell → Bool) : List Cell := (List.range H).flatMap (fun (y : Nat) => gridRow W (y : Int) P)
theorem flatMap_if {α β : Type} (p : α → Bool) (f : α → List β) : ∀ l : List α, l.flatMap (fun i => if p i = true then f i else []) = (l.filter p).flatMap f
  | [] => rfl
  | a :: l => by
    rw [List.flatMap_cons, flatMap_if p f l]
    cases h : p a
    · rw [List.filter_cons_of_neg (by rw [h]; simp)]
      simp
    · rw [List.filter_cons_of_pos h, List.flatMap_cons]
      simp
theorem gridRow_box {W : Nat} {x0 y0 x1 y1 : Int} (h0 : 0 ≤ x0) (h1 : x0 ≤ x1) (h2 : x1 < W) (y : Int) : gridRow W y (fun c => decide (c ∈ boxList x0 y0 x1 y1)) = if decide (y0 ≤ y ∧ y ≤ y1) = true then row x0 y (x1 + 1 - x0).toNat else [] := by
  unfold gridRow
  rw [List.filter_map]
  by_cases hy : y0 ≤ y ∧ y ≤ y1
  · rw [if_pos (decide_eq_true hy)]
    have e : ((fun c => decide (c ∈ boxList x0 y0 x1 y1)) ∘ fun (x : Nat) => ((x : Int), y)) = fun i : Nat => decide (x0.toNat ≤ i ∧ i < (x1 + 1).toNat) := by
      funext i
      show decide (((i : Int), y) ∈ boxList x0 y0 x1 y1) = _
      rw [decide_eq_decide, mem_boxList]
      simp only
      omega
    rw [e, filter_range _ _ _ (by omega) (by omega), List.range'_eq_map_range, List.map_map]
    unfold row
    rw [show (x1 + 1).toNat - x0.toNat = (x1 + 1 - x0).toNat by omega]
    refine List.map_congr_left fun k _ => ?_
    show (((x0.toNat + k : Nat) : Int), y) = (x0 + (k : Int), y)
    rw [show ((x0.toNat + k : Nat) : Int) = x0 + (k : Int) by omega]
  · rw [if_neg (by rw [decide_eq_true_eq]; exact hy)]
    rw [List.map_eq_nil_iff, List.filter_eq_nil_iff]
    intro i _
    show ¬ decide (((i : Int), y) ∈ boxList x0 y0 x1 y1) = true
    rw [decide_eq_true_eq, mem_boxList]
    simp only
    omega
theorem gridCells_box {W H : Nat} {x0 y0 x1 y1 : Int} (h0 : 0 ≤ x0) (h1 : x0 ≤ x1) (h2 : x1 < W) (h3 : 0 ≤ y0) (h4 : y0 ≤ y1) (h5 : y1 < H) : gridCells W H (fun c => decide (c ∈ boxList x0 y0 x1 y1)) = boxList x0 y0 x1 y1 := by
  unfold gridCells
  have e : (fun y : Nat => gridRow W (y : Int) (fun c => decide (c ∈ boxList x0 y0 x1 y1))) = fun y : Nat => if decide (y0.toNat ≤ y ∧ y < (y1 + 1).toNat) = true then row x0 (y : Int) (x1 + 1 - x0).toNat else [] := by
    funext y
    rw [gridRow_box h0 h1 h2, show decide (y0 ≤ (y : Int) ∧ (y : Int) ≤ y1) = decide (y0.toNat ≤ y ∧ y < (y1 + 1).toNat) from decide_eq_decide.2 (by omega)]
  rw [e, flatMap_if (fun y : Nat => decide (y0.toNat ≤ y ∧ y < (y1 + 1).toNat)), filter_range _ _ _ (by omega) (by omega), List.range'_eq_map_range, List.flatMap_map]
  unfold boxList rows
  rw [show (y1 + 1).toNat - y0.toNat = (y1 + 1 - y0).toNat by omega]
  refine congrArg List.flatten (List.map_congr_left fun k _ => ?_)
  rw [show ((y0.toNat + k : Nat) : Int) = y0 + (k : Int) by omega]
theorem gridRow_len (W : Nat) (y : Int) (P : Cell → Bool) : (gridRow W y P).length ≤ W := by
  unfold gridRow
  refine Nat.le_trans (List.length_filter_le _ _) ?_
  simp
theorem gridCells_nil (W : Nat) (P : Cell → Bool) : gridCells W 0 P = [] := rfl
theorem gridRow_nil (y : Int) (P : Cell → Bool) : gridRow 0 y P = [] := rfl
theorem gridRow_succ (W : Nat) (y : Int) (P : Cell → Bool) : gridRow (W + 1) y P = gridRow W y P ++ (if P ((W : Int), y) = true then [((W : Int), y)] else []) := by
  unfold gridRow
  rw [List.range_succ, List.map_append, List.filter_append]
  congr 1
  cases h : P ((W : Int), y)
  · simp [h]
  · simp [h]
theorem gridCells_succ (W H : Nat) (P : Cell → Bool) : gridCells W (H + 1) P = gridCells W H P ++ gridRow W (H : Int) P := by
  unfold gridCells
  rw [List.range_succ, List.flatMap_append]
  simp
theorem gridCells_len (W : Nat) (P : Cell → Bool) : ∀ H : Nat, (gridCells W H P).length ≤ W * H
  | 0 => Nat.le_refl _
  | H + 1 => by
    rw [gridCells_succ, List.length_append, Nat.mul_succ]
    exact Nat.add_le_add (gridCells_len W P H) (gridRow_len W _ P)
theorem list_lone {w : World} {g : Nat} {p q : Int} (h : w.heap[g]? = some (.cells #[.int .i64 p, .int .i64 q] 28 (0, 0))) : ListAt 2 cellEl (fun b => b = g) [(p, q)] (.slice (some ⟨g, 0, none⟩) 1 1) w := by
  refine ⟨some ⟨g, 0, none⟩, 1, [((p, q), #[.int .i64 p, .int .i64 q])], rfl, rfl, fun y hy => ?_, fun i hi => ⟨_, rfl, rfl, fun j u hj => ?_⟩, fun h => by cases h⟩
  · simp at hy
    rw [hy]; rfl
  · rw [Addr.add_lit, Nat.zero_add, cell_of h]
    match i, hi with
    | 0, _ =>
      match j with
      | 0 => simpa using hj
      | 1 => simpa using hj
      | j + 2 => simp at hj
end Go.Proofs.Ytnaojlngdfolaaa.Grid
namespace Go.Proofs.Ytnaojlngdfolaaa.Grid
set_option linter.unusedVariables false
set_option linter.unusedSimpArgs false
open Go Go.RowKit Go.Shelf Go.Proofs

theorem box_mem {p : Pose} {d n : Int} (h1 : 0 ≤ p.1.1) (h2 : p.1.1 < 16) (h3 : 0 ≤ p.1.2) (h4 : p.1.2 < 16) (hd : 0 ≤ d ∧ d ≤ 3) (hn : 0 ≤ n ∧ n ≤ 16) : ∀ c, c ∈ boxOf p (shiftP p d n) ↔ ∃ k, 0 ≤ k ∧ k ≤ n ∧ (c = (shiftP p d k).1 ∨ c = second (shiftP p d k)) := by
  have hs := fun k (q : 0 ≤ k) (r : k ≤ 16) => shift_small (p := p) (d := d) (k := k) (by omega) (by omega) (by omega) (by omega) q r
  have hb : -1 ≤ dx d ∧ dx d ≤ 1 ∧ -1 ≤ dy d ∧ dy d ≤ 1 ∧ (dx d = 0 ∨ dy d = 0) := by
    unfold dx dy
    rcases (show d = 0 ∨ d = 1 ∨ d = 2 ∨ d = 3 by omega) with rfl | rfl | rfl | rfl <;> decide
  have hx : ∀ k, 0 ≤ k → k ≤ 16 → -16 ≤ dx d * k ∧ dx d * k ≤ 16 ∧ -16 ≤ dy d * k ∧ dy d * k ≤ 16 := fun k q r => by
    rcases (show dx d = -1 ∨ dx d = 0 ∨ dx d = 1 by omega) with e | e | e <;> rcases (show dy d = -1 ∨ dy d = 0 ∨ dy d = 1 by omega) with f | f | f <;> rw [e, f] <;> omega
  have hsec := fun k (q : 0 ≤ k) (r : k ≤ 16) => second_small (p := ((p.1.1 + dx d * k, p.1.2 + dy d * k), p.2)) (by have := hx k q r; simp only; omega) (by have := hx k q r; simp only; omega) (by have := hx k q r; simp only; omega) (by have := hx k q r; simp only; omega)
  have hp := second_small (p := p) (by omega) (by omega) (by omega) (by omega)
  intro c
  unfold boxOf spanP
  rw [mem_boxList, hs n hn.1 hn.2, hsec n hn.1 hn.2, hp]
  have hxn := hx n hn.1 hn.2
  constructor
  · rintro ⟨q1, q2, q3, q4⟩
    obtain ⟨cx, cy⟩ := c
    obtain ⟨⟨px, py⟩, pd⟩ := p
    simp only at *
    have key : ∃ k, 0 ≤ k ∧ k ≤ n ∧ ((cx, cy) = (px + dx d * k, py + dy d * k) ∨ (cx, cy) = if pd = true then (px + dx d * k, py + dy d * k + 1) else (px + dx d * k + 1, py + dy d * k)) := by
      cases pd
      · simp only [Bool.false_eq_true, if_false] at q1 q2 q3 q4 ⊢
        simp only [Prod.mk.injEq]
        rcases (show d = 0 ∨ d = 1 ∨ d = 2 ∨ d = 3 by omega) with rfl | rfl | rfl | rfl
        · simp only [show dx 0 = 0 from rfl, show dy 0 = -1 from rfl] at *
          exact ⟨py - cy, by omega, by omega, by omega⟩
        · simp only [show dx 1 = 1 from rfl, show dy 1 = 0 from rfl] at *
          by_cases q : cx - px ≤ n
          · exact ⟨cx - px, by omega, by omega, by omega⟩
          · exact ⟨n, by omega, by omega, by omega⟩
        · simp only [show dx 2 = 0 from rfl, show dy 2 = 1 from rfl] at *
          exact ⟨cy - py, by omega, by omega, by omega⟩
        · simp only [show dx 3 = -1 from rfl, show dy 3 = 0 from rfl] at *
          by_cases q : cx ≤ px
          · exact ⟨px - cx, by omega, by omega, by omega⟩
          · exact ⟨0, by omega, by omega, by omega⟩
      · simp only [if_true] at q1 q2 q3 q4 ⊢
        simp only [Prod.mk.injEq]
        rcases (show d = 0 ∨ d = 1 ∨ d = 2 ∨ d = 3 by omega) with rfl | rfl | rfl | rfl
        · simp only [show dx 0 = 0 from rfl, show dy 0 = -1 from rfl] at *
          by_cases q : cy ≤ py
          · exact ⟨py - cy, by omega, by omega, by omega⟩
          · exact ⟨0, by omega, by omega, by omega⟩
        · simp only [show dx 1 = 1 from rfl, show dy 1 = 0 from rfl] at *
          exact ⟨cx - px, by omega, by omega, by omega⟩
        · simp only [show dx 2 = 0 from rfl, show dy 2 = 1 from rfl] at *
          by_cases q : cy - py ≤ n
          · exact ⟨cy - py, by omega, by omega, by omega⟩
          · exact ⟨n, by omega, by omega, by omega⟩
        · simp only [show dx 3 = -1 from rfl, show dy 3 = 0 from rfl] at *
          exact ⟨px - cx, by omega, by omega, by omega⟩
    obtain ⟨k, k1, k2, k3⟩ := key
    refine ⟨k, k1, k2, ?_⟩
    rw [hs k k1 (by omega), hsec k k1 (by omega)]
    exact k3
  · rintro ⟨k, k1, k2, k3⟩
    rw [hs k k1 (by omega), hsec k k1 (by omega)] at k3
    have hxk := hx k k1 (by omega)
    obtain ⟨⟨px, py⟩, pd⟩ := p
    simp only at *
    rcases (show d = 0 ∨ d = 1 ∨ d = 2 ∨ d = 3 by omega) with rfl | rfl | rfl | rfl <;>
      simp only [show dx 0 = 0 from rfl, show dy 0 = -1 from rfl, show dx 1 = 1 from rfl, show dy 1 = 0 from rfl, show dx 2 = 0 from rfl, show dy 2 = 1 from rfl, show dx 3 = -1 from rfl, show dy 3 = 0 from rfl] at * <;>
      cases pd <;> simp only [Bool.false_eq_true, if_false, if_true] at * <;> rcases k3 with rfl | rfl <;> simp only <;> omega
theorem box_turn {x y : Int} {b : Bool} (h1 : 0 ≤ x) (h2 : x < 16) (h3 : 0 ≤ y) (h4 : y < 16) : ∀ c, c ∈ boxOf ((x, y), b) (turnP ((x, y), b)) ↔ c ∈ [(x, y), (x + 1, y), (x, y + 1), (x + 1, y + 1)] := by
  have hsp := second_small (p := ((x, y), b)) (by simp only; omega) (by simp only; omega) (by simp only; omega) (by simp only; omega)
  have hst := second_small (p := turnP ((x, y), b)) (by show -200 ≤ x; omega) (by show x ≤ 200; omega) (by show -200 ≤ y; omega) (by show y ≤ 200; omega)
  rintro ⟨cx, cy⟩
  unfold boxOf spanP
  rw [hsp, hst, mem_boxList]
  simp only [List.mem_cons, Prod.mk.injEq, List.not_mem_nil, or_false]
  cases b <;> simp [turnP] <;> omega
theorem box_still {x y : Int} {b : Bool} (h1 : 0 ≤ x) (h2 : x < 16) (h3 : 0 ≤ y) (h4 : y < 16) : ∀ c, c ∈ boxOf ((x, y), b) ((x, y), b) ↔ c ∈ [(x, y), second ((x, y), b)] := by
  have hsp := second_small (p := ((x, y), b)) (by simp only; omega) (by simp only; omega) (by simp only; omega) (by simp only; omega)
  rintro ⟨cx, cy⟩
  unfold boxOf spanP
  rw [hsp, mem_boxList]
  simp only [List.mem_cons, Prod.mk.injEq, List.not_mem_nil, or_false]
  cases b <;> simp <;> omega
/- A legal move's box lies in the grid. -/
theorem legal_in {W H : Int} {us : List Int} {m : Move} (hW : W ≤ 16) (hH : H ≤ 16) (hl : legalU W H us m = true) : fitsU W H us m.2.2.2.1 = true ∧ (∀ c ∈ boxOf m.2.2.2.1 m.2.2.2.2.1, In W H c) := by
  unfold legalU at hl
  simp only [Bool.and_eq_true, decide_eq_true_eq] at hl
  obtain ⟨⟨⟨a, b⟩, c⟩, d⟩ := hl
  refine ⟨c, ?_⟩
  rw [b]
  exact fun q hq => open_in (List.all_eq_true.1 d q hq)
theorem cells_box {WN HN : Nat} {a b : Pose} (hin : ∀ c ∈ boxOf a b, In (WN : Int) (HN : Int) c) (hne : (spanP a b).1.1 ≤ (spanP a b).2.1 ∧ (spanP a b).1.2 ≤ (spanP a b).2.2) (As : List Cell) (hm : ∀ q, q ∈ As ↔ q ∈ boxOf a b) : gridCells WN HN (fun q => decide (q ∈ As)) = boxOf a b := by
  have e : (fun q => decide (q ∈ As)) = fun q => decide (q ∈ boxOf a b) := funext fun q => decide_eq_decide.2 (hm q)
  rw [e]
  have c1 := hin ((spanP a b).1.1, (spanP a b).1.2) (by unfold boxOf; rw [mem_boxList]; simp only; omega)
  have c2 := hin ((spanP a b).2.1, (spanP a b).2.2) (by unfold boxOf; rw [mem_boxList]; simp only; omega)
  obtain ⟨p1, p2, p3, p4⟩ := c1
  obtain ⟨q1, q2, q3, q4⟩ := c2
  simp only at p1 p2 p3 p4 q1 q2 q3 q4
  unfold boxOf
  exact gridCells_box p1 hne.1 q2 p3 hne.2 q4
theorem span_le {a b : Pose} (h1 : 0 ≤ a.1.1) (h2 : a.1.1 < 16) (h3 : 0 ≤ a.1.2) (h4 : a.1.2 < 16) : (spanP a b).1.1 ≤ (spanP a b).2.1 ∧ (spanP a b).1.2 ≤ (spanP a b).2.2 := by
  have hsp := second_small (p := a) (by omega) (by omega) (by omega) (by omega)
  unfold spanP
  rw [hsp]
  cases h : a.2 <;> simp <;> omega
/- The cells of the poses ahead of k of a run, pose by pose. -/
def runCells (p : Pose) (d : Int) (k : Nat) : List Cell := (List.range k).flatMap fun (i : Nat) => [(shiftP p d (i : Int)).1, second (shiftP p d (i : Int))]
theorem runCells_succ (p : Pose) (d : Int) (k : Nat) : runCells p d (k + 1) = runCells p d k ++ [(shiftP p d (k : Int)).1, second (shiftP p d (k : Int))] := by
  unfold runCells
  rw [List.range_succ, List.flatMap_append]
  simp
theorem runCells_len (p : Pose) (d : Int) : ∀ k : Nat, (runCells p d k).length = 2 * k
  | 0 => rfl
  | k + 1 => by rw [runCells_succ, List.length_append, runCells_len p d k]; simp; omega
theorem runCells_mem (p : Pose) (d : Int) (n : Nat) (c : Cell) : c ∈ runCells p d (n + 1) ↔ ∃ k : Int, 0 ≤ k ∧ k ≤ (n : Int) ∧ (c = (shiftP p d k).1 ∨ c = second (shiftP p d k)) := by
  unfold runCells
  rw [List.mem_flatMap]
  constructor
  · rintro ⟨i, hi, hc⟩
    have := List.mem_range.1 hi
    simp only [List.mem_cons, List.not_mem_nil, or_false] at hc
    exact ⟨(i : Int), by omega, by omega, hc⟩
  · rintro ⟨k, k1, k2, hc⟩
    refine ⟨k.toNat, List.mem_range.2 (by omega), ?_⟩
    rw [show ((k.toNat : Nat) : Int) = k by omega]
    simp only [List.mem_cons, List.not_mem_nil, or_false]
    exact hc
end Go.Proofs.Ytnaojlngdfolaaa.Grid
namespace Go.Proofs.Ytnaojlngdfolaaa.Grid
set_option linter.unusedVariables false
set_option linter.unusedSimpArgs false
open Go Go.RowKit Go.Shelf Go.Proofs
attribute [local go_sem] Oper.semAt_some

theorem below_row2 {w w1 w2 : World} {base : Nat} {v : Value} {e : TypeId} {S n : Nat} {xs : List Value} (h : Below base w w1) (hb : base ≤ w.heap.size) (hr : w1.ownsRow base e S v n xs) (hg : w1.grownBy w2 v.ownBlock) : Below base w w2 :=
  h.grown hg (Nat.le_trans hb h.size) (fun k q => by
    rcases hr.2 with ⟨rfl, _⟩ | ⟨g, cap, cur, rfl, h3, _⟩
    · cases q
    · cases q; exact h3)
theorem old_go {c : Conf} {vb vp vr vs : Value} {w u : World} (h : ConfAt (Old w) c vb vp vr vs w) (b : Below w.heap.size w u) : ConfAt (Old u) c vb vp vr vs u :=
  have h' := h.go (fun _ h => h) b
  have k : ∀ g, Old w g → Old u g := fun g hg => Nat.lt_of_lt_of_le hg b.size
  ⟨h'.b.mono heldCell k, h'.p.mono heldCell k, h'.r.mono heldPose k, h'.s.mono heldStack k⟩
theorem rlegal_old (c : Conf) (vb vp vr vs : Value) (w : World) (hA : ConfAt (Old w) c vb vp vr vs w) (l1 : c.blocked.length ≤ 8796093022208) (l2 : c.ports.length ≤ 8796093022208) (l3 : c.robots.length ≤ 5864062014805) (l4 : c.stacks.length ≤ 3518437208880) (l5 : ∀ s ∈ c.stacks, s.2.length ≤ 17592186044416) {G : GS} (hN : newP c = some G) (m : Move) (u : World) (b : Below w.heap.size w u) : Calls Try.prog 85 #[.agg #[.int .i64 c.W, .int .i64 c.H, .int .i64 c.height, vb, vp, vr, vs, .int .i64 c.unit, .int .i64 c.accel, .int .i64 c.speed, .int .i64 c.turn, .int .i64 c.hoist, .int .i64 c.queue, .int .i64 c.resend, .int .i64 c.budget, .bool c.back], .agg (moveCs m)] u fun e w' => ∃ r, e = .returned r ∧ (r = .bool (legalU c.W c.H G.uses m) ∧ Below u.heap.size u w') :=
  rlegal_any c vb vp vr vs u (old_go hA b) l1 l2 l3 l4 l5 hN m
end Go.Proofs.Ytnaojlngdfolaaa.Grid
namespace Go.Proofs.Ytnaojlngdfolaaa.Grid
set_option linter.unusedVariables false
set_option linter.unusedSimpArgs false
open Go Go.RowKit Go.Shelf Go.Proofs
attribute [local go_sem] Oper.semAt_some

theorem pose_at {w : World} {b : Nat} {cs : Array Value} {t : TypeId} {x y : Int} {d : Bool} (h : w.heap[b]? = some (.cells cs t (0, 0))) (o : Nat) (h0 : cs[o]? = some (.int .i64 x)) (h1 : cs[o + 1]? = some (.int .i64 y)) (h2 : cs[o + 2]? = some (.bool d)) : ∀ j z, #[Value.int .i64 x, .int .i64 y, .bool d][j]? = some z → w.cell? ((⟨b, o, none⟩ : Addr).add j) = some z := by
  intro j z hj
  rw [Addr.add_lit]
  match j with
  | 0 => simp at hj; rw [← hj]; exact (cell_of h _).trans h0
  | 1 => simp at hj; rw [← hj]; exact (cell_of h _).trans h1
  | 2 => simp at hj; rw [← hj]; exact (cell_of h _).trans h2
  | j + 3 => simp at hj
theorem list_four {w : World} {g : Nat} {p q p2 q2 p3 q3 p4 q4 : Int} (h : w.heap[g]? = some (.cells #[.int .i64 p, .int .i64 q, .int .i64 p2, .int .i64 q2, .int .i64 p3, .int .i64 q3, .int .i64 p4, .int .i64 q4] 28 (0, 0))) : ListAt 2 cellEl (fun b => b = g) [(p, q), (p2, q2), (p3, q3), (p4, q4)] (.slice (some ⟨g, 0, none⟩) 4 4) w := by
  refine ⟨some ⟨g, 0, none⟩, 4, [((p, q), #[.int .i64 p, .int .i64 q]), ((p2, q2), #[.int .i64 p2, .int .i64 q2]), ((p3, q3), #[.int .i64 p3, .int .i64 q3]), ((p4, q4), #[.int .i64 p4, .int .i64 q4])], rfl, rfl, fun y hy => ?_, fun i hi => ⟨_, rfl, rfl, fun j u hj => ?_⟩, fun h => by cases h⟩
  · simp at hy
    rcases hy with rfl | rfl | rfl | rfl <;> rfl
  · rw [Addr.add_lit, Nat.zero_add, cell_of h]
    match i, hi with
    | 0, _ =>
      match j with
      | 0 => simpa using hj
      | 1 => simpa using hj
      | j + 2 => simp at hj
    | 1, _ =>
      match j with
      | 0 => simpa using hj
      | 1 => simpa using hj
      | j + 2 => simp at hj
    | 2, _ =>
      match j with
      | 0 => simpa using hj
      | 1 => simpa using hj
      | j + 2 => simp at hj
    | 3, _ =>
      match j with
      | 0 => simpa using hj
      | 1 => simpa using hj
      | j + 2 => simp at hj
theorem own_go {w w1 : World} {b : Nat} {e : TypeId} {sz n : Nat} {v : Value} {xs : List Value} (h : w.ownsRow b e sz v n xs) (hb : Below w.heap.size w w1) : w1.ownsRow b e sz v n xs := by
  refine ⟨h.1, ?_⟩
  rcases h.2 with hn | ⟨g, cap, cur, rfl, hb', hg, rest⟩
  · exact .inl hn
  · exact .inr ⟨g, cap, cur, rfl, hb', (hb.block g (lt_of_heap hg)).trans hg, rest⟩
end Go.Proofs.Ytnaojlngdfolaaa.Grid
namespace Go.Proofs.Ytnaojlngdfolaaa.Grid
set_option linter.unusedVariables false
set_option linter.unusedSimpArgs false
open Go Go.RowKit Go.Shelf Go.Proofs

/- The cells that a move sweeps: none, if it is not legal. -/
def sweptL (W H : Int) (us : List Int) (m : Move) : List Cell := if legalU W H us m = true then boxOf m.2.2.2.1 m.2.2.2.2.1 else []
theorem nil_row (w : World) (b : Nat) : w.ownsRow b 28 2 (.slice none 0 0) ([] : List Cell).length (rowL cellL []) := ⟨rfl, .inl ⟨rfl, rfl⟩⟩
theorem swept_both (g u : Nat) (W H : Int) (us : List Int) (vp : Value) (m : Move) (hW : W ≤ 16) (hH : H ≤ 16) (w : World) (hG : GridAt w g u W H us vp) :
    Calls Try.prog 30 #[.pointer (some ⟨g, 0, none⟩), .agg (moveCs m)] w fun e w' => ∃ v, e = .returned v ∧ w'.ownsRow w.heap.size 28 2 v (sweptL W H us m).length (rowL cellL (sweptL W H us m)) ∧ Below w.heap.size w w' := by
  unfold sweptL
  by_cases hl : legalU W H us m = true
  · rw [if_pos hl]
    exact swept_yes g u W H us vp m hW hH w hG hl
  · rw [if_neg hl]
    refine (swept_no g u W H us vp m w hG (by simpa using hl)).mono ?_
    rintro e w' ⟨rfl, b⟩
    exact ⟨_, rfl, nil_row _ _, b⟩
theorem sweptL_len {W H : Int} {us : List Int} {m : Move} (hW : W ≤ 16) (hH : H ≤ 16) : (sweptL W H us m).length ≤ 1000 := by
  unfold sweptL
  by_cases hl : legalU W H us m = true
  · rw [if_pos hl]
    obtain ⟨hf, hin⟩ := legal_in hW hH hl
    obtain ⟨n1, n2, n3, n4⟩ := fits_near hW hH hf
    obtain ⟨i1, i2⟩ := (fits_in hf).1
    obtain ⟨WN, hWN⟩ : ∃ n : Nat, W = n := Int.eq_ofNat_of_zero_le (by omega)
    obtain ⟨HN, hHN⟩ : ∃ n : Nat, H = n := Int.eq_ofNat_of_zero_le (by have := i2.2.2; omega)
    rw [hWN, hHN] at hin
    have hsp := span_le (b := m.2.2.2.2.1) n1 n2 n3 n4
    rw [← cells_box hin hsp _ (fun q => Iff.rfl)]
    have h1 := gridCells_len WN (fun q => decide (q ∈ boxOf m.2.2.2.1 m.2.2.2.2.1)) HN
    have h3 : WN * HN ≤ 16 * 16 := Nat.mul_le_mul (by omega) (by omega)
    omega
  · rw [if_neg hl]
    simp
end Go.Proofs.Ytnaojlngdfolaaa.Grid
