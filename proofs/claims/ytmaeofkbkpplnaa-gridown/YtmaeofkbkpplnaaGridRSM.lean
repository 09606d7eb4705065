/-
  The cells of a grid, row by row, that lie in a box: they are the box.
  What a move sweeps, in plain words: the cells of the chapter's list are the box.
  The chapter's own answer, further: the cells that a move sweeps.
  The chapter's own answer, further: the cells that a legal move sweeps.
  What a move sweeps: the code's answer and the chapter's, legal or not.
-/
import Derived.Test.YtmaeofkbkpplnaaGridRuns
import Derived.Test.YtmaeofkbkpplnaaGridRLegal2
namespace Go.Proofs.Ytmaeofkbkpplnaa.Grid
set_option linter.unusedVariables false
set_option linter.unusedSimpArgs false
open Go Go.RowKit Go.Shelf Go.Proofs

theorem filter_range (a : Nat) : ∀ n b : Nat, a ≤ b → b ≤ n → (List.range n).filter (fun i => decide (a ≤ i ∧ i < b)) = List.range' a (b - a)
  | 0, b, h1, h2 => by
    obtain rfl : b = 0 := by omega
    obtain rfl : a = 0 := by omega
    rfl
  | n + 1, b, h1, h2 => by
    rw [List.range_succ, List.filter_append]
    by_cases hb : b ≤ n
    · rw [filter_range a n b h1 hb, List.filter_cons_of_neg (by simp; omega)]
      simp
    · obtain rfl : b = n + 1 := by omega
      by_cases ha : a ≤ n
      · have e : (List.range n).filter (fun i => decide (a ≤ i ∧ i < n + 1)) = (List.range n).filter (fun i => decide (a ≤ i ∧ i < n)) := by
          refine List.filter_congr fun i hi => ?_
          have := List.mem_range.1 hi
          exact decide_eq_decide.2 (by omega)
        rw [e, filter_range a n n ha (Nat.le_refl _), List.filter_cons_of_pos (by simp; omega)]
        rw [show n + 1 - a = (n - a) + 1 by omega, List.range'_concat]
        simp
        omega
      · obtain rfl : a = n + 1 := by omega
        rw [List.filter_cons_of_neg (by simp)]
        have e : (List.range n).filter (fun i => decide (n + 1 ≤ i ∧ i < n + 1)) = [] := by
          rw [List.filter_eq_nil_iff]
          intro i hi
          simp
          try omega
        rw [e]
        simp
/- The cells of a row, and of the grid, that P takes. -/
def gridRow (W : Nat) (y : Int) (P : Cell → Bool) : List Cell := ((List.range W).map (fun (x : Nat) => ((x : Int), y))).filter P
def gridCells (W H : Nat) (P : Cell → Bool) : List Cell := (List.range H).flatMap (fun (y : Nat) => gridRow W (y : Int) P)
theorem flatMap_if {α β : Type} (p : α → Bool) (f : α → List β) : ∀ l : List α, l.flatMap (fun i => if p i = true then f i else []) = (l.filter p).flatMap f
  | [] => rfl
  | a :: l => by
    rw [List.flatMap_cons, flatMap_if p f l]
    cases h : p a
    · rw [List.filter_cons_of_neg (by rw [h]; simp)]
      simp
    · rw [List.filter_cons_of_pos h, List.flatMap_cons]
      simp
theorem gridRow_box {W : Nat} {x0 y0 x1 y1 : Int} (h0 : 0 ≤ x0) (h1 : x0 ≤ x1) (h2 : x1 < W) (y : Int) : gridRow W y (fun c => decide (c ∈ boxList x0 y0 x1 y1)) = if decide (y0 ≤ y ∧ y ≤ y1) = true then row x0 y (x1 + 1 - x0).toNat else [] := by
  unfold gridRow
  rw [List.filter_map]
  by_cases hy : y0 ≤ y ∧ y ≤ y1
  · rw [if_pos (decide_eq_true hy)]
    have e : ((fun c => decide (c ∈ boxList x0 y0 x1 y1)) ∘ fun (x : Nat) => ((x : Int), y)) = fun i : Nat => decide (x0.toNat ≤ i ∧ i < (x1 + 1).toNat) := by
      funext i
      show decide (((i : Int), y) ∈ boxList x0 y0 x1 y1) = _
      rw [decide_eq_decide, mem_boxList]
      simp only
      omega
    rw [e, filter_range _ _ _ (by omega) (by omega), List.range'_eq_map_range, List.map_map]
    unfold row
    rw [show (x1 + 1).toNat - x0.toNat = (x1 + 1 - x0).toNat by omega]
    refine List.map_congr_left fun k _ => ?_
    show (((x0.toNat + k : Nat) : Int), y) = (x0 + (k : Int), y)
    rw [show ((x0.toNat + k : Nat) : Int) = x0 + (k : Int) by omega]
  · rw [if_neg (by rw [decide_eq_true_eq]; exact hy)]
    rw [List.map_eq_nil_iff, List.filter_eq_nil_iff]
    intro i _
    show ¬ decide (((i : Int), y) ∈ boxList x0 y0 x1 y1) = true
    rw [decide_eq_true_eq, mem_boxList]
    simp only
    omega
theorem gridCells_box {W H : Nat} {x0 y0 x1 y1 : Int} (h0 : 0 ≤ x0) (h1 : x0 ≤ x1) (h2 : x1 < W) (h3 : 0 ≤ y0) (h4 : y0 ≤ y1) (h5 : y1 < H) : gridCells W H (fun c => decide (c ∈ boxList x0 y0 x1 y1)) = boxList x0 y0 x1 y1 := by
  unfold gridCells
  have e : (fun y : Nat => gridRow W (y : Int) (fun c => decide (c ∈ boxList x0 y0 x1 y1))) = fun y : Nat => if decide (y0.toNat ≤ y ∧ y < (y1 + 1).toNat) = true then row x0 (y : Int) (x1 + 1 - x0).toNat else [] := by
    funext y
    rw [gridRow_box h0 h1 h2, show decide (y0 ≤ (y : Int) ∧ (y : Int) ≤ y1) = decide (y0.toNat ≤ y ∧ y < (y1 + 1).toNat) from decide_eq_decide.2 (by omega)]
  rw [e, flatMap_if (fun y : Nat => decide (y0.toNat ≤ y ∧ y < (y1 + 1).toNat)), filter_range _ _ _ (by omega) (by omega), List.range'_eq_map_range, List.flatMap_map]
  unfold boxList rows
  rw [show (y1 + 1).toNat - y0.toNat = (y1 + 1 - y0).toNat by omega]
  refine congrArg List.flatten (List.map_congr_left fun k _ => ?_)
  rw [show ((y0.toNat + k : Nat) : Int) = y0 + (k : Int) by omega]
theorem gridRow_len (W : Nat) (y : Int) (P : Cell → Bool) : (gridRow W y P).length ≤ W := by
  unfold gridRow
  refine Nat.le_trans (List.length_filter_le _ _) ?_
  simp
theorem gridCells_nil (W : Nat) (P : Cell → Bool) : gridCells W 0 P = [] := rfl
theorem gridRow_nil (y : Int) (P : Cell → Bool) : gridRow 0 y P = [] := rfl
theorem gridRow_succ (W : Nat) (y : Int) (P : Cell → Bool) : gridRow (W + 1) y P = gridRow W y P ++ (if P ((W : Int), y) = true then [((W : Int), y)] else []) := by
  unfold gridRow
  rw [List.range_succ, List.map_append, List.filter_append]
  congr 1
  cases h : P ((W : Int), y)
  · simp [h]
  · simp [h]
theorem gridCells_succ (W H : Nat) (P : Cell → Bool) : gridCells W (H + 1) P = gridCells W H P ++ gridRow W (H : Int) P := by
  unfold gridCells
  rw [List.range_succ, List.flatMap_append]
  simp
theorem gridCells_len (W : Nat) (P : Cell → Bool) : ∀ H : Nat, (gridCells W H P).length ≤ W * H
  | 0 => Nat.le_refl _
  | H + 1 => by
    rw [gridCells_succ, List.length_append, Nat.mul_succ]
    exact Nat.add_le_add (gridCells_len W P H) (gridRow_len W _ P)
theorem list_lone {w : World} {g : Nat} {p q : Int} (h : w.heap[g]? = some (.cells #[.int .i64 p, .int .i64 q] 28 (0, 0))) : ListAt 2 cellEl (fun b => b = g) [(p, q)] (.slice (some ⟨g, 0, none⟩) 1 1) w := by
  refine ⟨some ⟨g, 0, none⟩, 1, [((p, q), #[.int .i64 p, .int .i64 q])], rfl, rfl, fun y hy => ?_, fun i hi => ⟨_, rfl, rfl, fun j u hj => ?_⟩, fun h => by cases h⟩
  · simp at hy
    rw [hy]; rfl
  · rw [Addr.add_lit, Nat.zero_add, cell_of h]
    match i, hi with
    | 0, _ =>
      match j with
      | 0 => simpa using hj
      | 1 => simpa using hj
      | j + 2 => simp at hj
end Go.Proofs.Ytmaeofkbkpplnaa.Grid
namespace Go.Proofs.Ytmaeofkbkpplnaa.Grid
set_option linter.unusedVariables false
set_option linter.unusedSimpArgs false
open Go Go.RowKit Go.Shelf Go.Proofs

theorem box_mem {p : Pose} {d n : Int} (h1 : 0 ≤ p.1.1) (h2 : p.1.1 < 16) (h3 : 0 ≤ p.1.2) (h4 : p.1.2 < 16) (hd : 0 ≤ d ∧ d ≤ 3) (hn : 0 ≤ n ∧ n ≤ 16) : ∀ c, c ∈ boxOf p (shiftP p d n) ↔ ∃ k, 0 ≤ k ∧ k ≤ n ∧ (c = (shiftP p d k).1 ∨ c = second (shiftP p d k)) := by
  have hs := fun k (q : 0 ≤ k) (r : k ≤ 16) => shift_small (p := p) (d := d) (k := k) (by omega) (by omega) (by omega) (by omega) q r
  have hb : -1 ≤ dx d ∧ dx d ≤ 1 ∧ -1 ≤ dy d ∧ dy d ≤ 1 ∧ (dx d = 0 ∨ dy d = 0) := by
    unfold dx dy
    rcases (show d = 0 ∨ d = 1 ∨ d = 2 ∨ d = 3 by omega) with rfl | rfl | rfl | rfl <;> decide
  have hx : ∀ k, 0 ≤ k → k ≤ 16 → -16 ≤ dx d * k ∧ dx d * k ≤ 16 ∧ -16 ≤ dy d * k ∧ dy d * k ≤ 16 := fun k q r => by
    rcases (show dx d = -1 ∨ dx d = 0 ∨ dx d = 1 by omega) with e | e | e <;> rcases (show dy d = -1 ∨ dy d = 0 ∨ dy d = 1 by omega) with f | f | f <;> rw [e, f] <;> omega
  have hsec := fun k (q : 0 ≤ k) (r : k ≤ 16) => second_small (p := ((p.1.1 + dx d * k, p.1.2 + dy d * k), p.2)) (by have := hx k q r; simp only; omega) (by have := hx k q r; simp only; omega) (by have := hx k q r; simp only; omega) (by have := hx k q r; simp only; omega)
  have hp := second_small (p := p) (by omega) (by omega) (by omega) (by omega)
  intro c
  unfold boxOf spanP
  rw [mem_boxList, hs n hn.1 hn.2, hsec n hn.1 hn.2, hp]
  have hxn := hx n hn.1 hn.2
  constructor
  · rintro ⟨q1, q2, q3, q4⟩
    obtain ⟨cx, cy⟩ := c
    obtain ⟨⟨px, py⟩, pd⟩ := p
    simp only at *
    have key : ∃ k, 0 ≤ k ∧ k ≤ n ∧ ((cx, cy) = (px + dx d * k, py + dy d * k) ∨ (cx, cy) = if pd = true then (px + dx d * k, py + dy d * k + 1) else (px + dx d * k + 1, py + dy d * k)) := by
      cases pd
      · simp only [Bool.false_eq_true, if_false] at q1 q2 q3 q4 ⊢
        simp only [Prod.mk.injEq]
        rcases (show d = 0 ∨ d = 1 ∨ d = 2 ∨ d = 3 by omega) with rfl | rfl | rfl | rfl
        · simp only [show dx 0 = 0 from rfl, show dy 0 = -1 from rfl] at *
          exact ⟨py - cy, by omega, by omega, by omega⟩
        · simp only [show dx 1 = 1 from rfl, show dy 1 = 0 from rfl] at *
          by_cases q : cx - px ≤ n
          · exact ⟨cx - px, by omega, by omega, by omega⟩
          · exact ⟨n, by omega, by omega, by omega⟩
        · simp only [show dx 2 = 0 from rfl, show dy 2 = 1 from rfl] at *
          exact ⟨cy - py, by omega, by omega, by omega⟩
        · simp only [show dx 3 = -1 from rfl, show dy 3 = 0 from rfl] at *
          by_cases q : cx ≤ px
          · exact ⟨px - cx, by omega, by omega, by omega⟩
          · exact ⟨0, by omega, by omega, by omega⟩
      · simp only [if_true] at q1 q2 q3 q4 ⊢
        simp only [Prod.mk.injEq]
        rcases (show d = 0 ∨ d = 1 ∨ d = 2 ∨ d = 3 by omega) with rfl | rfl | rfl | rfl
        · simp only [show dx 0 = 0 from rfl, show dy 0 = -1 from rfl] at *
          by_cases q : cy ≤ py
          · exact ⟨py - cy, by omega, by omega, by omega⟩
          · exact ⟨0, by omega, by omega, by omega⟩
        · simp only [show dx 1 = 1 from rfl, show dy 1 = 0 from rfl] at *
          exact ⟨cx - px, by omega, by omega, by omega⟩
        · simp only [show dx 2 = 0 from rfl, show dy 2 = 1 from rfl] at *
          by_cases q : cy - py ≤ n
          · exact ⟨cy - py, by omega, by omega, by omega⟩
          · exact ⟨n, by omega, by omega, by omega⟩
        · simp only [show dx 3 = -1 from rfl, show dy 3 = 0 from rfl] at *
          exact ⟨px - cx, by omega, by omega, by omega⟩
    obtain ⟨k, k1, k2, k3⟩ := key
    refine ⟨k, k1, k2, ?_⟩
    rw [hs k k1 (by omega), hsec k k1 (by omega)]
    exact k3
  · rintro ⟨k, k1, k2, k3⟩
    rw [hs k k1 (by omega), hsec k k1 (by omega)] at k3
    have hxk := hx k k1 (by omega)
    obtain ⟨⟨px, py⟩, pd⟩ := p
    simp only at *
    rcases (show d = 0 ∨ d = 1 ∨ d = 2 ∨ d = 3 by omega) with rfl | rfl | rfl | rfl <;>
      simp only [show dx 0 = 0 from rfl, show dy 0 = -1 from rfl, show dx 1 = 1 from rfl, show dy 1 = 0 from rfl, show dx 2 = 0 from rfl, show dy 2 = 1 from rfl, show dx 3 = -1 from rfl, show dy 3 = 0 from rfl] at * <;>
      cases pd <;> simp only [Bool.false_eq_true, if_false, if_true] at * <;> rcases k3 with rfl | rfl <;> simp only <;> omega
theorem box_turn {x y : Int} {b : Bool} (h1 : 0 ≤ x) (h2 : x < 16) (h3 : 0 ≤ y) (h4 : y < 16) : ∀ c, c ∈ boxOf ((x, y), b) (turnP ((x, y), b)) ↔ c ∈ [(x, y), (x + 1, y), (x, y + 1), (x + 1, y + 1)] := by
  have hsp := second_small (p := ((x, y), b)) (by simp only; omega) (by simp only; omega) (by simp only; omega) (by simp only; omega)
  have hst := second_small (p := turnP ((x, y), b)) (by show -200 ≤ x; omega) (by show x ≤ 200; omega) (by show -200 ≤ y; omega) (by show y ≤ 200; omega)
  rintro ⟨cx, cy⟩
  unfold boxOf spanP
  rw [hsp, hst, mem_boxList]
  simp only [List.mem_cons, Prod.mk.injEq, List.not_mem_nil, or_false]
  cases b <;> simp [turnP] <;> omega
theorem box_still {x y : Int} {b : Bool} (h1 : 0 ≤ x) (h2 : x < 16) (h3 : 0 ≤ y) (h4 : y < 16) : ∀ c, c ∈ boxOf ((x, y), b) ((x, y), b) ↔ c ∈ [(x, y), second ((x, y), b)] := by
  have hsp := second_small (p := ((x, y), b)) (by simp only; omega) (by simp only; omega) (by simp only; omega) (by simp only; omega)
  rintro ⟨cx, cy⟩
  unfold boxOf spanP
  rw [hsp, mem_boxList]
  simp only [List.mem_cons, Prod.mk.injEq, List.not_mem_nil, or_false]
  cases b <;> simp <;> omega
/- A legal move's box lies in the grid. -/
theorem legal_in {W H : Int} {us : List Int} {m : Move} (hW : W ≤ 16) (hH : H ≤ 16) (hl : legalU W H us m = true) : fitsU W H us m.2.2.2.1 = true ∧ (∀ c ∈ boxOf m.2.2.2.1 m.2.2.2.2.1, In W H c) := by
  unfold legalU at hl
  simp only [Bool.and_eq_true, decide_eq_true_eq] at hl
  obtain ⟨⟨⟨a, b⟩, c⟩, d⟩ := hl
  refine ⟨c, ?_⟩
  rw [b]
  exact fun q hq => open_in (List.all_eq_true.1 d q hq)
theorem cells_box {WN HN : Nat} {a b : Pose} (hin : ∀ c ∈ boxOf a b, In (WN : Int) (HN : Int) c) (hne : (spanP a b).1.1 ≤ (spanP a b).2.1 ∧ (spanP a b).1.2 ≤ (spanP a b).2.2) (As : List Cell) (hm : ∀ q, q ∈ As ↔ q ∈ boxOf a b) : gridCells WN HN (fun q => decide (q ∈ As)) = boxOf a b := by
  have e : (fun q => decide (q ∈ As)) = fun q => decide (q ∈ boxOf a b) := funext fun q => decide_eq_decide.2 (hm q)
  rw [e]
  have c1 := hin ((spanP a b).1.1, (spanP a b).1.2) (by unfold boxOf; rw [mem_boxList]; simp only; omega)
  have c2 := hin ((spanP a b).2.1, (spanP a b).2.2) (by unfold boxOf; rw [mem_boxList]; simp only; omega)
  obtain ⟨p1, p2, p3, p4⟩ := c1
  obtain ⟨q1, q2, q3, q4⟩ := c2
  simp only at p1 p2 p3 p4 q1 q2 q3 q4
  unfold boxOf
  exact gridCells_box p1 hne.1 q2 p3 hne.2 q4
theorem span_le {a b : Pose} (h1 : 0 ≤ a.1.1) (h2 : a.1.1 < 16) (h3 : 0 ≤ a.1.2) (h4 : a.1.2 < 16) : (spanP a b).1.1 ≤ (spanP a b).2.1 ∧ (spanP a b).1.2 ≤ (spanP a b).2.2 := by
  have hsp := second_small (p := a) (by omega) (by omega) (by omega) (by omega)
  unfold spanP
  rw [hsp]
  cases h : a.2 <;> simp <;> omega
/- The cells of the poses ahead of k of a run, pose by pose. -/
def runCells (p : Pose) (d : Int) (k : Nat) : List Cell := (List.range k).flatMap fun (i : Nat) => [(shiftP p d (i : Int)).1, second (shiftP p d (i : Int))]
theorem runCells_succ (p : Pose) (d : Int) (k : Nat) : runCells p d (k + 1) = runCells p d k ++ [(shiftP p d (k : Int)).1, second (shiftP p d (k : Int))] := by
  unfold runCells
  rw [List.range_succ, List.flatMap_append]
  simp
theorem runCells_len (p : Pose) (d : Int) : ∀ k : Nat, (runCells p d k).length = 2 * k
  | 0 => rfl
  | k + 1 => by rw [runCells_succ, List.length_append, runCells_len p d k]; simp; omega
theorem runCells_mem (p : Pose) (d : Int) (n : Nat) (c : Cell) : c ∈ runCells p d (n + 1) ↔ ∃ k : Int, 0 ≤ k ∧ k ≤ (n : Int) ∧ (c = (shiftP p d k).1 ∨ c = second (shiftP p d k)) := by
  unfold runCells
  rw [List.mem_flatMap]
  constructor
  · rintro ⟨i, hi, hc⟩
    have := List.mem_range.1 hi
    simp only [List.mem_cons, List.not_mem_nil, or_false] at hc
    exact ⟨(i : Int), by omega, by omega, hc⟩
  · rintro ⟨k, k1, k2, hc⟩
    refine ⟨k.toNat, List.mem_range.2 (by omega), ?_⟩
    rw [show ((k.toNat : Nat) : Int) = k by omega]
    simp only [List.mem_cons, List.not_mem_nil, or_false]
    exact hc
end Go.Proofs.Ytmaeofkbkpplnaa.Grid
namespace Go.Proofs.Ytmaeofkbkpplnaa.Grid
set_option linter.unusedVariables false
set_option linter.unusedSimpArgs false
open Go Go.RowKit Go.Shelf Go.Proofs
attribute [local go_sem] Oper.semAt_some

theorem below_row2 {w w1 w2 : World} {base : Nat} {v : Value} {e : TypeId} {S n : Nat} {xs : List Value} (h : Below base w w1) (hb : base ≤ w.heap.size) (hr : w1.ownsRow base e S v n xs) (hg : w1.grownBy w2 v.ownBlock) : Below base w w2 :=
  h.grown hg (Nat.le_trans hb h.size) (fun k q => by
    rcases hr.2 with ⟨rfl, _⟩ | ⟨g, cap, cur, rfl, h3, _⟩
    · cases q
    · cases q; exact h3)
theorem old_go {c : Conf} {vb vp vr vs : Value} {w u : World} (h : ConfAt (Old w) c vb vp vr vs w) (b : Below w.heap.size w u) : ConfAt (Old u) c vb vp vr vs u :=
  have h' := h.go (fun _ h => h) b
  have k : ∀ g, Old w g → Old u g := fun g hg => Nat.lt_of_lt_of_le hg b.size
  ⟨h'.b.mono heldCell k, h'.p.mono heldCell k, h'.r.mono heldPose k, h'.s.mono heldStack k⟩
theorem rlegal_old (c : Conf) (vb vp vr vs : Value) (w : World) (hA : ConfAt (Old w) c vb vp vr vs w) (l1 : c.blocked.length ≤ 8796093022208) (l2 : c.ports.length ≤ 8796093022208) (l3 : c.robots.length ≤ 5864062014805) (l4 : c.stacks.length ≤ 3518437208880) (l5 : ∀ s ∈ c.stacks, s.2.length ≤ 17592186044416) {G : GS} (hN : newP c = some G) (m : Move) (u : World) (b : Below w.heap.size w u) : Calls Try.prog 12 #[.agg #[.int .i64 c.W, .int .i64 c.H, .int .i64 c.height, vb, vp, vr, vs, .int .i64 c.unit, .int .i64 c.accel, .int .i64 c.speed, .int .i64 c.turn, .int .i64 c.hoist, .int .i64 c.queue, .int .i64 c.resend, .int .i64 c.budget, .bool c.back], .agg (moveCs m)] u fun e w' => ∃ r, e = .returned r ∧ (r = .bool (legalU c.W c.H G.uses m) ∧ Below u.heap.size u w') :=
  rlegal_any c vb vp vr vs u (old_go hA b) l1 l2 l3 l4 l5 hN m
set_option maxRecDepth 100000 in
set_option maxHeartbeats 4000000 in
theorem rswept_no (c : Conf) (vb vp vr vs : Value) (w : World) (hA : ConfAt (Old w) c vb vp vr vs w) (l1 : c.blocked.length ≤ 8796093022208) (l2 : c.ports.length ≤ 8796093022208) (l3 : c.robots.length ≤ 5864062014805) (l4 : c.stacks.length ≤ 3518437208880) (l5 : ∀ s ∈ c.stacks, s.2.length ≤ 17592186044416) {G : GS} (hN : newP c = some G) (m : Move) (hl : legalU c.W c.H G.uses m = false) : Calls Try.prog 15 #[.agg #[.int .i64 c.W, .int .i64 c.H, .int .i64 c.height, vb, vp, vr, vs, .int .i64 c.unit, .int .i64 c.accel, .int .i64 c.speed, .int .i64 c.turn, .int .i64 c.hoist, .int .i64 c.queue, .int .i64 c.resend, .int .i64 c.budget, .bool c.back], .agg (moveCs m)] w fun e w' => ∃ r, e = .returned r ∧ (r = .slice none 0 0 ∧ Below w.heap.size w w') := by
  have cL := fun u (b : Below w.heap.size w u) => rlegal_old c vb vp vr vs w hA l1 l2 l3 l4 l5 hN m u b
  rw [hl] at cL
  have Q0 := two_new w #[.int .i64 c.W, .int .i64 c.H, .int .i64 c.height, vb, vp, vr, vs, .int .i64 c.unit, .int .i64 c.accel, .int .i64 c.speed, .int .i64 c.turn, .int .i64 c.hoist, .int .i64 c.queue, .int .i64 c.resend, .int .i64 c.budget, .bool c.back] (moveCs m) 32
  have hR := row_below Q0.b (Below.refl _ _)
  have HI : Hid ((Try.prog.info? 32).map (·.size) = some (moveCs m).size) := info_move
  generalize moveCs m = cs at *
  clear hA hN hl
  go_enter Try.func15, Try.ntmps15
  go_wp2_with (first
    | (refine wpList_load_row rfl 26 (.tmp 2) rfl w.heap.size rfl 26 #[.int .i64 c.W, .int .i64 c.H, .int .i64 c.height, vb, vp, vr, vs, .int .i64 c.unit, .int .i64 c.accel, .int .i64 c.speed, .int .i64 c.turn, .int .i64 c.hoist, .int .i64 c.queue, .int .i64 c.resend, .int .i64 c.budget, .bool c.back] (0, 0) _ Q0.a Try.underlying26 rfl info_conf ?_)
    | (refine wpList_load_at rfl 32 (.tmp 3) rfl ⟨w.heap.size + 1, 0, none⟩ rfl cs hR (aggMv _) HI.out ?_)
    | (go_at_call 12; refine (cL _ Q0.below).mono ?_; rintro e w1 ⟨r1, rfl, rfl, b1⟩; have Q1 := Q0.go b1))
  go_ret
  exact ⟨_, rfl, rfl, Q1.below⟩
end Go.Proofs.Ytmaeofkbkpplnaa.Grid
namespace Go.Proofs.Ytmaeofkbkpplnaa.Grid
set_option linter.unusedVariables false
set_option linter.unusedSimpArgs false
open Go Go.RowKit Go.Shelf Go.Proofs
attribute [local go_sem] Oper.semAt_some

theorem pose_at {w : World} {b : Nat} {cs : Array Value} {t : TypeId} {x y : Int} {d : Bool} (h : w.heap[b]? = some (.cells cs t (0, 0))) (o : Nat) (h0 : cs[o]? = some (.int .i64 x)) (h1 : cs[o + 1]? = some (.int .i64 y)) (h2 : cs[o + 2]? = some (.bool d)) : ∀ j z, #[Value.int .i64 x, .int .i64 y, .bool d][j]? = some z → w.cell? ((⟨b, o, none⟩ : Addr).add j) = some z := by
  intro j z hj
  rw [Addr.add_lit]
  match j with
  | 0 => simp at hj; rw [← hj]; exact (cell_of h _).trans h0
  | 1 => simp at hj; rw [← hj]; exact (cell_of h _).trans h1
  | 2 => simp at hj; rw [← hj]; exact (cell_of h _).trans h2
  | j + 3 => simp at hj
theorem list_four {w : World} {g : Nat} {p q p2 q2 p3 q3 p4 q4 : Int} (h : w.heap[g]? = some (.cells #[.int .i64 p, .int .i64 q, .int .i64 p2, .int .i64 q2, .int .i64 p3, .int .i64 q3, .int .i64 p4, .int .i64 q4] 28 (0, 0))) : ListAt 2 cellEl (fun b => b = g) [(p, q), (p2, q2), (p3, q3), (p4, q4)] (.slice (some ⟨g, 0, none⟩) 4 4) w := by
  refine ⟨some ⟨g, 0, none⟩, 4, [((p, q), #[.int .i64 p, .int .i64 q]), ((p2, q2), #[.int .i64 p2, .int .i64 q2]), ((p3, q3), #[.int .i64 p3, .int .i64 q3]), ((p4, q4), #[.int .i64 p4, .int .i64 q4])], rfl, rfl, fun y hy => ?_, fun i hi => ⟨_, rfl, rfl, fun j u hj => ?_⟩, fun h => by cases h⟩
  · simp at hy
    rcases hy with rfl | rfl | rfl | rfl <;> rfl
  · rw [Addr.add_lit, Nat.zero_add, cell_of h]
    match i, hi with
    | 0, _ =>
      match j with
      | 0 => simpa using hj
      | 1 => simpa using hj
      | j + 2 => simp at hj
    | 1, _ =>
      match j with
      | 0 => simpa using hj
      | 1 => simpa using hj
      | j + 2 => simp at hj
    | 2, _ =>
      match j with
      | 0 => simpa using hj
      | 1 => simpa using hj
      | j + 2 => simp at hj
    | 3, _ =>
      match j with
      | 0 => simpa using hj
      | 1 => simpa using hj
      | j + 2 => simp at hj
theorem own_go {w w1 : World} {b : Nat} {e : TypeId} {sz n : Nat} {v : Value} {xs : List Value} (h : w.ownsRow b e sz v n xs) (hb : Below w.heap.size w w1) : w1.ownsRow b e sz v n xs := by
  refine ⟨h.1, ?_⟩
  rcases h.2 with hn | ⟨g, cap, cur, rfl, hb', hg, rest⟩
  · exact .inl hn
  · exact .inr ⟨g, cap, cur, rfl, hb', (hb.block g (lt_of_heap hg)).trans hg, rest⟩
set_option maxRecDepth 100000 in
set_option maxHeartbeats 8000000 in
theorem rswept_still (c : Conf) (vb vp vr vs : Value) (w : World) (hA : ConfAt (Old w) c vb vp vr vs w) (l1 : c.blocked.length ≤ 8796093022208) (l2 : c.ports.length ≤ 8796093022208) (l3 : c.robots.length ≤ 5864062014805) (l4 : c.stacks.length ≤ 3518437208880) (l5 : ∀ s ∈ c.stacks, s.2.length ≤ 17592186044416) {G : GS} (hN : newP c = some G) (m : Move) (hl : legalU c.W c.H G.uses m = true) (WN HN : Nat) (hWN0 : c.W = WN) (hHN0 : c.H = HN) (hW1 : WN ≤ 16) (hH1 : HN ≤ 16)  (As : List Cell) (hcells : gridCells WN HN (fun q => decide (q ∈ As)) = boxOf m.2.2.2.1 m.2.2.2.2.1) (hk1 : (m.1 == 1) = false) (hk2 : (m.1 == 2) = false) (hAs : As = [m.2.2.2.1.1, second m.2.2.2.1]) :
    Calls Try.prog 15 #[.agg #[.int .i64 c.W, .int .i64 c.H, .int .i64 c.height, vb, vp, vr, vs, .int .i64 c.unit, .int .i64 c.accel, .int .i64 c.speed, .int .i64 c.turn, .int .i64 c.hoist, .int .i64 c.queue, .int .i64 c.resend, .int .i64 c.budget, .bool c.back], .agg (moveCs m)] w fun e w' => ∃ r, e = .returned r ∧ (w'.ownsRow w.heap.size 28 2 r (boxOf m.2.2.2.1 m.2.2.2.2.1).length (rowL cellL (boxOf m.2.2.2.1 m.2.2.2.2.1)) ∧ Below w.heap.size w w') := by
  have hWN : Hid (c.W = WN) := hWN0
  have hHN : Hid (c.H = HN) := hHN0
  clear hWN0 hHN0
  have cL := fun u (b : Below w.heap.size w u) => rlegal_old c vb vp vr vs w hA l1 l2 l3 l4 l5 hN m u b
  rw [hl] at cL
  have Q0 := two_new w #[.int .i64 c.W, .int .i64 c.H, .int .i64 c.height, vb, vp, vr, vs, .int .i64 c.unit, .int .i64 c.accel, .int .i64 c.speed, .int .i64 c.turn, .int .i64 c.hoist, .int .i64 c.queue, .int .i64 c.resend, .int .i64 c.budget, .bool c.back] (moveCs m) 32
  have hR := row_below Q0.b (Below.refl _ _)
  have HI : Hid ((Try.prog.info? 32).map (·.size) = some (moveCs m).size) := info_move
  obtain ⟨kd, dir, n, ⟨⟨fx, fy⟩, fd⟩, to, ma, me⟩ := m
  have k0 : Hid ((moveCs (kd, dir, n, ((fx, fy), fd), to, ma, me))[0]? = some (.int .i64 kd)) := rfl
  have k1 : Hid ((moveCs (kd, dir, n, ((fx, fy), fd), to, ma, me))[1]? = some (.int .i64 dir)) := rfl
  have k2 : Hid ((moveCs (kd, dir, n, ((fx, fy), fd), to, ma, me))[2]? = some (.int .i64 n)) := rfl
  have k3 : Hid ((moveCs (kd, dir, n, ((fx, fy), fd), to, ma, me))[3]? = some (.int .i64 fx)) := rfl
  have k4 : Hid ((moveCs (kd, dir, n, ((fx, fy), fd), to, ma, me))[4]? = some (.int .i64 fy)) := rfl
  have k5 : Hid ((moveCs (kd, dir, n, ((fx, fy), fd), to, ma, me))[5]? = some (.bool fd)) := rfl
  dsimp only at *
  generalize moveCs (kd, dir, n, ((fx, fy), fd), to, ma, me) = cs at *
  generalize boxOf ((fx, fy), fd) to = BX at *
  clear hA hN hl
  have cC := fun u => cellsR_any fx fy fd u
  generalize second ((fx, fy), fd) = s2 at *
  obtain ⟨x2, y2⟩ := s2
  dsimp only at cC hAs
  go_enter Try.func15, Try.ntmps15
  go_wp2_with (first
    | (refine wpList_load_row rfl 26 (.tmp 2) rfl w.heap.size rfl 26 #[.int .i64 c.W, .int .i64 c.H, .int .i64 c.height, vb, vp, vr, vs, .int .i64 c.unit, .int .i64 c.accel, .int .i64 c.speed, .int .i64 c.turn, .int .i64 c.hoist, .int .i64 c.queue, .int .i64 c.resend, .int .i64 c.budget, .bool c.back] (0, 0) _ Q0.a Try.underlying26 rfl info_conf ?_)
    | (refine wpList_load_at rfl 32 (.tmp 3) rfl ⟨w.heap.size + 1, 0, none⟩ rfl cs hR (aggMv _) HI.out ?_)
    | (go_at_call 12; refine (cL _ Q0.below).mono ?_; rintro e w1 ⟨r1, rfl, rfl, b1⟩; have Q1 := Q0.go b1; have q0 := (cell_of Q1.b 0).trans k0.out; have q2 := (cell_of Q1.b 2).trans k2.out; have hP := pose_at Q1.b 3 k3.out k4.out k5.out)
    | (have X' := hP; refine wpList_load_at rfl 30 (.tmp 16) rfl ⟨w.heap.size + 1, 3, none⟩ rfl #[.int .i64 fx, .int .i64 fy, .bool fd] hP (aggPose _) info_pose ?_)
    | (go_at_call 25; refine (cC _).mono ?_; rintro e w2 ⟨r2, rfl, ⟨gq, rfl, hgq, hq⟩, b2⟩; have Qt := Q1.go b2))
  have LA : ListAt 2 cellEl (fun b => b = gq) As (.slice (some ⟨gq, 0, none⟩) 2 2) w2 := by rw [hAs]; exact list_two hq
  have hFA : ∀ b, b = gq → b < w2.heap.size := fun b e => by rw [e]; exact lt_of_heap hq
  have HAl : Hid (As.length ≤ 1000) := by show As.length ≤ 1000; rw [hAs]; simp
  obtain ⟨vA, hvA0⟩ : ∃ v, v = Value.slice (some ⟨gq, 0, none⟩) 2 2 := ⟨_, rfl⟩
  rw [← hvA0] at LA ⊢
  clear q0 q2 hP hq Q1 Q0 hAs cC cL hR HI hvA0
  have eA := Qt.a
  have Bt := Qt.below
  have zW : Hid (∀ u, Below w2.heap.size w2 u → u.cell? ⟨w.heap.size, 0, none⟩ = some (.int .i64 (WN : Int)) ∧ u.cell? ⟨w.heap.size, 1, none⟩ = some (.int .i64 (HN : Int))) := fun u hu => ⟨by rw [← hWN.out]; exact cell_below ((cell_of eA 0).trans rfl) hu, by rw [← hHN.out]; exact cell_below ((cell_of eA 1).trans rfl) hu⟩
  have cA : Hid (∀ u (b : Below w2.heap.size w2 u) (x y : Int), Calls Try.prog 37 #[vA, .agg #[.int .i64 x, .int .i64 y]] u fun e w' => ∃ r, e = .returned r ∧ r = .int .i64 (As.count (x, y) : Nat) ∧ Below u.heap.size u w') := fun u b x y => among_any _ As _ x y u (LA.go heldCell hFA b) (fun q hq => Nat.lt_of_lt_of_le (hFA q hq) b.size) (by have := HAl.out; omega)
  have own0 : Hid (w2.ownsRow w2.heap.size 28 2 (.slice none 0 0) ((gridCells WN 0 (fun q => decide (q ∈ As)))).length (rowL cellL ((gridCells WN 0 (fun q => decide (q ∈ As)))))) := ⟨rfl, .inl ⟨rfl, rfl⟩⟩
  have HB0 : Hid (Below w2.heap.size w2 w2) := Below.refl _ _
  obtain ⟨va, vl, vc, hvA⟩ : ∃ va vl vc, vA = .slice va vl vc := by
    obtain ⟨a, cap, h, _⟩ := LA.form
    exact ⟨_, _, _, h⟩
  subst hvA
  clear LA eA hFA
  go_loopw [7, 8] (fun v i wq => ∃ k : Nat, k ≤ HN ∧ i = .int .i64 k ∧ Hid (wq.ownsRow w2.heap.size 28 2 v ((gridCells WN k (fun q => decide (q ∈ As)))).length (rowL cellL ((gridCells WN k (fun q => decide (q ∈ As)))))) ∧ Hid (Below w2.heap.size w2 wq)) (fun _ i _ => HN - (intOf i).toNat)
  case atStart => exact ⟨0, Nat.zero_le _, rfl, own0, HB0⟩
  case round =>
    obtain ⟨k, hk, rfl, HO, HB⟩ := hrel
    clear own0 HB0
    have y1 := (zW.out _ HB.out).2
    by_cases hlt : k < HN
    · have hd : decide ((k : Int) < (HN : Int)) = true := decide_eq_true (by omega)
      go_wp2_with fail
      have HO1 : Hid (wr.ownsRow w2.heap.size 28 2 u7 ((gridCells WN k (fun q => decide (q ∈ As))) ++ (gridRow 0 ((k : Nat) : Int) (fun q => decide (q ∈ As)))).length (rowL cellL ((gridCells WN k (fun q => decide (q ∈ As))) ++ (gridRow 0 ((k : Nat) : Int) (fun q => decide (q ∈ As)))))) := by
        have : (gridCells WN k (fun q => decide (q ∈ As))) ++ (gridRow 0 ((k : Nat) : Int) (fun q => decide (q ∈ As))) = (gridCells WN k (fun q => decide (q ∈ As))) := by rw [gridRow_nil, List.append_nil]
        show wr.ownsRow w2.heap.size 28 2 u7 ((gridCells WN k (fun q => decide (q ∈ As))) ++ (gridRow 0 ((k : Nat) : Int) (fun q => decide (q ∈ As)))).length (rowL cellL ((gridCells WN k (fun q => decide (q ∈ As))) ++ (gridRow 0 ((k : Nat) : Int) (fun q => decide (q ∈ As)))))
        rw [this]
        exact HO.out
      clear HO y1 hd
      go_loopw [7, 9] (fun v i wq => ∃ j : Nat, j ≤ WN ∧ i = .int .i64 j ∧ Hid (wq.ownsRow w2.heap.size 28 2 v ((gridCells WN k (fun q => decide (q ∈ As))) ++ (gridRow j ((k : Nat) : Int) (fun q => decide (q ∈ As)))).length (rowL cellL ((gridCells WN k (fun q => decide (q ∈ As))) ++ (gridRow j ((k : Nat) : Int) (fun q => decide (q ∈ As)))))) ∧ Hid (Below w2.heap.size w2 wq)) (fun _ i _ => WN - (intOf i).toNat)
      case atStart => exact ⟨0, Nat.zero_le _, rfl, HO1, HB⟩
      case round =>
        clear HO1 HB
        obtain ⟨j, hj, rfl, HO, HB⟩ := hrel
        have y0 := (zW.out _ HB.out).1
        by_cases hx : j < WN
        · have hd : decide ((j : Int) < (WN : Int)) = true := decide_eq_true (by omega)
          have cA1 := cA.out _ HB.out (j : Int) (k : Int)
          have hsu := gridRow_succ j ((k : Nat) : Int) (fun q => decide (q ∈ As))
          by_cases hin : ((j : Int), (k : Int)) ∈ As
          · have hc : 0 < As.count ((j : Int), (k : Int)) := List.count_pos_iff.2 hin
            have hd2 : decide ((0 : Int) < ((As.count ((j : Int), (k : Int)) : Nat) : Int)) = true := decide_eq_true (by omega)
            rw [if_pos (decide_eq_true hin)] at hsu
            have HS : Hid ((gridCells WN k (fun q => decide (q ∈ As))) ++ (gridRow (j + 1) ((k : Nat) : Int) (fun q => decide (q ∈ As))) = ((gridCells WN k (fun q => decide (q ∈ As))) ++ (gridRow j ((k : Nat) : Int) (fun q => decide (q ∈ As)))) ++ [((j : Int), (k : Int))]) := by
              show (gridCells WN k (fun q => decide (q ∈ As))) ++ (gridRow (j + 1) ((k : Nat) : Int) (fun q => decide (q ∈ As))) = ((gridCells WN k (fun q => decide (q ∈ As))) ++ (gridRow j ((k : Nat) : Int) (fun q => decide (q ∈ As)))) ++ [((j : Int), (k : Int))]
              rw [hsu, List.append_assoc]
            have HLn : Hid (((gridCells WN k (fun q => decide (q ∈ As))) ++ (gridRow j ((k : Nat) : Int) (fun q => decide (q ∈ As)))).length ≤ 1000) := by
              have h1 := gridCells_len WN (fun q => decide (q ∈ As)) k
              have h2 := gridRow_len j ((k : Nat) : Int) (fun q => decide (q ∈ As))
              have h3 : WN * k ≤ 16 * 16 := Nat.mul_le_mul hW1 (by omega)
              show ((gridCells WN k (fun q => decide (q ∈ As))) ++ (gridRow j ((k : Nat) : Int) (fun q => decide (q ∈ As)))).length ≤ 1000
              rw [List.length_append]
              omega
            generalize As.count ((j : Int), (k : Int)) = cn at *
            clear hsu hin
            go_wp2_with (first
              | (go_at_call 37; refine cA1.mono ?_; rintro e5 w5 ⟨r5, rfl, rfl, b5⟩; have HB5 := bcat HB.out b5 (Nat.le_refl _))
              | (at_builtin; have HO5 := own_go HO.out b5; have bA := (Below.refl w5.heap.size w5).alloc (Nat.le_refl _) (.cells #[.int .i64 j, .int .i64 k] 28); have HO6 := own_go HO5 bA; have L6 := list_lone (heap_alloc_new w5 (.cells #[.int .i64 j, .int .i64 k] 28)); have e1 : (((gridCells WN k (fun q => decide (q ∈ As))) ++ (gridRow j ((k : Nat) : Int) (fun q => decide (q ∈ As)))).length + [((j : Int), (k : Int))].length) * 16 ≤ 140737488355328 := (by have := HLn.out; simp only [List.length_cons, List.length_nil]; omega); have e2 : ((gridCells WN k (fun q => decide (q ∈ As))) ++ (gridRow j ((k : Nat) : Int) (fun q => decide (q ∈ As)))).length + [((j : Int), (k : Int))].length ≤ maxLen := (by have := HLn.out; unfold maxLen; simp only [List.length_cons, List.length_nil]; omega); have e3 := Nat.le_trans HB5.size bA.size; refine wpList_app kindCell rfl (.tmp 59) (.tmp 63) rfl _ _ _ rfl HO6 _ _ [((j : Int), (k : Int))] rfl L6 e1 e2 e3 ?_; intro v7 w7 own7 g7 at7; rw [← HS.out] at own7; have HB7 := below_row2 (bcat HB5 bA (Nat.le_refl _)) (Nat.le_refl _) HO6 g7))
            go_roundw
            case rel => exact ⟨j + 1, by omega, by go_num, own7, HB7⟩
            case measure => simp only [intOf]; omega
          · rw [List.count_eq_zero.2 hin] at cA1
            rw [if_neg (by rw [decide_eq_true_eq]; exact hin), List.append_nil] at hsu
            have HS : Hid ((gridCells WN k (fun q => decide (q ∈ As))) ++ (gridRow (j + 1) ((k : Nat) : Int) (fun q => decide (q ∈ As))) = ((gridCells WN k (fun q => decide (q ∈ As))) ++ (gridRow j ((k : Nat) : Int) (fun q => decide (q ∈ As))))) := by
              show (gridCells WN k (fun q => decide (q ∈ As))) ++ (gridRow (j + 1) ((k : Nat) : Int) (fun q => decide (q ∈ As))) = ((gridCells WN k (fun q => decide (q ∈ As))) ++ (gridRow j ((k : Nat) : Int) (fun q => decide (q ∈ As))))
              rw [hsu]
            clear hsu hin
            go_wp2_with (go_at_call 37; refine cA1.mono ?_; rintro e5 w5 ⟨r5, rfl, rfl, b5⟩; have HB5 := bcat HB.out b5 (Nat.le_refl _); have HO5 := own_go HO.out b5; rw [← HS.out] at HO5)
            go_roundw
            case rel => exact ⟨j + 1, by omega, by go_num, HO5, HB5⟩
            case measure => simp only [intOf]; omega
        · obtain rfl : WN = j := by omega
          have hd : decide ((WN : Int) < (WN : Int)) = false := decide_eq_false (by omega)
          have HO9 := HO.out
          rw [← gridCells_succ] at HO9
          go_wp2_with fail
          go_roundw
          case rel => exact ⟨k + 1, by omega, by go_num, HO9, HB⟩
          case measure => simp only [intOf]; omega
    · obtain rfl : HN = k := by omega
      have hd : decide ((HN : Int) < (HN : Int)) = false := decide_eq_false (by omega)
      have HO9 := own_lower HO.out Bt.size
      rw [hcells] at HO9
      go_wp2
      go_ret
      exact ⟨_, rfl, HO9, bcat Bt HB.out (Nat.le_refl _)⟩
set_option maxRecDepth 100000 in
set_option maxHeartbeats 8000000 in
theorem rswept_turn (c : Conf) (vb vp vr vs : Value) (w : World) (hA : ConfAt (Old w) c vb vp vr vs w) (l1 : c.blocked.length ≤ 8796093022208) (l2 : c.ports.length ≤ 8796093022208) (l3 : c.robots.length ≤ 5864062014805) (l4 : c.stacks.length ≤ 3518437208880) (l5 : ∀ s ∈ c.stacks, s.2.length ≤ 17592186044416) {G : GS} (hN : newP c = some G) (m : Move) (hl : legalU c.W c.H G.uses m = true) (WN HN : Nat) (hWN0 : c.W = WN) (hHN0 : c.H = HN) (hW1 : WN ≤ 16) (hH1 : HN ≤ 16)  (As : List Cell) (hcells : gridCells WN HN (fun q => decide (q ∈ As)) = boxOf m.2.2.2.1 m.2.2.2.2.1) (hk2 : m.1 = 2) (hb : 0 ≤ m.2.2.2.1.1.1 ∧ m.2.2.2.1.1.1 < 16 ∧ 0 ≤ m.2.2.2.1.1.2 ∧ m.2.2.2.1.1.2 < 16) (hAs : As = [m.2.2.2.1.1, (m.2.2.2.1.1.1 + 1, m.2.2.2.1.1.2), (m.2.2.2.1.1.1, m.2.2.2.1.1.2 + 1), (m.2.2.2.1.1.1 + 1, m.2.2.2.1.1.2 + 1)]) :
    Calls Try.prog 15 #[.agg #[.int .i64 c.W, .int .i64 c.H, .int .i64 c.height, vb, vp, vr, vs, .int .i64 c.unit, .int .i64 c.accel, .int .i64 c.speed, .int .i64 c.turn, .int .i64 c.hoist, .int .i64 c.queue, .int .i64 c.resend, .int .i64 c.budget, .bool c.back], .agg (moveCs m)] w fun e w' => ∃ r, e = .returned r ∧ (w'.ownsRow w.heap.size 28 2 r (boxOf m.2.2.2.1 m.2.2.2.2.1).length (rowL cellL (boxOf m.2.2.2.1 m.2.2.2.2.1)) ∧ Below w.heap.size w w') := by
  have hWN : Hid (c.W = WN) := hWN0
  have hHN : Hid (c.H = HN) := hHN0
  clear hWN0 hHN0
  have cL := fun u (b : Below w.heap.size w u) => rlegal_old c vb vp vr vs w hA l1 l2 l3 l4 l5 hN m u b
  rw [hl] at cL
  have Q0 := two_new w #[.int .i64 c.W, .int .i64 c.H, .int .i64 c.height, vb, vp, vr, vs, .int .i64 c.unit, .int .i64 c.accel, .int .i64 c.speed, .int .i64 c.turn, .int .i64 c.hoist, .int .i64 c.queue, .int .i64 c.resend, .int .i64 c.budget, .bool c.back] (moveCs m) 32
  have hR := row_below Q0.b (Below.refl _ _)
  have HI : Hid ((Try.prog.info? 32).map (·.size) = some (moveCs m).size) := info_move
  obtain ⟨kd, dir, n, ⟨⟨fx, fy⟩, fd⟩, to, ma, me⟩ := m
  have k0 : Hid ((moveCs (kd, dir, n, ((fx, fy), fd), to, ma, me))[0]? = some (.int .i64 kd)) := rfl
  have k1 : Hid ((moveCs (kd, dir, n, ((fx, fy), fd), to, ma, me))[1]? = some (.int .i64 dir)) := rfl
  have k2 : Hid ((moveCs (kd, dir, n, ((fx, fy), fd), to, ma, me))[2]? = some (.int .i64 n)) := rfl
  have k3 : Hid ((moveCs (kd, dir, n, ((fx, fy), fd), to, ma, me))[3]? = some (.int .i64 fx)) := rfl
  have k4 : Hid ((moveCs (kd, dir, n, ((fx, fy), fd), to, ma, me))[4]? = some (.int .i64 fy)) := rfl
  have k5 : Hid ((moveCs (kd, dir, n, ((fx, fy), fd), to, ma, me))[5]? = some (.bool fd)) := rfl
  dsimp only at *
  generalize moveCs (kd, dir, n, ((fx, fy), fd), to, ma, me) = cs at *
  generalize boxOf ((fx, fy), fd) to = BX at *
  clear hA hN hl
  subst hk2
  have cC := fun u => square_any fx fy fd hb.1 (by omega) hb.2.2.1 (by omega) u
  go_enter Try.func15, Try.ntmps15
  go_wp2_with (first
    | (refine wpList_load_row rfl 26 (.tmp 2) rfl w.heap.size rfl 26 #[.int .i64 c.W, .int .i64 c.H, .int .i64 c.height, vb, vp, vr, vs, .int .i64 c.unit, .int .i64 c.accel, .int .i64 c.speed, .int .i64 c.turn, .int .i64 c.hoist, .int .i64 c.queue, .int .i64 c.resend, .int .i64 c.budget, .bool c.back] (0, 0) _ Q0.a Try.underlying26 rfl info_conf ?_)
    | (refine wpList_load_at rfl 32 (.tmp 3) rfl ⟨w.heap.size + 1, 0, none⟩ rfl cs hR (aggMv _) HI.out ?_)
    | (go_at_call 12; refine (cL _ Q0.below).mono ?_; rintro e w1 ⟨r1, rfl, rfl, b1⟩; have Q1 := Q0.go b1; have q0 := (cell_of Q1.b 0).trans k0.out; have q2 := (cell_of Q1.b 2).trans k2.out; have hP := pose_at Q1.b 3 k3.out k4.out k5.out)
    | (have X' := hP; refine wpList_load_at rfl 30 (.tmp 38) rfl ⟨w.heap.size + 1, 3, none⟩ rfl #[.int .i64 fx, .int .i64 fy, .bool fd] hP (aggPose _) info_pose ?_)
    | (go_at_call 50; refine (cC _).mono ?_; rintro e w2 ⟨r2, rfl, ⟨gq, rfl, hgq, hq⟩, b2⟩; have Qt := Q1.go b2))
  have LA : ListAt 2 cellEl (fun b => b = gq) As (.slice (some ⟨gq, 0, none⟩) 4 4) w2 := by rw [hAs]; exact list_four hq
  have hFA : ∀ b, b = gq → b < w2.heap.size := fun b e => by rw [e]; exact lt_of_heap hq
  have HAl : Hid (As.length ≤ 1000) := by show As.length ≤ 1000; rw [hAs]; simp
  obtain ⟨vA, hvA0⟩ : ∃ v, v = Value.slice (some ⟨gq, 0, none⟩) 4 4 := ⟨_, rfl⟩
  rw [← hvA0] at LA ⊢
  clear q0 q2 hP hq Q1 Q0 hAs cC cL hR HI hvA0
  have eA := Qt.a
  have Bt := Qt.below
  have zW : Hid (∀ u, Below w2.heap.size w2 u → u.cell? ⟨w.heap.size, 0, none⟩ = some (.int .i64 (WN : Int)) ∧ u.cell? ⟨w.heap.size, 1, none⟩ = some (.int .i64 (HN : Int))) := fun u hu => ⟨by rw [← hWN.out]; exact cell_below ((cell_of eA 0).trans rfl) hu, by rw [← hHN.out]; exact cell_below ((cell_of eA 1).trans rfl) hu⟩
  have cA : Hid (∀ u (b : Below w2.heap.size w2 u) (x y : Int), Calls Try.prog 37 #[vA, .agg #[.int .i64 x, .int .i64 y]] u fun e w' => ∃ r, e = .returned r ∧ r = .int .i64 (As.count (x, y) : Nat) ∧ Below u.heap.size u w') := fun u b x y => among_any _ As _ x y u (LA.go heldCell hFA b) (fun q hq => Nat.lt_of_lt_of_le (hFA q hq) b.size) (by have := HAl.out; omega)
  have own0 : Hid (w2.ownsRow w2.heap.size 28 2 (.slice none 0 0) ((gridCells WN 0 (fun q => decide (q ∈ As)))).length (rowL cellL ((gridCells WN 0 (fun q => decide (q ∈ As)))))) := ⟨rfl, .inl ⟨rfl, rfl⟩⟩
  have HB0 : Hid (Below w2.heap.size w2 w2) := Below.refl _ _
  obtain ⟨va, vl, vc, hvA⟩ : ∃ va vl vc, vA = .slice va vl vc := by
    obtain ⟨a, cap, h, _⟩ := LA.form
    exact ⟨_, _, _, h⟩
  subst hvA
  clear LA eA hFA
  go_loopw [7, 8] (fun v i wq => ∃ k : Nat, k ≤ HN ∧ i = .int .i64 k ∧ Hid (wq.ownsRow w2.heap.size 28 2 v ((gridCells WN k (fun q => decide (q ∈ As)))).length (rowL cellL ((gridCells WN k (fun q => decide (q ∈ As)))))) ∧ Hid (Below w2.heap.size w2 wq)) (fun _ i _ => HN - (intOf i).toNat)
  case atStart => exact ⟨0, Nat.zero_le _, rfl, own0, HB0⟩
  case round =>
    obtain ⟨k, hk, rfl, HO, HB⟩ := hrel
    clear own0 HB0
    have y1 := (zW.out _ HB.out).2
    by_cases hlt : k < HN
    · have hd : decide ((k : Int) < (HN : Int)) = true := decide_eq_true (by omega)
      go_wp2_with fail
      have HO1 : Hid (wr.ownsRow w2.heap.size 28 2 u7 ((gridCells WN k (fun q => decide (q ∈ As))) ++ (gridRow 0 ((k : Nat) : Int) (fun q => decide (q ∈ As)))).length (rowL cellL ((gridCells WN k (fun q => decide (q ∈ As))) ++ (gridRow 0 ((k : Nat) : Int) (fun q => decide (q ∈ As)))))) := by
        have : (gridCells WN k (fun q => decide (q ∈ As))) ++ (gridRow 0 ((k : Nat) : Int) (fun q => decide (q ∈ As))) = (gridCells WN k (fun q => decide (q ∈ As))) := by rw [gridRow_nil, List.append_nil]
        show wr.ownsRow w2.heap.size 28 2 u7 ((gridCells WN k (fun q => decide (q ∈ As))) ++ (gridRow 0 ((k : Nat) : Int) (fun q => decide (q ∈ As)))).length (rowL cellL ((gridCells WN k (fun q => decide (q ∈ As))) ++ (gridRow 0 ((k : Nat) : Int) (fun q => decide (q ∈ As)))))
        rw [this]
        exact HO.out
      clear HO y1 hd
      go_loopw [7, 9] (fun v i wq => ∃ j : Nat, j ≤ WN ∧ i = .int .i64 j ∧ Hid (wq.ownsRow w2.heap.size 28 2 v ((gridCells WN k (fun q => decide (q ∈ As))) ++ (gridRow j ((k : Nat) : Int) (fun q => decide (q ∈ As)))).length (rowL cellL ((gridCells WN k (fun q => decide (q ∈ As))) ++ (gridRow j ((k : Nat) : Int) (fun q => decide (q ∈ As)))))) ∧ Hid (Below w2.heap.size w2 wq)) (fun _ i _ => WN - (intOf i).toNat)
      case atStart => exact ⟨0, Nat.zero_le _, rfl, HO1, HB⟩
      case round =>
        clear HO1 HB
        obtain ⟨j, hj, rfl, HO, HB⟩ := hrel
        have y0 := (zW.out _ HB.out).1
        by_cases hx : j < WN
        · have hd : decide ((j : Int) < (WN : Int)) = true := decide_eq_true (by omega)
          have cA1 := cA.out _ HB.out (j : Int) (k : Int)
          have hsu := gridRow_succ j ((k : Nat) : Int) (fun q => decide (q ∈ As))
          by_cases hin : ((j : Int), (k : Int)) ∈ As
          · have hc : 0 < As.count ((j : Int), (k : Int)) := List.count_pos_iff.2 hin
            have hd2 : decide ((0 : Int) < ((As.count ((j : Int), (k : Int)) : Nat) : Int)) = true := decide_eq_true (by omega)
            rw [if_pos (decide_eq_true hin)] at hsu
            have HS : Hid ((gridCells WN k (fun q => decide (q ∈ As))) ++ (gridRow (j + 1) ((k : Nat) : Int) (fun q => decide (q ∈ As))) = ((gridCells WN k (fun q => decide (q ∈ As))) ++ (gridRow j ((k : Nat) : Int) (fun q => decide (q ∈ As)))) ++ [((j : Int), (k : Int))]) := by
              show (gridCells WN k (fun q => decide (q ∈ As))) ++ (gridRow (j + 1) ((k : Nat) : Int) (fun q => decide (q ∈ As))) = ((gridCells WN k (fun q => decide (q ∈ As))) ++ (gridRow j ((k : Nat) : Int) (fun q => decide (q ∈ As)))) ++ [((j : Int), (k : Int))]
              rw [hsu, List.append_assoc]
            have HLn : Hid (((gridCells WN k (fun q => decide (q ∈ As))) ++ (gridRow j ((k : Nat) : Int) (fun q => decide (q ∈ As)))).length ≤ 1000) := by
              have h1 := gridCells_len WN (fun q => decide (q ∈ As)) k
              have h2 := gridRow_len j ((k : Nat) : Int) (fun q => decide (q ∈ As))
              have h3 : WN * k ≤ 16 * 16 := Nat.mul_le_mul hW1 (by omega)
              show ((gridCells WN k (fun q => decide (q ∈ As))) ++ (gridRow j ((k : Nat) : Int) (fun q => decide (q ∈ As)))).length ≤ 1000
              rw [List.length_append]
              omega
            generalize As.count ((j : Int), (k : Int)) = cn at *
            clear hsu hin
            go_wp2_with (first
              | (go_at_call 37; refine cA1.mono ?_; rintro e5 w5 ⟨r5, rfl, rfl, b5⟩; have HB5 := bcat HB.out b5 (Nat.le_refl _))
              | (at_builtin; have HO5 := own_go HO.out b5; have bA := (Below.refl w5.heap.size w5).alloc (Nat.le_refl _) (.cells #[.int .i64 j, .int .i64 k] 28); have HO6 := own_go HO5 bA; have L6 := list_lone (heap_alloc_new w5 (.cells #[.int .i64 j, .int .i64 k] 28)); have e1 : (((gridCells WN k (fun q => decide (q ∈ As))) ++ (gridRow j ((k : Nat) : Int) (fun q => decide (q ∈ As)))).length + [((j : Int), (k : Int))].length) * 16 ≤ 140737488355328 := (by have := HLn.out; simp only [List.length_cons, List.length_nil]; omega); have e2 : ((gridCells WN k (fun q => decide (q ∈ As))) ++ (gridRow j ((k : Nat) : Int) (fun q => decide (q ∈ As)))).length + [((j : Int), (k : Int))].length ≤ maxLen := (by have := HLn.out; unfold maxLen; simp only [List.length_cons, List.length_nil]; omega); have e3 := Nat.le_trans HB5.size bA.size; refine wpList_app kindCell rfl (.tmp 59) (.tmp 63) rfl _ _ _ rfl HO6 _ _ [((j : Int), (k : Int))] rfl L6 e1 e2 e3 ?_; intro v7 w7 own7 g7 at7; rw [← HS.out] at own7; have HB7 := below_row2 (bcat HB5 bA (Nat.le_refl _)) (Nat.le_refl _) HO6 g7))
            go_roundw
            case rel => exact ⟨j + 1, by omega, by go_num, own7, HB7⟩
            case measure => simp only [intOf]; omega
          · rw [List.count_eq_zero.2 hin] at cA1
            rw [if_neg (by rw [decide_eq_true_eq]; exact hin), List.append_nil] at hsu
            have HS : Hid ((gridCells WN k (fun q => decide (q ∈ As))) ++ (gridRow (j + 1) ((k : Nat) : Int) (fun q => decide (q ∈ As))) = ((gridCells WN k (fun q => decide (q ∈ As))) ++ (gridRow j ((k : Nat) : Int) (fun q => decide (q ∈ As))))) := by
              show (gridCells WN k (fun q => decide (q ∈ As))) ++ (gridRow (j + 1) ((k : Nat) : Int) (fun q => decide (q ∈ As))) = ((gridCells WN k (fun q => decide (q ∈ As))) ++ (gridRow j ((k : Nat) : Int) (fun q => decide (q ∈ As))))
              rw [hsu]
            clear hsu hin
            go_wp2_with (go_at_call 37; refine cA1.mono ?_; rintro e5 w5 ⟨r5, rfl, rfl, b5⟩; have HB5 := bcat HB.out b5 (Nat.le_refl _); have HO5 := own_go HO.out b5; rw [← HS.out] at HO5)
            go_roundw
            case rel => exact ⟨j + 1, by omega, by go_num, HO5, HB5⟩
            case measure => simp only [intOf]; omega
        · obtain rfl : WN = j := by omega
          have hd : decide ((WN : Int) < (WN : Int)) = false := decide_eq_false (by omega)
          have HO9 := HO.out
          rw [← gridCells_succ] at HO9
          go_wp2_with fail
          go_roundw
          case rel => exact ⟨k + 1, by omega, by go_num, HO9, HB⟩
          case measure => simp only [intOf]; omega
    · obtain rfl : HN = k := by omega
      have hd : decide ((HN : Int) < (HN : Int)) = false := decide_eq_false (by omega)
      have HO9 := own_lower HO.out Bt.size
      rw [hcells] at HO9
      go_wp2
      go_ret
      exact ⟨_, rfl, HO9, bcat Bt HB.out (Nat.le_refl _)⟩
set_option maxRecDepth 100000 in
set_option maxHeartbeats 8000000 in
theorem rswept_run (c : Conf) (vb vp vr vs : Value) (w : World) (hA : ConfAt (Old w) c vb vp vr vs w) (l1 : c.blocked.length ≤ 8796093022208) (l2 : c.ports.length ≤ 8796093022208) (l3 : c.robots.length ≤ 5864062014805) (l4 : c.stacks.length ≤ 3518437208880) (l5 : ∀ s ∈ c.stacks, s.2.length ≤ 17592186044416) {G : GS} (hN : newP c = some G) (m : Move) (hl : legalU c.W c.H G.uses m = true) (WN HN : Nat) (hWN0 : c.W = WN) (hHN0 : c.H = HN) (hW1 : WN ≤ 16) (hH1 : HN ≤ 16) (NN : Nat) (As : List Cell) (hcells : gridCells WN HN (fun q => decide (q ∈ As)) = boxOf m.2.2.2.1 m.2.2.2.2.1) (hk1 : m.1 = 1) (hnn : m.2.2.1 = NN) (hn16 : NN ≤ 16) (hAs : As = runCells m.2.2.2.1 m.2.1 (NN + 1)) :
    Calls Try.prog 15 #[.agg #[.int .i64 c.W, .int .i64 c.H, .int .i64 c.height, vb, vp, vr, vs, .int .i64 c.unit, .int .i64 c.accel, .int .i64 c.speed, .int .i64 c.turn, .int .i64 c.hoist, .int .i64 c.queue, .int .i64 c.resend, .int .i64 c.budget, .bool c.back], .agg (moveCs m)] w fun e w' => ∃ r, e = .returned r ∧ (w'.ownsRow w.heap.size 28 2 r (boxOf m.2.2.2.1 m.2.2.2.2.1).length (rowL cellL (boxOf m.2.2.2.1 m.2.2.2.2.1)) ∧ Below w.heap.size w w') := by
  have hWN : Hid (c.W = WN) := hWN0
  have hHN : Hid (c.H = HN) := hHN0
  clear hWN0 hHN0
  have cL := fun u (b : Below w.heap.size w u) => rlegal_old c vb vp vr vs w hA l1 l2 l3 l4 l5 hN m u b
  rw [hl] at cL
  have Q0 := two_new w #[.int .i64 c.W, .int .i64 c.H, .int .i64 c.height, vb, vp, vr, vs, .int .i64 c.unit, .int .i64 c.accel, .int .i64 c.speed, .int .i64 c.turn, .int .i64 c.hoist, .int .i64 c.queue, .int .i64 c.resend, .int .i64 c.budget, .bool c.back] (moveCs m) 32
  have hR := row_below Q0.b (Below.refl _ _)
  have HI : Hid ((Try.prog.info? 32).map (·.size) = some (moveCs m).size) := info_move
  obtain ⟨kd, dir, n, ⟨⟨fx, fy⟩, fd⟩, to, ma, me⟩ := m
  have k0 : Hid ((moveCs (kd, dir, n, ((fx, fy), fd), to, ma, me))[0]? = some (.int .i64 kd)) := rfl
  have k1 : Hid ((moveCs (kd, dir, n, ((fx, fy), fd), to, ma, me))[1]? = some (.int .i64 dir)) := rfl
  have k2 : Hid ((moveCs (kd, dir, n, ((fx, fy), fd), to, ma, me))[2]? = some (.int .i64 n)) := rfl
  have k3 : Hid ((moveCs (kd, dir, n, ((fx, fy), fd), to, ma, me))[3]? = some (.int .i64 fx)) := rfl
  have k4 : Hid ((moveCs (kd, dir, n, ((fx, fy), fd), to, ma, me))[4]? = some (.int .i64 fy)) := rfl
  have k5 : Hid ((moveCs (kd, dir, n, ((fx, fy), fd), to, ma, me))[5]? = some (.bool fd)) := rfl
  dsimp only at *
  generalize moveCs (kd, dir, n, ((fx, fy), fd), to, ma, me) = cs at *
  generalize boxOf ((fx, fy), fd) to = BX at *
  clear hA hN hl
  subst hk1
  subst hnn
  have cS := fun u (k : Int) => shiftS_any fx fy fd dir k u
  go_enter Try.func15, Try.ntmps15
  go_wp2_with (first
    | (refine wpList_load_row rfl 26 (.tmp 2) rfl w.heap.size rfl 26 #[.int .i64 c.W, .int .i64 c.H, .int .i64 c.height, vb, vp, vr, vs, .int .i64 c.unit, .int .i64 c.accel, .int .i64 c.speed, .int .i64 c.turn, .int .i64 c.hoist, .int .i64 c.queue, .int .i64 c.resend, .int .i64 c.budget, .bool c.back] (0, 0) _ Q0.a Try.underlying26 rfl info_conf ?_)
    | (refine wpList_load_at rfl 32 (.tmp 3) rfl ⟨w.heap.size + 1, 0, none⟩ rfl cs hR (aggMv _) HI.out ?_)
    | (go_at_call 12; refine (cL _ Q0.below).mono ?_; rintro e w1 ⟨r1, rfl, rfl, b1⟩; have Q1 := Q0.go b1; have q0 := (cell_of Q1.b 0).trans k0.out; have q2 := (cell_of Q1.b 2).trans k2.out; have hP := pose_at Q1.b 3 k3.out k4.out k5.out))
  have HR0 : Hid (w1.ownsRow w1.heap.size 28 2 (.slice none 0 0) (runCells ((fx, fy), fd) dir 0).length (rowL cellL (runCells ((fx, fy), fd) dir 0))) := ⟨rfl, .inl ⟨rfl, rfl⟩⟩
  have HB0 : Hid (Below w1.heap.size w1 w1) := Below.refl _ _
  have q1 := (cell_of Q1.b 1).trans k1.out
  have zM : Hid (∀ u, Below w1.heap.size w1 u → u.cell? ⟨w.heap.size + 1, 2, none⟩ = some (.int .i64 (NN : Int)) ∧ u.cell? ⟨w.heap.size + 1, 1, none⟩ = some (.int .i64 dir) ∧ ∀ j z, #[Value.int .i64 fx, .int .i64 fy, .bool fd][j]? = some z → u.cell? ((⟨w.heap.size + 1, 3, none⟩ : Addr).add j) = some z) := fun u hu => ⟨cell_below q2 hu, cell_below q1 hu, fun j z hj => cell_below (hP j z hj) hu⟩
  clear hP q0 q1 q2
  go_loopw [5, 6] (fun v i wq => ∃ k : Nat, k ≤ NN + 1 ∧ i = .int .i64 k ∧ Hid (wq.ownsRow w1.heap.size 28 2 v (runCells ((fx, fy), fd) dir k).length (rowL cellL (runCells ((fx, fy), fd) dir k))) ∧ Hid (Below w1.heap.size w1 wq)) (fun _ i _ => NN + 1 - (intOf i).toNat)
  case atStart => exact ⟨0, Nat.zero_le _, rfl, HR0, HB0⟩
  case round =>
    obtain ⟨k, hk, rfl, HO, HB⟩ := hrel
    clear HR0 HB0
    have y2 := (zM.out _ HB.out).1
    by_cases hlt : k ≤ NN
    · have hd : decide ((k : Int) ≤ (NN : Int)) = true := decide_eq_true (by omega)
      have y1 := (zM.out _ HB.out).2.1
      have hP := (zM.out _ HB.out).2.2
      have cS1 := cS wr (k : Int)
      have HS : Hid (runCells ((fx, fy), fd) dir (k + 1) = runCells ((fx, fy), fd) dir k ++ [(shiftP ((fx, fy), fd) dir (k : Int)).1, second (shiftP ((fx, fy), fd) dir (k : Int))]) := runCells_succ _ _ _
      have HLn : Hid ((runCells ((fx, fy), fd) dir k).length ≤ 100) := by show (runCells ((fx, fy), fd) dir k).length ≤ 100; rw [runCells_len]; omega
      generalize shiftP ((fx, fy), fd) dir (k : Int) = sp at *
      obtain ⟨⟨sx, sy⟩, sd⟩ := sp
      have cC := fun u => cellsR_any sx sy sd u
      unfold poseCs at cS1
      dsimp only at cS1 HS
      generalize second ((sx, sy), sd) = s2 at *
      obtain ⟨x2, y2'⟩ := s2
      dsimp only at cC HS
      go_wp2_with (first
        | (refine wpList_load_at rfl 30 (.tmp 28) rfl ⟨w.heap.size + 1, 3, none⟩ rfl #[.int .i64 fx, .int .i64 fy, .bool fd] hP (aggPose _) info_pose ?_)
        | (go_at_call 49; refine cS1.mono ?_; rintro e5 w5 ⟨r5, rfl, rfl, b5⟩)
        | (go_at_call 25; refine (cC _).mono ?_; rintro e6 w6 ⟨r6, rfl, ⟨gq, rfl, hgq, hq⟩, b6⟩; have b56 := bcat b5 b6 (Nat.le_refl _); have HO6 := own_go HO.out b56; have HB6 := bcat HB.out b56 (Nat.le_refl _))
        | (at_builtin; have e1 : ((runCells ((fx, fy), fd) dir k).length + [(sx, sy), (x2, y2')].length) * 16 ≤ 140737488355328 := (by have := HLn.out; simp only [List.length_cons, List.length_nil]; omega); have e2 : (runCells ((fx, fy), fd) dir k).length + [(sx, sy), (x2, y2')].length ≤ maxLen := (by have := HLn.out; unfold maxLen; simp only [List.length_cons, List.length_nil]; omega); refine wpList_app kindCell rfl (.tmp 27) (.tmp 34) rfl _ _ _ rfl HO6 _ _ [(sx, sy), (x2, y2')] rfl (list_two hq) e1 e2 HB6.size ?_; intro v7 w7 own7 g7 at7; rw [← HS.out] at own7; have HB7 := below_row2 HB6 (Nat.le_refl _) HO6 g7))
      go_roundw
      case rel => exact ⟨k + 1, by omega, by go_num, own7, HB7⟩
      case measure => simp only [intOf]; omega
    · have hkN : k = NN + 1 := by omega
      have hd : decide ((k : Int) ≤ (NN : Int)) = false := decide_eq_false (by omega)
      rw [← hkN] at hAs
      have hk100 : k ≤ 100 := by omega
      clear hkN
      have Qt := Q1.go HB.out
      have LA0 := list_of_own kindCell.len HO.out
      rw [← hAs] at LA0
      have LA : ListAt 2 cellEl (Since w1.heap.size wr) As u5 wr := LA0
      have hFA : ∀ b, Since w1.heap.size wr b → b < wr.heap.size := fun b h => h.2
      have HAl : Hid (As.length ≤ 1000) := by show As.length ≤ 1000; rw [hAs, runCells_len]; omega
      obtain ⟨vA, hvA0⟩ : ∃ v, v = u5 := ⟨_, rfl⟩
      rw [← hvA0] at LA ⊢
      go_wp2_with fail
      obtain ⟨wz, hwz⟩ : ∃ wz, wz = wr := ⟨_, rfl⟩
      subst hwz
      clear hvA0 HO HB Q1 Q0 hAs cS cL hR HI LA0
      have eA := Qt.a
      have Bt := Qt.below
      have zW : Hid (∀ u, Below wz.heap.size wz u → u.cell? ⟨w.heap.size, 0, none⟩ = some (.int .i64 (WN : Int)) ∧ u.cell? ⟨w.heap.size, 1, none⟩ = some (.int .i64 (HN : Int))) := fun u hu => ⟨by rw [← hWN.out]; exact cell_below ((cell_of eA 0).trans rfl) hu, by rw [← hHN.out]; exact cell_below ((cell_of eA 1).trans rfl) hu⟩
      have cA : Hid (∀ u (b : Below wz.heap.size wz u) (x y : Int), Calls Try.prog 37 #[vA, .agg #[.int .i64 x, .int .i64 y]] u fun e w' => ∃ r, e = .returned r ∧ r = .int .i64 (As.count (x, y) : Nat) ∧ Below u.heap.size u w') := fun u b x y => among_any _ As _ x y u (LA.go heldCell hFA b) (fun q hq => Nat.lt_of_lt_of_le (hFA q hq) b.size) (by have := HAl.out; omega)
      have own0 : Hid (wz.ownsRow wz.heap.size 28 2 (.slice none 0 0) ((gridCells WN 0 (fun q => decide (q ∈ As)))).length (rowL cellL ((gridCells WN 0 (fun q => decide (q ∈ As)))))) := ⟨rfl, .inl ⟨rfl, rfl⟩⟩
      have HB0 : Hid (Below wz.heap.size wz wz) := Below.refl _ _
      obtain ⟨va, vl, vc, hvA⟩ : ∃ va vl vc, vA = .slice va vl vc := by
        obtain ⟨a, cap, h, _⟩ := LA.form
        exact ⟨_, _, _, h⟩
      subst hvA
      clear LA eA hFA
      go_loopw [7, 8] (fun v i wq => ∃ k : Nat, k ≤ HN ∧ i = .int .i64 k ∧ Hid (wq.ownsRow wz.heap.size 28 2 v ((gridCells WN k (fun q => decide (q ∈ As)))).length (rowL cellL ((gridCells WN k (fun q => decide (q ∈ As)))))) ∧ Hid (Below wz.heap.size wz wq)) (fun _ i _ => HN - (intOf i).toNat)
      case atStart => exact ⟨0, Nat.zero_le _, rfl, own0, HB0⟩
      case round =>
        obtain ⟨k, hk, rfl, HO, HB⟩ := hrel
        clear own0 HB0
        have y1 := (zW.out _ HB.out).2
        by_cases hlt : k < HN
        · have hd : decide ((k : Int) < (HN : Int)) = true := decide_eq_true (by omega)
          go_wp2_with fail
          have HO1 : Hid (wr.ownsRow wz.heap.size 28 2 u7 ((gridCells WN k (fun q => decide (q ∈ As))) ++ (gridRow 0 ((k : Nat) : Int) (fun q => decide (q ∈ As)))).length (rowL cellL ((gridCells WN k (fun q => decide (q ∈ As))) ++ (gridRow 0 ((k : Nat) : Int) (fun q => decide (q ∈ As)))))) := by
            have : (gridCells WN k (fun q => decide (q ∈ As))) ++ (gridRow 0 ((k : Nat) : Int) (fun q => decide (q ∈ As))) = (gridCells WN k (fun q => decide (q ∈ As))) := by rw [gridRow_nil, List.append_nil]
            show wr.ownsRow wz.heap.size 28 2 u7 ((gridCells WN k (fun q => decide (q ∈ As))) ++ (gridRow 0 ((k : Nat) : Int) (fun q => decide (q ∈ As)))).length (rowL cellL ((gridCells WN k (fun q => decide (q ∈ As))) ++ (gridRow 0 ((k : Nat) : Int) (fun q => decide (q ∈ As)))))
            rw [this]
            exact HO.out
          clear HO y1 hd
          go_loopw [7, 9] (fun v i wq => ∃ j : Nat, j ≤ WN ∧ i = .int .i64 j ∧ Hid (wq.ownsRow wz.heap.size 28 2 v ((gridCells WN k (fun q => decide (q ∈ As))) ++ (gridRow j ((k : Nat) : Int) (fun q => decide (q ∈ As)))).length (rowL cellL ((gridCells WN k (fun q => decide (q ∈ As))) ++ (gridRow j ((k : Nat) : Int) (fun q => decide (q ∈ As)))))) ∧ Hid (Below wz.heap.size wz wq)) (fun _ i _ => WN - (intOf i).toNat)
          case atStart => exact ⟨0, Nat.zero_le _, rfl, HO1, HB⟩
          case round =>
            clear HO1 HB
            obtain ⟨j, hj, rfl, HO, HB⟩ := hrel
            have y0 := (zW.out _ HB.out).1
            by_cases hx : j < WN
            · have hd : decide ((j : Int) < (WN : Int)) = true := decide_eq_true (by omega)
              have cA1 := cA.out _ HB.out (j : Int) (k : Int)
              have hsu := gridRow_succ j ((k : Nat) : Int) (fun q => decide (q ∈ As))
              by_cases hin : ((j : Int), (k : Int)) ∈ As
              · have hc : 0 < As.count ((j : Int), (k : Int)) := List.count_pos_iff.2 hin
                have hd2 : decide ((0 : Int) < ((As.count ((j : Int), (k : Int)) : Nat) : Int)) = true := decide_eq_true (by omega)
                rw [if_pos (decide_eq_true hin)] at hsu
                have HS : Hid ((gridCells WN k (fun q => decide (q ∈ As))) ++ (gridRow (j + 1) ((k : Nat) : Int) (fun q => decide (q ∈ As))) = ((gridCells WN k (fun q => decide (q ∈ As))) ++ (gridRow j ((k : Nat) : Int) (fun q => decide (q ∈ As)))) ++ [((j : Int), (k : Int))]) := by
                  show (gridCells WN k (fun q => decide (q ∈ As))) ++ (gridRow (j + 1) ((k : Nat) : Int) (fun q => decide (q ∈ As))) = ((gridCells WN k (fun q => decide (q ∈ As))) ++ (gridRow j ((k : Nat) : Int) (fun q => decide (q ∈ As)))) ++ [((j : Int), (k : Int))]
                  rw [hsu, List.append_assoc]
                have HLn : Hid (((gridCells WN k (fun q => decide (q ∈ As))) ++ (gridRow j ((k : Nat) : Int) (fun q => decide (q ∈ As)))).length ≤ 1000) := by
                  have h1 := gridCells_len WN (fun q => decide (q ∈ As)) k
                  have h2 := gridRow_len j ((k : Nat) : Int) (fun q => decide (q ∈ As))
                  have h3 : WN * k ≤ 16 * 16 := Nat.mul_le_mul hW1 (by omega)
                  show ((gridCells WN k (fun q => decide (q ∈ As))) ++ (gridRow j ((k : Nat) : Int) (fun q => decide (q ∈ As)))).length ≤ 1000
                  rw [List.length_append]
                  omega
                generalize As.count ((j : Int), (k : Int)) = cn at *
                clear hsu hin
                go_wp2_with (first
                  | (go_at_call 37; refine cA1.mono ?_; rintro e5 w5 ⟨r5, rfl, rfl, b5⟩; have HB5 := bcat HB.out b5 (Nat.le_refl _))
                  | (at_builtin; have HO5 := own_go HO.out b5; have bA := (Below.refl w5.heap.size w5).alloc (Nat.le_refl _) (.cells #[.int .i64 j, .int .i64 k] 28); have HO6 := own_go HO5 bA; have L6 := list_lone (heap_alloc_new w5 (.cells #[.int .i64 j, .int .i64 k] 28)); have e1 : (((gridCells WN k (fun q => decide (q ∈ As))) ++ (gridRow j ((k : Nat) : Int) (fun q => decide (q ∈ As)))).length + [((j : Int), (k : Int))].length) * 16 ≤ 140737488355328 := (by have := HLn.out; simp only [List.length_cons, List.length_nil]; omega); have e2 : ((gridCells WN k (fun q => decide (q ∈ As))) ++ (gridRow j ((k : Nat) : Int) (fun q => decide (q ∈ As)))).length + [((j : Int), (k : Int))].length ≤ maxLen := (by have := HLn.out; unfold maxLen; simp only [List.length_cons, List.length_nil]; omega); have e3 := Nat.le_trans HB5.size bA.size; refine wpList_app kindCell rfl (.tmp 59) (.tmp 63) rfl _ _ _ rfl HO6 _ _ [((j : Int), (k : Int))] rfl L6 e1 e2 e3 ?_; intro v7 w7 own7 g7 at7; rw [← HS.out] at own7; have HB7 := below_row2 (bcat HB5 bA (Nat.le_refl _)) (Nat.le_refl _) HO6 g7))
                go_roundw
                case rel => exact ⟨j + 1, by omega, by go_num, own7, HB7⟩
                case measure => simp only [intOf]; omega
              · rw [List.count_eq_zero.2 hin] at cA1
                rw [if_neg (by rw [decide_eq_true_eq]; exact hin), List.append_nil] at hsu
                have HS : Hid ((gridCells WN k (fun q => decide (q ∈ As))) ++ (gridRow (j + 1) ((k : Nat) : Int) (fun q => decide (q ∈ As))) = ((gridCells WN k (fun q => decide (q ∈ As))) ++ (gridRow j ((k : Nat) : Int) (fun q => decide (q ∈ As))))) := by
                  show (gridCells WN k (fun q => decide (q ∈ As))) ++ (gridRow (j + 1) ((k : Nat) : Int) (fun q => decide (q ∈ As))) = ((gridCells WN k (fun q => decide (q ∈ As))) ++ (gridRow j ((k : Nat) : Int) (fun q => decide (q ∈ As))))
                  rw [hsu]
                clear hsu hin
                go_wp2_with (go_at_call 37; refine cA1.mono ?_; rintro e5 w5 ⟨r5, rfl, rfl, b5⟩; have HB5 := bcat HB.out b5 (Nat.le_refl _); have HO5 := own_go HO.out b5; rw [← HS.out] at HO5)
                go_roundw
                case rel => exact ⟨j + 1, by omega, by go_num, HO5, HB5⟩
                case measure => simp only [intOf]; omega
            · obtain rfl : WN = j := by omega
              have hd : decide ((WN : Int) < (WN : Int)) = false := decide_eq_false (by omega)
              have HO9 := HO.out
              rw [← gridCells_succ] at HO9
              go_wp2_with fail
              go_roundw
              case rel => exact ⟨k + 1, by omega, by go_num, HO9, HB⟩
              case measure => simp only [intOf]; omega
        · obtain rfl : HN = k := by omega
          have hd : decide ((HN : Int) < (HN : Int)) = false := decide_eq_false (by omega)
          have HO9 := own_lower HO.out Bt.size
          rw [hcells] at HO9
          go_wp2
          go_ret
          exact ⟨_, rfl, HO9, bcat Bt HB.out (Nat.le_refl _)⟩
end Go.Proofs.Ytmaeofkbkpplnaa.Grid
namespace Go.Proofs.Ytmaeofkbkpplnaa.Grid
set_option linter.unusedVariables false
set_option linter.unusedSimpArgs false
open Go Go.RowKit Go.Shelf Go.Proofs

/- The cells that a move sweeps: none, if it is not legal. -/
def sweptL (W H : Int) (us : List Int) (m : Move) : List Cell := if legalU W H us m = true then boxOf m.2.2.2.1 m.2.2.2.2.1 else []
theorem nil_row (w : World) (b : Nat) : w.ownsRow b 28 2 (.slice none 0 0) ([] : List Cell).length (rowL cellL []) := ⟨rfl, .inl ⟨rfl, rfl⟩⟩
theorem swept_both (g u : Nat) (W H : Int) (us : List Int) (vp : Value) (m : Move) (hW : W ≤ 16) (hH : H ≤ 16) (w : World) (hG : GridAt w g u W H us vp) :
    Calls Try.prog 14 #[.pointer (some ⟨g, 0, none⟩), .agg (moveCs m)] w fun e w' => ∃ v, e = .returned v ∧ w'.ownsRow w.heap.size 28 2 v (sweptL W H us m).length (rowL cellL (sweptL W H us m)) ∧ Below w.heap.size w w' := by
  unfold sweptL
  by_cases hl : legalU W H us m = true
  · rw [if_pos hl]
    exact swept_yes g u W H us vp m hW hH w hG hl
  · rw [if_neg hl]
    refine (swept_no g u W H us vp m w hG (by simpa using hl)).mono ?_
    rintro e w' ⟨rfl, b⟩
    exact ⟨_, rfl, nil_row _ _, b⟩
theorem rswept_both (c : Conf) (vb vp vr vs : Value) (w : World) (hA : ConfAt (Old w) c vb vp vr vs w) (l1 : c.blocked.length ≤ 8796093022208) (l2 : c.ports.length ≤ 8796093022208) (l3 : c.robots.length ≤ 5864062014805) (l4 : c.stacks.length ≤ 3518437208880) (l5 : ∀ s ∈ c.stacks, s.2.length ≤ 17592186044416) {G : GS} (hN : newP c = some G) (m : Move) (hW : c.W ≤ 16) (hH : c.H ≤ 16) :
    Calls Try.prog 15 #[.agg #[.int .i64 c.W, .int .i64 c.H, .int .i64 c.height, vb, vp, vr, vs, .int .i64 c.unit, .int .i64 c.accel, .int .i64 c.speed, .int .i64 c.turn, .int .i64 c.hoist, .int .i64 c.queue, .int .i64 c.resend, .int .i64 c.budget, .bool c.back], .agg (moveCs m)] w fun e w' => ∃ r, e = .returned r ∧ (w'.ownsRow w.heap.size 28 2 r (sweptL c.W c.H G.uses m).length (rowL cellL (sweptL c.W c.H G.uses m)) ∧ Below w.heap.size w w') := by
  unfold sweptL
  by_cases hl : legalU c.W c.H G.uses m = true
  · rw [if_pos hl]
    obtain ⟨hf, hin⟩ := legal_in hW hH hl
    obtain ⟨n1, n2, n3, n4⟩ := fits_near hW hH hf
    obtain ⟨i1, i2⟩ := (fits_in hf).1
    obtain ⟨WN, hWN⟩ : ∃ n : Nat, c.W = n := Int.eq_ofNat_of_zero_le (by omega)
    obtain ⟨HN, hHN⟩ : ∃ n : Nat, c.H = n := Int.eq_ofNat_of_zero_le (by have := i2.2.2; omega)
    rw [hWN, hHN] at hin
    have hsp := span_le (b := m.2.2.2.2.1) n1 n2 n3 n4
    by_cases h1 : m.1 = 1
    · have hq := hl
      unfold legalU leadsP mayShift shiftR mayShift at hq
      rw [if_pos h1] at hq
      simp only [Bool.and_eq_true, decide_eq_true_eq] at hq
      obtain ⟨⟨⟨⟨⟨⟨⟨q1, q2⟩, q3⟩, q4⟩, q5⟩, q6⟩, _⟩, _⟩ := hq
      rw [if_pos ⟨⟨⟨q1, q2⟩, q3⟩, q4⟩] at q6
      obtain ⟨NN, hNN⟩ := Int.eq_ofNat_of_zero_le q1
      have hm := box_mem (d := m.2.1) (n := m.2.2.1) n1 n2 n3 n4 ⟨q3, q4⟩ ⟨q1, q2⟩
      rw [← q6] at hm
      exact rswept_run c vb vp vr vs w hA l1 l2 l3 l4 l5 hN m hl WN HN hWN hHN (by omega) (by omega) NN _ (cells_box hin hsp _ fun q => by rw [runCells_mem, hm q, hNN]) h1 hNN (by omega) rfl
    · by_cases h2 : m.1 = 2
      · have hq := hl
        unfold legalU leadsP at hq
        rw [if_neg h1, if_pos h2] at hq
        simp only [Bool.and_eq_true, decide_eq_true_eq] at hq
        have q6 := hq.1.1.2
        refine rswept_turn c vb vp vr vs w hA l1 l2 l3 l4 l5 hN m hl WN HN hWN hHN (by omega) (by omega) _ (cells_box hin hsp _ fun q => ?_) h2 ⟨n1, n2, n3, n4⟩ rfl
        rw [q6]
        exact (box_turn (b := m.2.2.2.1.2) n1 n2 n3 n4 q).symm
      · have hq := hl
        unfold legalU leadsP at hq
        rw [if_neg h1, if_neg h2] at hq
        by_cases h3 : m.1 = 3 ∨ m.1 = 4
        · rw [if_pos h3] at hq
          simp only [Bool.and_eq_true, decide_eq_true_eq] at hq
          have q6 := hq.1.1.2
          refine rswept_still c vb vp vr vs w hA l1 l2 l3 l4 l5 hN m hl WN HN hWN hHN (by omega) (by omega) _ (cells_box hin hsp _ fun q => ?_) (by simpa using h1) (by simpa using h2) rfl
          rw [q6]
          exact (box_still (b := m.2.2.2.1.2) n1 n2 n3 n4 q).symm
        · rw [if_neg h3] at hq
          simp at hq
  · rw [if_neg hl]
    refine (rswept_no c vb vp vr vs w hA l1 l2 l3 l4 l5 hN m (by simpa using hl)).mono ?_
    rintro e w' ⟨r, rfl, rfl, b⟩
    exact ⟨_, rfl, nil_row _ _, b⟩
theorem sweptL_len {W H : Int} {us : List Int} {m : Move} (hW : W ≤ 16) (hH : H ≤ 16) : (sweptL W H us m).length ≤ 1000 := by
  unfold sweptL
  by_cases hl : legalU W H us m = true
  · rw [if_pos hl]
    obtain ⟨hf, hin⟩ := legal_in hW hH hl
    obtain ⟨n1, n2, n3, n4⟩ := fits_near hW hH hf
    obtain ⟨i1, i2⟩ := (fits_in hf).1
    obtain ⟨WN, hWN⟩ : ∃ n : Nat, W = n := Int.eq_ofNat_of_zero_le (by omega)
    obtain ⟨HN, hHN⟩ : ∃ n : Nat, H = n := Int.eq_ofNat_of_zero_le (by have := i2.2.2; omega)
    rw [hWN, hHN] at hin
    have hsp := span_le (b := m.2.2.2.2.1) n1 n2 n3 n4
    rw [← cells_box hin hsp _ (fun q => Iff.rfl)]
    have h1 := gridCells_len WN (fun q => decide (q ∈ boxOf m.2.2.2.1 m.2.2.2.2.1)) HN
    have h3 : WN * HN ≤ 16 * 16 := Nat.mul_le_mul (by omega) (by omega)
    omega
  · rw [if_neg hl]
    simp
end Go.Proofs.Ytmaeofkbkpplnaa.Grid
