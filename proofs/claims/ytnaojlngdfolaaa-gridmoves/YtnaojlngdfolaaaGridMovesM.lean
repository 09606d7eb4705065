/-
  The chapter's own answer, further: the stack cells in order.
  The runs of a pose, in plain words: those ahead of the first one that is not legal.
  The stack cells in plain words: by their numbers, and row by row.
  The stack cells, told one by one to any function; and gathered, at most so many.
  The beginning of a list of one's own; any number as one from 0 to n - 1.
  The chapter's own answer, further: the moves of a pose.
  The law's SameMoves, over two lists of the same moves.
  The law GridMoves: the moves of any pose, in order; broken off anywhere, and gone through again; the stack cells likewise.
-/
import Derived.Test.YtnaojlngdfolaaaGridRSM
import Derived.Test.YtnaojlngdfolaaaGridRef6
import Derived.Test.YtnaojlngdfolaaaGridRuns
import Derived.Test.YtnaojlngdfolaaaGridGather
import Derived.Test.YtnaojlngdfolaaaGridSwept2
import Derived.Deep.DeepCutAuto
import Derived.Deep.CutRange
import Derived.Test.YtnaojlngdfolaaaGridLaw
namespace Go.Proofs.Ytnaojlngdfolaaa.Grid
set_option linter.unusedVariables false
set_option linter.unusedSimpArgs false
open Go Go.RowKit Go.Shelf Go.Proofs
attribute [local go_sem] Oper.semAt_some

set_option maxRecDepth 100000 in
set_option maxHeartbeats 8000000 in
theorem rstacks_any (c : Conf) (vb vp vr vs : Value) (w : World) (hA : ConfAt (Old w) c vb vp vr vs w) (l1 : c.blocked.length ≤ 8796093022208) (l2 : c.ports.length ≤ 8796093022208) (l3 : c.robots.length ≤ 5864062014805) (l4 : c.stacks.length ≤ 3518437208880) (l5 : ∀ s ∈ c.stacks, s.2.length ≤ 17592186044416) (WN HN : Nat) (hWN0 : c.W = WN) (hHN0 : c.H = HN) (hW1 : WN ≤ 16) (hH1 : HN ≤ 16) :
    Calls Try.prog 22 #[.agg #[.int .i64 c.W, .int .i64 c.H, .int .i64 c.height, vb, vp, vr, vs, .int .i64 c.unit, .int .i64 c.accel, .int .i64 c.speed, .int .i64 c.turn, .int .i64 c.hoist, .int .i64 c.queue, .int .i64 c.resend, .int .i64 c.budget, .bool c.back]] w fun e w' => ∃ r, e = .returned r ∧ (w'.ownsRow w.heap.size 28 2 r (gridCells WN HN (fun q => decide (stackedR c q))).length (rowL cellL (gridCells WN HN (fun q => decide (stackedR c q)))) ∧ Below w.heap.size w w') := by
  have hWN : Hid (c.W = WN) := hWN0
  have hHN : Hid (c.H = HN) := hHN0
  clear hWN0 hHN0
  obtain ⟨wb, hwb⟩ : ∃ wb, wb = w.alloc (.cells #[.int .i64 c.W, .int .i64 c.H, .int .i64 c.height, vb, vp, vr, vs, .int .i64 c.unit, .int .i64 c.accel, .int .i64 c.speed, .int .i64 c.turn, .int .i64 c.hoist, .int .i64 c.queue, .int .i64 c.resend, .int .i64 c.budget, .bool c.back] 26) := ⟨_, rfl⟩
  have Bt : Below w.heap.size w wb := by rw [hwb]; exact below_new (Below.refl _ _) _
  have eA : wb.heap[w.heap.size]? = some (.cells #[.int .i64 c.W, .int .i64 c.H, .int .i64 c.height, vb, vp, vr, vs, .int .i64 c.unit, .int .i64 c.accel, .int .i64 c.speed, .int .i64 c.turn, .int .i64 c.hoist, .int .i64 c.queue, .int .i64 c.resend, .int .i64 c.budget, .bool c.back] 26 (0, 0)) := by rw [hwb]; exact heap_alloc_new w _
  have zW : Hid (∀ u, Below wb.heap.size wb u → u.cell? ⟨w.heap.size, 0, none⟩ = some (.int .i64 (WN : Int)) ∧ u.cell? ⟨w.heap.size, 1, none⟩ = some (.int .i64 (HN : Int)) ∧ u.heap[w.heap.size]? = some (.cells #[.int .i64 c.W, .int .i64 c.H, .int .i64 c.height, vb, vp, vr, vs, .int .i64 c.unit, .int .i64 c.accel, .int .i64 c.speed, .int .i64 c.turn, .int .i64 c.hoist, .int .i64 c.queue, .int .i64 c.resend, .int .i64 c.budget, .bool c.back] 26 (0, 0))) := fun u hu => ⟨by rw [← hWN.out]; exact cell_below ((cell_of eA 0).trans rfl) hu, by rw [← hHN.out]; exact cell_below ((cell_of eA 1).trans rfl) hu, (hu.block _ (lt_of_heap eA)).trans eA⟩
  have cA : Hid (∀ u (b : Below wb.heap.size wb u) (x y : Int), Calls Try.prog 61 #[.agg #[.int .i64 c.W, .int .i64 c.H, .int .i64 c.height, vb, vp, vr, vs, .int .i64 c.unit, .int .i64 c.accel, .int .i64 c.speed, .int .i64 c.turn, .int .i64 c.hoist, .int .i64 c.queue, .int .i64 c.resend, .int .i64 c.budget, .bool c.back], .agg #[.int .i64 x, .int .i64 y]] u fun e w' => ∃ r, e = .returned r ∧ r = .bool (decide (stackedR c (x, y))) ∧ Below u.heap.size u w') := fun u b x y => stackedR_any (Old w) c vb vp vr vs x y u (hA.go (fun _ h => h) (bcat Bt b (Nat.le_refl _))) (fun g hg => Nat.lt_of_lt_of_le hg (bcat Bt b (Nat.le_refl _)).size) (by omega) (by omega) (by omega)
  have own0 : Hid (wb.ownsRow wb.heap.size 28 2 (.slice none 0 0) ((gridCells WN 0 (fun q => decide (stackedR c q)))).length (rowL cellL ((gridCells WN 0 (fun q => decide (stackedR c q)))))) := ⟨rfl, .inl ⟨rfl, rfl⟩⟩
  have HB0 : Hid (Below wb.heap.size wb wb) := Below.refl _ _
  clear eA hA
  go_enter Try.func22, Try.ntmps22
  go_upto_region 1 with fail
  rw [← hwb]
  clear hwb
  go_wp2_with fail
  go_loopw [3, 4] (fun v i wq => ∃ k : Nat, k ≤ HN ∧ i = .int .i64 k ∧ Hid (wq.ownsRow wb.heap.size 28 2 v ((gridCells WN k (fun q => decide (stackedR c q)))).length (rowL cellL ((gridCells WN k (fun q => decide (stackedR c q)))))) ∧ Hid (Below wb.heap.size wb wq)) (fun _ i _ => HN - (intOf i).toNat)
  case atStart => exact ⟨0, Nat.zero_le _, rfl, own0, HB0⟩
  case round =>
    obtain ⟨k, hk, rfl, HO, HB⟩ := hrel
    clear own0 HB0
    have y1 := (zW.out _ HB.out).2.1
    by_cases hlt : k < HN
    · have hd : decide ((k : Int) < (HN : Int)) = true := decide_eq_true (by omega)
      go_wp2_with fail
      have HO1 : Hid (wr.ownsRow wb.heap.size 28 2 u3 ((gridCells WN k (fun q => decide (stackedR c q))) ++ (gridRow 0 ((k : Nat) : Int) (fun q => decide (stackedR c q)))).length (rowL cellL ((gridCells WN k (fun q => decide (stackedR c q))) ++ (gridRow 0 ((k : Nat) : Int) (fun q => decide (stackedR c q)))))) := by
        have : (gridCells WN k (fun q => decide (stackedR c q))) ++ (gridRow 0 ((k : Nat) : Int) (fun q => decide (stackedR c q))) = (gridCells WN k (fun q => decide (stackedR c q))) := by rw [gridRow_nil, List.append_nil]
        show wr.ownsRow wb.heap.size 28 2 u3 ((gridCells WN k (fun q => decide (stackedR c q))) ++ (gridRow 0 ((k : Nat) : Int) (fun q => decide (stackedR c q)))).length (rowL cellL ((gridCells WN k (fun q => decide (stackedR c q))) ++ (gridRow 0 ((k : Nat) : Int) (fun q => decide (stackedR c q)))))
        rw [this]
        exact HO.out
      clear HO y1 hd
      go_loopw [3, 5] (fun v i wq => ∃ j : Nat, j ≤ WN ∧ i = .int .i64 j ∧ Hid (wq.ownsRow wb.heap.size 28 2 v ((gridCells WN k (fun q => decide (stackedR c q))) ++ (gridRow j ((k : Nat) : Int) (fun q => decide (stackedR c q)))).length (rowL cellL ((gridCells WN k (fun q => decide (stackedR c q))) ++ (gridRow j ((k : Nat) : Int) (fun q => decide (stackedR c q)))))) ∧ Hid (Below wb.heap.size wb wq)) (fun _ i _ => WN - (intOf i).toNat)
      case atStart => exact ⟨0, Nat.zero_le _, rfl, HO1, HB⟩
      case round =>
        clear HO1 HB
        obtain ⟨j, hj, rfl, HO, HB⟩ := hrel
        have y0 := (zW.out _ HB.out).1
        have hC := (zW.out _ HB.out).2.2
        by_cases hx : j < WN
        · have hd : decide ((j : Int) < (WN : Int)) = true := decide_eq_true (by omega)
          have cA1 := cA.out _ HB.out (j : Int) (k : Int)
          have hsu := gridRow_succ j ((k : Nat) : Int) (fun q => decide (stackedR c q))
          by_cases hin : stackedR c ((j : Int), (k : Int))
          · rw [decide_eq_true hin] at cA1
            rw [if_pos (decide_eq_true hin)] at hsu
            have HS : Hid ((gridCells WN k (fun q => decide (stackedR c q))) ++ (gridRow (j + 1) ((k : Nat) : Int) (fun q => decide (stackedR c q))) = ((gridCells WN k (fun q => decide (stackedR c q))) ++ (gridRow j ((k : Nat) : Int) (fun q => decide (stackedR c q)))) ++ [((j : Int), (k : Int))]) := by
              show (gridCells WN k (fun q => decide (stackedR c q))) ++ (gridRow (j + 1) ((k : Nat) : Int) (fun q => decide (stackedR c q))) = ((gridCells WN k (fun q => decide (stackedR c q))) ++ (gridRow j ((k : Nat) : Int) (fun q => decide (stackedR c q)))) ++ [((j : Int), (k : Int))]
              rw [hsu, List.append_assoc]
            have HLn : Hid (((gridCells WN k (fun q => decide (stackedR c q))) ++ (gridRow j ((k : Nat) : Int) (fun q => decide (stackedR c q)))).length ≤ 1000) := by
              have h1 := gridCells_len WN (fun q => decide (stackedR c q)) k
              have h2 := gridRow_len j ((k : Nat) : Int) (fun q => decide (stackedR c q))
              have h3 : WN * k ≤ 16 * 16 := Nat.mul_le_mul hW1 (by omega)
              show ((gridCells WN k (fun q => decide (stackedR c q))) ++ (gridRow j ((k : Nat) : Int) (fun q => decide (stackedR c q)))).length ≤ 1000
              rw [List.length_append]
              omega
            clear hsu hin
            go_wp2_with (first
              | (refine wpList_load_row rfl 26 (.tmp 1) rfl w.heap.size rfl 26 #[.int .i64 c.W, .int .i64 c.H, .int .i64 c.height, vb, vp, vr, vs, .int .i64 c.unit, .int .i64 c.accel, .int .i64 c.speed, .int .i64 c.turn, .int .i64 c.hoist, .int .i64 c.queue, .int .i64 c.resend, .int .i64 c.budget, .bool c.back] (0, 0) _ hC Try.underlying26 rfl info_conf ?_)
              | (go_at_call 61; refine cA1.mono ?_; rintro e5 w5 ⟨r5, rfl, rfl, b5⟩; have HB5 := bcat HB.out b5 (Nat.le_refl _))
              | (at_builtin; have HO5 := own_go HO.out b5; have bA := (Below.refl w5.heap.size w5).alloc (Nat.le_refl _) (.cells #[.int .i64 j, .int .i64 k] 28); have HO6 := own_go HO5 bA; have L6 := list_lone (heap_alloc_new w5 (.cells #[.int .i64 j, .int .i64 k] 28)); have e1 : (((gridCells WN k (fun q => decide (stackedR c q))) ++ (gridRow j ((k : Nat) : Int) (fun q => decide (stackedR c q)))).length + [((j : Int), (k : Int))].length) * 16 ≤ 140737488355328 := (by have := HLn.out; simp only [List.length_cons, List.length_nil]; omega); have e2 : ((gridCells WN k (fun q => decide (stackedR c q))) ++ (gridRow j ((k : Nat) : Int) (fun q => decide (stackedR c q)))).length + [((j : Int), (k : Int))].length ≤ maxLen := (by have := HLn.out; unfold maxLen; simp only [List.length_cons, List.length_nil]; omega); have e3 := Nat.le_trans HB5.size bA.size; refine wpList_app kindCell rfl (.tmp 23) (.tmp 27) rfl _ _ _ rfl HO6 _ _ [((j : Int), (k : Int))] rfl L6 e1 e2 e3 ?_; intro v7 w7 own7 g7 at7; rw [← HS.out] at own7; have HB7 := below_row2 (bcat HB5 bA (Nat.le_refl _)) (Nat.le_refl _) HO6 g7))
            go_roundw
            case rel => exact ⟨j + 1, by omega, by go_num, own7, HB7⟩
            case measure => simp only [intOf]; omega
          · rw [decide_eq_false hin] at cA1
            rw [if_neg (by rw [decide_eq_true_eq]; exact hin), List.append_nil] at hsu
            have HS : Hid ((gridCells WN k (fun q => decide (stackedR c q))) ++ (gridRow (j + 1) ((k : Nat) : Int) (fun q => decide (stackedR c q))) = ((gridCells WN k (fun q => decide (stackedR c q))) ++ (gridRow j ((k : Nat) : Int) (fun q => decide (stackedR c q))))) := by
              show (gridCells WN k (fun q => decide (stackedR c q))) ++ (gridRow (j + 1) ((k : Nat) : Int) (fun q => decide (stackedR c q))) = ((gridCells WN k (fun q => decide (stackedR c q))) ++ (gridRow j ((k : Nat) : Int) (fun q => decide (stackedR c q))))
              rw [hsu]
            clear hsu hin
            go_wp2_with (first
              | (refine wpList_load_row rfl 26 (.tmp 1) rfl w.heap.size rfl 26 #[.int .i64 c.W, .int .i64 c.H, .int .i64 c.height, vb, vp, vr, vs, .int .i64 c.unit, .int .i64 c.accel, .int .i64 c.speed, .int .i64 c.turn, .int .i64 c.hoist, .int .i64 c.queue, .int .i64 c.resend, .int .i64 c.budget, .bool c.back] (0, 0) _ hC Try.underlying26 rfl info_conf ?_)
              | (go_at_call 61; refine cA1.mono ?_; rintro e5 w5 ⟨r5, rfl, rfl, b5⟩; have HB5 := bcat HB.out b5 (Nat.le_refl _); have HO5 := own_go HO.out b5; rw [← HS.out] at HO5))
            go_roundw
            case rel => exact ⟨j + 1, by omega, by go_num, HO5, HB5⟩
            case measure => simp only [intOf]; omega
        · obtain rfl : WN = j := by omega
          have hd : decide ((WN : Int) < (WN : Int)) = false := decide_eq_false (by omega)
          have HO9 := HO.out
          rw [← gridCells_succ] at HO9
          go_wp2_with fail
          go_roundw
          case rel => exact ⟨k + 1, by omega, by go_num, HO9, HB⟩
          case measure => simp only [intOf]; omega
    · obtain rfl : HN = k := by omega
      have hd : decide ((HN : Int) < (HN : Int)) = false := decide_eq_false (by omega)
      have HO9 := own_lower HO.out Bt.size
      go_wp2
      go_ret
      exact ⟨_, rfl, HO9, bcat Bt HB.out (Nat.le_refl _)⟩
end Go.Proofs.Ytnaojlngdfolaaa.Grid
namespace Go.Proofs.Ytnaojlngdfolaaa.Grid
set_option linter.unusedVariables false
set_option linter.unusedSimpArgs false
open Go Go.RowKit Go.Shelf Go.Proofs

/- The first k runs in a direction. -/
def firstRuns (p : Pose) (d : Int) (k : Nat) : List Move := (List.range k).map fun (i : Nat) => runM p d ((i : Int) + 1)
theorem firstRuns_succ (p : Pose) (d : Int) (k : Nat) : firstRuns p d (k + 1) = firstRuns p d k ++ [runM p d ((k : Int) + 1)] := by
  unfold firstRuns
  rw [List.range_succ, List.map_append]
  rfl
theorem firstRuns_len (p : Pose) (d : Int) (k : Nat) : (firstRuns p d k).length = k := by
  unfold firstRuns
  simp
/- Where the runs from n0 on end. -/
theorem runs_first {W H : Int} {us : List Int} {p : Pose} {d : Int} : ∀ (f : Nat) (n0 : Int) (k : Nat), k ≤ f → (∀ i : Nat, i < k → fitsU W H us (shiftP p d (n0 + i)) = true) → (k = f ∨ fitsU W H us (shiftP p d (n0 + k)) = false) →
    runsP W H us p d f n0 = (List.range k).map fun (i : Nat) => runM p d (n0 + i)
  | 0, n0, k, h1, h2, h3 => by
    obtain rfl : k = 0 := by omega
    rfl
  | f + 1, n0, 0, h1, h2, h3 => by
    unfold runsP
    rcases h3 with h3 | h3
    · omega
    · rw [show n0 + ((0 : Nat) : Int) = n0 by simp] at h3
      rw [if_neg (by rw [h3]; simp)]
      rfl
  | f + 1, n0, k + 1, h1, h2, h3 => by
    unfold runsP
    have h0 := h2 0 (by omega)
    rw [show n0 + ((0 : Nat) : Int) = n0 by simp] at h0
    rw [if_pos h0, runs_first f (n0 + 1) k (by omega) (fun i hi => by
      have := h2 (i + 1) (by omega)
      rwa [show n0 + ((i + 1 : Nat) : Int) = n0 + 1 + (i : Int) by omega] at this) (by
      rcases h3 with h3 | h3
      · exact Or.inl (by omega)
      · exact Or.inr (by rwa [show n0 + ((k + 1 : Nat) : Int) = n0 + 1 + (k : Int) by omega] at h3))]
    rw [List.range_succ_eq_map, List.map_cons, List.map_map]
    congr 1
    · rw [show n0 + ((0 : Nat) : Int) = n0 by simp]
    · refine List.map_congr_left fun i _ => ?_
      show runM p d (n0 + 1 + (i : Int)) = runM p d (n0 + ((i + 1 : Nat) : Int))
      rw [show n0 + 1 + (i : Int) = n0 + ((i + 1 : Nat) : Int) by omega]
theorem dir_first {W H : Int} {us : List Int} {p : Pose} {d : Int} (k : Nat) (h1 : k ≤ 16) (h2 : ∀ i : Nat, i < k → fitsU W H us (shiftP p d ((i : Int) + 1)) = true) (h3 : k = 16 ∨ fitsU W H us (shiftP p d ((k : Int) + 1)) = false) : dirP W H us p d = firstRuns p d k := by
  unfold dirP firstRuns
  rw [runs_first 16 1 k h1 (fun i hi => by rw [show (1 : Int) + (i : Int) = (i : Int) + 1 by omega]; exact h2 i hi) (by rw [show (1 : Int) + (k : Int) = (k : Int) + 1 by omega]; exact h3)]
  refine List.map_congr_left fun i _ => ?_
  rw [show (1 : Int) + (i : Int) = (i : Int) + 1 by omega]
/- A run one cell longer than those that are legal is legal just if its last pose fits. -/
theorem legal_next {W H : Int} {us : List Int} {p : Pose} {d : Int} (hW : W ≤ 16) (hH : H ≤ 16) (hd : 0 ≤ d ∧ d ≤ 3) (hf : fitsU W H us p = true) (k : Nat) (hk : k < 16) (h : ∀ i : Nat, i < k → fitsU W H us (shiftP p d ((i : Int) + 1)) = true) :
    legalU W H us (runM p d ((k : Int) + 1)) = fitsU W H us (shiftP p d ((k : Int) + 1)) := by
  rw [Bool.eq_iff_iff, legal_run (us := us) (p := p) hW hH hd ⟨by omega, by omega⟩]
  constructor
  · intro q
    exact q.2 _ (by omega) (by omega)
  · intro q
    refine ⟨hf, fun j j1 j2 => ?_⟩
    by_cases e : j = (k : Int) + 1
    · rw [e]; exact q
    · have := h (j - 1).toNat (by omega)
      rwa [show ((j - 1).toNat : Int) + 1 = j by omega] at this
end Go.Proofs.Ytnaojlngdfolaaa.Grid
namespace Go.Proofs.Ytnaojlngdfolaaa.Grid
set_option linter.unusedVariables false
set_option linter.unusedSimpArgs false
open Go Go.RowKit Go.Shelf Go.Proofs

/- The stack cells among the first k. -/
def stkUpTo (W : Int) (us : List Int) (k : Nat) : List Cell := ((List.range k).filter (fun i => decide (us.getD i 0 = 4))).map (cellAt W)
theorem stkUpTo_succ (W : Int) (us : List Int) (k : Nat) : stkUpTo W us (k + 1) = stkUpTo W us k ++ (if us.getD k 0 = 4 then [cellAt W k] else []) := by
  unfold stkUpTo
  rw [List.range_succ, List.filter_append, List.map_append]
  congr 1
  by_cases h : us.getD k 0 = 4
  · rw [if_pos h, List.filter_cons_of_pos (by simpa using h)]
    rfl
  · rw [if_neg h, List.filter_cons_of_neg (by simpa using h)]
    rfl
theorem stkUpTo_pre (W : Int) (us : List Int) {j k : Nat} (h : j ≤ k) : stkUpTo W us j <+: stkUpTo W us k := by
  induction k with
  | zero => rw [show j = 0 by omega]; exact List.prefix_rfl
  | succ k ih =>
    by_cases e : j = k + 1
    · rw [e]; exact List.prefix_rfl
    · rw [stkUpTo_succ]; exact (ih (by omega)).trans (List.prefix_append _ _)
theorem stkUpTo_len (W : Int) (us : List Int) (k : Nat) : (stkUpTo W us k).length ≤ k := by
  unfold stkUpTo
  rw [List.length_map]
  exact Nat.le_trans (List.length_filter_le _ _) (by simp)
theorem stk_row {W H : Nat} {us : List Int} (hW : 0 < W) (h : Nat) (hh : h < H) : ∀ j, j ≤ W → stkUpTo W us (W * h + j) = stkUpTo W us (W * h) ++ gridRow j (h : Int) (fun q => stackedU W H us q)
  | 0, _ => by rw [gridRow_nil, List.append_nil]; rfl
  | j + 1, hj => by
    rw [← Nat.add_assoc, stkUpTo_succ, stk_row hW h hh j (by omega), gridRow_succ, List.append_assoc]
    congr 2
    have hin : In (W : Int) (H : Int) ((j : Int), (h : Int)) := ⟨by simp only; omega, by simp only; omega, by simp only; omega, by simp only; omega⟩
    have e3 : ((h : Int) * (W : Int) + (j : Int)).toNat = W * h + j := by
      rw [← Int.natCast_mul, ← Int.natCast_add, Int.toNat_natCast, Nat.mul_comm]
    have e1 : cellAt (W : Int) (W * h + j) = ((j : Int), (h : Int)) := by
      have := cellAt_num hin
      simp only at this
      rwa [e3] at this
    have e4 : stackedU W H us ((j : Int), (h : Int)) = decide (us.getD (W * h + j) 0 = 4) := by
      unfold stackedU
      simp only
      rw [e3, decide_eq_true hin, Bool.true_and]
    rw [e4, e1]
    by_cases q : us.getD (W * h + j) 0 = 4
    · rw [if_pos q, if_pos (by simpa using q)]
    · rw [if_neg q, if_neg (by simpa using q)]
theorem stk_grid {W H : Nat} {us : List Int} (hW : 0 < W) : ∀ h, h ≤ H → stkUpTo W us (W * h) = gridCells W h (fun q => stackedU W H us q)
  | 0, _ => rfl
  | h + 1, hh => by
    rw [Nat.mul_succ, stk_row (H := H) hW h (by omega) W (Nat.le_refl _), stk_grid (H := H) hW h (by omega), gridCells_succ]
/- What the grid's own uses tell is what the chapter tells. -/
theorem stacks_same {c : Conf} {G : GS} (hN : newP c = some G) {WN HN : Nat} (hW : c.W = WN) (hH : c.H = HN) (h0 : 0 < WN) (hl : G.uses.length = WN * HN) : stkUpTo c.W G.uses G.uses.length = gridCells WN HN (fun q => decide (stackedR c q)) := by
  rw [hl, hW, stk_grid h0 HN (Nat.le_refl _)]
  congr 1
  funext q
  rw [← hW, ← hH]
  exact stacked_same hN q
theorem mem_stk {W : Int} {us : List Int} {k : Nat} {x : Cell} : x ∈ stkUpTo W us k ↔ ∃ i, i < k ∧ us.getD i 0 = 4 ∧ cellAt W i = x := by
  unfold stkUpTo
  simp only [List.mem_map, List.mem_filter, List.mem_range, decide_eq_true_eq]
  constructor
  · rintro ⟨i, ⟨h1, h2⟩, h3⟩
    exact ⟨i, h1, h2, h3⟩
  · rintro ⟨i, h1, h2, h3⟩
    exact ⟨i, ⟨h1, h2⟩, h3⟩
end Go.Proofs.Ytnaojlngdfolaaa.Grid
namespace Go.Proofs.Ytnaojlngdfolaaa.Grid
set_option linter.unusedVariables false
set_option linter.unusedSimpArgs false
open Go Go.RowKit Go.Shelf Go.Proofs
attribute [local go_sem] Oper.semAt_some

/- A grid, and a variable that holds it. -/
structure SCtx (w : World) (g u : Nat) (W H : Int) (us : List Int) (vp : Value) (Bg : Nat) : Prop where
  grid : GridAt w g u W H us vp
  bg : w.heap[Bg]? = some (.cells #[.pointer (some ⟨g, 0, none⟩)] 31 (0, 0))
theorem SCtx.go {w w' : World} {g u : Nat} {W H : Int} {us : List Int} {vp : Value} {Bg : Nat} (h : SCtx w g u W H us vp Bg) (hb : Below w.heap.size w w') : SCtx w' g u W H us vp Bg :=
  ⟨h.grid.go hb, (hb.block _ (lt_of_heap h.bg)).trans h.bg⟩
theorem stacksG_any (g u : Nat) (W H : Int) (us : List Int) (vp : Value) (w : World) (hG : GridAt w g u W H us vp) : Calls Try.prog 20 #[.pointer (some ⟨g, 0, none⟩)] w fun e w' => e = .returned (.func (.func 82) #[] #[.pointer (some ⟨w.heap.size, 0, none⟩)]) ∧ SCtx w' g u W H us vp w.heap.size ∧ Below w.heap.size w w' := by
  have hb : Below w.heap.size w (w.alloc (.cells #[.pointer (some ⟨g, 0, none⟩)] 31)) := (Below.refl _ _).alloc (Nat.le_refl _) _
  have hn := heap_alloc_new w (.cells #[.pointer (some ⟨g, 0, none⟩)] 31)
  go_enter Try.func20, Try.ntmps20
  go_wp2
  go_ret
  exact ⟨rfl, ⟨hG.go hb, hn⟩, hb⟩
set_option maxRecDepth 100000 in
set_option maxHeartbeats 2000000 in
theorem stacks1_any (g u : Nat) (W H : Int) (us : List Int) (vp : Value) (Bg : Nat) (fy : Nat) (fr : Array Value) (J Jx : List Cell → World → Prop) (w : World)
    (hS : ∀ pre w1 w2, J pre w1 → Below w1.heap.size w1 w2 → J pre w2) (hC : ∀ pre w1, J pre w1 → SCtx w1 g u W H us vp Bg)
    (hE : ∀ args w, (callFunc fy args).run Try.prog w = .ok (.enter fy args) w)
    (hY : ∀ pre c w1, J pre w1 → pre ++ [c] <+: stkUpTo W us us.length → Calls Try.prog fy (#[.agg #[.int .i64 c.1, .int .i64 c.2]] ++ fr) w1 fun e w' => (e = .returned (.bool true) ∧ J (pre ++ [c]) w') ∨ (e = .returned (.bool false) ∧ Jx (pre ++ [c]) w'))
    (h0 : J [] w) :
    Calls Try.prog 82 #[.func (.func fy) #[] fr, .pointer (some ⟨Bg, 0, none⟩)] w fun e w' => e = .returned (.tuple #[]) ∧ (J (stkUpTo W us us.length) w' ∨ ∃ pre, pre <+: stkUpTo W us us.length ∧ Jx pre w') := by
  have cw := hC _ _ h0
  have g0 : w.cell? ⟨Bg, 0, none⟩ = some (.pointer (some ⟨g, 0, none⟩)) := cell_of cw.bg 0
  have c2 := cw.grid.c2
  have hle := cw.grid.le
  obtain ⟨N, hN⟩ : ∃ N, us.length = N := ⟨_, rfl⟩
  have HN : Hid (us.length = N) := hN
  have HA : Hid (∀ k wx, k < N → SCtx wx g u W H us vp Bg → wx.cell? ⟨u, k, none⟩ = some (.int .u8 (us.getD k 0))) := fun k wx hk q => q.grid.at_ k (by omega)
  rw [hN] at c2 hle hY ⊢
  have HJ0 : Hid (J (stkUpTo W us 0) w) := h0
  clear hN cw h0
  go_enter Try.func82, Try.ntmps82
  go_wp2
  clear g0 c2
  go_loopw [10] (fun v wr => ∃ k : Nat, k ≤ N ∧ v = .int .i64 k ∧ Hid (J (stkUpTo W us k) wr)) (fun v _ => N - (intOf v).toNat)
  case atStart => exact ⟨0, Nat.zero_le _, rfl, HJ0⟩
  case round =>
    clear HJ0
    obtain ⟨k, hk, rfl, HJ⟩ := hrel
    by_cases hlt : k < N
    · have cc := hC _ _ HJ.out
      have q0 := HA.out k wr hlt cc
      have g1 : wr.cell? ⟨Bg, 0, none⟩ = some (.pointer (some ⟨g, 0, none⟩)) := cell_of cc.bg 0
      have cC := cell_any g u W H us vp wr cc.grid k (by rw [HN.out]; exact hlt)
      have hs := stkUpTo_succ W us k
      have hp := stkUpTo_pre W us (show k + 1 ≤ N from hlt)
      by_cases h4 : us.getD k 0 = 4
      · rw [if_pos h4] at hs
        rw [h4] at q0
        have HS : Hid (stkUpTo W us (k + 1) = stkUpTo W us k ++ [cellAt W k]) := hs
        have HP : Hid (stkUpTo W us k ++ [cellAt W k] <+: stkUpTo W us N) := by rw [← hs]; exact hp
        generalize cellAt W k = ck at *
        have cY := fun wx (hb : Below wr.heap.size wr wx) => hY (stkUpTo W us k) ck wx (hS _ _ _ HJ.out hb) HP.out
        clear hs hp h4
        go_wp2_with (first | (go_at_call 83; refine cC.mono ?_; rintro e w2 ⟨rfl, b2⟩))
        refine (cY w2 b2).mono ?_
        rintro e w4 (⟨rfl, hJ4⟩ | ⟨rfl, hJx4⟩)
        · go_wp2
          go_roundw
          case rel => exact ⟨k + 1, by omega, by go_num, by rw [HS.out]; exact hJ4⟩
          case measure => simp [intOf]; omega
        · go_wp2
          exact bodyPost_ret (results_none rfl _ _ _) rfl ⟨rfl, Or.inr ⟨_, HP.out, hJx4⟩⟩
      · rw [if_neg h4, List.append_nil] at hs
        have HS : Hid (stkUpTo W us (k + 1) = stkUpTo W us k) := hs
        generalize us.getD k 0 = z at *
        have hd : decide (z = 4) = false := decide_eq_false h4
        clear hs hp
        go_wp2_with fail
        go_roundw
        case rel => exact ⟨k + 1, by omega, by go_num, by rw [HS.out]; exact HJ.out⟩
        case measure => simp [intOf]; omega
    · obtain rfl : k = N := by omega
      go_wp2
      go_end0
      exact ⟨rfl, Or.inl HJ.out⟩
/- Cells that are gathered in a variable; the greatest number in another one. -/
structure GathC (w : World) (N0 Bl Bm : Nat) (most : Int) (pre : List Cell) (v : Value) : Prop where
  box : w.heap[Bl]? = some (.cells #[v] 22 (0, 0))
  most : w.heap[Bm]? = some (.cells #[.int .i64 most] 3 (0, 0))
  own : w.ownsRow N0 28 2 v pre.length (rowL cellL pre)
theorem GathC.go {w w' : World} {N0 Bl Bm : Nat} {most : Int} {pre : List Cell} {v : Value} (h : GathC w N0 Bl Bm most pre v) (hb : Below w.heap.size w w') : GathC w' N0 Bl Bm most pre v :=
  ⟨(hb.block _ (lt_of_heap h.box)).trans h.box, (hb.block _ (lt_of_heap h.most)).trans h.most, owns_go h.own hb⟩
set_option maxRecDepth 100000 in
set_option maxHeartbeats 2000000 in
theorem gatherC_any (c : Cell) (N0 Bl Bm : Nat) (most : Int) (pre : List Cell) (v : Value) (w : World) (h : GathC w N0 Bl Bm most pre v) (hBl : Bl < N0) (hBm : Bm < N0) (hN : N0 ≤ w.heap.size) (hne : Bm ≠ Bl) (hl : pre.length ≤ 1000) :
    Calls Try.prog 87 #[.agg #[.int .i64 c.1, .int .i64 c.2], .pointer (some ⟨Bl, 0, none⟩), .pointer (some ⟨Bm, 0, none⟩)] w fun e w' => e = .returned (.bool (decide ((pre.length : Int) + 1 < most))) ∧ ∃ v', GathC w' N0 Bl Bm most (pre ++ [c]) v' ∧ FrN N0 Bl w w' := by
  obtain ⟨fx, fy⟩ := c
  simp only
  obtain ⟨a, cap, rfl, hf0, hf1, hf2⟩ := own_form h.own
  have c0 : w.cell? ⟨Bl, 0, none⟩ = some (.slice a pre.length cap) := cell_of h.box 0
  obtain ⟨k, hk⟩ : ∃ k, pre.length = k := ⟨_, rfl⟩
  have HK : Hid (pre.length = k) := hk
  have hB2 : Below w.heap.size w ((w.alloc (.cells #[.int .i64 fx, .int .i64 fy] 28)).alloc (.cells #[.int .i64 fx, .int .i64 fy] 28)) := below_two _ _ _
  have own2 := owns_go h.own hB2
  have hl1 := list_one (f := cellL) (S := 2) (w.alloc (.cells #[.int .i64 fx, .int .i64 fy] 28)) (fx, fy) 28 rfl
  have s1 : (w.alloc (.cells #[.int .i64 fx, .int .i64 fy] 28)).heap.size = w.heap.size + 1 := by simp
  have s2 : ((w.alloc (.cells #[.int .i64 fx, .int .i64 fy] 28)).alloc (.cells #[.int .i64 fx, .int .i64 fy] 28)).heap.size = w.heap.size + 2 := by simp
  rw [s1] at hl1
  rw [hk] at c0 hl ⊢
  have HB : Hid (w.heap[Bl]? = some (.cells #[.slice a pre.length cap] 22 (0, 0)) ∧ w.heap[Bm]? = some (.cells #[.int .i64 most] 3 (0, 0))) := ⟨h.box, h.most⟩
  have HS : Hid (∀ j, (Value.slice a pre.length cap).ownBlock = some j → N0 ≤ j) := fun j hj => (own_since h.own j hj).1
  rw [hk] at HB HS
  clear hk h hf0 hf1 hf2
  have hBl' : Bl < w.heap.size := by omega
  have hBm' : Bm < w.heap.size := by omega
  go_enter Try.func87, Try.ntmps87
  go_wp2_with (first
    | (at_builtin; (refine wpList_app kindCell rfl (.tmp 5) (.tmp 7) rfl N0 (.slice a k cap) pre rfl (by rw [HK.out] at own2 ⊢; exact own2) _ _ [(fx, fy)] rfl hl1 (by rw [HK.out]; simp; omega) (by rw [HK.out]; unfold maxLen; simp; omega) (by omega) ?_; intro v4 w4 own4 gr4 at4; have L1 := (gr4.block Bl (by omega) (fun e => by have := HS.out Bl e.symm; omega)).trans ((hB2.block Bl (by omega)).trans HB.out.1); have L2 := (gr4.block Bm (by omega) (fun e => by have := HS.out Bm e.symm; omega)).trans ((hB2.block Bm (by omega)).trans HB.out.2); obtain ⟨a4, cap4, hv4, _⟩ := own_form own4; subst hv4; have d0 : w4.cell? ⟨Bl, 0, none⟩ = some (.slice a k cap) := cell_of L1 0; have z0 := frozen_of L1 0; have d1 : w4.cell? ⟨Bm, 0, none⟩ = some (.int .i64 most) := cell_of L2 0; clear hl1 own2)))
  go_ret
  have e : (pre ++ [((fx, fy) : Cell)]).length = pre.length + 1 := by simp
  rw [e] at own4
  refine ⟨ret_bool (by rw [HK.out]), _, ⟨(heap_setCell_same _ _ _ _ _ _ L1).trans rfl, (heap_setCell_other _ _ _ _ hne).trans L2, ?_⟩, ⟨gr4.os.trans hB2.os, gr4.tape.trans hB2.tape, gr4.output.trans hB2.output, ?_, fun j hj hn => ?_⟩⟩
  · rw [e]
    exact owns_same own4 fun j hj => heap_setCell_other _ _ _ _ (by have := (own_since own4 j hj).1; simp only; omega)
  · have := gr4.size
    simp at this ⊢
    omega
  · exact (heap_setCell_other _ _ _ _ hn).trans ((gr4.block j (by omega) (fun e => by have := HS.out j e.symm; omega)).trans (hB2.block j (by omega)))
theorem eql_funcC (u : World) (p : Value) : (binOp .eql 42 (.func (.func 82) #[] #[p]) .nilFunc).run Try.prog u = .ok (.bool false) u := by kernel_rfl
set_option maxRecDepth 100000 in
set_option maxHeartbeats 2000000 in
/- Cells, at most so many. -/
theorem lawCells_any (g u : Nat) (W H : Int) (us : List Int) (vp : Value) (Bg : Nat) (most : Int) (h1 : 1 ≤ most) (h2 : most ≤ 1000) (w : World) (hC : SCtx w g u W H us vp Bg) :
    Calls Try.prog 27 #[.func (.func 82) #[] #[.pointer (some ⟨Bg, 0, none⟩)], .int .i64 most] w fun e w' => ∃ v, e = .returned v ∧ w'.ownsRow w.heap.size 28 2 v ((stkUpTo W us us.length).take most.toNat).length (rowL cellL ((stkUpTo W us us.length).take most.toNat)) ∧ Below w.heap.size w w' := by
  have eF := eql_funcC
  have bN : Below w.heap.size w ((w.alloc (.cells #[.int .i64 most] 3)).alloc (.cells #[.slice none 0 0] 22)) := below_two _ _ _
  have sN : ((w.alloc (.cells #[.int .i64 most] 3)).alloc (.cells #[.slice none 0 0] 22)).heap.size = w.heap.size + 2 := by simp
  have mB : ((w.alloc (.cells #[.int .i64 most] 3)).alloc (.cells #[.slice none 0 0] 22)).heap[w.heap.size]? = some (.cells #[.int .i64 most] 3 (0, 0)) := (alloc_old _ _ _ (by simp)).trans (heap_alloc_new w _)
  have mL : ((w.alloc (.cells #[.int .i64 most] 3)).alloc (.cells #[.slice none 0 0] 22)).heap[w.heap.size + 1]? = some (.cells #[.slice none 0 0] 22 (0, 0)) := heap_new2 _ _ _
  have hCN := hC.go bN
  have lg := hC.grid.ltg
  have lu := hC.grid.ltu
  have lbg := lt_of_heap hC.bg
  have cM := stacks1_any g u W H us vp Bg 87 #[.pointer (some ⟨w.heap.size + 1, 0, none⟩), .pointer (some ⟨w.heap.size, 0, none⟩)]
    (fun pre wx => ∃ v, GathC wx (w.heap.size + 2) (w.heap.size + 1) w.heap.size most pre v ∧ FrN (w.heap.size + 2) (w.heap.size + 1) ((w.alloc (.cells #[.int .i64 most] 3)).alloc (.cells #[.slice none 0 0] 22)) wx ∧ (pre.length : Int) < most)
    (fun pre wx => ∃ v, GathC wx (w.heap.size + 2) (w.heap.size + 1) w.heap.size most pre v ∧ FrN (w.heap.size + 2) (w.heap.size + 1) ((w.alloc (.cells #[.int .i64 most] 3)).alloc (.cells #[.slice none 0 0] 22)) wx ∧ (pre.length : Int) = most)
    ((w.alloc (.cells #[.int .i64 most] 3)).alloc (.cells #[.slice none 0 0] 22))
    (fun pre w1 w2 ⟨v, q1, q2, q3⟩ hb => ⟨v, q1.go hb, q2.trans (FrN.below hb (by have := q2.size; omega)), q3⟩)
    (fun pre w1 ⟨v, q1, q2, q3⟩ => ⟨hCN.grid.same (q2.block _ (by omega) (by omega)) (q2.block _ (by omega) (by omega)), (q2.block _ (by omega) (by omega)).trans hCN.bg⟩)
    (enters_of Try.func87 (by kernel_rfl) rfl)
    (fun pre m w1 ⟨v, q1, q2, q3⟩ _ => by
      refine (gatherC_any m (w.heap.size + 2) (w.heap.size + 1) w.heap.size most pre v w1 q1 (by omega) (by omega) (by have := q2.size; omega) (by omega) (by omega)).mono ?_
      rintro e w2 ⟨rfl, v', q4, q5⟩
      by_cases hq : (pre.length : Int) + 1 < most
      · exact Or.inl ⟨by rw [decide_eq_true hq], v', q4, q2.trans q5, by rw [List.length_append]; simp; exact hq⟩
      · exact Or.inr ⟨by rw [decide_eq_false hq], v', q4, q2.trans q5, by rw [List.length_append]; simp; omega⟩)
    ⟨.slice none 0 0, ⟨mL, mB, World.ownsRow_nil _ _ _ _⟩, FrN.refl _ _ _, by simp; omega⟩
  have HB : Hid (∀ wx, FrN (w.heap.size + 2) (w.heap.size + 1) ((w.alloc (.cells #[.int .i64 most] 3)).alloc (.cells #[.slice none 0 0] 22)) wx → Below w.heap.size w wx) := fun wx f => ⟨f.os.trans bN.os, f.tape.trans bN.tape, f.output.trans bN.output, Nat.le_trans bN.size f.size, fun k hk => (f.block k (by omega) (by omega)).trans (bN.block k hk)⟩
  have HT : Hid (∀ pre, pre <+: stkUpTo W us us.length → (pre.length : Int) = most → pre = (stkUpTo W us us.length).take most.toNat) := fun pre hp hl => by
    have := take_of_pre hp
    rwa [show pre.length = most.toNat by omega] at this
  have HA : Hid (∀ l : List Cell, (l.length : Int) < most → l = l.take most.toNat) := fun l hl => by rw [List.take_of_length_le (by omega)]
  have cM2 := cM.mono (R' := fun e w' => e = .returned (.tuple #[]) ∧ ∃ v, w'.cell? ⟨w.heap.size + 1, 0, none⟩ = some v ∧ w'.ownsRow w.heap.size 28 2 v ((stkUpTo W us us.length).take most.toNat).length (rowL cellL ((stkUpTo W us us.length).take most.toNat)) ∧ Below w.heap.size w w') (by
    rintro e w3 ⟨rfl, ⟨v, q1, q2, q3⟩ | ⟨pre, hp, v, q1, q2, q3⟩⟩
    · refine ⟨rfl, v, cell_of q1.box 0, ?_, HB.out _ q2⟩
      rw [← HA.out _ q3]
      exact owns_base (by omega) q1.own
    · refine ⟨rfl, v, cell_of q1.box 0, ?_, HB.out _ q2⟩
      rw [← HT.out _ hp q3]
      exact owns_base (by omega) q1.own)
  clear cM HB HT HA hCN mB mL bN sN
  generalize (stkUpTo W us us.length).take most.toNat = MP at *
  go_enter Try.func27, Try.ntmps27
  go_wp2_with (go_at_call 82; refine cM2.mono ?_; rintro e w3 ⟨rfl, v, c3, o3, b3⟩)
  go_ret
  exact ⟨v, rfl, o3, b3⟩
end Go.Proofs.Ytnaojlngdfolaaa.Grid
namespace Go.Proofs.Ytnaojlngdfolaaa.Grid
set_option linter.unusedVariables false
set_option linter.unusedSimpArgs false
open Go Go.RowKit Go.Shelf Go.Proofs
attribute [local go_sem] Oper.semAt_some

def takeV (v : Value) (k : Nat) : Value := match v with
  | .slice (some a) _ c => .slice (some a) k c
  | .slice none _ _ => .slice none 0 0
  | v => v
theorem rowL_take {α : Type} {f : α → List Value} {S : Nat} (hf : ∀ x, (f x).length = S) : ∀ (l : List α) (k : Nat), (rowL f l).take (k * S) = rowL f (l.take k)
  | [], k => by simp [rowL]
  | x :: l, 0 => by simp [rowL]
  | x :: l, k + 1 => by
    have ih := rowL_take hf l k
    have e1 : rowL f (x :: l) = f x ++ rowL f l := by simp [rowL]
    have e2 : rowL f ((x :: l).take (k + 1)) = f x ++ rowL f (l.take k) := by simp [rowL]
    rw [e1, e2, List.take_append, hf x, ← ih]
    congr 1
    · rw [List.take_of_length_le (by rw [hf x, Nat.succ_mul]; omega)]
    · rw [Nat.succ_mul, Nat.add_sub_cancel]
theorem own_take {α : Type} {f : α → List Value} {S : Nat} (hf : ∀ x, (f x).length = S) {w : World} {b : Nat} {e : TypeId} {v : Value} {l : List α} (h : w.ownsRow b e S v l.length (rowL f l)) (k : Nat) (hk : k ≤ l.length) : w.ownsRow b e S (takeV v k) (l.take k).length (rowL f (l.take k)) := by
  have e0 : (l.take k).length = k := by rw [List.length_take]; omega
  refine ⟨rowL_len hf _, ?_⟩
  rcases h.2 with ⟨hv, h0⟩ | ⟨g, cap, cur, hv, h1, h2, h3, h4, h5, h6⟩
  · left
    refine ⟨by rw [hv]; rfl, by omega⟩
  · right
    refine ⟨g, cap, cur, by rw [hv, e0]; rfl, h1, h2, by omega, h4, h5, ?_⟩
    rw [e0, ← rowL_take hf l k, ← h6, List.take_take, Nat.min_eq_left (Nat.mul_le_mul_right S hk)]
theorem run_take_move {w : World} {b : Nat} {v : Value} {n : Nat} {xs : List Value} (h : w.ownsRow b 56 11 v n xs) (k : Nat) (hk : k ≤ n) (u : World) : (Instr.sliceAt 44 v none (some (.int .i64 k)) none).run Try.prog u = .ok (takeV v k) u := by
  rcases h.2 with ⟨hv, h0⟩ | ⟨g, cap, cur, hv, h1, h2, h3, h4, h5, h6⟩
  · obtain rfl : k = 0 := by omega
    subst hv
    clear h
    unfold takeV
    go_simp
  · subst hv
    have a2 : (k : Int) ≤ (cap : Int) := by omega
    clear h h1 h2 h3 h4 h5 h6 hk
    unfold takeV
    go_simp
theorem run_take_cell {w : World} {b : Nat} {v : Value} {n : Nat} {xs : List Value} (h : w.ownsRow b 28 2 v n xs) (k : Nat) (hk : k ≤ n) (u : World) : (Instr.sliceAt 22 v none (some (.int .i64 k)) none).run Try.prog u = .ok (takeV v k) u := by
  rcases h.2 with ⟨hv, h0⟩ | ⟨g, cap, cur, hv, h1, h2, h3, h4, h5, h6⟩
  · obtain rfl : k = 0 := by omega
    subst hv
    clear h
    unfold takeV
    go_simp
  · subst hv
    have a2 : (k : Int) ≤ (cap : Int) := by omega
    clear h h1 h2 h3 h4 h5 h6 hk
    unfold takeV
    go_simp
theorem run_take_int {w : World} {b : Nat} {v : Value} {n : Nat} {xs : List Value} (h : w.ownsRow b 3 1 v n xs) (k : Nat) (hk : k ≤ n) (u : World) : (Instr.sliceAt 75 v none (some (.int .i64 k)) none).run Try.prog u = .ok (takeV v k) u := by
  rcases h.2 with ⟨hv, h0⟩ | ⟨g, cap, cur, hv, h1, h2, h3, h4, h5, h6⟩
  · obtain rfl : k = 0 := by omega
    subst hv
    clear h
    unfold takeV
    go_simp
  · subst hv
    have a2 : (k : Int) ≤ (cap : Int) := by omega
    clear h h1 h2 h3 h4 h5 h6 hk
    unfold takeV
    go_simp
def placeG (v n : Int) : Int := if v.tmod n < 0 then v.tmod n + n else v.tmod n
theorem tmod_lowG (v n : Int) (h : 0 < n) : -n < v.tmod n := by
  by_cases g : 0 ≤ v
  · have := Int.tmod_nonneg n g
    omega
  · have h1 := Int.neg_tmod (a := v) (b := n)
    have h2 := Int.tmod_lt_of_pos (-v) h
    omega
theorem placeG_bd (v n : Int) (h : 0 < n) : 0 ≤ placeG v n ∧ placeG v n < n := by
  have h2 := Int.tmod_lt_of_pos v h
  have h3 := tmod_lowG v n h
  unfold placeG
  split <;> omega
theorem placeG_any (v n : Int) (w : World) (h0 : 0 < n) (h1 : n ≤ 9223372036854775807) : Calls Try.prog 23 #[.int .i64 v, .int .i64 n] w fun e w' => e = .returned (.int .i64 (placeG v n)) ∧ w' = w := by
  have h2 := Int.tmod_lt_of_pos v h0
  have h3 := tmod_lowG v n h0
  have H : Hid (placeG v n = if v.tmod n < 0 then v.tmod n + n else v.tmod n) := rfl
  have hn : (n == 0) = false := by rw [beq_eq_false_iff_ne]; omega
  have hn1 : ¬ n = 0 := by omega
  obtain ⟨q, hq⟩ : ∃ q, v.tmod n = q := ⟨_, rfl⟩
  rw [hq] at h2 h3 H
  by_cases hc : q < 0
  · go_enter Try.func23, Try.ntmps23
    go_wp2
    go_ret
    exact ⟨ret_int (by rw [H.out, if_pos hc]), rfl⟩
  · go_enter Try.func23, Try.ntmps23
    go_wp2
    go_ret
    exact ⟨ret_int (by rw [H.out, if_neg (by omega)]), rfl⟩
end Go.Proofs.Ytnaojlngdfolaaa.Grid
namespace Go.Proofs.Ytnaojlngdfolaaa.Grid
set_option linter.unusedVariables false
set_option linter.unusedSimpArgs false
open Go Go.RowKit Go.Shelf Go.Proofs
attribute [local go_sem] Oper.semAt_some

theorem info_pose3 : (Try.prog.info? 30).map (·.size) = some 3 := by kernel_rfl
theorem firstRuns_zero (p : Pose) (dd : Int) : firstRuns p dd 0 = [] := rfl
theorem dirs_le {W H : Int} {us : List Int} {p : Pose} (j : Nat) : (dirsP W H us p j).length ≤ j * 16 := by
  induction j with
  | zero => simp [dirsP]
  | succ j ih =>
    rw [dirs_succ, List.length_append]
    have h : ∀ (f : Nat) (n : Int), (runsP W H us p (j : Int) f n).length ≤ f := by
      intro f
      induction f with
      | zero => intro n; simp [runsP]
      | succ f ih => intro n; unfold runsP; split <;> simp; exact ih _
    have := h 16 1
    unfold dirP
    omega
theorem legal_turn_same {W H : Int} {us : List Int} {p : Pose} (hf : fitsU W H us p = true) : movesP W H us p = dirsP W H us p 4 ++ lastP W H us p := by
  unfold movesP
  rw [if_pos hf]
theorem moves_none {W H : Int} {us : List Int} {p : Pose} (hf : fitsU W H us p = false) : movesP W H us p = [] := by
  unfold movesP
  rw [if_neg (by rw [hf]; simp)]
set_option maxRecDepth 100000 in
set_option maxHeartbeats 8000000 in
theorem rmoves_any (c : Conf) (vb vp vr vs : Value) (w : World) (hA : ConfAt (Old w) c vb vp vr vs w) (l1 : c.blocked.length ≤ 8796093022208) (l2 : c.ports.length ≤ 8796093022208) (l3 : c.robots.length ≤ 5864062014805) (l4 : c.stacks.length ≤ 3518437208880) (l5 : ∀ s ∈ c.stacks, s.2.length ≤ 17592186044416) {G : GS} (hN : newP c = some G) (x y : Int) (d : Bool) :
    Calls Try.prog 21 #[.agg #[.int .i64 c.W, .int .i64 c.H, .int .i64 c.height, vb, vp, vr, vs, .int .i64 c.unit, .int .i64 c.accel, .int .i64 c.speed, .int .i64 c.turn, .int .i64 c.hoist, .int .i64 c.queue, .int .i64 c.resend, .int .i64 c.budget, .bool c.back], .agg #[.int .i64 x, .int .i64 y, .bool d]] w fun e w' => ∃ r, e = .returned r ∧ (w'.ownsRow w.heap.size 56 11 r (movesP c.W c.H G.uses ((x, y), d)).length (rowL moveL (movesP c.W c.H G.uses ((x, y), d))) ∧ Below w.heap.size w w') := by
  have hsd := limited_sides (new_some hN).1.1
  have Q0 := two_new w #[.int .i64 c.W, .int .i64 c.H, .int .i64 c.height, vb, vp, vr, vs, .int .i64 c.unit, .int .i64 c.accel, .int .i64 c.speed, .int .i64 c.turn, .int .i64 c.hoist, .int .i64 c.queue, .int .i64 c.resend, .int .i64 c.budget, .bool c.back] #[.int .i64 x, .int .i64 y, .bool d] 30
  obtain ⟨wb, hwb⟩ : ∃ wb, wb = (w.alloc (.cells #[.int .i64 c.W, .int .i64 c.H, .int .i64 c.height, vb, vp, vr, vs, .int .i64 c.unit, .int .i64 c.accel, .int .i64 c.speed, .int .i64 c.turn, .int .i64 c.hoist, .int .i64 c.queue, .int .i64 c.resend, .int .i64 c.budget, .bool c.back] 26)).alloc (.cells #[.int .i64 x, .int .i64 y, .bool d] 30) := ⟨_, rfl⟩
  rw [← hwb] at Q0
  have swb : wb.heap.size = w.heap.size + 2 := by rw [hwb]; simp
  have Bt := Q0.below
  have eA := Q0.a
  have eB := Q0.b
  have cL : Hid (∀ u (b : Below wb.heap.size wb u) (m : Move), Calls Try.prog 85 #[.agg #[.int .i64 c.W, .int .i64 c.H, .int .i64 c.height, vb, vp, vr, vs, .int .i64 c.unit, .int .i64 c.accel, .int .i64 c.speed, .int .i64 c.turn, .int .i64 c.hoist, .int .i64 c.queue, .int .i64 c.resend, .int .i64 c.budget, .bool c.back], .agg (moveCs m)] u fun e w' => ∃ r, e = .returned r ∧ (r = .bool (legalU c.W c.H G.uses m) ∧ Below u.heap.size u w')) := fun u b m => rlegal_old c vb vp vr vs w hA l1 l2 l3 l4 l5 hN m u (bcat Bt b (Nat.le_refl _))
  have cF := fitsR_any (Old w) c vb vp vr vs x y d wb (hA.go (fun _ h => h) Bt) (fun g hg => Nat.lt_of_lt_of_le hg Bt.size) (by omega)
  rw [← fits_told hN] at cF
  have zC : Hid (∀ u, Below wb.heap.size wb u → u.heap[w.heap.size]? = some (.cells #[.int .i64 c.W, .int .i64 c.H, .int .i64 c.height, vb, vp, vr, vs, .int .i64 c.unit, .int .i64 c.accel, .int .i64 c.speed, .int .i64 c.turn, .int .i64 c.hoist, .int .i64 c.queue, .int .i64 c.resend, .int .i64 c.budget, .bool c.back] 26 (0, 0))) := fun u hu => (hu.block _ (lt_of_heap eA)).trans eA
  have zP : Hid (∀ u, Below wb.heap.size wb u → u.heap[w.heap.size + 1]? = some (.cells #[.int .i64 x, .int .i64 y, .bool d] 30 (0, 0))) := fun u hu => (hu.block _ (lt_of_heap eB)).trans eB
  have hcC := zC.out wb (Below.refl _ _)
  have hcP := zP.out wb (Below.refl _ _)
  have HW : Hid (c.W ≤ 16 ∧ c.H ≤ 16) := ⟨by omega, by omega⟩
  clear eA eB hA
  cases hf : fitsU c.W c.H G.uses ((x, y), d)
  · rw [hf] at cF
    have HM : Hid (movesP c.W c.H G.uses ((x, y), d) = []) := moves_none hf
    clear hf
    go_enter Try.func21, Try.ntmps21
    go_upto_region 1 with fail
    rw [← hwb]
    clear hwb
    go_wp2_with (first
      | (refine wpList_load_row rfl 26 (.tmp 2) rfl w.heap.size rfl 26 #[.int .i64 c.W, .int .i64 c.H, .int .i64 c.height, vb, vp, vr, vs, .int .i64 c.unit, .int .i64 c.accel, .int .i64 c.speed, .int .i64 c.turn, .int .i64 c.hoist, .int .i64 c.queue, .int .i64 c.resend, .int .i64 c.budget, .bool c.back] (0, 0) _ hcC Try.underlying26 rfl info_conf ?_)
      | (refine wpList_load_row rfl 30 (.tmp 3) rfl (w.heap.size + 1) rfl 30 #[.int .i64 x, .int .i64 y, .bool d] (0, 0) _ hcP Try.underlying30 rfl info_pose3 ?_)
      | (go_at_call 75; refine cF.mono ?_; rintro e w1 ⟨r1, rfl, rfl, b1⟩))
    go_ret
    refine ⟨_, rfl, ?_, bcat Bt b1 (Nat.le_refl _)⟩
    rw [HM.out]
    exact ⟨rfl, .inl ⟨rfl, rfl⟩⟩
  · rw [hf] at cF
    have HMV : Hid (movesP c.W c.H G.uses ((x, y), d) = dirsP c.W c.H G.uses ((x, y), d) 4 ++ lastP c.W c.H G.uses ((x, y), d)) := legal_turn_same hf
    have HLN : Hid (∀ (j k : Nat), j ≤ 3 → k < 16 → (∀ i : Nat, i < k → fitsU c.W c.H G.uses (shiftP ((x, y), d) (j : Int) ((i : Int) + 1)) = true) → legalU c.W c.H G.uses (runM ((x, y), d) (j : Int) ((k : Int) + 1)) = fitsU c.W c.H G.uses (shiftP ((x, y), d) (j : Int) ((k : Int) + 1))) := fun j k hj hk h => legal_next HW.out.1 HW.out.2 ⟨by omega, by omega⟩ hf k hk h
    clear hf
    have HLast : Hid (lastP c.W c.H G.uses ((x, y), d) = if legalU c.W c.H G.uses ((2 : Int), (0 : Int), (0 : Int), ((x, y), d), ((x, y), !d), (0 : Int), (0 : Int)) then [((2 : Int), (0 : Int), (0 : Int), ((x, y), d), ((x, y), !d), (0 : Int), (0 : Int))] else []) := rfl
    go_enter Try.func21, Try.ntmps21
    go_upto_region 1 with fail
    rw [← hwb]
    clear hwb
    go_wp2_with (first
      | (refine wpList_load_row rfl 26 (.tmp 2) rfl w.heap.size rfl 26 #[.int .i64 c.W, .int .i64 c.H, .int .i64 c.height, vb, vp, vr, vs, .int .i64 c.unit, .int .i64 c.accel, .int .i64 c.speed, .int .i64 c.turn, .int .i64 c.hoist, .int .i64 c.queue, .int .i64 c.resend, .int .i64 c.budget, .bool c.back] (0, 0) _ hcC Try.underlying26 rfl info_conf ?_)
      | (refine wpList_load_row rfl 30 (.tmp 3) rfl (w.heap.size + 1) rfl 30 #[.int .i64 x, .int .i64 y, .bool d] (0, 0) _ hcP Try.underlying30 rfl info_pose3 ?_)
      | (go_at_call 75; refine cF.mono ?_; rintro e w1 ⟨r1, rfl, rfl, b1⟩))
    have own0 : Hid (w1.ownsRow wb.heap.size 56 11 (.slice none 0 0) ((dirsP c.W c.H G.uses ((x, y), d) 0)).length (rowL moveL ((dirsP c.W c.H G.uses ((x, y), d) 0)))) := ⟨rfl, .inl ⟨rfl, rfl⟩⟩
    have HB0 : Hid (Below wb.heap.size wb w1) := b1
    clear hcC hcP cF b1 hsd Q0
    go_loopw [5, 6] (fun v i wq => ∃ j : Nat, j ≤ 4 ∧ i = .int .i64 j ∧ Hid (wq.ownsRow wb.heap.size 56 11 v ((dirsP c.W c.H G.uses ((x, y), d) j)).length (rowL moveL ((dirsP c.W c.H G.uses ((x, y), d) j)))) ∧ Hid (Below wb.heap.size wb wq)) (fun _ i _ => 4 - (intOf i).toNat)
    case atStart => exact ⟨0, Nat.zero_le _, rfl, own0, HB0⟩
    case round =>
      clear own0 HB0
      obtain ⟨j, hj, rfl, HO, HB⟩ := hrel
      by_cases hlt : j < 4
      · have hd : decide ((j : Int) ≤ 3) = true := decide_eq_true (by omega)
        go_wp2_with fail
        have HO1 : Hid (wr.ownsRow wb.heap.size 56 11 u5 ((dirsP c.W c.H G.uses ((x, y), d) j) ++ (firstRuns ((x, y), d) (j : Int) 0)).length (rowL moveL ((dirsP c.W c.H G.uses ((x, y), d) j) ++ (firstRuns ((x, y), d) (j : Int) 0)))) := by
          show wr.ownsRow wb.heap.size 56 11 u5 ((dirsP c.W c.H G.uses ((x, y), d) j) ++ (firstRuns ((x, y), d) (j : Int) 0)).length (rowL moveL ((dirsP c.W c.H G.uses ((x, y), d) j) ++ (firstRuns ((x, y), d) (j : Int) 0)))
          rw [firstRuns_zero, List.append_nil]
          exact HO.out
        have HF1 : Hid (∀ i : Nat, i < 0 → fitsU c.W c.H G.uses (shiftP ((x, y), d) (j : Int) ((i : Int) + 1)) = true) := fun i hi => absurd hi (by omega)
        clear HO hd
        go_loopw [5, 7] (fun v i wq => ∃ k : Nat, k ≤ 16 ∧ i = .int .i64 ((k : Int) + 1) ∧ Hid (wq.ownsRow wb.heap.size 56 11 v ((dirsP c.W c.H G.uses ((x, y), d) j) ++ (firstRuns ((x, y), d) (j : Int) k)).length (rowL moveL ((dirsP c.W c.H G.uses ((x, y), d) j) ++ (firstRuns ((x, y), d) (j : Int) k)))) ∧ Hid (Below wb.heap.size wb wq) ∧ Hid (∀ i : Nat, i < k → fitsU c.W c.H G.uses (shiftP ((x, y), d) (j : Int) ((i : Int) + 1)) = true)) (fun _ i _ => 17 - (intOf i).toNat)
        case atStart => exact ⟨0, Nat.zero_le _, by simp, HO1, HB, HF1⟩
        case round =>
          clear HO1 HB HF1
          obtain ⟨k, hk, rfl, HO, HB, HF⟩ := hrel
          by_cases hk16 : k < 16
          · have hd : decide ((k : Int) + 1 ≤ 16) = true := decide_eq_true (by omega)
            have hll := HLN.out j k (by omega) hk16 HF.out
            have HFS : Hid (firstRuns ((x, y), d) (j : Int) (k + 1) = (firstRuns ((x, y), d) (j : Int) k) ++ [runM ((x, y), d) (j : Int) ((k : Int) + 1)]) := firstRuns_succ _ _ _
            have HDF : Hid (fitsU c.W c.H G.uses (shiftP ((x, y), d) (j : Int) ((k : Int) + 1)) = false → dirP c.W c.H G.uses ((x, y), d) (j : Int) = (firstRuns ((x, y), d) (j : Int) k)) := fun h => dir_first k hk HF.out (Or.inr h)
            have cSh := fun u => shiftS_any x y d (j : Int) ((k : Int) + 1) u
            have HFN : Hid (fitsU c.W c.H G.uses (shiftP ((x, y), d) (j : Int) ((k : Int) + 1)) = true → ∀ i : Nat, i < k + 1 → fitsU c.W c.H G.uses (shiftP ((x, y), d) (j : Int) ((i : Int) + 1)) = true) := fun h i hi => by
              by_cases e : i = k
              · rw [e]; exact h
              · exact HF.out i (by omega)
            have HLn : Hid (((dirsP c.W c.H G.uses ((x, y), d) j) ++ (firstRuns ((x, y), d) (j : Int) k)).length ≤ 1000) := by
              show ((dirsP c.W c.H G.uses ((x, y), d) j) ++ (firstRuns ((x, y), d) (j : Int) k)).length ≤ 1000
              rw [List.length_append, firstRuns_len]
              have := dirs_le (W := c.W) (H := c.H) (us := G.uses) (p := ((x, y), d)) j
              omega
            unfold runM at hll HFS
            generalize hto : shiftP ((x, y), d) (j : Int) ((k : Int) + 1) = tq at *
            obtain ⟨⟨tx, ty⟩, td⟩ := tq
            unfold poseCs at cSh
            simp only at cSh
            clear hto
            obtain ⟨IH, hIH⟩ : ∃ I : World → Prop, I = fun u' => Below wr.heap.size wr u' := ⟨_, rfl⟩
            have HPo : Hid (∀ u, IH u → ∀ jj z, #[Value.int .i64 x, .int .i64 y, .bool d][jj]? = some z → u.cell? ((⟨w.heap.size + 1, 0, none⟩ : Addr).add jj) = some z) := fun u hu => by
              rw [hIH] at hu
              exact row_below (zP.out _ HB.out) hu
            have hS0 : IH wr.drew := by rw [hIH]; exact (Below.refl _ _).drew
            go_upto_region 10 with fail
            go_cut [8] from 18 to 37 (fun r8 wx => ∃ b : Nat, r8 = .pointer (some ⟨b, 0, none⟩) ∧ wx.heap[b]? = some (.cells #[.int .i64 1, .int .i64 j, .int .i64 ((k : Int) + 1), .int .i64 x, .int .i64 y, .bool d, .int .i64 tx, .int .i64 ty, .bool td, .int .i64 0, .int .i64 0] 56 (0, 0)) ∧ Below wr.heap.size wr wx)
            case first =>
              refine start_held (S := IH) 10 rfl (by kernel_rfl) hS0 ?_
              simp only [Array.replicate_succ, Array.replicate_zero, List.push_toArray, List.nil_append, List.cons_append]
              refine take_held 0 (by assumption) rfl (by kernel_rfl) (by kernel_rfl) (by kernel_rfl) (fun _ _ _ h => h) (by kernel_rfl) (v := ?v0) ?y0 ?r0
              case y0 => (intro u hu; go_simp; try rfl)
              simp only [Act.put, List.setIfInBounds_toArray, List.set_cons_zero, List.set_cons_succ]
              refine take_held 1 (by assumption) rfl (by kernel_rfl) (by kernel_rfl) (by kernel_rfl) (fun _ _ _ h => h) (by kernel_rfl) (v := ?v1) ?y1 ?r1
              case y1 => (intro u hu; go_simp; try rfl)
              simp only [Act.put, List.setIfInBounds_toArray, List.set_cons_zero, List.set_cons_succ]
              refine take_held 2 (by assumption) rfl (by kernel_rfl) (by kernel_rfl) (by kernel_rfl) (fun _ _ _ h => h) (by kernel_rfl) (v := .agg #[.int .i64 x, .int .i64 y, .bool d]) ?y2 ?r2
              case y2 => (intro u hu; exact run_load_op 30 _ rfl ⟨w.heap.size + 1, 0, none⟩ _ rfl (HPo.out u hu) (aggPose u) info_pose3)
              simp only [Act.put, List.setIfInBounds_toArray, List.set_cons_zero, List.set_cons_succ]
              refine take_held 3 (by assumption) rfl (by kernel_rfl) (by kernel_rfl) (by kernel_rfl) (fun _ _ _ h => h) (by kernel_rfl) (v := .agg #[.int .i64 x, .int .i64 y, .bool d]) ?y3 ?r3
              case y3 => (intro u hu; exact run_load_op 30 _ rfl ⟨w.heap.size + 1, 0, none⟩ _ rfl (HPo.out u hu) (aggPose u) info_pose3)
              simp only [Act.put, List.setIfInBounds_toArray, List.set_cons_zero, List.set_cons_succ]
              refine take_held 4 (by assumption) rfl (by kernel_rfl) (by kernel_rfl) (by kernel_rfl) (fun _ _ _ h => h) (by kernel_rfl) (v := ?v4) ?y4 ?r4
              case y4 => (intro u hu; go_simp; try rfl)
              simp only [Act.put, List.setIfInBounds_toArray, List.set_cons_zero, List.set_cons_succ]
              refine take_held 5 (by assumption) rfl (by kernel_rfl) (by kernel_rfl) (by kernel_rfl) (fun _ _ _ h => h) (by kernel_rfl) (v := ?v5) ?y5 ?r5
              case y5 => (intro u hu; go_simp; try rfl)
              simp only [Act.put, List.setIfInBounds_toArray, List.set_cons_zero, List.set_cons_succ]
              refine wpAnyH_ready (rs := [6, 8]) (by kernel_rfl) (by simp) (AllReadyH.cons ((nth_eq _ 6).trans rfl) ?_ (AllReadyH.cons ((nth_eq _ 8).trans rfl) ?_ AllReadyH.nil))
              · intro K' hK
                refine call_in hK (by kernel_rfl) 84 #[.agg #[.int .i64 x, .int .i64 y, .bool d], .int .i64 j, .int .i64 ((k : Int) + 1)] (by go_simp) _ (cSh wr.drew) ?_
                rintro v w5 ⟨rfl, b5⟩
                have B5 : Below wr.heap.size wr w5 := ((Below.refl _ _).drew).trans b5
                have hS5 : IH w5 := by rw [hIH]; exact B5
                refine ⟨hS5, ?_⟩
                simp only [Act.put, List.setIfInBounds_toArray, List.set_cons_zero, List.set_cons_succ]
                refine take_held 7 (by assumption) rfl (by kernel_rfl) (by kernel_rfl) (by kernel_rfl) (fun _ _ _ h => h) (by kernel_rfl) (v := ?v6) ?y6 ?r6
                case y6 => (intro u hu; go_simp; try rfl)
                simp only [Act.put, List.setIfInBounds_toArray, List.set_cons_zero, List.set_cons_succ]
                have B6 := below_new B5 (.cells #[.int .i64 0, .int .i64 0, .int .i64 0, .int .i64 0, .int .i64 0, .bool false, .int .i64 0, .int .i64 0, .bool false, .int .i64 0, .int .i64 0] 56)
                refine value_held 8 rfl (by kernel_rfl) (by kernel_rfl) (.pointer (some ⟨w5.heap.size, 0, none⟩)) (w5.alloc (.cells #[.int .i64 0, .int .i64 0, .int .i64 0, .int .i64 0, .int .i64 0, .bool false, .int .i64 0, .int .i64 0, .bool false, .int .i64 0, .int .i64 0] 56)) (by go_simp; try rfl) (by rw [hIH]; exact B6) ?_
                simp only [Act.put, List.setIfInBounds_toArray, List.set_cons_zero, List.set_cons_succ]
                have hz := heap_alloc_new w5 (.cells #[.int .i64 0, .int .i64 0, .int .i64 0, .int .i64 0, .int .i64 0, .bool false, .int .i64 0, .int .i64 0, .bool false, .int .i64 0, .int .i64 0] 56)
                have hsz := B5.size
                have hst : (storeVar 56 ⟨w5.heap.size, 0, none⟩ (.agg #[.int .i64 1, .int .i64 j, .int .i64 ((k : Int) + 1), .int .i64 x, .int .i64 y, .bool d, .int .i64 tx, .int .i64 ty, .bool td, .int .i64 0, .int .i64 0])).run Try.prog (w5.alloc (.cells #[.int .i64 0, .int .i64 0, .int .i64 0, .int .i64 0, .int .i64 0, .bool false, .int .i64 0, .int .i64 0, .bool false, .int .i64 0, .int .i64 0] 56)) = .ok () ((w5.alloc (.cells #[.int .i64 0, .int .i64 0, .int .i64 0, .int .i64 0, .int .i64 0, .bool false, .int .i64 0, .int .i64 0, .bool false, .int .i64 0, .int .i64 0] 56)).setRow w5.heap.size #[.int .i64 1, .int .i64 j, .int .i64 ((k : Int) + 1), .int .i64 x, .int .i64 y, .bool d, .int .i64 tx, .int .i64 ty, .bool td, .int .i64 0, .int .i64 0]) := run_storeVar_row _ _ 56 _ #[.int .i64 0, .int .i64 0, .int .i64 0, .int .i64 0, .int .i64 0, .bool false, .int .i64 0, .int .i64 0, .bool false, .int .i64 0, .int .i64 0] _ hz info_move rfl (by simp [Value.oneCell'])
                have B7 := below_row B6 (by omega : wr.heap.size ≤ w5.heap.size) #[.int .i64 1, .int .i64 j, .int .i64 ((k : Int) + 1), .int .i64 x, .int .i64 y, .bool d, .int .i64 tx, .int .i64 ty, .bool td, .int .i64 0, .int .i64 0]
                refine store_held 9 rfl (by kernel_rfl) (by kernel_rfl) _ (run_store_op 56 (.tmp 8) (.tmp 29) rfl w5.heap.size _ rfl rfl hst) (by rw [hIH]; exact B7) ?_
                simp only [Act.put, List.setIfInBounds_toArray, List.set_cons_zero, List.set_cons_succ]
                refine done_held (by kernel_rfl) ?_ _
                have m8 := setRow_heap (w5.alloc (.cells #[.int .i64 0, .int .i64 0, .int .i64 0, .int .i64 0, .int .i64 0, .bool false, .int .i64 0, .int .i64 0, .bool false, .int .i64 0, .int .i64 0] 56)) w5.heap.size _ #[.int .i64 1, .int .i64 j, .int .i64 ((k : Int) + 1), .int .i64 x, .int .i64 y, .bool d, .int .i64 tx, .int .i64 ty, .bool td, .int .i64 0, .int .i64 0] _ _ hz
                go_wp2_with fail
                go_meet
                exact ⟨w5.heap.size, rfl, m8, B7⟩
              · intro K' hK
                have B5 := below_new ((Below.refl wr.heap.size wr).drew) (.cells #[.int .i64 0, .int .i64 0, .int .i64 0, .int .i64 0, .int .i64 0, .bool false, .int .i64 0, .int .i64 0, .bool false, .int .i64 0, .int .i64 0] 56)
                have hS5 : IH (wr.drew.alloc (.cells #[.int .i64 0, .int .i64 0, .int .i64 0, .int .i64 0, .int .i64 0, .bool false, .int .i64 0, .int .i64 0, .bool false, .int .i64 0, .int .i64 0] 56)) := by rw [hIH]; exact B5
                refine value_in hK (by kernel_rfl) (.pointer (some ⟨wr.heap.size, 0, none⟩)) (wr.drew.alloc (.cells #[.int .i64 0, .int .i64 0, .int .i64 0, .int .i64 0, .int .i64 0, .bool false, .int .i64 0, .int .i64 0, .bool false, .int .i64 0, .int .i64 0] 56)) (by go_simp; try rfl) hS5 ?_
                simp only [Act.put, List.setIfInBounds_toArray, List.set_cons_zero, List.set_cons_succ]
                have hn5 : (wr.drew.alloc (.cells #[.int .i64 0, .int .i64 0, .int .i64 0, .int .i64 0, .int .i64 0, .bool false, .int .i64 0, .int .i64 0, .bool false, .int .i64 0, .int .i64 0] 56)).heap[wr.heap.size]? = some (.cells #[.int .i64 0, .int .i64 0, .int .i64 0, .int .i64 0, .int .i64 0, .bool false, .int .i64 0, .int .i64 0, .bool false, .int .i64 0, .int .i64 0] 56 (0, 0)) := heap_alloc_new _ _
                generalize hU : wr.drew.alloc (.cells #[.int .i64 0, .int .i64 0, .int .i64 0, .int .i64 0, .int .i64 0, .bool false, .int .i64 0, .int .i64 0, .bool false, .int .i64 0, .int .i64 0] 56) = w4 at *
                clear hU
                refine wpAnyH_ready (rs := [6]) (by kernel_rfl) (by simp) (AllReadyH.cons ((nth_eq _ 6).trans rfl) ?_ AllReadyH.nil)
                intro K' hK
                refine call_in hK (by kernel_rfl) 84 #[.agg #[.int .i64 x, .int .i64 y, .bool d], .int .i64 j, .int .i64 ((k : Int) + 1)] (by go_simp) _ (cSh w4) ?_
                rintro v w5 ⟨rfl, b5⟩
                have B6 : Below wr.heap.size wr w5 := bcat B5 b5 (Nat.le_refl _)
                have hS6 : IH w5 := by rw [hIH]; exact B6
                refine ⟨hS6, ?_⟩
                simp only [Act.put, List.setIfInBounds_toArray, List.set_cons_zero, List.set_cons_succ]
                refine take_held 7 (by assumption) rfl (by kernel_rfl) (by kernel_rfl) (by kernel_rfl) (fun _ _ _ h => h) (by kernel_rfl) (v := ?v7) ?y7 ?r7
                case y7 => (intro u hu; go_simp; try rfl)
                simp only [Act.put, List.setIfInBounds_toArray, List.set_cons_zero, List.set_cons_succ]
                have hz := (b5.block _ (lt_of_heap hn5)).trans hn5
                have hst : (storeVar 56 ⟨wr.heap.size, 0, none⟩ (.agg #[.int .i64 1, .int .i64 j, .int .i64 ((k : Int) + 1), .int .i64 x, .int .i64 y, .bool d, .int .i64 tx, .int .i64 ty, .bool td, .int .i64 0, .int .i64 0])).run Try.prog w5 = .ok () (w5.setRow wr.heap.size #[.int .i64 1, .int .i64 j, .int .i64 ((k : Int) + 1), .int .i64 x, .int .i64 y, .bool d, .int .i64 tx, .int .i64 ty, .bool td, .int .i64 0, .int .i64 0]) := run_storeVar_row _ _ 56 _ #[.int .i64 0, .int .i64 0, .int .i64 0, .int .i64 0, .int .i64 0, .bool false, .int .i64 0, .int .i64 0, .bool false, .int .i64 0, .int .i64 0] _ hz info_move rfl (by simp [Value.oneCell'])
                have B7 := below_row B6 (by omega : wr.heap.size ≤ wr.heap.size) #[.int .i64 1, .int .i64 j, .int .i64 ((k : Int) + 1), .int .i64 x, .int .i64 y, .bool d, .int .i64 tx, .int .i64 ty, .bool td, .int .i64 0, .int .i64 0]
                refine store_held 9 rfl (by kernel_rfl) (by kernel_rfl) _ (run_store_op 56 (.tmp 8) (.tmp 29) rfl wr.heap.size _ rfl rfl hst) (by rw [hIH]; exact B7) ?_
                simp only [Act.put, List.setIfInBounds_toArray, List.set_cons_zero, List.set_cons_succ]
                refine done_held (by kernel_rfl) ?_ _
                have m8 := setRow_heap w5 wr.heap.size _ #[.int .i64 1, .int .i64 j, .int .i64 ((k : Int) + 1), .int .i64 x, .int .i64 y, .bool d, .int .i64 tx, .int .i64 ty, .bool td, .int .i64 0, .int .i64 0] _ _ hz
                go_wp2_with fail
                go_meet
                exact ⟨wr.heap.size, rfl, m8, B7⟩
            case rest =>
            obtain ⟨mb, rfl, hmb, b6⟩ := hcut
            have HB6 := bcat HB.out b6 (Nat.le_refl _)
            have hC6 := zC.out _ HB6
            have cL6 := cL.out _ HB6 ((1 : Int), (j : Int), (k : Int) + 1, ((x, y), d), ((tx, ty), td), (0 : Int), (0 : Int))
            rw [hll] at cL6
            unfold moveCs at cL6
            simp only at cL6
            clear hIH HPo hS0 hll
            cases hft : fitsU c.W c.H G.uses ((tx, ty), td)
            · rw [hft] at cL6
              have HD2 := HDF.out hft
              go_wp2_with (first
                | (refine wpList_load_row rfl 26 (.tmp 2) rfl w.heap.size rfl 26 #[.int .i64 c.W, .int .i64 c.H, .int .i64 c.height, vb, vp, vr, vs, .int .i64 c.unit, .int .i64 c.accel, .int .i64 c.speed, .int .i64 c.turn, .int .i64 c.hoist, .int .i64 c.queue, .int .i64 c.resend, .int .i64 c.budget, .bool c.back] (0, 0) _ hC6 Try.underlying26 rfl info_conf ?_)
                | (refine wpList_load_row rfl 56 (.tmp 8) rfl mb rfl 56 #[.int .i64 1, .int .i64 j, .int .i64 ((k : Int) + 1), .int .i64 x, .int .i64 y, .bool d, .int .i64 tx, .int .i64 ty, .bool td, .int .i64 0, .int .i64 0] (0, 0) _ hmb Try.underlying56 rfl info_move ?_)
                | (go_at_call 85; refine cL6.mono ?_; rintro e w7 ⟨r7, rfl, rfl, b7⟩))
              go_roundw
              case rel =>
                refine ⟨j + 1, by omega, by go_num, ?_, bcat HB6 b7 (Nat.le_refl _)⟩
                show w7.ownsRow wb.heap.size 56 11 u5 ((dirsP c.W c.H G.uses ((x, y), d) (j + 1))).length (rowL moveL ((dirsP c.W c.H G.uses ((x, y), d) (j + 1))))
                rw [dirs_succ, HD2]
                exact own_go (own_go HO.out b6) b7
              case measure => simp only [intOf]; omega
            · rw [hft] at cL6
              have HO6a := own_go HO.out b6
              go_wp2_with (first
                | (have X' := HB8; refine wpList_load_row rfl 56 (.tmp 8) rfl mb rfl 56 #[.int .i64 1, .int .i64 j, .int .i64 ((k : Int) + 1), .int .i64 x, .int .i64 y, .bool d, .int .i64 tx, .int .i64 ty, .bool td, .int .i64 0, .int .i64 0] (0, 0) _ hm8 Try.underlying56 rfl info_move ?_)
                | (refine wpList_load_row rfl 26 (.tmp 2) rfl w.heap.size rfl 26 #[.int .i64 c.W, .int .i64 c.H, .int .i64 c.height, vb, vp, vr, vs, .int .i64 c.unit, .int .i64 c.accel, .int .i64 c.speed, .int .i64 c.turn, .int .i64 c.hoist, .int .i64 c.queue, .int .i64 c.resend, .int .i64 c.budget, .bool c.back] (0, 0) _ hC6 Try.underlying26 rfl info_conf ?_)
                | (refine wpList_load_row rfl 56 (.tmp 8) rfl mb rfl 56 #[.int .i64 1, .int .i64 j, .int .i64 ((k : Int) + 1), .int .i64 x, .int .i64 y, .bool d, .int .i64 tx, .int .i64 ty, .bool td, .int .i64 0, .int .i64 0] (0, 0) _ hmb Try.underlying56 rfl info_move ?_)
                | (go_at_call 85; refine cL6.mono ?_; rintro e w8 ⟨r8, rfl, rfl, b8⟩; have HB8 := bcat HB6 b8 (Nat.le_refl _); have hm8 := (b8.block _ (lt_of_heap hmb)).trans hmb; have HO8 := own_go HO6a b8)
                | (at_builtin; have bA := (Below.refl w8.heap.size w8).alloc (Nat.le_refl _) (.cells #[.int .i64 1, .int .i64 j, .int .i64 ((k : Int) + 1), .int .i64 x, .int .i64 y, .bool d, .int .i64 tx, .int .i64 ty, .bool td, .int .i64 0, .int .i64 0] 56); have HO6 := own_go HO8 bA; have L6 := list_one (f := moveL) (S := 11) w8 ((1 : Int), (j : Int), (k : Int) + 1, ((x, y), d), ((tx, ty), td), (0 : Int), (0 : Int)) 56 rfl; have e1 : (((dirsP c.W c.H G.uses ((x, y), d) j) ++ (firstRuns ((x, y), d) (j : Int) k)).length + [(((1 : Int), (j : Int), (k : Int) + 1, ((x, y), d), ((tx, ty), td), (0 : Int), (0 : Int)) : Move)].length) * 88 ≤ 140737488355328 := (by have := HLn.out; simp only [List.length_cons, List.length_nil]; omega); have e2 : ((dirsP c.W c.H G.uses ((x, y), d) j) ++ (firstRuns ((x, y), d) (j : Int) k)).length + [(((1 : Int), (j : Int), (k : Int) + 1, ((x, y), d), ((tx, ty), td), (0 : Int), (0 : Int)) : Move)].length ≤ maxLen := (by have := HLn.out; unfold maxLen; simp only [List.length_cons, List.length_nil]; omega); have e3 := Nat.le_trans HB8.size bA.size; refine wpList_app kindMove rfl (.tmp 34) (.tmp 36) rfl _ _ _ rfl HO6 _ _ [(((1 : Int), (j : Int), (k : Int) + 1, ((x, y), d), ((tx, ty), td), (0 : Int), (0 : Int)) : Move)] rfl L6 e1 e2 e3 ?_; intro v7 w7 own7 g7 at7; have HB7 := below_row2 (bcat HB8 bA (Nat.le_refl _)) (Nat.le_refl _) HO6 g7))
              go_roundw
              case rel =>
                refine ⟨k + 1, by omega, by go_num, ?_, HB7, HFN.out hft⟩
                show w7.ownsRow wb.heap.size 56 11 v7 ((dirsP c.W c.H G.uses ((x, y), d) j) ++ (firstRuns ((x, y), d) (j : Int) (k + 1))).length (rowL moveL ((dirsP c.W c.H G.uses ((x, y), d) j) ++ (firstRuns ((x, y), d) (j : Int) (k + 1))))
                rw [HFS.out, ← List.append_assoc]
                exact own7
              case measure => simp only [intOf]; omega
          · obtain rfl : k = 16 := by omega
            have HD2 : dirP c.W c.H G.uses ((x, y), d) (j : Int) = (firstRuns ((x, y), d) (j : Int) 16) := dir_first 16 (Nat.le_refl _) HF.out (Or.inl rfl)
            go_wp2_with fail
            go_roundw
            case rel =>
              refine ⟨j + 1, by omega, by go_num, ?_, HB⟩
              show wr.ownsRow wb.heap.size 56 11 u5 ((dirsP c.W c.H G.uses ((x, y), d) (j + 1))).length (rowL moveL ((dirsP c.W c.H G.uses ((x, y), d) (j + 1))))
              rw [dirs_succ, HD2]
              exact HO.out
            case measure => simp only [intOf]; omega
      · obtain rfl : j = 4 := by omega
        have hP1 := zP.out _ HB.out
        have p0 : wr.cell? ⟨w.heap.size + 1, 0, none⟩ = some (.int .i64 x) := cell_of hP1 0
        have p1 : wr.cell? ⟨w.heap.size + 1, 1, none⟩ = some (.int .i64 y) := cell_of hP1 1
        have p2 : wr.cell? ⟨w.heap.size + 1, 2, none⟩ = some (.bool d) := cell_of hP1 2
        clear hP1
        obtain ⟨wm, hwm⟩ : ∃ wm, wm = wr.alloc (.cells #[.int .i64 2, .int .i64 0, .int .i64 0, .int .i64 x, .int .i64 y, .bool d, .int .i64 x, .int .i64 y, .bool (!d), .int .i64 0, .int .i64 0] 56) := ⟨_, rfl⟩
        have bm : Below wr.heap.size wr wm := by rw [hwm]; exact below_new (Below.refl _ _) _
        have em : wm.heap[wr.heap.size]? = some (.cells #[.int .i64 2, .int .i64 0, .int .i64 0, .int .i64 x, .int .i64 y, .bool d, .int .i64 x, .int .i64 y, .bool (!d), .int .i64 0, .int .i64 0] 56 (0, 0)) := by rw [hwm]; exact heap_alloc_new wr _
        have HBm := bcat HB.out bm (Nat.le_refl _)
        have hCm := zC.out _ HBm
        have cLm := cL.out _ HBm ((2 : Int), (0 : Int), (0 : Int), ((x, y), d), ((x, y), !d), (0 : Int), (0 : Int))
        have HOm := own_go HO.out bm
        have HLn : Hid (((dirsP c.W c.H G.uses ((x, y), d) 4)).length ≤ 1000) := by
          have := dirs_le (W := c.W) (H := c.H) (us := G.uses) (p := ((x, y), d)) 4
          show ((dirsP c.W c.H G.uses ((x, y), d) 4)).length ≤ 1000
          omega
        obtain ⟨bz, hbz⟩ : ∃ bz, wr.heap.size = bz := ⟨_, rfl⟩
        have HBZ : Hid (wr.heap.size = bz) := hbz
        rw [hbz] at em
        go_upto_region 14 with fail
        rw [← hwm]
        clear hwm p0 p1 p2
        try rw [hbz]
        clear hbz
        cases hlg : legalU c.W c.H G.uses ((2 : Int), (0 : Int), (0 : Int), ((x, y), d), ((x, y), !d), (0 : Int), (0 : Int))
        · rw [hlg] at cLm
          unfold moveCs at cLm
          simp only at cLm
          go_wp2_with (first
            | (refine wpList_load_row rfl 26 (.tmp 2) rfl w.heap.size rfl 26 #[.int .i64 c.W, .int .i64 c.H, .int .i64 c.height, vb, vp, vr, vs, .int .i64 c.unit, .int .i64 c.accel, .int .i64 c.speed, .int .i64 c.turn, .int .i64 c.hoist, .int .i64 c.queue, .int .i64 c.resend, .int .i64 c.budget, .bool c.back] (0, 0) _ hCm Try.underlying26 rfl info_conf ?_)
            | (refine wpList_load_row rfl 56 (.tmp 9) rfl bz rfl 56 #[.int .i64 2, .int .i64 0, .int .i64 0, .int .i64 x, .int .i64 y, .bool d, .int .i64 x, .int .i64 y, .bool (!d), .int .i64 0, .int .i64 0] (0, 0) _ em Try.underlying56 rfl info_move ?_)
            | (go_at_call 85; refine cLm.mono ?_; rintro e w8 ⟨r8, rfl, rfl, b8⟩))
          go_ret
          refine ⟨_, rfl, ?_, bcat Bt (bcat HBm b8 (Nat.le_refl _)) (Nat.le_refl _)⟩
          rw [HMV.out, HLast.out, if_neg (by rw [hlg]; decide), List.append_nil]
          exact own_lower (own_go HOm b8) Bt.size
        · rw [hlg] at cLm
          unfold moveCs at cLm
          simp only at cLm
          go_wp2_with (first
            | (have X' := HB8; refine wpList_load_row rfl 56 (.tmp 9) rfl bz rfl 56 #[.int .i64 2, .int .i64 0, .int .i64 0, .int .i64 x, .int .i64 y, .bool d, .int .i64 x, .int .i64 y, .bool (!d), .int .i64 0, .int .i64 0] (0, 0) _ hm8 Try.underlying56 rfl info_move ?_)
            | (refine wpList_load_row rfl 26 (.tmp 2) rfl w.heap.size rfl 26 #[.int .i64 c.W, .int .i64 c.H, .int .i64 c.height, vb, vp, vr, vs, .int .i64 c.unit, .int .i64 c.accel, .int .i64 c.speed, .int .i64 c.turn, .int .i64 c.hoist, .int .i64 c.queue, .int .i64 c.resend, .int .i64 c.budget, .bool c.back] (0, 0) _ hCm Try.underlying26 rfl info_conf ?_)
            | (refine wpList_load_row rfl 56 (.tmp 9) rfl bz rfl 56 #[.int .i64 2, .int .i64 0, .int .i64 0, .int .i64 x, .int .i64 y, .bool d, .int .i64 x, .int .i64 y, .bool (!d), .int .i64 0, .int .i64 0] (0, 0) _ em Try.underlying56 rfl info_move ?_)
            | (go_at_call 85; refine cLm.mono ?_; rintro e w8 ⟨r8, rfl, rfl, b8⟩; have HB8 := bcat HBm b8 (Nat.le_refl _); have hm8 := (b8.block _ (lt_of_heap em)).trans em; have HO8 := own_go HOm b8)
            | (at_builtin; have bA := (Below.refl w8.heap.size w8).alloc (Nat.le_refl _) (.cells #[.int .i64 2, .int .i64 0, .int .i64 0, .int .i64 x, .int .i64 y, .bool d, .int .i64 x, .int .i64 y, .bool (!d), .int .i64 0, .int .i64 0] 56); have HO6 := own_go HO8 bA; have L6 := list_one (f := moveL) (S := 11) w8 ((2 : Int), (0 : Int), (0 : Int), ((x, y), d), ((x, y), !d), (0 : Int), (0 : Int)) 56 rfl; have e1 : (((dirsP c.W c.H G.uses ((x, y), d) 4)).length + [(((2 : Int), (0 : Int), (0 : Int), ((x, y), d), ((x, y), !d), (0 : Int), (0 : Int)) : Move)].length) * 88 ≤ 140737488355328 := (by have := HLn.out; simp only [List.length_cons, List.length_nil]; omega); have e2 : ((dirsP c.W c.H G.uses ((x, y), d) 4)).length + [(((2 : Int), (0 : Int), (0 : Int), ((x, y), d), ((x, y), !d), (0 : Int), (0 : Int)) : Move)].length ≤ maxLen := (by have := HLn.out; unfold maxLen; simp only [List.length_cons, List.length_nil]; omega); have e3 := Nat.le_trans HB8.size bA.size; refine wpList_app kindMove rfl (.tmp 49) (.tmp 51) rfl _ _ _ rfl HO6 _ _ [(((2 : Int), (0 : Int), (0 : Int), ((x, y), d), ((x, y), !d), (0 : Int), (0 : Int)) : Move)] rfl L6 e1 e2 e3 ?_; intro v7 w7 own7 g7 at7; have HB7 := below_row2 (bcat HB8 bA (Nat.le_refl _)) (Nat.le_refl _) HO6 g7))
          go_ret
          refine ⟨_, rfl, ?_, bcat Bt HB7 (Nat.le_refl _)⟩
          rw [HMV.out, HLast.out, if_pos hlg]
          exact own_lower own7 Bt.size
end Go.Proofs.Ytnaojlngdfolaaa.Grid
namespace Go.Proofs.Ytnaojlngdfolaaa.Grid
set_option linter.unusedVariables false
set_option linter.unusedSimpArgs false
open Go Go.RowKit Go.Shelf Go.Proofs
attribute [local go_sem] Oper.semAt_some

theorem run_load_at {o : Oper} {a : Act} {w : World} (ty : TypeId) (x : Operand) (ho : o.op = .load ty x) (p : Addr) (cs : Array Value) (hx : a.eval x = .pointer (some p))
    (h : (loadVar ty p).run Try.prog w = .ok (.agg cs) w) : (execOp a.eval o).run Try.prog w = .ok (.value (.agg cs)) w := by
  unfold execOp
  simp only [ho, hx, Instr.loadAt, Instr.sureAddr, Sem.run_bind, Sem.run_pure, Result.andThen_ok, h]
theorem run_neq_op3 {o : Oper} {a : Act} {w : World} (T R : TypeId) (x y : Operand) (ho : o.op = .binOp .neq T x y R) (xs ys : Array Value) (hx : a.eval x = .agg xs) (hy : a.eval y = .agg ys) (b : Bool)
    (h : (Op.equalIn 10000 T (.agg xs) (.agg ys)).run Try.prog w = .ok b w) (hg : Try.prog.eqGuardType Try.prog.depth T = false) : (execOp a.eval o).run Try.prog w = .ok (.value (.bool !b)) w := by
  unfold execOp
  simp only [ho, hx, hy, Sem.run_bind, Sem.run_pure, Result.andThen_ok, run_eqGuard_agg _ _ _ _ _ _ _ hg, run_neq_struct, h]
set_option maxRecDepth 100000 in
theorem eqMove_flat (k d n fx fy tx ty a e : Int) (fd td : Bool) (w : World) : (Op.equalIn 10000 56 (.agg #[.int .i64 k, .int .i64 d, .int .i64 n, .int .i64 fx, .int .i64 fy, .bool fd, .int .i64 tx, .int .i64 ty, .bool td, .int .i64 a, .int .i64 e]) (.agg #[.int .i64 k, .int .i64 d, .int .i64 n, .int .i64 fx, .int .i64 fy, .bool fd, .int .i64 tx, .int .i64 ty, .bool td, .int .i64 a, .int .i64 e])).run Try.prog w = .ok true w := by
  go_simp
theorem eqMove_self (m : Move) (w : World) : (Op.equalIn 10000 56 (.agg (moveL m).toArray) (.agg (moveL m).toArray)).run Try.prog w = .ok true w := by
  obtain ⟨k, d, n, ⟨⟨fx, fy⟩, fd⟩, ⟨⟨tx, ty⟩, td⟩, a, e⟩ := m
  exact eqMove_flat k d n fx fy tx ty a e fd td w
theorem aggMove (w : World) : (isAgg 56).run Try.prog w = .ok true w := by unfold isAgg; rw [Sem.run_bind, run_underlying Try.underlying56 w]; rfl
theorem gMoveT3 : Try.prog.eqGuardType Try.prog.depth 56 = false := by kernel_rfl
theorem iszMove3 : (Try.prog.info? 56).map (·.size) = some 11 := by kernel_rfl
set_option maxRecDepth 100000 in
set_option maxHeartbeats 2000000 in
theorem sameMoves_same (F G : Nat → Prop) (v1 v2 : Value) (xs : List Move) (w : World) (h1 : ListAt 11 (ElL moveL) F xs v1 w) (h2 : ListAt 11 (ElL moveL) G xs v2 w) (hm : xs.length ≤ 140737488355328) :
    Calls Try.prog 24 #[v1, v2] w fun e w' => e = .returned (.bool true) ∧ Below w.heap.size w w' := by
  obtain ⟨a1, c1, ys1, rfl, rfl, el1, ce1, _⟩ := h1
  obtain ⟨a2, c2, ys2, hxs, rfl, el2, ce2, _⟩ := h2
  have hll : ys2.length = ys1.length := by have := congrArg List.length hxs; simpa using this.symm
  rw [hll]
  rw [List.length_map] at hm
  have HR : Hid (∀ i, i < ys1.length → ∃ (cs : Array Value) (m : Move) (p1 p2 : Addr), cs = (moveL m).toArray ∧ a1 = some p1 ∧ a2 = some p2 ∧ (∀ j u, cs[j]? = some u → w.cell? (p1.add (i * 11 + j)) = some u ∧ p1.block < w.heap.size) ∧ (∀ j u, cs[j]? = some u → w.cell? (p2.add (i * 11 + j)) = some u ∧ p2.block < w.heap.size)) := by
    intro i hi
    obtain ⟨p1, e1, _, q1⟩ := ce1 i hi
    obtain ⟨p2, e2, _, q2⟩ := ce2 i (by omega)
    have s1 : (ys1[i]'hi).2 = (moveL (ys1[i]'hi).1).toArray := el1 _ (List.getElem_mem hi)
    have s2 : (ys2[i]'(by omega)).2 = (moveL (ys2[i]'(by omega)).1).toArray := el2 _ (List.getElem_mem _)
    have hx : (ys1[i]'hi).1 = (ys2[i]'(by omega)).1 := by
      have := congrArg (fun l => l[i]?) hxs
      simp only [List.getElem?_map, List.getElem?_eq_getElem hi, List.getElem?_eq_getElem (show i < ys2.length by omega), Option.map_some, Option.some.injEq] at this
      exact this
    rw [s2, ← hx, ← s1] at q2
    refine ⟨_, _, p1, p2, s1, e1, e2, fun j u h => ⟨q1 j u h, ?_⟩, fun j u h => ⟨q2 j u h, ?_⟩⟩
    · have := World.block_lt_of_cell? w _ (q1 j u h); rwa [block_add] at this
    · have := World.block_lt_of_cell? w _ (q2 j u h); rwa [block_add] at this
  clear el1 el2 ce1 ce2 hxs
  generalize ys1.length = n at *
  clear hll
  have hl' : ((n : Int) != (n : Int)) = false := by simp
  go_enter Try.func24, Try.ntmps24
  go_wp2_with fail
  go_loopw [5] (fun s5 wr => ∃ i : Nat, s5 = .int .i64 i ∧ i ≤ n ∧ Hid (Below w.heap.size w wr)) (fun s5 _ => n - (intOf s5).toNat)
  case atStart => exact ⟨0, rfl, Nat.zero_le _, Below.refl _ _⟩
  case round =>
    obtain ⟨i, rfl, hi, bw⟩ := hrel
    rcases Nat.lt_or_ge i n with hlt | hge
    · obtain ⟨cs, m, p1, p2, e0, e1, e2, q1, q2⟩ := HR.out i hlt
      subst e1
      subst e2
      have hq := fun u => eqMove_self m u
      rw [← e0] at hq
      have hz : (Try.prog.info? 56).map (·.size) = some cs.size := by rw [e0]; exact iszMove3
      have r1 : ∀ j v, cs[j]? = some v → wr.drew.cell? ((p1.add (i * 11)).add j) = some v := fun j v hj => by
        rw [add_add]
        show wr.cell? _ = _
        rw [bw.out.cell (by rw [block_add]; exact (q1 j v hj).2)]
        exact (q1 j v hj).1
      have r2 : ∀ j v, cs[j]? = some v → wr.drew.cell? ((p2.add (i * 11)).add j) = some v := fun j v hj => by
        rw [add_add]
        show wr.cell? _ = _
        rw [bw.out.cell (by rw [block_add]; exact (q2 j v hj).2)]
        exact (q2 j v hj).1
      have hb : Hid (Below w.heap.size w wr.drew) := bcat bw.out (Below.refl _ _).drew (Nat.le_refl _)
      have i1 : (i : Int) < (n : Int) := by omega
      have hd : decide ((i : Int) < (n : Int)) = true := decide_eq_true i1
      clear e0 q1 q2
      go_upto_region 6 with fail
      go_cut [25] from 17 to 25 (fun rr wx => rr = .bool false ∧ wx = wr.drew)
      case first =>
        have S0 : wr.drew = wr.drew := rfl
        refine start_held (S := fun u => u = wr.drew) 9 rfl (by kernel_rfl) S0 ?_
        simp only [Array.replicate_succ, Array.replicate_zero, List.push_toArray, List.nil_append, List.cons_append]
        refine take_held 0 S0 rfl (by kernel_rfl) (by kernel_rfl) (by kernel_rfl) (fun _ _ _ h => h) (by kernel_rfl) (v := .slice (some p1) n c1) ?ya0 ?ra0
        case ya0 => (intro u hu; go_simp; try rfl)
        simp only [Act.put, List.setIfInBounds_toArray, List.set_cons_zero, List.set_cons_succ]
        refine take_held 1 S0 rfl (by kernel_rfl) (by kernel_rfl) (by kernel_rfl) (fun _ _ _ h => h) (by kernel_rfl) (v := .int .i64 i) ?ya1 ?ra1
        case ya1 => (intro u hu; go_simp; try rfl)
        simp only [Act.put, List.setIfInBounds_toArray, List.set_cons_zero, List.set_cons_succ]
        refine take_held 2 S0 rfl (by kernel_rfl) (by kernel_rfl) (by kernel_rfl) (fun _ _ _ h => h) (by kernel_rfl) (v := .pointer (some (p1.add (i * 11)))) ?ya2 ?ra2
        case ya2 => (intro u hu; clear r1 r2; go_simp; try rfl)
        simp only [Act.put, List.setIfInBounds_toArray, List.set_cons_zero, List.set_cons_succ]
        refine take_held 3 S0 rfl (by kernel_rfl) (by kernel_rfl) (by kernel_rfl) (fun _ _ _ h => h) (by kernel_rfl) (v := .agg cs) ?ya3 ?ra3
        case ya3 => (intro u hu; subst hu; exact run_load_at 56 (.tmp 19) rfl (p1.add (i * 11)) cs rfl (run_loadVar_at _ _ _ cs r1 (aggMove _) hz))
        simp only [Act.put, List.setIfInBounds_toArray, List.set_cons_zero, List.set_cons_succ]
        refine take_held 4 S0 rfl (by kernel_rfl) (by kernel_rfl) (by kernel_rfl) (fun _ _ _ h => h) (by kernel_rfl) (v := .slice (some p2) n c2) ?ya4 ?ra4
        case ya4 => (intro u hu; go_simp; try rfl)
        simp only [Act.put, List.setIfInBounds_toArray, List.set_cons_zero, List.set_cons_succ]
        refine take_held 5 S0 rfl (by kernel_rfl) (by kernel_rfl) (by kernel_rfl) (fun _ _ _ h => h) (by kernel_rfl) (v := .int .i64 i) ?ya5 ?ra5
        case ya5 => (intro u hu; go_simp; try rfl)
        simp only [Act.put, List.setIfInBounds_toArray, List.set_cons_zero, List.set_cons_succ]
        refine take_held 6 S0 rfl (by kernel_rfl) (by kernel_rfl) (by kernel_rfl) (fun _ _ _ h => h) (by kernel_rfl) (v := .pointer (some (p2.add (i * 11)))) ?ya6 ?ra6
        case ya6 => (intro u hu; clear r1 r2; go_simp; try rfl)
        simp only [Act.put, List.setIfInBounds_toArray, List.set_cons_zero, List.set_cons_succ]
        refine take_held 7 S0 rfl (by kernel_rfl) (by kernel_rfl) (by kernel_rfl) (fun _ _ _ h => h) (by kernel_rfl) (v := .agg cs) ?ya7 ?ra7
        case ya7 => (intro u hu; subst hu; exact run_load_at 56 (.tmp 23) rfl (p2.add (i * 11)) cs rfl (run_loadVar_at _ _ _ cs r2 (aggMove _) hz))
        simp only [Act.put, List.setIfInBounds_toArray, List.set_cons_zero, List.set_cons_succ]
        refine take_held 8 S0 rfl (by kernel_rfl) (by kernel_rfl) (by kernel_rfl) (fun _ _ _ h => h) (by kernel_rfl) (v := .bool false) ?ya8 ?ra8
        case ya8 => (intro u hu; exact run_neq_op3 56 56 (.tmp 20) (.tmp 24) rfl cs cs rfl rfl true (hq u) gMoveT3)
        simp only [Act.put, List.setIfInBounds_toArray, List.set_cons_zero, List.set_cons_succ]
        refine done_held (by kernel_rfl) ?_ _
        go_wp2_with fail
        go_meet
        exact ⟨rfl, rfl⟩
      case rest =>
      obtain ⟨rfl, rfl⟩ := hcut
      go_wp2_with fail
      go_roundw
      case measure => simp only [intOf]; omega
      case rel => exact ⟨i + 1, by go_num, hlt, hb⟩
    · obtain rfl : i = n := by omega
      have hd : decide ((i : Int) < (i : Int)) = false := decide_eq_false (by omega)
      go_wp2
      go_ret
      exact ⟨rfl, bw.out⟩
end Go.Proofs.Ytnaojlngdfolaaa.Grid
namespace Go.Proofs.Ytnaojlngdfolaaa.Grid
set_option linter.unusedVariables false
set_option linter.unusedSimpArgs false
open Go Go.RowKit Go.Shelf Go.Proofs
attribute [local go_sem] Oper.semAt_some

theorem awake_call (w : World) : Calls Try.prog 18 #[] w fun e w' => ∃ v, e = .returned v ∧ v = .bool true ∧ Below w.heap.size w w' := (awake_any w).mono fun e w' ⟨h, b⟩ => ⟨_, h, rfl, b⟩
theorem same_lists (Ls : List Cell) (K : Nat) (hK : Ls.length = K) (hs : K ≤ 1000000) (b1 b2 : Nat) (v1 v2 : Value) (w : World) (h1 : w.ownsRow b1 28 2 v1 K (rowL cellL Ls)) (h2 : w.ownsRow b2 28 2 v2 K (rowL cellL Ls)) :
    Calls Try.prog 26 #[v1, v2] w fun e w' => ∃ r, e = .returned r ∧ (r = .bool true ∧ Below w.heap.size w w') := by
  subst hK
  have := sameCells_any _ _ Ls Ls v1 v2 w (list_of_own kindCell.len h1) (list_of_own kindCell.len h2) (fun b h => h.2) (fun b h => h.2) (by omega) (by omega)
  rwa [decide_eq_true (rfl : Ls = Ls)] at this
theorem same_moves (Ls : List Move) (K : Nat) (hK : Ls.length = K) (hs : K ≤ 1000000) (b1 b2 : Nat) (v1 v2 : Value) (w : World) (h1 : w.ownsRow b1 56 11 v1 K (rowL moveL Ls)) (h2 : w.ownsRow b2 56 11 v2 K (rowL moveL Ls)) :
    Calls Try.prog 24 #[v1, v2] w fun e w' => ∃ r, e = .returned r ∧ (r = .bool true ∧ Below w.heap.size w w') := by
  subst hK
  refine (sameMoves_same _ _ v1 v2 Ls w (list_of_own kindMove.len h1) (list_of_own kindMove.len h2) (by omega)).mono ?_
  rintro e w' ⟨rfl, b⟩
  exact ⟨_, rfl, rfl, b⟩
theorem own_slice {w : World} {b : Nat} {e : TypeId} {sz n : Nat} {v : Value} {xs : List Value} (h : w.ownsRow b e sz v n xs) : ∃ a cap, v = .slice a n cap := by
  rcases h.2 with ⟨hv, h0⟩ | ⟨g, cap, cur, hv, _⟩
  · exact ⟨none, 0, by rw [hv, h0]⟩
  · exact ⟨_, _, hv⟩
set_option maxRecDepth 100000 in
set_option maxHeartbeats 4000000 in
theorem moves_all_law (c : Conf) (vb vp vr vs : Value) (w : World) (hA : ConfAt (Old w) c vb vp vr vs w) (l1 : c.blocked.length ≤ 8796093022208) (l2 : c.ports.length ≤ 8796093022208) (l3 : c.robots.length ≤ 5864062014805) (l4 : c.stacks.length ≤ 3518437208880) (l5 : ∀ s ∈ c.stacks, s.2.length ≤ 17592186044416) (x y : Int) (d : Bool) (most : Int) : Calls Try.prog 3 #[.agg #[.int .i64 c.W, .int .i64 c.H, .int .i64 c.height, vb, vp, vr, vs, .int .i64 c.unit, .int .i64 c.accel, .int .i64 c.speed, .int .i64 c.turn, .int .i64 c.hoist, .int .i64 c.queue, .int .i64 c.resend, .int .i64 c.budget, .bool c.back], .agg #[.int .i64 x, .int .i64 y, .bool d], .int .i64 most] w fun e w' => e = .returned (.bool true) ∧ Below w.heap.size w w' := by
  have L := fun (u : World) (b : Below w.heap.size w u) g (hg : Old w g) => Nat.lt_of_lt_of_le hg b.size
  have hAu := fun u (b : Below w.heap.size w u) => hA.go (fun _ h => h) b
  have cC := fun u (b : Below w.heap.size w u) => copyConf_any (Old w) c vb vp vr vs u (hAu u b) (L u b) l1 l2 l3 l4 l5
  have cM := fun u (b : Below w.heap.size w u) => mayR_call (F := Old w) (hAu u b) (L u b) l1 l2 l3 l4 l5
  have Q0 := two_new w #[.int .i64 c.W, .int .i64 c.H, .int .i64 c.height, vb, vp, vr, vs, .int .i64 c.unit, .int .i64 c.accel, .int .i64 c.speed, .int .i64 c.turn, .int .i64 c.hoist, .int .i64 c.queue, .int .i64 c.resend, .int .i64 c.budget, .bool c.back] #[.int .i64 x, .int .i64 y, .bool d] 30
  cases hN : newP c with
  | none =>
    have cN := fun {n : Nat} {u : World} {v1 v2 v3 v4 : Value} (a : ConfAt (Since n u) c v1 v2 v3 v4 u) => new_no a since_lt l1 l2 l3 l4 hN
    rw [hN] at cM
    simp only [Option.isSome_none, Option.isSome_some] at cM
    clear hA L hN hAu
    go_enter Try.func3, Try.ntmps3
    go_wp2_with (first
      | (have X' := Q2; refine wpList_load_row rfl 26 (.tmp 3) rfl w.heap.size rfl 26 #[.int .i64 c.W, .int .i64 c.H, .int .i64 c.height, vb, vp, vr, vs, .int .i64 c.unit, .int .i64 c.accel, .int .i64 c.speed, .int .i64 c.turn, .int .i64 c.hoist, .int .i64 c.queue, .int .i64 c.resend, .int .i64 c.budget, .bool c.back] (0, 0) _ Q2.a Try.underlying26 rfl info_conf ?_)
      | (refine wpList_load_row rfl 26 (.tmp 3) rfl w.heap.size rfl 26 #[.int .i64 c.W, .int .i64 c.H, .int .i64 c.height, vb, vp, vr, vs, .int .i64 c.unit, .int .i64 c.accel, .int .i64 c.speed, .int .i64 c.turn, .int .i64 c.hoist, .int .i64 c.queue, .int .i64 c.resend, .int .i64 c.budget, .bool c.back] (0, 0) _ Q0.a Try.underlying26 rfl info_conf ?_)
      | (go_at_call 16; refine (cC _ Q0.below).mono ?_; rintro e w1 ⟨r1, rfl, ⟨v1, v2, v3, v4, rfl, A1⟩, b1⟩; have Q1 := Q0.go b1)
      | (go_at_call 15; refine (cN A1).mono ?_; rintro e w2 ⟨rfl, b2⟩; have Q2 := Q1.go b2)
      | (go_at_call 17; refine (cM _ Q2.below).mono ?_; rintro e w3 ⟨r3, rfl, rfl, b3⟩; have Q3 := Q2.go b3)
      | (go_at_call 18; refine (awake_any _).mono ?_; rintro e w9 ⟨rfl, b9⟩))
    go_ret
    exact ⟨rfl, bcat Q3.below b9 (Nat.le_refl _)⟩
  | some G =>
    have cN := fun {n : Nat} {u : World} {v1 v2 v3 v4 : Value} (a : ConfAt (Since n u) c v1 v2 v3 v4 u) => new_yes a since_lt l1 l2 l3 l4 hN
    rw [hN] at cM
    simp only [Option.isSome_none, Option.isSome_some] at cM
    have hsd := limited_sides (new_some hN).1.1
    obtain ⟨WN, hWN⟩ : ∃ n : Nat, c.W = n := Int.eq_ofNat_of_zero_le (by omega)
    obtain ⟨HN, hHN⟩ : ∃ n : Nat, c.H = n := Int.eq_ofNat_of_zero_le (by omega)
    have cRM := fun u (b : Below w.heap.size w u) => rmoves_any c vb vp vr vs u (old_go hA b) l1 l2 l3 l4 l5 hN x y d
    have cRS := fun u (b : Below w.heap.size w u) => rstacks_any c vb vp vr vs u (old_go hA b) l1 l2 l3 l4 l5 WN HN hWN hHN (by omega) (by omega)
    have HLen : Hid (∀ wq g u0 v', GridAt wq g u0 c.W c.H G.uses v' → gridCells WN HN (fun q => decide (stackedR c q)) = stkUpTo c.W G.uses G.uses.length) := fun wq g u0 v' q => by
      refine (stacks_same hN hWN hHN (by omega) ?_).symm
      have := q.len
      rw [hWN, hHN, ← Int.natCast_mul] at this
      omega
    have hml := moves_len (W := c.W) (H := c.H) (us := G.uses) (p := ((x, y), d))
    obtain ⟨kn, hkn⟩ : ∃ kn : Nat, placeG most 70 = kn := Int.eq_ofNat_of_zero_le (placeG_bd most 70 (by decide)).1
    have hk70 : kn < 70 := by have := (placeG_bd most 70 (by decide)).2; omega
    have Hkn : Hid (placeG most 70 = (kn : Int)) := hkn
    clear hkn hA hN hAu hsd hWN hHN
    go_enter Try.func3, Try.ntmps3
    go_upto_region 6 with (first
      | (have X' := Q2; refine wpList_load_row rfl 26 (.tmp 3) rfl w.heap.size rfl 26 #[.int .i64 c.W, .int .i64 c.H, .int .i64 c.height, vb, vp, vr, vs, .int .i64 c.unit, .int .i64 c.accel, .int .i64 c.speed, .int .i64 c.turn, .int .i64 c.hoist, .int .i64 c.queue, .int .i64 c.resend, .int .i64 c.budget, .bool c.back] (0, 0) _ Q2.a Try.underlying26 rfl info_conf ?_)
      | (refine wpList_load_row rfl 26 (.tmp 3) rfl w.heap.size rfl 26 #[.int .i64 c.W, .int .i64 c.H, .int .i64 c.height, vb, vp, vr, vs, .int .i64 c.unit, .int .i64 c.accel, .int .i64 c.speed, .int .i64 c.turn, .int .i64 c.hoist, .int .i64 c.queue, .int .i64 c.resend, .int .i64 c.budget, .bool c.back] (0, 0) _ Q0.a Try.underlying26 rfl info_conf ?_)
      | (go_at_call 16; refine (cC _ Q0.below).mono ?_; rintro e w1 ⟨r1, rfl, ⟨v1, v2, v3, v4, rfl, A1⟩, b1⟩; have Q1 := Q0.go b1)
      | (go_at_call 15; refine (cN A1).mono ?_; rintro e w2 ⟨g, u0, v', rfl, G2, _, _, own2, b2⟩; have Q2 := Q1.go b2)
      | (go_at_call 17; refine (cM _ Q2.below).mono ?_; rintro e w3 ⟨r3, rfl, rfl, b3⟩; have Q3 := Q2.go b3))
    go_upto_region 7 with (first
      | (refine wpList_load_row rfl 30 (.tmp 4) rfl (w.heap.size + 1) rfl 30 #[.int .i64 x, .int .i64 y, .bool d] (0, 0) _ Q3.b Try.underlying30 rfl info_pose3 ?_)
      | (go_at_call 19; refine (gridMoves_any g x y d _).mono ?_; rintro e w4 ⟨rfl, hw4⟩; have C4 := ctx_new (G2.go b3) ((x, y), d); have b4 : Below w3.heap.size w3 w4 := (by rw [hw4]; exact below_two _ _ _); rw [show (((w3.alloc (.cells #[.pointer (some ⟨g, 0, none⟩)] 31)).alloc (.cells #[.int .i64 ((x, y), d).1.1, .int .i64 ((x, y), d).1.2, .bool ((x, y), d).2] 30))) = w4 from hw4.symm] at C4; clear hw4; have Q4 := Q3.go b4))
    go_upto_region 8 with (go_at_call 20; refine (stacksG_any g u0 c.W c.H G.uses v' _ C4.grid).mono ?_; rintro e w5 ⟨rfl, C5, b5⟩; have Q5 := Q4.go b5)
    go_upto_region 9 with (first
      | (refine wpList_load_row rfl 26 (.tmp 3) rfl w.heap.size rfl 26 #[.int .i64 c.W, .int .i64 c.H, .int .i64 c.height, vb, vp, vr, vs, .int .i64 c.unit, .int .i64 c.accel, .int .i64 c.speed, .int .i64 c.turn, .int .i64 c.hoist, .int .i64 c.queue, .int .i64 c.resend, .int .i64 c.budget, .bool c.back] (0, 0) _ Q5.a Try.underlying26 rfl info_conf ?_)
      | (refine wpList_load_row rfl 30 (.tmp 4) rfl (w.heap.size + 1) rfl 30 #[.int .i64 x, .int .i64 y, .bool d] (0, 0) _ Q5.b Try.underlying30 rfl info_pose3 ?_)
      | (go_at_call 21; refine (cRM _ Q5.below).mono ?_; rintro e w6 ⟨r6, rfl, own6, b6⟩; have Q6 := Q5.go b6))
    go_upto_region 10 with (first
      | (refine wpList_load_row rfl 26 (.tmp 3) rfl w.heap.size rfl 26 #[.int .i64 c.W, .int .i64 c.H, .int .i64 c.height, vb, vp, vr, vs, .int .i64 c.unit, .int .i64 c.accel, .int .i64 c.speed, .int .i64 c.turn, .int .i64 c.hoist, .int .i64 c.queue, .int .i64 c.resend, .int .i64 c.budget, .bool c.back] (0, 0) _ Q6.a Try.underlying26 rfl info_conf ?_)
      | (go_at_call 22; refine (cRS _ Q6.below).mono ?_; rintro e w7 ⟨r7, rfl, own7, b7⟩; have Q7 := Q6.go b7))
    go_upto_region 11 with (go_at_call 23; refine (placeG_any most 70 _ (by decide) (by decide)).mono ?_; rintro e w8 ⟨rfl, h8⟩; have h8' := h8.symm; subst h8'; rw [Hkn.out])
    rw [HLen.out _ _ _ _ G2] at own7
    have hcl := stkUpTo_len c.W G.uses G.uses.length
    have hgl := G2.le
    have B47 : Below w4.heap.size w4 w7 := bcat (bcat b5 b6 (Nat.le_refl _)) b7 (Nat.le_refl _)
    have B57 : Below w5.heap.size w5 w7 := bcat b6 b7 (Nat.le_refl _)
    have hkt : (1 + (kn : Int)).toNat = kn + 1 := by omega
    have kM1 : Hid (∀ u, Below w7.heap.size w7 u → Calls Try.prog 25 #[.func (.func 79) #[] #[.pointer (some ⟨w3.heap.size, 0, none⟩), .pointer (some ⟨w3.heap.size + 1, 0, none⟩)], .int .i64 (1 + (kn : Int))] u fun e w' => ∃ v, e = .returned v ∧ (w'.ownsRow u.heap.size 56 11 v ((movesP c.W c.H G.uses ((x, y), d)).take (kn + 1)).length (rowL moveL ((movesP c.W c.H G.uses ((x, y), d)).take (kn + 1))) ∧ Below u.heap.size u w')) := fun u hu => by
      have := lawMoves_any g u0 c.W c.H G.uses v' w3.heap.size (w3.heap.size + 1) x y d (1 + (kn : Int)) (by omega) (by omega) u (C4.go (bcat B47 hu (Nat.le_refl _)))
      rwa [hkt] at this
    have kM2 : Hid (∀ u, Below w7.heap.size w7 u → Calls Try.prog 25 #[.func (.func 79) #[] #[.pointer (some ⟨w3.heap.size, 0, none⟩), .pointer (some ⟨w3.heap.size + 1, 0, none⟩)], .int .i64 1000] u fun e w' => ∃ v, e = .returned v ∧ (w'.ownsRow u.heap.size 56 11 v (movesP c.W c.H G.uses ((x, y), d)).length (rowL moveL (movesP c.W c.H G.uses ((x, y), d))) ∧ Below u.heap.size u w')) := fun u hu => by
      have := lawMoves_any g u0 c.W c.H G.uses v' w3.heap.size (w3.heap.size + 1) x y d 1000 (by omega) (by omega) u (C4.go (bcat B47 hu (Nat.le_refl _)))
      rwa [show ((1000 : Int)).toNat = 1000 by omega, List.take_of_length_le (by omega)] at this
    have kC1 : Hid (∀ u, Below w7.heap.size w7 u → Calls Try.prog 27 #[.func (.func 82) #[] #[.pointer (some ⟨w4.heap.size, 0, none⟩)], .int .i64 (1 + (kn : Int))] u fun e w' => ∃ v, e = .returned v ∧ (w'.ownsRow u.heap.size 28 2 v ((stkUpTo c.W G.uses G.uses.length).take (kn + 1)).length (rowL cellL ((stkUpTo c.W G.uses G.uses.length).take (kn + 1))) ∧ Below u.heap.size u w')) := fun u hu => by
      have := lawCells_any g u0 c.W c.H G.uses v' w4.heap.size (1 + (kn : Int)) (by omega) (by omega) u (C5.go (bcat B57 hu (Nat.le_refl _)))
      rwa [hkt] at this
    have kC2 : Hid (∀ u, Below w7.heap.size w7 u → Calls Try.prog 27 #[.func (.func 82) #[] #[.pointer (some ⟨w4.heap.size, 0, none⟩)], .int .i64 1000] u fun e w' => ∃ v, e = .returned v ∧ (w'.ownsRow u.heap.size 28 2 v (stkUpTo c.W G.uses G.uses.length).length (rowL cellL (stkUpTo c.W G.uses G.uses.length)) ∧ Below u.heap.size u w')) := fun u hu => by
      have := lawCells_any g u0 c.W c.H G.uses v' w4.heap.size 1000 (by omega) (by omega) u (C5.go (bcat B57 hu (Nat.le_refl _)))
      rwa [show ((1000 : Int)).toNat = 1000 by omega, List.take_of_length_le (by omega)] at this
    have own6 := own_go own6 b7
    generalize stkUpTo c.W G.uses G.uses.length = CL at *
    generalize movesP c.W c.H G.uses ((x, y), d) = ML at *
    have QB := Q7.below
    clear HLen cRM cRS cC cM cN Q0 Q1 Q2 Q3 Q4 Q5 Q6 Q7 C4 C5 G2 own2 A1 B47 B57 hkt Hkn L
    obtain ⟨n1m, hL1m⟩ : ∃ n, (ML).length = n := ⟨_, rfl⟩
    obtain ⟨n2m, hL2m⟩ : ∃ n, ((ML).take (kn + 1)).length = n := ⟨_, rfl⟩
    have hs1m : n1m ≤ 1000000 := by omega
    have hs2m : n2m ≤ 1000000 := by
      have : ((ML).take (kn + 1)).length ≤ (ML).length := List.length_take_le' _ _
      omega
    have owm := own_take kindMove.len own6 (min (kn + 1) n1m) (by rw [hL1m]; exact Nat.min_le_right _ _)
    have hmtm : (ML).take (min (kn + 1) n1m) = (ML).take (kn + 1) := by rw [← hL1m, ← List.take_eq_take_min]
    rw [hmtm, hL2m] at owm
    rw [hL1m] at own6
    obtain ⟨l6a, l6c, hvm⟩ := own_slice own6
    subst hvm
    have HSlm : Hid (∀ u, (Instr.sliceAt 44 (.slice l6a n1m l6c) none (some (.int .i64 ((min (kn + 1) n1m : Nat) : Int))) none).run Try.prog u = .ok (takeV (.slice l6a n1m l6c) (min (kn + 1) n1m)) u) := fun u => run_take_move own6 _ (Nat.min_le_right _ _) u
    generalize takeV (.slice l6a n1m l6c) (min (kn + 1) n1m) = tm at *
    have HMinm : Hid (min (1 + (kn : Int)) (n1m : Int) = ((min (kn + 1) n1m : Nat) : Int)) := by show min (1 + (kn : Int)) (n1m : Int) = ((min (kn + 1) n1m : Nat) : Int); omega
    have HTm : Hid (∀ u, Below w7.heap.size w7 u → _) := fun u hu => own_go owm hu
    have HWm : Hid (∀ u, Below w7.heap.size w7 u → _) := fun u hu => own_go own6 hu
    clear owm hmtm
    rw [hL1m] at kM2
    rw [hL2m] at kM1
    obtain ⟨n1c, hL1c⟩ : ∃ n, (CL).length = n := ⟨_, rfl⟩
    obtain ⟨n2c, hL2c⟩ : ∃ n, ((CL).take (kn + 1)).length = n := ⟨_, rfl⟩
    have hs1c : n1c ≤ 1000000 := by omega
    have hs2c : n2c ≤ 1000000 := by
      have : ((CL).take (kn + 1)).length ≤ (CL).length := List.length_take_le' _ _
      omega
    have owc := own_take kindCell.len own7 (min (kn + 1) n1c) (by rw [hL1c]; exact Nat.min_le_right _ _)
    have hmtc : (CL).take (min (kn + 1) n1c) = (CL).take (kn + 1) := by rw [← hL1c, ← List.take_eq_take_min]
    rw [hmtc, hL2c] at owc
    rw [hL1c] at own7
    obtain ⟨l7a, l7c, hvc⟩ := own_slice own7
    subst hvc
    have HSlc : Hid (∀ u, (Instr.sliceAt 22 (.slice l7a n1c l7c) none (some (.int .i64 ((min (kn + 1) n1c : Nat) : Int))) none).run Try.prog u = .ok (takeV (.slice l7a n1c l7c) (min (kn + 1) n1c)) u) := fun u => run_take_cell own7 _ (Nat.min_le_right _ _) u
    generalize takeV (.slice l7a n1c l7c) (min (kn + 1) n1c) = tc at *
    have HMinc : Hid (min (1 + (kn : Int)) (n1c : Int) = ((min (kn + 1) n1c : Nat) : Int)) := by show min (1 + (kn : Int)) (n1c : Int) = ((min (kn + 1) n1c : Nat) : Int); omega
    have HTc : Hid (∀ u, Below w7.heap.size w7 u → _) := fun u hu => own_go owc hu
    have HWc : Hid (∀ u, Below w7.heap.size w7 u → _) := fun u hu => own_go own7 hu
    clear owc hmtc
    rw [hL1c] at kC2
    rw [hL2c] at kC1
    clear own6 own7 hml hcl hgl
    have S0 : Below w7.heap.size w7 w7.drew := (Below.refl _ _).drew
    refine start_held (S := fun u => Below w7.heap.size w7 u) 18 rfl (by kernel_rfl) (S0) ?_
    simp only [Array.replicate_succ, Array.replicate_zero, List.push_toArray, List.nil_append, List.cons_append]
    refine take_held 0 S0 rfl (by kernel_rfl) (by kernel_rfl) (by kernel_rfl) (fun _ _ _ h => h) (by kernel_rfl) (v := ?v0) ?y0 ?r0
    case y0 => (intro u hu; go_simp; try rfl)
    simp only [Act.put, List.setIfInBounds_toArray, List.set_cons_zero, List.set_cons_succ]
    refine take_held 1 S0 rfl (by kernel_rfl) (by kernel_rfl) (by kernel_rfl) (fun _ _ _ h => h) (by kernel_rfl) (v := ?v1) ?y1 ?r1
    case y1 => (intro u hu; go_simp; try rfl)
    simp only [Act.put, List.setIfInBounds_toArray, List.set_cons_zero, List.set_cons_succ]
    refine take_held 3 S0 rfl (by kernel_rfl) (by kernel_rfl) (by kernel_rfl) (fun _ _ _ h => h) (by kernel_rfl) (v := ?v2) ?y2 ?r2
    case y2 => (intro u hu; go_simp; try rfl)
    simp only [Act.put, List.setIfInBounds_toArray, List.set_cons_zero, List.set_cons_succ]
    refine take_held 4 S0 rfl (by kernel_rfl) (by kernel_rfl) (by kernel_rfl) (fun _ _ _ h => h) (by kernel_rfl) (v := ?v3) ?y3 ?r3
    case y3 => (intro u hu; go_simp; try rfl)
    simp only [Act.put, List.setIfInBounds_toArray, List.set_cons_zero, List.set_cons_succ]
    refine take_held 5 S0 rfl (by kernel_rfl) (by kernel_rfl) (by kernel_rfl) (fun _ _ _ h => h) (by kernel_rfl) (v := ?v4) ?y4 ?r4
    case y4 => (intro u hu; go_simp; try rfl)
    simp only [Act.put, List.setIfInBounds_toArray, List.set_cons_zero, List.set_cons_succ]
    refine take_held 6 S0 rfl (by kernel_rfl) (by kernel_rfl) (by kernel_rfl) (fun _ _ _ h => h) (by kernel_rfl) (v := ?v5) ?y5 ?r5
    case y5 => (intro u hu; go_simp; try rfl)
    simp only [Act.put, List.setIfInBounds_toArray, List.set_cons_zero, List.set_cons_succ]
    refine take_held 7 S0 rfl (by kernel_rfl) (by kernel_rfl) (by kernel_rfl) (fun _ _ _ h => h) (by kernel_rfl) (v := .int .i64 ((min (kn + 1) n1m : Nat) : Int)) ?y6 ?r6
    case y6 => (intro u hu; have zz := HMinm.out; go_simp; try rfl)
    simp only [Act.put, List.setIfInBounds_toArray, List.set_cons_zero, List.set_cons_succ]
    refine take_held 8 S0 rfl (by kernel_rfl) (by kernel_rfl) (by kernel_rfl) (fun _ _ _ h => h) (by kernel_rfl) (v := tm) ?y7 ?r7
    case y7 => (intro u hu; have zz := HSlm.out u; go_simp; try rfl)
    simp only [Act.put, List.setIfInBounds_toArray, List.set_cons_zero, List.set_cons_succ]
    refine wpAnyH_ready (rs := [2]) (by kernel_rfl) (by simp) (AllReadyH.cons ((nth_eq _ 2).trans rfl) ?_ AllReadyH.nil)
    intro K' hK
    refine call_in hK (by kernel_rfl) 25 #[.func (.func 79) #[] #[.pointer (some ⟨w3.heap.size, 0, none⟩), .pointer (some ⟨w3.heap.size + 1, 0, none⟩)], .int .i64 (1 + (kn : Int))] (by go_simp) _ (kM1.out _ S0) ?_
    rintro vm1 xm1 ⟨ownpm, bm1⟩
    have Sm1 : Below w7.heap.size w7 xm1 := bcat S0 bm1 (Nat.le_refl _)
    obtain ⟨pma, pmc, hvpm⟩ := own_slice ownpm
    subst hvpm
    refine ⟨Sm1, ?_⟩
    simp only [Act.put, List.setIfInBounds_toArray, List.set_cons_zero, List.set_cons_succ]
    refine wpAnyH_ready (rs := [9]) (by kernel_rfl) (by simp) (AllReadyH.cons ((nth_eq _ 9).trans rfl) ?_ AllReadyH.nil)
    intro K' hK
    refine call_in hK (by kernel_rfl) 24 #[.slice pma n2m pmc, tm] (by go_simp) _ (same_moves _ _ hL2m hs2m _ _ _ _ _ ownpm (HTm.out _ Sm1)) ?_
    rintro vm2 xm2 ⟨rfl, bm2⟩
    have Sm2 : Below w7.heap.size w7 xm2 := bcat Sm1 bm2 (Nat.le_refl _)
    refine ⟨Sm2, ?_⟩
    simp only [Act.put, List.setIfInBounds_toArray, List.set_cons_zero, List.set_cons_succ]
    refine take_held 10 Sm2 rfl (by kernel_rfl) (by kernel_rfl) (by kernel_rfl) (fun _ _ _ h => h) (by kernel_rfl) (v := ?v8) ?y8 ?r8
    case y8 => (intro u hu; go_simp; try rfl)
    simp only [Act.put, List.setIfInBounds_toArray, List.set_cons_zero, List.set_cons_succ]
    refine take_held 11 Sm2 rfl (by kernel_rfl) (by kernel_rfl) (by kernel_rfl) (fun _ _ _ h => h) (by kernel_rfl) (v := ?v9) ?y9 ?r9
    case y9 => (intro u hu; go_simp; try rfl)
    simp only [Act.put, List.setIfInBounds_toArray, List.set_cons_zero, List.set_cons_succ]
    refine take_held 12 Sm2 rfl (by kernel_rfl) (by kernel_rfl) (by kernel_rfl) (fun _ _ _ h => h) (by kernel_rfl) (v := ?v10) ?y10 ?r10
    case y10 => (intro u hu; go_simp; try rfl)
    simp only [Act.put, List.setIfInBounds_toArray, List.set_cons_zero, List.set_cons_succ]
    refine take_held 14 Sm2 rfl (by kernel_rfl) (by kernel_rfl) (by kernel_rfl) (fun _ _ _ h => h) (by kernel_rfl) (v := ?v11) ?y11 ?r11
    case y11 => (intro u hu; go_simp; try rfl)
    simp only [Act.put, List.setIfInBounds_toArray, List.set_cons_zero, List.set_cons_succ]
    refine wpAnyH_ready (rs := [13]) (by kernel_rfl) (by simp) (AllReadyH.cons ((nth_eq _ 13).trans rfl) ?_ AllReadyH.nil)
    intro K' hK
    refine call_in hK (by kernel_rfl) 25 #[.func (.func 79) #[] #[.pointer (some ⟨w3.heap.size, 0, none⟩), .pointer (some ⟨w3.heap.size + 1, 0, none⟩)], .int .i64 1000] (by go_simp) _ (kM2.out _ Sm2) ?_
    rintro vm3 xm3 ⟨ownqm, bm3⟩
    have Sm3 : Below w7.heap.size w7 xm3 := bcat Sm2 bm3 (Nat.le_refl _)
    obtain ⟨qma, qmc, hvqm⟩ := own_slice ownqm
    subst hvqm
    refine ⟨Sm3, ?_⟩
    simp only [Act.put, List.setIfInBounds_toArray, List.set_cons_zero, List.set_cons_succ]
    refine wpAnyH_ready (rs := [15]) (by kernel_rfl) (by simp) (AllReadyH.cons ((nth_eq _ 15).trans rfl) ?_ AllReadyH.nil)
    intro K' hK
    refine call_in hK (by kernel_rfl) 24 #[.slice qma n1m qmc, (.slice l6a n1m l6c)] (by go_simp) _ (same_moves _ _ hL1m hs1m _ _ _ _ _ ownqm (HWm.out _ Sm3)) ?_
    rintro vm4 xm4 ⟨rfl, bm4⟩
    have Sm4 : Below w7.heap.size w7 xm4 := bcat Sm3 bm4 (Nat.le_refl _)
    refine ⟨Sm4, ?_⟩
    simp only [Act.put, List.setIfInBounds_toArray, List.set_cons_zero, List.set_cons_succ]
    refine take_held 16 Sm4 rfl (by kernel_rfl) (by kernel_rfl) (by kernel_rfl) (fun _ _ _ h => h) (by kernel_rfl) (v := ?v12) ?y12 ?r12
    case y12 => (intro u hu; go_simp; try rfl)
    simp only [Act.put, List.setIfInBounds_toArray, List.set_cons_zero, List.set_cons_succ]
    refine take_held 17 Sm4 rfl (by kernel_rfl) (by kernel_rfl) (by kernel_rfl) (fun _ _ _ h => h) (by kernel_rfl) (v := ?v13) ?y13 ?r13
    case y13 => (intro u hu; go_simp; try rfl)
    simp only [Act.put, List.setIfInBounds_toArray, List.set_cons_zero, List.set_cons_succ]
    refine done_held (by kernel_rfl) ?_ _
    go_upto_region 13 with fail
    have T0 : Below w7.heap.size w7 xm4.drew := bcat Sm4 (Below.refl _ _).drew (Nat.le_refl _)
    refine start_held (S := fun u => Below w7.heap.size w7 u) 20 rfl (by kernel_rfl) (T0) ?_
    simp only [Array.replicate_succ, Array.replicate_zero, List.push_toArray, List.nil_append, List.cons_append]
    refine take_held 0 T0 rfl (by kernel_rfl) (by kernel_rfl) (by kernel_rfl) (fun _ _ _ h => h) (by kernel_rfl) (v := ?v14) ?y14 ?r14
    case y14 => (intro u hu; go_simp; try rfl)
    simp only [Act.put, List.setIfInBounds_toArray, List.set_cons_zero, List.set_cons_succ]
    refine take_held 1 T0 rfl (by kernel_rfl) (by kernel_rfl) (by kernel_rfl) (fun _ _ _ h => h) (by kernel_rfl) (v := ?v15) ?y15 ?r15
    case y15 => (intro u hu; go_simp; try rfl)
    simp only [Act.put, List.setIfInBounds_toArray, List.set_cons_zero, List.set_cons_succ]
    refine take_held 3 T0 rfl (by kernel_rfl) (by kernel_rfl) (by kernel_rfl) (fun _ _ _ h => h) (by kernel_rfl) (v := ?v16) ?y16 ?r16
    case y16 => (intro u hu; go_simp; try rfl)
    simp only [Act.put, List.setIfInBounds_toArray, List.set_cons_zero, List.set_cons_succ]
    refine take_held 4 T0 rfl (by kernel_rfl) (by kernel_rfl) (by kernel_rfl) (fun _ _ _ h => h) (by kernel_rfl) (v := ?v17) ?y17 ?r17
    case y17 => (intro u hu; go_simp; try rfl)
    simp only [Act.put, List.setIfInBounds_toArray, List.set_cons_zero, List.set_cons_succ]
    refine take_held 5 T0 rfl (by kernel_rfl) (by kernel_rfl) (by kernel_rfl) (fun _ _ _ h => h) (by kernel_rfl) (v := ?v18) ?y18 ?r18
    case y18 => (intro u hu; go_simp; try rfl)
    simp only [Act.put, List.setIfInBounds_toArray, List.set_cons_zero, List.set_cons_succ]
    refine take_held 6 T0 rfl (by kernel_rfl) (by kernel_rfl) (by kernel_rfl) (fun _ _ _ h => h) (by kernel_rfl) (v := ?v19) ?y19 ?r19
    case y19 => (intro u hu; go_simp; try rfl)
    simp only [Act.put, List.setIfInBounds_toArray, List.set_cons_zero, List.set_cons_succ]
    refine take_held 7 T0 rfl (by kernel_rfl) (by kernel_rfl) (by kernel_rfl) (fun _ _ _ h => h) (by kernel_rfl) (v := .int .i64 ((min (kn + 1) n1c : Nat) : Int)) ?y20 ?r20
    case y20 => (intro u hu; have zz := HMinc.out; go_simp; try rfl)
    simp only [Act.put, List.setIfInBounds_toArray, List.set_cons_zero, List.set_cons_succ]
    refine take_held 8 T0 rfl (by kernel_rfl) (by kernel_rfl) (by kernel_rfl) (fun _ _ _ h => h) (by kernel_rfl) (v := tc) ?y21 ?r21
    case y21 => (intro u hu; have zz := HSlc.out u; go_simp; try rfl)
    simp only [Act.put, List.setIfInBounds_toArray, List.set_cons_zero, List.set_cons_succ]
    refine wpAnyH_ready (rs := [2]) (by kernel_rfl) (by simp) (AllReadyH.cons ((nth_eq _ 2).trans rfl) ?_ AllReadyH.nil)
    intro K' hK
    refine call_in hK (by kernel_rfl) 27 #[.func (.func 82) #[] #[.pointer (some ⟨w4.heap.size, 0, none⟩)], .int .i64 (1 + (kn : Int))] (by go_simp) _ (kC1.out _ T0) ?_
    rintro vc1 xc1 ⟨ownpc, bc1⟩
    have Sc1 : Below w7.heap.size w7 xc1 := bcat T0 bc1 (Nat.le_refl _)
    obtain ⟨pca, pcc, hvpc⟩ := own_slice ownpc
    subst hvpc
    refine ⟨Sc1, ?_⟩
    simp only [Act.put, List.setIfInBounds_toArray, List.set_cons_zero, List.set_cons_succ]
    refine wpAnyH_ready (rs := [9]) (by kernel_rfl) (by simp) (AllReadyH.cons ((nth_eq _ 9).trans rfl) ?_ AllReadyH.nil)
    intro K' hK
    refine call_in hK (by kernel_rfl) 26 #[.slice pca n2c pcc, tc] (by go_simp) _ (same_lists _ _ hL2c hs2c _ _ _ _ _ ownpc (HTc.out _ Sc1)) ?_
    rintro vc2 xc2 ⟨rfl, bc2⟩
    have Sc2 : Below w7.heap.size w7 xc2 := bcat Sc1 bc2 (Nat.le_refl _)
    refine ⟨Sc2, ?_⟩
    simp only [Act.put, List.setIfInBounds_toArray, List.set_cons_zero, List.set_cons_succ]
    refine take_held 10 Sc2 rfl (by kernel_rfl) (by kernel_rfl) (by kernel_rfl) (fun _ _ _ h => h) (by kernel_rfl) (v := ?v22) ?y22 ?r22
    case y22 => (intro u hu; go_simp; try rfl)
    simp only [Act.put, List.setIfInBounds_toArray, List.set_cons_zero, List.set_cons_succ]
    refine take_held 11 Sc2 rfl (by kernel_rfl) (by kernel_rfl) (by kernel_rfl) (fun _ _ _ h => h) (by kernel_rfl) (v := ?v23) ?y23 ?r23
    case y23 => (intro u hu; go_simp; try rfl)
    simp only [Act.put, List.setIfInBounds_toArray, List.set_cons_zero, List.set_cons_succ]
    refine take_held 13 Sc2 rfl (by kernel_rfl) (by kernel_rfl) (by kernel_rfl) (fun _ _ _ h => h) (by kernel_rfl) (v := ?v24) ?y24 ?r24
    case y24 => (intro u hu; go_simp; try rfl)
    simp only [Act.put, List.setIfInBounds_toArray, List.set_cons_zero, List.set_cons_succ]
    refine wpAnyH_ready (rs := [12]) (by kernel_rfl) (by simp) (AllReadyH.cons ((nth_eq _ 12).trans rfl) ?_ AllReadyH.nil)
    intro K' hK
    refine call_in hK (by kernel_rfl) 27 #[.func (.func 82) #[] #[.pointer (some ⟨w4.heap.size, 0, none⟩)], .int .i64 1000] (by go_simp) _ (kC2.out _ Sc2) ?_
    rintro vc3 xc3 ⟨ownqc, bc3⟩
    have Sc3 : Below w7.heap.size w7 xc3 := bcat Sc2 bc3 (Nat.le_refl _)
    obtain ⟨qca, qcc, hvqc⟩ := own_slice ownqc
    subst hvqc
    refine ⟨Sc3, ?_⟩
    simp only [Act.put, List.setIfInBounds_toArray, List.set_cons_zero, List.set_cons_succ]
    refine wpAnyH_ready (rs := [14]) (by kernel_rfl) (by simp) (AllReadyH.cons ((nth_eq _ 14).trans rfl) ?_ AllReadyH.nil)
    intro K' hK
    refine call_in hK (by kernel_rfl) 26 #[.slice qca n1c qcc, (.slice l7a n1c l7c)] (by go_simp) _ (same_lists _ _ hL1c hs1c _ _ _ _ _ ownqc (HWc.out _ Sc3)) ?_
    rintro vc4 xc4 ⟨rfl, bc4⟩
    have Sc4 : Below w7.heap.size w7 xc4 := bcat Sc3 bc4 (Nat.le_refl _)
    refine ⟨Sc4, ?_⟩
    simp only [Act.put, List.setIfInBounds_toArray, List.set_cons_zero, List.set_cons_succ]
    refine take_held 15 Sc4 rfl (by kernel_rfl) (by kernel_rfl) (by kernel_rfl) (fun _ _ _ h => h) (by kernel_rfl) (v := ?v25) ?y25 ?r25
    case y25 => (intro u hu; go_simp; try rfl)
    simp only [Act.put, List.setIfInBounds_toArray, List.set_cons_zero, List.set_cons_succ]
    refine take_held 16 Sc4 rfl (by kernel_rfl) (by kernel_rfl) (by kernel_rfl) (fun _ _ _ h => h) (by kernel_rfl) (v := ?v26) ?y26 ?r26
    case y26 => (intro u hu; go_simp; try rfl)
    simp only [Act.put, List.setIfInBounds_toArray, List.set_cons_zero, List.set_cons_succ]
    refine wpAnyH_ready (rs := [17]) (by kernel_rfl) (by simp) (AllReadyH.cons ((nth_eq _ 17).trans rfl) ?_ AllReadyH.nil)
    intro K' hK
    refine call_in hK (by kernel_rfl) 18 #[] (by go_simp) _ (awake_call _) ?_
    rintro v9 x9 ⟨rfl, b9⟩
    have S9 : Below w7.heap.size w7 x9 := bcat Sc4 b9 (Nat.le_refl _)
    refine ⟨S9, ?_⟩
    simp only [Act.put, List.setIfInBounds_toArray, List.set_cons_zero, List.set_cons_succ]
    refine take_held 18 S9 rfl (by kernel_rfl) (by kernel_rfl) (by kernel_rfl) (fun _ _ _ h => h) (by kernel_rfl) (v := ?v27) ?y27 ?r27
    case y27 => (intro u hu; go_simp; try rfl)
    simp only [Act.put, List.setIfInBounds_toArray, List.set_cons_zero, List.set_cons_succ]
    refine take_held 19 S9 rfl (by kernel_rfl) (by kernel_rfl) (by kernel_rfl) (fun _ _ _ h => h) (by kernel_rfl) (v := ?v28) ?y28 ?r28
    case y28 => (intro u hu; go_simp; try rfl)
    simp only [Act.put, List.setIfInBounds_toArray, List.set_cons_zero, List.set_cons_succ]
    refine done_held (by kernel_rfl) ?_ _
    go_wp2_with fail
    go_ret
    exact ⟨rfl, bcat QB S9 (Nat.le_refl _)⟩
end Go.Proofs.Ytnaojlngdfolaaa.Grid
