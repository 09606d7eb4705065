/-
  The chapter's own answer, further: the stack cells in order.
-/
import Derived.Test.YtgnpmjlliolmoaaDgK
import Derived.Test.YtgnpmjlliolmoaaGridRef6
namespace Go.Proofs.Ytgnpmjlliolmoaa.Grid
set_option linter.unusedVariables false
set_option linter.unusedSimpArgs false
open Go Go.RowKit Go.Shelf Go.Proofs
attribute [local go_sem] Oper.semAt_some

set_option maxRecDepth 100000 in
set_option maxHeartbeats 8000000 in
theorem rstacks_any (c : Conf) (vb vp vr vs : Value) (w : World) (hA : ConfAt (Old w) c vb vp vr vs w) (l1 : c.blocked.length ≤ 8796093022208) (l2 : c.ports.length ≤ 8796093022208) (l3 : c.robots.length ≤ 5864062014805) (l4 : c.stacks.length ≤ 3518437208880) (l5 : ∀ s ∈ c.stacks, s.2.length ≤ 17592186044416) (WN HN : Nat) (hWN0 : c.W = WN) (hHN0 : c.H = HN) (hW1 : WN ≤ 16) (hH1 : HN ≤ 16) :
    Calls Try.prog 40 #[.agg #[.int .i64 c.W, .int .i64 c.H, .int .i64 c.height, vb, vp, vr, vs, .int .i64 c.unit, .int .i64 c.accel, .int .i64 c.speed, .int .i64 c.turn, .int .i64 c.hoist, .int .i64 c.queue, .int .i64 c.resend, .int .i64 c.budget, .bool c.back]] w fun e w' => ∃ r, e = .returned r ∧ (w'.ownsRow w.heap.size 28 2 r (gridCells WN HN (fun q => decide (stackedR c q))).length (rowL cellL (gridCells WN HN (fun q => decide (stackedR c q)))) ∧ Below w.heap.size w w') := by
  have hWN : Hid (c.W = WN) := hWN0
  have hHN : Hid (c.H = HN) := hHN0
  clear hWN0 hHN0
  obtain ⟨wb, hwb⟩ : ∃ wb, wb = w.alloc (.cells #[.int .i64 c.W, .int .i64 c.H, .int .i64 c.height, vb, vp, vr, vs, .int .i64 c.unit, .int .i64 c.accel, .int .i64 c.speed, .int .i64 c.turn, .int .i64 c.hoist, .int .i64 c.queue, .int .i64 c.resend, .int .i64 c.budget, .bool c.back] 26) := ⟨_, rfl⟩
  have Bt : Below w.heap.size w wb := by rw [hwb]; exact below_new (Below.refl _ _) _
  have eA : wb.heap[w.heap.size]? = some (.cells #[.int .i64 c.W, .int .i64 c.H, .int .i64 c.height, vb, vp, vr, vs, .int .i64 c.unit, .int .i64 c.accel, .int .i64 c.speed, .int .i64 c.turn, .int .i64 c.hoist, .int .i64 c.queue, .int .i64 c.resend, .int .i64 c.budget, .bool c.back] 26 (0, 0)) := by rw [hwb]; exact heap_alloc_new w _
  have zW : Hid (∀ u, Below wb.heap.size wb u → u.cell? ⟨w.heap.size, 0, none⟩ = some (.int .i64 (WN : Int)) ∧ u.cell? ⟨w.heap.size, 1, none⟩ = some (.int .i64 (HN : Int)) ∧ u.heap[w.heap.size]? = some (.cells #[.int .i64 c.W, .int .i64 c.H, .int .i64 c.height, vb, vp, vr, vs, .int .i64 c.unit, .int .i64 c.accel, .int .i64 c.speed, .int .i64 c.turn, .int .i64 c.hoist, .int .i64 c.queue, .int .i64 c.resend, .int .i64 c.budget, .bool c.back] 26 (0, 0))) := fun u hu => ⟨by rw [← hWN.out]; exact cell_below ((cell_of eA 0).trans rfl) hu, by rw [← hHN.out]; exact cell_below ((cell_of eA 1).trans rfl) hu, (hu.block _ (lt_of_heap eA)).trans eA⟩
  have cA : Hid (∀ u (b : Below wb.heap.size wb u) (x y : Int), Calls Try.prog 19 #[.agg #[.int .i64 c.W, .int .i64 c.H, .int .i64 c.height, vb, vp, vr, vs, .int .i64 c.unit, .int .i64 c.accel, .int .i64 c.speed, .int .i64 c.turn, .int .i64 c.hoist, .int .i64 c.queue, .int .i64 c.resend, .int .i64 c.budget, .bool c.back], .agg #[.int .i64 x, .int .i64 y]] u fun e w' => ∃ r, e = .returned r ∧ r = .bool (decide (stackedR c (x, y))) ∧ Below u.heap.size u w') := fun u b x y => stackedR_any (Old w) c vb vp vr vs x y u (hA.go (fun _ h => h) (bcat Bt b (Nat.le_refl _))) (fun g hg => Nat.lt_of_lt_of_le hg (bcat Bt b (Nat.le_refl _)).size) (by omega) (by omega) (by omega)
  have own0 : Hid (wb.ownsRow wb.heap.size 28 2 (.slice none 0 0) ((gridCells WN 0 (fun q => decide (stackedR c q)))).length (rowL cellL ((gridCells WN 0 (fun q => decide (stackedR c q)))))) := ⟨rfl, .inl ⟨rfl, rfl⟩⟩
  have HB0 : Hid (Below wb.heap.size wb wb) := Below.refl _ _
  clear eA hA
  go_enter Try.func40, Try.ntmps40
  go_upto_region 1 with fail
  rw [← hwb]
  clear hwb
  go_wp2_with fail
  go_loopw [3, 4] (fun v i wq => ∃ k : Nat, k ≤ HN ∧ i = .int .i64 k ∧ Hid (wq.ownsRow wb.heap.size 28 2 v ((gridCells WN k (fun q => decide (stackedR c q)))).length (rowL cellL ((gridCells WN k (fun q => decide (stackedR c q)))))) ∧ Hid (Below wb.heap.size wb wq)) (fun _ i _ => HN - (intOf i).toNat)
  case atStart => exact ⟨0, Nat.zero_le _, rfl, own0, HB0⟩
  case round =>
    obtain ⟨k, hk, rfl, HO, HB⟩ := hrel
    clear own0 HB0
    have y1 := (zW.out _ HB.out).2.1
    by_cases hlt : k < HN
    · have hd : decide ((k : Int) < (HN : Int)) = true := decide_eq_true (by omega)
      go_wp2_with fail
      have HO1 : Hid (wr.ownsRow wb.heap.size 28 2 u3 ((gridCells WN k (fun q => decide (stackedR c q))) ++ (gridRow 0 ((k : Nat) : Int) (fun q => decide (stackedR c q)))).length (rowL cellL ((gridCells WN k (fun q => decide (stackedR c q))) ++ (gridRow 0 ((k : Nat) : Int) (fun q => decide (stackedR c q)))))) := by
        have : (gridCells WN k (fun q => decide (stackedR c q))) ++ (gridRow 0 ((k : Nat) : Int) (fun q => decide (stackedR c q))) = (gridCells WN k (fun q => decide (stackedR c q))) := by rw [gridRow_nil, List.append_nil]
        show wr.ownsRow wb.heap.size 28 2 u3 ((gridCells WN k (fun q => decide (stackedR c q))) ++ (gridRow 0 ((k : Nat) : Int) (fun q => decide (stackedR c q)))).length (rowL cellL ((gridCells WN k (fun q => decide (stackedR c q))) ++ (gridRow 0 ((k : Nat) : Int) (fun q => decide (stackedR c q)))))
        rw [this]
        exact HO.out
      clear HO y1 hd
      go_loopw [3, 5] (fun v i wq => ∃ j : Nat, j ≤ WN ∧ i = .int .i64 j ∧ Hid (wq.ownsRow wb.heap.size 28 2 v ((gridCells WN k (fun q => decide (stackedR c q))) ++ (gridRow j ((k : Nat) : Int) (fun q => decide (stackedR c q)))).length (rowL cellL ((gridCells WN k (fun q => decide (stackedR c q))) ++ (gridRow j ((k : Nat) : Int) (fun q => decide (stackedR c q)))))) ∧ Hid (Below wb.heap.size wb wq)) (fun _ i _ => WN - (intOf i).toNat)
      case atStart => exact ⟨0, Nat.zero_le _, rfl, HO1, HB⟩
      case round =>
        clear HO1 HB
        obtain ⟨j, hj, rfl, HO, HB⟩ := hrel
        have y0 := (zW.out _ HB.out).1
        have hC := (zW.out _ HB.out).2.2
        by_cases hx : j < WN
        · have hd : decide ((j : Int) < (WN : Int)) = true := decide_eq_true (by omega)
          have cA1 := cA.out _ HB.out (j : Int) (k : Int)
          have hsu := gridRow_succ j ((k : Nat) : Int) (fun q => decide (stackedR c q))
          by_cases hin : stackedR c ((j : Int), (k : Int))
          · rw [decide_eq_true hin] at cA1
            rw [if_pos (decide_eq_true hin)] at hsu
            have HS : Hid ((gridCells WN k (fun q => decide (stackedR c q))) ++ (gridRow (j + 1) ((k : Nat) : Int) (fun q => decide (stackedR c q))) = ((gridCells WN k (fun q => decide (stackedR c q))) ++ (gridRow j ((k : Nat) : Int) (fun q => decide (stackedR c q)))) ++ [((j : Int), (k : Int))]) := by
              show (gridCells WN k (fun q => decide (stackedR c q))) ++ (gridRow (j + 1) ((k : Nat) : Int) (fun q => decide (stackedR c q))) = ((gridCells WN k (fun q => decide (stackedR c q))) ++ (gridRow j ((k : Nat) : Int) (fun q => decide (stackedR c q)))) ++ [((j : Int), (k : Int))]
              rw [hsu, List.append_assoc]
            have HLn : Hid (((gridCells WN k (fun q => decide (stackedR c q))) ++ (gridRow j ((k : Nat) : Int) (fun q => decide (stackedR c q)))).length ≤ 1000) := by
              have h1 := gridCells_len WN (fun q => decide (stackedR c q)) k
              have h2 := gridRow_len j ((k : Nat) : Int) (fun q => decide (stackedR c q))
              have h3 : WN * k ≤ 16 * 16 := Nat.mul_le_mul hW1 (by omega)
              show ((gridCells WN k (fun q => decide (stackedR c q))) ++ (gridRow j ((k : Nat) : Int) (fun q => decide (stackedR c q)))).length ≤ 1000
              rw [List.length_append]
              omega
            clear hsu hin
            go_wp2_with (first
              | (refine wpList_load_row rfl 26 (.tmp 1) rfl w.heap.size rfl 26 #[.int .i64 c.W, .int .i64 c.H, .int .i64 c.height, vb, vp, vr, vs, .int .i64 c.unit, .int .i64 c.accel, .int .i64 c.speed, .int .i64 c.turn, .int .i64 c.hoist, .int .i64 c.queue, .int .i64 c.resend, .int .i64 c.budget, .bool c.back] (0, 0) _ hC Try.underlying26 rfl info_conf ?_)
              | (go_at_call 19; refine cA1.mono ?_; rintro e5 w5 ⟨r5, rfl, rfl, b5⟩; have HB5 := bcat HB.out b5 (Nat.le_refl _))
              | (at_builtin; have HO5 := own_go HO.out b5; have bA := (Below.refl w5.heap.size w5).alloc (Nat.le_refl _) (.cells #[.int .i64 j, .int .i64 k] 28); have HO6 := own_go HO5 bA; have L6 := list_lone (heap_alloc_new w5 (.cells #[.int .i64 j, .int .i64 k] 28)); have e1 : (((gridCells WN k (fun q => decide (stackedR c q))) ++ (gridRow j ((k : Nat) : Int) (fun q => decide (stackedR c q)))).length + [((j : Int), (k : Int))].length) * 16 ≤ 140737488355328 := (by have := HLn.out; simp only [List.length_cons, List.length_nil]; omega); have e2 : ((gridCells WN k (fun q => decide (stackedR c q))) ++ (gridRow j ((k : Nat) : Int) (fun q => decide (stackedR c q)))).length + [((j : Int), (k : Int))].length ≤ maxLen := (by have := HLn.out; unfold maxLen; simp only [List.length_cons, List.length_nil]; omega); have e3 := Nat.le_trans HB5.size bA.size; refine wpList_app kindCell rfl (.tmp 23) (.tmp 27) rfl _ _ _ rfl HO6 _ _ [((j : Int), (k : Int))] rfl L6 e1 e2 e3 ?_; intro v7 w7 own7 g7 at7; rw [← HS.out] at own7; have HB7 := below_row2 (bcat HB5 bA (Nat.le_refl _)) (Nat.le_refl _) HO6 g7))
            go_roundw
            case rel => exact ⟨j + 1, by omega, by go_num, own7, HB7⟩
            case measure => simp only [intOf]; omega
          · rw [decide_eq_false hin] at cA1
            rw [if_neg (by rw [decide_eq_true_eq]; exact hin), List.append_nil] at hsu
            have HS : Hid ((gridCells WN k (fun q => decide (stackedR c q))) ++ (gridRow (j + 1) ((k : Nat) : Int) (fun q => decide (stackedR c q))) = ((gridCells WN k (fun q => decide (stackedR c q))) ++ (gridRow j ((k : Nat) : Int) (fun q => decide (stackedR c q))))) := by
              show (gridCells WN k (fun q => decide (stackedR c q))) ++ (gridRow (j + 1) ((k : Nat) : Int) (fun q => decide (stackedR c q))) = ((gridCells WN k (fun q => decide (stackedR c q))) ++ (gridRow j ((k : Nat) : Int) (fun q => decide (stackedR c q))))
              rw [hsu]
            clear hsu hin
            go_wp2_with (first
              | (refine wpList_load_row rfl 26 (.tmp 1) rfl w.heap.size rfl 26 #[.int .i64 c.W, .int .i64 c.H, .int .i64 c.height, vb, vp, vr, vs, .int .i64 c.unit, .int .i64 c.accel, .int .i64 c.speed, .int .i64 c.turn, .int .i64 c.hoist, .int .i64 c.queue, .int .i64 c.resend, .int .i64 c.budget, .bool c.back] (0, 0) _ hC Try.underlying26 rfl info_conf ?_)
              | (go_at_call 19; refine cA1.mono ?_; rintro e5 w5 ⟨r5, rfl, rfl, b5⟩; have HB5 := bcat HB.out b5 (Nat.le_refl _); have HO5 := own_go HO.out b5; rw [← HS.out] at HO5))
            go_roundw
            case rel => exact ⟨j + 1, by omega, by go_num, HO5, HB5⟩
            case measure => simp only [intOf]; omega
        · obtain rfl : WN = j := by omega
          have hd : decide ((WN : Int) < (WN : Int)) = false := decide_eq_false (by omega)
          have HO9 := HO.out
          rw [← gridCells_succ] at HO9
          go_wp2_with fail
          go_roundw
          case rel => exact ⟨k + 1, by omega, by go_num, HO9, HB⟩
          case measure => simp only [intOf]; omega
    · obtain rfl : HN = k := by omega
      have hd : decide ((HN : Int) < (HN : Int)) = false := decide_eq_false (by omega)
      have HO9 := own_lower HO.out Bt.size
      go_wp2
      go_ret
      exact ⟨_, rfl, HO9, bcat Bt HB.out (Nat.le_refl _)⟩
end Go.Proofs.Ytgnpmjlliolmoaa.Grid
