/-
  The law GridEdges: a config whose numbers stand at their limits, one by one, and one more.
-/
import Derived.Test.YtholahinjjieeaaGridMay
namespace Go.Proofs.Ytholahinjjieeaa.Grid
set_option linter.unusedVariables false
set_option linter.unusedSimpArgs false
open Go Go.RowKit Go.Shelf Go.Proofs

def place (v n : Int) : Int := if v.tmod n < 0 then v.tmod n + n else v.tmod n
theorem tmod_low (v n : Int) (h : 0 < n) : -n < v.tmod n := by
  by_cases g : 0 ≤ v
  · have := Int.tmod_nonneg n g
    omega
  · have h1 := Int.tmod_lt_of_pos (-v) h
    rw [Int.neg_tmod] at h1
    omega
set_option maxHeartbeats 1000000 in
theorem place_any (v n : Int) (w : World) (h0 : 0 < n) (h1 : n ≤ 9223372036854775807) : Calls Try.prog 15 #[.int .i64 v, .int .i64 n] w fun e w' => e = .returned (.int .i64 (place v n)) ∧ w' = w := by
  have h2 := Int.tmod_lt_of_pos v h0
  have h3 := tmod_low v n h0
  have H : Hid (place v n = if v.tmod n < 0 then v.tmod n + n else v.tmod n) := rfl
  generalize place v n = r at *
  by_cases hc : v.tmod n < 0
  all_goals
    go_enter Try.func15, Try.ntmps15
    go_wp2
    go_ret
    exact ⟨ret_int (by rw [H.out]; first | rw [if_pos (by omega)] | rw [if_neg (by omega)]), rfl⟩
theorem place_nat (v : Int) (n : Nat) (h : 0 < n) : ∃ k : Nat, place v (n : Int) = (k : Int) ∧ k < n := by
  have h2 := Int.tmod_lt_of_pos v (show (0 : Int) < n by omega)
  have h3 := tmod_low v n (by omega)
  have hb : 0 ≤ place v n ∧ place v n < n := by unfold place; split <;> omega
  obtain ⟨k, hk⟩ := Int.eq_ofNat_of_zero_le hb.1
  exact ⟨k, hk, by omega⟩
/- The numbers of a config, one by one; their greatest ones; where each lies. -/
def tops : List Int := [16, 16, 8, 1000, 1000, 1000, 1000, 1000, 1000, 16, 1048576]
def offs : List Nat := [0, 1, 2, 7, 8, 9, 10, 11, 13, 12, 14]
def confK (k : Nat) (v : Int) : Conf :=
  match k with
  | 0 => { conf0 with W := v } | 1 => { conf0 with H := v } | 2 => { conf0 with height := v } | 3 => { conf0 with unit := v } | 4 => { conf0 with accel := v } | 5 => { conf0 with speed := v }
  | 6 => { conf0 with turn := v } | 7 => { conf0 with hoist := v } | 8 => { conf0 with resend := v } | 9 => { conf0 with queue := v } | _ => { conf0 with budget := v }
theorem limited_K (k : Nat) (hk : k < 11) (v : Int) : (newP (confK k v)).isSome = upTo v (tops.getD k 0) := by
  rw [new_empty]
  · match k, hk with
    | 0, _ => simp [limited, confK, conf0, tops, upTo]
    | 1, _ => simp [limited, confK, conf0, tops, upTo]
    | 2, _ => simp [limited, confK, conf0, tops, upTo]
    | 3, _ => simp [limited, confK, conf0, tops, upTo]
    | 4, _ => simp [limited, confK, conf0, tops, upTo]
    | 5, _ => simp [limited, confK, conf0, tops, upTo]
    | 6, _ => simp [limited, confK, conf0, tops, upTo]
    | 7, _ => simp [limited, confK, conf0, tops, upTo]
    | 8, _ => simp [limited, confK, conf0, tops, upTo]
    | 9, _ => simp [limited, confK, conf0, tops, upTo]
    | 10, _ => simp [limited, confK, conf0, tops, upTo]
  all_goals (unfold confK; split <;> rfl)
theorem cells_K (k : Nat) (hk : k < 11) (v : Int) : Cells ((confCells conf0 nilS nilS nilS nilS).setIfInBounds (offs.getD k 0) (.int .i64 v)) (confK k v) nilS nilS nilS nilS := by
  match k, hk with
  | 0, _ => exact cells_conf { conf0 with W := v } _ _ _ _
  | 1, _ => exact cells_conf { conf0 with H := v } _ _ _ _
  | 2, _ => exact cells_conf { conf0 with height := v } _ _ _ _
  | 3, _ => exact cells_conf { conf0 with unit := v } _ _ _ _
  | 4, _ => exact cells_conf { conf0 with accel := v } _ _ _ _
  | 5, _ => exact cells_conf { conf0 with speed := v } _ _ _ _
  | 6, _ => exact cells_conf { conf0 with turn := v } _ _ _ _
  | 7, _ => exact cells_conf { conf0 with hoist := v } _ _ _ _
  | 8, _ => exact cells_conf { conf0 with resend := v } _ _ _ _
  | 9, _ => exact cells_conf { conf0 with queue := v } _ _ _ _
  | 10, _ => exact cells_conf { conf0 with budget := v } _ _ _ _
theorem top_in (k : Nat) (hk : k < 11) : 1 ≤ tops.getD k 0 ∧ tops.getD k 0 ≤ 1048576 := by
  match k, hk with
  | 0, _ => decide
  | 1, _ => decide
  | 2, _ => decide
  | 3, _ => decide
  | 4, _ => decide
  | 5, _ => decide
  | 6, _ => decide
  | 7, _ => decide
  | 8, _ => decide
  | 9, _ => decide
  | 10, _ => decide
theorem off_in (k : Nat) (hk : k < 11) : offs.getD k 0 < 16 ∧ ∃ x, (confCells conf0 nilS nilS nilS nilS)[offs.getD k 0]? = some (.int .i64 x) := by
  match k, hk with
  | 0, _ => exact ⟨by decide, _, rfl⟩
  | 1, _ => exact ⟨by decide, _, rfl⟩
  | 2, _ => exact ⟨by decide, _, rfl⟩
  | 3, _ => exact ⟨by decide, _, rfl⟩
  | 4, _ => exact ⟨by decide, _, rfl⟩
  | 5, _ => exact ⟨by decide, _, rfl⟩
  | 6, _ => exact ⟨by decide, _, rfl⟩
  | 7, _ => exact ⟨by decide, _, rfl⟩
  | 8, _ => exact ⟨by decide, _, rfl⟩
  | 9, _ => exact ⟨by decide, _, rfl⟩
  | 10, _ => exact ⟨by decide, _, rfl⟩
theorem lists_K (k : Nat) (v : Int) : (confK k v).blocked = [] ∧ (confK k v).ports = [] ∧ (confK k v).robots = [] ∧ (confK k v).stacks = [] := by unfold confK; split <;> exact ⟨rfl, rfl, rfl, rfl⟩
theorem tops_at (k : Nat) (hk : k < 11) : (#[.int .i64 16, .int .i64 16, .int .i64 8, .int .i64 1000, .int .i64 1000, .int .i64 1000, .int .i64 1000, .int .i64 1000, .int .i64 1000, .int .i64 16, .int .i64 1048576] : Array Value)[k]? = some (.int .i64 (tops.getD k 0)) := by
  match k, hk with
  | 0, _ => rfl
  | 1, _ => rfl
  | 2, _ => rfl
  | 3, _ => rfl
  | 4, _ => rfl
  | 5, _ => rfl
  | 6, _ => rfl
  | 7, _ => rfl
  | 8, _ => rfl
  | 9, _ => rfl
  | 10, _ => rfl
theorem ptrs_at (C k : Nat) (hk : k < 11) : (#[.pointer (some ⟨C, 0, none⟩), .pointer (some ⟨C, 1, none⟩), .pointer (some ⟨C, 2, none⟩), .pointer (some ⟨C, 7, none⟩), .pointer (some ⟨C, 8, none⟩), .pointer (some ⟨C, 9, none⟩), .pointer (some ⟨C, 10, none⟩), .pointer (some ⟨C, 11, none⟩), .pointer (some ⟨C, 13, none⟩), .pointer (some ⟨C, 12, none⟩), .pointer (some ⟨C, 14, none⟩)] : Array Value)[k]? = some (.pointer (some ⟨C, offs.getD k 0, none⟩)) := by
  match k, hk with
  | 0, _ => rfl
  | 1, _ => rfl
  | 2, _ => rfl
  | 3, _ => rfl
  | 4, _ => rfl
  | 5, _ => rfl
  | 6, _ => rfl
  | 7, _ => rfl
  | 8, _ => rfl
  | 9, _ => rfl
  | 10, _ => rfl
theorem edges_frame (w wC : World) (C k : Nat) (cs P T : Array Value) (tp tt : TypeId) (a b : Value) (hT : T[k]? = some a) (hP : P[k]? = some b) (fC : wC.heap[C]? = some (.cells cs 26 (0, 0))) (BC : Below w.heap.size w wC) (w9 : World) (hw : w9 = (wC.alloc (.cells P tp)).alloc (.cells T tt)) :
    w9.cell? ⟨wC.heap.size + 1, k, none⟩ = some a ∧ w9.cell? ⟨wC.heap.size, k, none⟩ = some b ∧ w9.heap[C]? = some (.cells cs 26 (0, 0)) ∧ Below w.heap.size w w9 := by
  subst hw
  have hC := lt_of_heap fC
  refine ⟨(cell_of (heap_new2 wC _ _) k).trans hT, (cell_of ((alloc_old _ _ _ (by simp)).trans (heap_alloc_new wC _)) k).trans hP, (alloc_old _ _ _ (by rw [World.size_alloc]; omega)).trans ((alloc_old _ _ _ hC).trans fC), below_new (below_new BC _) _⟩
set_option maxRecDepth 100000 in
set_option maxHeartbeats 2000000 in
theorem edges_all (which : Int) (low more : Bool) (w : World) : Calls Try.prog 4 #[.int .i64 which, .bool low, .bool more] w fun e w' => e = .returned (.bool true) ∧ Below w.heap.size w w' := by
  obtain ⟨k, hk, hk11⟩ := place_nat which 11 (by decide)
  have cP := fun u => place_any which 11 u (by decide) (by decide)
  rw [show place which 11 = (k : Int) from hk] at cP
  obtain ⟨t1, t2⟩ := top_in k hk11
  obtain ⟨o1, x0, o2⟩ := off_in k hk11
  have cC := fun wx => conf_any wx
  have hz : (confCells conf0 nilS nilS nilS nilS).size = 16 := rfl
  have h1 : ((confCells conf0 nilS nilS nilS nilS).all fun x => x.oneCell') = true := by simp [confCells, Value.oneCell', nilS]
  have HL := limited_K k hk11
  have HC := cells_K k hk11
  have HTop : Hid ((#[.int .i64 16, .int .i64 16, .int .i64 8, .int .i64 1000, .int .i64 1000, .int .i64 1000, .int .i64 1000, .int .i64 1000, .int .i64 1000, .int .i64 16, .int .i64 1048576] : Array Value)[k]? = some (.int .i64 (tops.getD k 0))) := tops_at k hk11
  have HPtr : Hid (∀ C, (#[.pointer (some ⟨C, 0, none⟩), .pointer (some ⟨C, 1, none⟩), .pointer (some ⟨C, 2, none⟩), .pointer (some ⟨C, 7, none⟩), .pointer (some ⟨C, 8, none⟩), .pointer (some ⟨C, 9, none⟩), .pointer (some ⟨C, 10, none⟩), .pointer (some ⟨C, 11, none⟩), .pointer (some ⟨C, 13, none⟩), .pointer (some ⟨C, 12, none⟩), .pointer (some ⟨C, 14, none⟩)] : Array Value)[k]? = some (.pointer (some ⟨C, offs.getD k 0, none⟩))) := fun C => ptrs_at C k hk11
  generalize confCells conf0 nilS nilS nilS nilS = cs at *
  generalize tops.getD k 0 = T at *
  generalize offs.getD k 0 = o at *
  have i0 : (Try.prog.info? 26).map (·.size) = some cs.size := by rw [hz]; exact info_conf
  have cA := awake_any
  have cMM := fun (v : Int) (wx : World) => may_any (fun _ => False) (cs.setIfInBounds o (.int .i64 v)) (confK k v) nilS nilS nilS nilS wx (HC v) (by
    obtain ⟨e1, e2, e3, e4⟩ := lists_K k v
    exact ⟨by rw [e1]; exact ListAt.nil _ _ _ _, by rw [e2]; exact ListAt.nil _ _ _ _, by rw [e3]; exact ListAt.nil _ _ _ _, by rw [e4]; exact ListAt.nil _ _ _ _⟩) (fun _ h => h.elim) (by rw [(lists_K k v).1]; decide) (by rw [(lists_K k v).2.1]; decide) (by rw [(lists_K k v).2.2.1]; decide) (by rw [(lists_K k v).2.2.2]; decide)
  have cMM := fun v wx => (cMM v wx)
  simp only [HL] at cMM
  clear HL HC hk
  have HZ : Hid (cs.size = 16) := hz
  cases low <;> cases more
  · have hU : upTo (T) T = true := by unfold upTo; simp; try omega
    have cM := cMM (T)
    rw [hU] at cM
    go_enter Try.func4, Try.ntmps4
    go_wp2_with
    (first
      | (refine wpList_store_row rfl 26 (.tmp 7) (.tmp 13) rfl w1.heap.size cs rfl rfl 26 #[.int .i64 0, .int .i64 0, .int .i64 0, .slice none 0 0, .slice none 0 0, .slice none 0 0, .slice none 0 0, .int .i64 0, .int .i64 0, .int .i64 0, .int .i64 0, .int .i64 0, .int .i64 0, .int .i64 0, .int .i64 0, .bool false] (heap_alloc_new w1 _) i0 (by rw [hz]; rfl) h1 ?_; have fC := setRow_heap (w1.alloc (.cells #[.int .i64 0, .int .i64 0, .int .i64 0, .slice none 0 0, .slice none 0 0, .slice none 0 0, .slice none 0 0, .int .i64 0, .int .i64 0, .int .i64 0, .int .i64 0, .int .i64 0, .int .i64 0, .int .i64 0, .int .i64 0, .bool false] 26)) w1.heap.size _ cs _ _ (heap_alloc_new w1 _); have BC : Below w.heap.size w ((w1.alloc (.cells #[.int .i64 0, .int .i64 0, .int .i64 0, .slice none 0 0, .slice none 0 0, .slice none 0 0, .slice none 0 0, .int .i64 0, .int .i64 0, .int .i64 0, .int .i64 0, .int .i64 0, .int .i64 0, .int .i64 0, .int .i64 0, .bool false] 26)).setRow w1.heap.size cs) := below_row (below_new b1 _) b1.size _; generalize hWC : ((w1.alloc (.cells #[.int .i64 0, .int .i64 0, .int .i64 0, .slice none 0 0, .slice none 0 0, .slice none 0 0, .slice none 0 0, .int .i64 0, .int .i64 0, .int .i64 0, .int .i64 0, .int .i64 0, .int .i64 0, .int .i64 0, .int .i64 0, .bool false] 26)).setRow w1.heap.size cs) = wC at *; clear hWC)
      | (go_at_call 14; refine (cC _).mono ?_; rintro e w1 ⟨rfl, b1⟩)
      | (go_at_call 15; refine (cP _).mono ?_; rintro e w9 ⟨rfl, hw9⟩; obtain ⟨f1, f2, f3, B9⟩ := edges_frame w wC w1.heap.size k cs _ _ _ _ _ _ HTop.out (HPtr.out w1.heap.size) fC BC w9 hw9; have f4 : w9.cell? ⟨w1.heap.size, o, none⟩ = some (.int .i64 x0) := (cell_of f3 o).trans o2; have f5 := frozen_of f3 o; have f6 := heap_setCell_same w9 w1.heap.size o cs 26 (.int .i64 (T)) f3; have b1s := b1.size; clear hw9)
      | (refine wpList_load_row rfl 26 (.tmp 7) rfl w1.heap.size rfl 26 (cs.setIfInBounds o (.int .i64 (T))) (0, 0) _ f6 Try.underlying26 rfl (by rw [Array.size_setIfInBounds]; exact i0) ?_)
      | (go_at_call 12; refine (cM _).mono ?_; rintro e w10 ⟨rfl, b10⟩; have B10 := bcat (below_set B9 b1s o (.int .i64 (T))) b10 (Nat.le_refl _))
      | (go_at_call 13; refine (cA _).mono ?_; rintro e w11 ⟨rfl, b11⟩))
    go_ret
    exact ⟨rfl, bcat B10 b11 (Nat.le_refl _)⟩
  · have hU : upTo (T + 1) T = false := by unfold upTo; simp; try omega
    have cM := cMM (T + 1)
    rw [hU] at cM
    go_enter Try.func4, Try.ntmps4
    go_wp2_with
    (first
      | (refine wpList_store_row rfl 26 (.tmp 7) (.tmp 13) rfl w1.heap.size cs rfl rfl 26 #[.int .i64 0, .int .i64 0, .int .i64 0, .slice none 0 0, .slice none 0 0, .slice none 0 0, .slice none 0 0, .int .i64 0, .int .i64 0, .int .i64 0, .int .i64 0, .int .i64 0, .int .i64 0, .int .i64 0, .int .i64 0, .bool false] (heap_alloc_new w1 _) i0 (by rw [hz]; rfl) h1 ?_; have fC := setRow_heap (w1.alloc (.cells #[.int .i64 0, .int .i64 0, .int .i64 0, .slice none 0 0, .slice none 0 0, .slice none 0 0, .slice none 0 0, .int .i64 0, .int .i64 0, .int .i64 0, .int .i64 0, .int .i64 0, .int .i64 0, .int .i64 0, .int .i64 0, .bool false] 26)) w1.heap.size _ cs _ _ (heap_alloc_new w1 _); have BC : Below w.heap.size w ((w1.alloc (.cells #[.int .i64 0, .int .i64 0, .int .i64 0, .slice none 0 0, .slice none 0 0, .slice none 0 0, .slice none 0 0, .int .i64 0, .int .i64 0, .int .i64 0, .int .i64 0, .int .i64 0, .int .i64 0, .int .i64 0, .int .i64 0, .bool false] 26)).setRow w1.heap.size cs) := below_row (below_new b1 _) b1.size _; generalize hWC : ((w1.alloc (.cells #[.int .i64 0, .int .i64 0, .int .i64 0, .slice none 0 0, .slice none 0 0, .slice none 0 0, .slice none 0 0, .int .i64 0, .int .i64 0, .int .i64 0, .int .i64 0, .int .i64 0, .int .i64 0, .int .i64 0, .int .i64 0, .bool false] 26)).setRow w1.heap.size cs) = wC at *; clear hWC)
      | (go_at_call 14; refine (cC _).mono ?_; rintro e w1 ⟨rfl, b1⟩)
      | (go_at_call 15; refine (cP _).mono ?_; rintro e w9 ⟨rfl, hw9⟩; obtain ⟨f1, f2, f3, B9⟩ := edges_frame w wC w1.heap.size k cs _ _ _ _ _ _ HTop.out (HPtr.out w1.heap.size) fC BC w9 hw9; have f4 : w9.cell? ⟨w1.heap.size, o, none⟩ = some (.int .i64 x0) := (cell_of f3 o).trans o2; have f5 := frozen_of f3 o; have f6 := heap_setCell_same w9 w1.heap.size o cs 26 (.int .i64 (T + 1)) f3; have b1s := b1.size; clear hw9)
      | (refine wpList_load_row rfl 26 (.tmp 7) rfl w1.heap.size rfl 26 (cs.setIfInBounds o (.int .i64 (T + 1))) (0, 0) _ f6 Try.underlying26 rfl (by rw [Array.size_setIfInBounds]; exact i0) ?_)
      | (go_at_call 12; refine (cM _).mono ?_; rintro e w10 ⟨rfl, b10⟩; have B10 := bcat (below_set B9 b1s o (.int .i64 (T + 1))) b10 (Nat.le_refl _))
      | (go_at_call 13; refine (cA _).mono ?_; rintro e w11 ⟨rfl, b11⟩))
    go_ret
    exact ⟨rfl, bcat B10 b11 (Nat.le_refl _)⟩
  · have hU : upTo (1) T = true := by unfold upTo; simp; try omega
    have cM := cMM (1)
    rw [hU] at cM
    go_enter Try.func4, Try.ntmps4
    go_wp2_with
    (first
      | (refine wpList_store_row rfl 26 (.tmp 7) (.tmp 13) rfl w1.heap.size cs rfl rfl 26 #[.int .i64 0, .int .i64 0, .int .i64 0, .slice none 0 0, .slice none 0 0, .slice none 0 0, .slice none 0 0, .int .i64 0, .int .i64 0, .int .i64 0, .int .i64 0, .int .i64 0, .int .i64 0, .int .i64 0, .int .i64 0, .bool false] (heap_alloc_new w1 _) i0 (by rw [hz]; rfl) h1 ?_; have fC := setRow_heap (w1.alloc (.cells #[.int .i64 0, .int .i64 0, .int .i64 0, .slice none 0 0, .slice none 0 0, .slice none 0 0, .slice none 0 0, .int .i64 0, .int .i64 0, .int .i64 0, .int .i64 0, .int .i64 0, .int .i64 0, .int .i64 0, .int .i64 0, .bool false] 26)) w1.heap.size _ cs _ _ (heap_alloc_new w1 _); have BC : Below w.heap.size w ((w1.alloc (.cells #[.int .i64 0, .int .i64 0, .int .i64 0, .slice none 0 0, .slice none 0 0, .slice none 0 0, .slice none 0 0, .int .i64 0, .int .i64 0, .int .i64 0, .int .i64 0, .int .i64 0, .int .i64 0, .int .i64 0, .int .i64 0, .bool false] 26)).setRow w1.heap.size cs) := below_row (below_new b1 _) b1.size _; generalize hWC : ((w1.alloc (.cells #[.int .i64 0, .int .i64 0, .int .i64 0, .slice none 0 0, .slice none 0 0, .slice none 0 0, .slice none 0 0, .int .i64 0, .int .i64 0, .int .i64 0, .int .i64 0, .int .i64 0, .int .i64 0, .int .i64 0, .int .i64 0, .bool false] 26)).setRow w1.heap.size cs) = wC at *; clear hWC)
      | (go_at_call 14; refine (cC _).mono ?_; rintro e w1 ⟨rfl, b1⟩)
      | (go_at_call 15; refine (cP _).mono ?_; rintro e w9 ⟨rfl, hw9⟩; obtain ⟨f1, f2, f3, B9⟩ := edges_frame w wC w1.heap.size k cs _ _ _ _ _ _ HTop.out (HPtr.out w1.heap.size) fC BC w9 hw9; have f4 : w9.cell? ⟨w1.heap.size, o, none⟩ = some (.int .i64 x0) := (cell_of f3 o).trans o2; have f5 := frozen_of f3 o; have f6 := heap_setCell_same w9 w1.heap.size o cs 26 (.int .i64 (1)) f3; have b1s := b1.size; clear hw9)
      | (refine wpList_load_row rfl 26 (.tmp 7) rfl w1.heap.size rfl 26 (cs.setIfInBounds o (.int .i64 (1))) (0, 0) _ f6 Try.underlying26 rfl (by rw [Array.size_setIfInBounds]; exact i0) ?_)
      | (go_at_call 12; refine (cM _).mono ?_; rintro e w10 ⟨rfl, b10⟩; have B10 := bcat (below_set B9 b1s o (.int .i64 (1))) b10 (Nat.le_refl _))
      | (go_at_call 13; refine (cA _).mono ?_; rintro e w11 ⟨rfl, b11⟩))
    go_ret
    exact ⟨rfl, bcat B10 b11 (Nat.le_refl _)⟩
  · have hU : upTo (0) T = false := by unfold upTo; simp; try omega
    have cM := cMM (0)
    rw [hU] at cM
    go_enter Try.func4, Try.ntmps4
    go_wp2_with
    (first
      | (refine wpList_store_row rfl 26 (.tmp 7) (.tmp 13) rfl w1.heap.size cs rfl rfl 26 #[.int .i64 0, .int .i64 0, .int .i64 0, .slice none 0 0, .slice none 0 0, .slice none 0 0, .slice none 0 0, .int .i64 0, .int .i64 0, .int .i64 0, .int .i64 0, .int .i64 0, .int .i64 0, .int .i64 0, .int .i64 0, .bool false] (heap_alloc_new w1 _) i0 (by rw [hz]; rfl) h1 ?_; have fC := setRow_heap (w1.alloc (.cells #[.int .i64 0, .int .i64 0, .int .i64 0, .slice none 0 0, .slice none 0 0, .slice none 0 0, .slice none 0 0, .int .i64 0, .int .i64 0, .int .i64 0, .int .i64 0, .int .i64 0, .int .i64 0, .int .i64 0, .int .i64 0, .bool false] 26)) w1.heap.size _ cs _ _ (heap_alloc_new w1 _); have BC : Below w.heap.size w ((w1.alloc (.cells #[.int .i64 0, .int .i64 0, .int .i64 0, .slice none 0 0, .slice none 0 0, .slice none 0 0, .slice none 0 0, .int .i64 0, .int .i64 0, .int .i64 0, .int .i64 0, .int .i64 0, .int .i64 0, .int .i64 0, .int .i64 0, .bool false] 26)).setRow w1.heap.size cs) := below_row (below_new b1 _) b1.size _; generalize hWC : ((w1.alloc (.cells #[.int .i64 0, .int .i64 0, .int .i64 0, .slice none 0 0, .slice none 0 0, .slice none 0 0, .slice none 0 0, .int .i64 0, .int .i64 0, .int .i64 0, .int .i64 0, .int .i64 0, .int .i64 0, .int .i64 0, .int .i64 0, .bool false] 26)).setRow w1.heap.size cs) = wC at *; clear hWC)
      | (go_at_call 14; refine (cC _).mono ?_; rintro e w1 ⟨rfl, b1⟩)
      | (go_at_call 15; refine (cP _).mono ?_; rintro e w9 ⟨rfl, hw9⟩; obtain ⟨f1, f2, f3, B9⟩ := edges_frame w wC w1.heap.size k cs _ _ _ _ _ _ HTop.out (HPtr.out w1.heap.size) fC BC w9 hw9; have f4 : w9.cell? ⟨w1.heap.size, o, none⟩ = some (.int .i64 x0) := (cell_of f3 o).trans o2; have f5 := frozen_of f3 o; have f6 := heap_setCell_same w9 w1.heap.size o cs 26 (.int .i64 (0)) f3; have b1s := b1.size; clear hw9)
      | (refine wpList_load_row rfl 26 (.tmp 7) rfl w1.heap.size rfl 26 (cs.setIfInBounds o (.int .i64 (0))) (0, 0) _ f6 Try.underlying26 rfl (by rw [Array.size_setIfInBounds]; exact i0) ?_)
      | (go_at_call 12; refine (cM _).mono ?_; rintro e w10 ⟨rfl, b10⟩; have B10 := bcat (below_set B9 b1s o (.int .i64 (0))) b10 (Nat.le_refl _))
      | (go_at_call 13; refine (cA _).mono ?_; rintro e w11 ⟨rfl, b11⟩))
    go_ret
    exact ⟨rfl, bcat B10 b11 (Nat.le_refl _)⟩
end Go.Proofs.Ytholahinjjieeaa.Grid
