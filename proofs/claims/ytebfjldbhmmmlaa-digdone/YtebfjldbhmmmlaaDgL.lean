/-
  The stack cells in plain words: by their numbers, and row by row.
  The stack cells, told one by one to any function; and gathered, at most so many.
  The iterator of the stack cells, as whatever ranges over it takes it.
  Steps within a fence: a comparison of two cells, the load of one; a scope without a goto.
  A run of many cells, in plain words: as many runs of one; the numbers of the cells that are swept rise.
  The beginning of a list of one's own; any number as one from 0 to n - 1.
-/
import Derived.Test.YtebfjldbhmmmlaaDgK
import Derived.Test.YtebfjldbhmmmlaaDgD
import Derived.ControlIn
import Derived.Scope
import Derived.WalkMore
import Derived.Test.YtebfjldbhmmmlaaGridRef3
namespace Go.Proofs.Ytebfjldbhmmmlaa.Grid
set_option linter.unusedVariables false
set_option linter.unusedSimpArgs false
open Go Go.RowKit Go.Shelf Go.Proofs

/- The stack cells among the first k. -/
def stkUpTo (W : Int) (us : List Int) (k : Nat) : List Cell := ((List.range k).filter (fun i => decide (us.getD i 0 = 4))).map (cellAt W)
theorem stkUpTo_succ (W : Int) (us : List Int) (k : Nat) : stkUpTo W us (k + 1) = stkUpTo W us k ++ (if us.getD k 0 = 4 then [cellAt W k] else []) := by
  unfold stkUpTo
  rw [List.range_succ, List.filter_append, List.map_append]
  congr 1
  by_cases h : us.getD k 0 = 4
  · rw [if_pos h, List.filter_cons_of_pos (by simpa using h)]
    rfl
  · rw [if_neg h, List.filter_cons_of_neg (by simpa using h)]
    rfl
theorem stkUpTo_pre (W : Int) (us : List Int) {j k : Nat} (h : j ≤ k) : stkUpTo W us j <+: stkUpTo W us k := by
  induction k with
  | zero => rw [show j = 0 by omega]; exact List.prefix_rfl
  | succ k ih =>
    by_cases e : j = k + 1
    · rw [e]; exact List.prefix_rfl
    · rw [stkUpTo_succ]; exact (ih (by omega)).trans (List.prefix_append _ _)
theorem stkUpTo_len (W : Int) (us : List Int) (k : Nat) : (stkUpTo W us k).length ≤ k := by
  unfold stkUpTo
  rw [List.length_map]
  exact Nat.le_trans (List.length_filter_le _ _) (by simp)
theorem stk_row {W H : Nat} {us : List Int} (hW : 0 < W) (h : Nat) (hh : h < H) : ∀ j, j ≤ W → stkUpTo W us (W * h + j) = stkUpTo W us (W * h) ++ gridRow j (h : Int) (fun q => stackedU W H us q)
  | 0, _ => by rw [gridRow_nil, List.append_nil]; rfl
  | j + 1, hj => by
    rw [← Nat.add_assoc, stkUpTo_succ, stk_row hW h hh j (by omega), gridRow_succ, List.append_assoc]
    congr 2
    have hin : In (W : Int) (H : Int) ((j : Int), (h : Int)) := ⟨by simp only; omega, by simp only; omega, by simp only; omega, by simp only; omega⟩
    have e3 : ((h : Int) * (W : Int) + (j : Int)).toNat = W * h + j := by
      rw [← Int.natCast_mul, ← Int.natCast_add, Int.toNat_natCast, Nat.mul_comm]
    have e1 : cellAt (W : Int) (W * h + j) = ((j : Int), (h : Int)) := by
      have := cellAt_num hin
      simp only at this
      rwa [e3] at this
    have e4 : stackedU W H us ((j : Int), (h : Int)) = decide (us.getD (W * h + j) 0 = 4) := by
      unfold stackedU
      simp only
      rw [e3, decide_eq_true hin, Bool.true_and]
    rw [e4, e1]
    by_cases q : us.getD (W * h + j) 0 = 4
    · rw [if_pos q, if_pos (by simpa using q)]
    · rw [if_neg q, if_neg (by simpa using q)]
theorem stk_grid {W H : Nat} {us : List Int} (hW : 0 < W) : ∀ h, h ≤ H → stkUpTo W us (W * h) = gridCells W h (fun q => stackedU W H us q)
  | 0, _ => rfl
  | h + 1, hh => by
    rw [Nat.mul_succ, stk_row (H := H) hW h (by omega) W (Nat.le_refl _), stk_grid (H := H) hW h (by omega), gridCells_succ]
/- What the grid's own uses tell is what the chapter tells. -/
theorem stacks_same {c : Conf} {G : GS} (hN : newP c = some G) {WN HN : Nat} (hW : c.W = WN) (hH : c.H = HN) (h0 : 0 < WN) (hl : G.uses.length = WN * HN) : stkUpTo c.W G.uses G.uses.length = gridCells WN HN (fun q => decide (stackedR c q)) := by
  rw [hl, hW, stk_grid h0 HN (Nat.le_refl _)]
  congr 1
  funext q
  rw [← hW, ← hH]
  exact stacked_same hN q
theorem mem_stk {W : Int} {us : List Int} {k : Nat} {x : Cell} : x ∈ stkUpTo W us k ↔ ∃ i, i < k ∧ us.getD i 0 = 4 ∧ cellAt W i = x := by
  unfold stkUpTo
  simp only [List.mem_map, List.mem_filter, List.mem_range, decide_eq_true_eq]
  constructor
  · rintro ⟨i, ⟨h1, h2⟩, h3⟩
    exact ⟨i, h1, h2, h3⟩
  · rintro ⟨i, h1, h2, h3⟩
    exact ⟨i, ⟨h1, h2⟩, h3⟩
end Go.Proofs.Ytebfjldbhmmmlaa.Grid
namespace Go.Proofs.Ytebfjldbhmmmlaa.Grid
set_option linter.unusedVariables false
set_option linter.unusedSimpArgs false
open Go Go.RowKit Go.Shelf Go.Proofs
attribute [local go_sem] Oper.semAt_some

/- A grid, and a variable that holds it. -/
structure SCtx (w : World) (g u : Nat) (W H : Int) (us : List Int) (vp : Value) (Bg : Nat) : Prop where
  grid : GridAt w g u W H us vp
  bg : w.heap[Bg]? = some (.cells #[.pointer (some ⟨g, 0, none⟩)] 52 (0, 0))
theorem SCtx.go {w w' : World} {g u : Nat} {W H : Int} {us : List Int} {vp : Value} {Bg : Nat} (h : SCtx w g u W H us vp Bg) (hb : Below w.heap.size w w') : SCtx w' g u W H us vp Bg :=
  ⟨h.grid.go hb, (hb.block _ (lt_of_heap h.bg)).trans h.bg⟩
theorem stacksG_any (g u : Nat) (W H : Int) (us : List Int) (vp : Value) (w : World) (hG : GridAt w g u W H us vp) : Calls Try.prog 39 #[.pointer (some ⟨g, 0, none⟩)] w fun e w' => e = .returned (.func (.func 56) #[] #[.pointer (some ⟨w.heap.size, 0, none⟩)]) ∧ SCtx w' g u W H us vp w.heap.size ∧ Below w.heap.size w w' := by
  have hb : Below w.heap.size w (w.alloc (.cells #[.pointer (some ⟨g, 0, none⟩)] 52)) := (Below.refl _ _).alloc (Nat.le_refl _) _
  have hn := heap_alloc_new w (.cells #[.pointer (some ⟨g, 0, none⟩)] 52)
  go_enter Try.func39, Try.ntmps39
  go_wp2
  go_ret
  exact ⟨rfl, ⟨hG.go hb, hn⟩, hb⟩
set_option maxRecDepth 100000 in
set_option maxHeartbeats 2000000 in
theorem stacks1_any (g u : Nat) (W H : Int) (us : List Int) (vp : Value) (Bg : Nat) (fy : Nat) (fr : Array Value) (J Jx : List Cell → World → Prop) (w : World)
    (hS : ∀ pre w1 w2, J pre w1 → Below w1.heap.size w1 w2 → J pre w2) (hC : ∀ pre w1, J pre w1 → SCtx w1 g u W H us vp Bg)
    (hE : ∀ args w, (callFunc fy args).run Try.prog w = .ok (.enter fy args) w)
    (hY : ∀ pre c w1, J pre w1 → pre ++ [c] <+: stkUpTo W us us.length → Calls Try.prog fy (#[.agg #[.int .i64 c.1, .int .i64 c.2]] ++ fr) w1 fun e w' => (e = .returned (.bool true) ∧ J (pre ++ [c]) w') ∨ (e = .returned (.bool false) ∧ Jx (pre ++ [c]) w'))
    (h0 : J [] w) :
    Calls Try.prog 56 #[.func (.func fy) #[] fr, .pointer (some ⟨Bg, 0, none⟩)] w fun e w' => e = .returned (.tuple #[]) ∧ (J (stkUpTo W us us.length) w' ∨ ∃ pre, pre <+: stkUpTo W us us.length ∧ Jx pre w') := by
  have cw := hC _ _ h0
  have g0 : w.cell? ⟨Bg, 0, none⟩ = some (.pointer (some ⟨g, 0, none⟩)) := cell_of cw.bg 0
  have c2 := cw.grid.c2
  have hle := cw.grid.le
  obtain ⟨N, hN⟩ : ∃ N, us.length = N := ⟨_, rfl⟩
  have HN : Hid (us.length = N) := hN
  have HA : Hid (∀ k wx, k < N → SCtx wx g u W H us vp Bg → wx.cell? ⟨u, k, none⟩ = some (.int .u8 (us.getD k 0))) := fun k wx hk q => q.grid.at_ k (by omega)
  rw [hN] at c2 hle hY ⊢
  have HJ0 : Hid (J (stkUpTo W us 0) w) := h0
  clear hN cw h0
  go_enter Try.func56, Try.ntmps56
  go_wp2
  clear g0 c2
  go_loopw [10] (fun v wr => ∃ k : Nat, k ≤ N ∧ v = .int .i64 k ∧ Hid (J (stkUpTo W us k) wr)) (fun v _ => N - (intOf v).toNat)
  case atStart => exact ⟨0, Nat.zero_le _, rfl, HJ0⟩
  case round =>
    clear HJ0
    obtain ⟨k, hk, rfl, HJ⟩ := hrel
    by_cases hlt : k < N
    · have cc := hC _ _ HJ.out
      have q0 := HA.out k wr hlt cc
      have g1 : wr.cell? ⟨Bg, 0, none⟩ = some (.pointer (some ⟨g, 0, none⟩)) := cell_of cc.bg 0
      have cC := cell_any g u W H us vp wr cc.grid k (by rw [HN.out]; exact hlt)
      have hs := stkUpTo_succ W us k
      have hp := stkUpTo_pre W us (show k + 1 ≤ N from hlt)
      by_cases h4 : us.getD k 0 = 4
      · rw [if_pos h4] at hs
        rw [h4] at q0
        have HS : Hid (stkUpTo W us (k + 1) = stkUpTo W us k ++ [cellAt W k]) := hs
        have HP : Hid (stkUpTo W us k ++ [cellAt W k] <+: stkUpTo W us N) := by rw [← hs]; exact hp
        generalize cellAt W k = ck at *
        have cY := fun wx (hb : Below wr.heap.size wr wx) => hY (stkUpTo W us k) ck wx (hS _ _ _ HJ.out hb) HP.out
        clear hs hp h4
        go_wp2_with (first | (go_at_call 57; refine cC.mono ?_; rintro e w2 ⟨rfl, b2⟩))
        refine (cY w2 b2).mono ?_
        rintro e w4 (⟨rfl, hJ4⟩ | ⟨rfl, hJx4⟩)
        · go_wp2
          go_roundw
          case rel => exact ⟨k + 1, by omega, by go_num, by rw [HS.out]; exact hJ4⟩
          case measure => simp [intOf]; omega
        · go_wp2
          exact bodyPost_ret (results_none rfl _ _ _) rfl ⟨rfl, Or.inr ⟨_, HP.out, hJx4⟩⟩
      · rw [if_neg h4, List.append_nil] at hs
        have HS : Hid (stkUpTo W us (k + 1) = stkUpTo W us k) := hs
        generalize us.getD k 0 = z at *
        have hd : decide (z = 4) = false := decide_eq_false h4
        clear hs hp
        go_wp2_with fail
        go_roundw
        case rel => exact ⟨k + 1, by omega, by go_num, by rw [HS.out]; exact HJ.out⟩
        case measure => simp [intOf]; omega
    · obtain rfl : k = N := by omega
      go_wp2
      go_end0
      exact ⟨rfl, Or.inl HJ.out⟩
/- Cells that are gathered in a variable; the greatest number in another one. -/
structure GathC (w : World) (N0 Bl Bm : Nat) (most : Int) (pre : List Cell) (v : Value) : Prop where
  box : w.heap[Bl]? = some (.cells #[v] 22 (0, 0))
  most : w.heap[Bm]? = some (.cells #[.int .i64 most] 3 (0, 0))
  own : w.ownsRow N0 30 2 v pre.length (rowL cellL pre)
theorem GathC.go {w w' : World} {N0 Bl Bm : Nat} {most : Int} {pre : List Cell} {v : Value} (h : GathC w N0 Bl Bm most pre v) (hb : Below w.heap.size w w') : GathC w' N0 Bl Bm most pre v :=
  ⟨(hb.block _ (lt_of_heap h.box)).trans h.box, (hb.block _ (lt_of_heap h.most)).trans h.most, owns_go h.own hb⟩
theorem eql_funcC (u : World) (p : Value) : (binOp .eql 80 (.func (.func 56) #[] #[p]) .nilFunc).run Try.prog u = .ok (.bool false) u := by kernel_rfl
end Go.Proofs.Ytebfjldbhmmmlaa.Grid
namespace Go.Proofs.Ytebfjldbhmmmlaa.Grid
set_option linter.unusedVariables false
set_option linter.unusedSimpArgs false
open Go Go.RowKit Go.Shelf Go.Proofs
attribute [local go_sem] Oper.semAt_some

/- The grid and the variable that holds it stay. -/
def K3 (Bg g u : Nat) (W W' : World) : Prop := W'.heap[Bg]? = W.heap[Bg]? ∧ W'.heap[g]? = W.heap[g]? ∧ W'.heap[u]? = W.heap[u]?
theorem K3.trans {Bg g u : Nat} {A B C : World} (h : K3 Bg g u A B) (h' : K3 Bg g u B C) : K3 Bg g u A C := ⟨h'.1.trans h.1, h'.2.1.trans h.2.1, h'.2.2.trans h.2.2⟩
theorem SCtx.keep {w w' : World} {g u : Nat} {W H : Int} {us : List Int} {vp : Value} {Bg : Nat} (h : SCtx w g u W H us vp Bg) (k : K3 Bg g u w w') : SCtx w' g u W H us vp Bg := ⟨h.grid.same k.2.1 k.2.2, k.1.trans h.bg⟩
set_option maxRecDepth 100000 in
set_option maxHeartbeats 2000000 in
theorem stacks1_in (n : Nat) (l Bg g u : Nat) (W H : Int) (us : List Int) (vp : Value) (J Jx : List Cell → World → Prop) (w : World)
    (hJ : AbidesFrom w.heap.size J)
    (hY : ∀ pre c W1, J pre W1 → pre ++ [c] <+: stkUpTo W us us.length → YieldAt Fence.wide (n - 1) Try.prog l (encC c) W1 fun e W' =>
      (e = .returned (.bool true) ∧ J (pre ++ [c]) W' ∧ K3 Bg g u W1 W') ∨ (e = .returned (.bool false) ∧ Jx (pre ++ [c]) W'))
    (hn : 1 ≤ n) (hC : SCtx w g u W H us vp Bg) (h0 : J [] w) :
    CallsIn Fence.wide n Try.prog 56 #[.func (.yield l) #[] #[], .pointer (some ⟨Bg, 0, none⟩)] w fun e W' => (∃ v, e = .returned v) ∧
      ((∃ ys : List Cell, ys = stkUpTo W us us.length ∧ J ys W') ∨ (∃ pre : List Cell, pre <+: stkUpTo W us us.length ∧ Jx pre W')) := by
  have g0 : w.cell? ⟨Bg, 0, none⟩ = some (.pointer (some ⟨g, 0, none⟩)) := cell_of hC.bg 0
  have c2 := hC.grid.c2
  have hle := hC.grid.le
  obtain ⟨N, hN⟩ : ∃ N, us.length = N := ⟨_, rfl⟩
  have HN : Hid (us.length = N) := hN
  have HC : Hid (∀ wr, K3 Bg g u w wr → SCtx wr g u W H us vp Bg) := fun wr k => hC.keep k
  have HA : Hid (∀ k wx, k < N → SCtx wx g u W H us vp Bg → wx.cell? ⟨u, k, none⟩ = some (.int .u8 (us.getD k 0))) := fun k wx hk q => q.grid.at_ k (by omega)
  have HK0 : Hid (K3 Bg g u w w) := ⟨rfl, rfl, rfl⟩
  rw [hN] at c2 hle hY ⊢
  have HJ0 : Hid (J (stkUpTo W us 0) w) := h0
  clear hN hC h0
  refine callsIn_of_wp Try.func56 rfl trivial ?_ rfl
  simp only [Try.ntmps56, List.size_toArray, List.length_cons, List.length_nil, Nat.reduceAdd, Nat.reduceSub, Array.replicate_succ, Array.replicate_zero, List.push_toArray, List.append_toArray, List.nil_append, List.cons_append]
  gi_wp2
  clear g0 c2
  gi_loopw [10] (fun v wr => ∃ k : Nat, k ≤ N ∧ v = .int .i64 k ∧ Hid (J (stkUpTo W us k) wr) ∧ Hid (K3 Bg g u w wr)) (fun v _ => N - (intOf v).toNat)
  case atStart => exact ⟨0, Nat.zero_le _, rfl, HJ0, HK0⟩
  case round =>
    clear HJ0 HK0
    obtain ⟨k, hk, rfl, HJ, HK⟩ := hrel
    by_cases hlt : k < N
    · have cc := HC.out _ HK.out
      have q0 := HA.out k wr hlt cc
      have g1 : wr.cell? ⟨Bg, 0, none⟩ = some (.pointer (some ⟨g, 0, none⟩)) := cell_of cc.bg 0
      have cC := cell_any g u W H us vp wr cc.grid k (by rw [HN.out]; exact hlt)
      have hs := stkUpTo_succ W us k
      have hp := stkUpTo_pre W us (show k + 1 ≤ N from hlt)
      have HKb : Hid (∀ w2, Below wr.heap.size wr w2 → K3 Bg g u wr w2) := fun w2 b => ⟨b.block _ (lt_of_heap cc.bg), b.block _ cc.grid.ltg, b.block _ cc.grid.ltu⟩
      by_cases h4 : us.getD k 0 = 4
      · rw [if_pos h4] at hs
        rw [h4] at q0
        have HS : Hid (stkUpTo W us (k + 1) = stkUpTo W us k ++ [cellAt W k]) := hs
        have HP : Hid (stkUpTo W us k ++ [cellAt W k] <+: stkUpTo W us N) := by rw [← hs]; exact hp
        generalize cellAt W k = ck at *
        have cY := fun wx (hj : J (stkUpTo W us k) wx) => hY (stkUpTo W us k) ck wx hj HP.out
        clear hs hp h4
        gi_wp2_with (refine ⟨trivial, ?_⟩; gi_at_call 57; refine (callsIn_wide.2 cC).mono ?_; rintro e w2 ⟨rfl, b2⟩; have hY' := cY w2 (hJ _ _ _ _ HJ.out (grown_of_below b2) (fun _ h => by cases h)); simp only [encC] at hY'; obtain ⟨fn, tmps, assign, body, hyy, hR⟩ := hY')
        refine hR.mono ?_
        rintro e W3 (⟨rfl, hJ3, hk3⟩ | ⟨rfl, hJx3⟩)
        · gi_wp2
          go_roundw
          case rel => exact ⟨k + 1, by omega, by go_num, by rw [HS.out]; exact hJ3, (HK.out.trans (HKb.out _ b2)).trans hk3⟩
          case measure => simp [intOf]; omega
        · gi_wp2
          exact bodyPost_ret (results_none rfl _ _ _) rfl ⟨⟨_, rfl⟩, .inr ⟨_, HP.out, hJx3⟩⟩
      · rw [if_neg h4, List.append_nil] at hs
        have HS : Hid (stkUpTo W us (k + 1) = stkUpTo W us k) := hs
        generalize us.getD k 0 = z at *
        have hd : decide (z = 4) = false := decide_eq_false h4
        clear hs hp
        refine wpIn_wide.2 ?_
        go_wp2_with fail
        go_roundw
        case rel => exact ⟨k + 1, by omega, by go_num, by rw [HS.out]; exact HJ.out, HK⟩
        case measure => simp [intOf]; omega
    · obtain rfl : k = N := by omega
      gi_wp2
      go_end0
      exact ⟨⟨_, rfl⟩, .inl ⟨_, rfl, HJ.out⟩⟩
theorem stacks_stops (n : Nat) (hn : 1 ≤ n) (Bg g u : Nat) (W H : Int) (us : List Int) (vp : Value) (w : World) (hC : SCtx w g u W H us vp Bg) :
    SeqStopsK Fence.wide n Try.prog 56 #[.pointer (some ⟨Bg, 0, none⟩)] encC (K3 Bg g u) (fun ys => ys = stkUpTo W us us.length) (fun pre => pre <+: stkUpTo W us us.length) (stkUpTo W us us.length).length w := by
  intro l J Jx W' hW hJ hJx hY h0
  exact stacks1_in n l Bg g u W H us vp J Jx W' hJ (fun pre c W1 hj hp => hY pre c W1 hj (by have := hp.length_le; rw [List.length_append] at this; simp only [List.length_cons, List.length_nil] at this; omega)) hn ⟨hC.grid.same (hW.block _ hC.grid.ltg) (hW.block _ hC.grid.ltu), (hW.block _ (lt_of_heap hC.bg)).trans hC.bg⟩ h0
/- The same, told as cells of the grid. -/
abbrev CellIn (W H : Int) := { c : Cell // In W H c }
def encIn {W H : Int} (c : CellIn W H) : Array Value := encC c.1
theorem stkIn {W H : Int} {us : List Int} (hW : 0 < W) (hl : (us.length : Int) = W * H) {c : Cell} (h : c ∈ stkUpTo W us us.length) : In W H c := by
  obtain ⟨i, i1, _, rfl⟩ := mem_stk.1 h
  exact cellAt_in hW (by omega)
theorem stacksIn_stops (n : Nat) (hn : 1 ≤ n) (Bg g u : Nat) (W H : Int) (us : List Int) (vp : Value) (w : World) (hC : SCtx w g u W H us vp Bg) :
    SeqStopsK Fence.wide n Try.prog 56 #[.pointer (some ⟨Bg, 0, none⟩)] (encIn (W := W) (H := H)) (K3 Bg g u) (fun ys => ys.map (·.1) = stkUpTo W us us.length) (fun pre => pre.map (·.1) <+: stkUpTo W us us.length) (stkUpTo W us us.length).length w := by
  intro l J Jx W' hW hJ hJx hY h0
  have hw1 := hC.grid.w1
  have hl1 := hC.grid.len
  refine (stacks1_in n l Bg g u W H us vp (fun pre V => ∃ q : List (CellIn W H), q.map (·.1) = pre ∧ J q V) (fun pre V => ∃ q : List (CellIn W H), q.map (·.1) = pre ∧ Jx q V) W' ?_ ?_ hn ⟨hC.grid.same (hW.block _ hC.grid.ltg) (hW.block _ hC.grid.ltu), (hW.block _ (lt_of_heap hC.bg)).trans hC.bg⟩ ⟨[], rfl, h0⟩).mono ?_
  · rintro pre X Y row ⟨q, e, h⟩ hg hr
    exact ⟨q, e, hJ q X Y row h hg hr⟩
  · rintro pre c W1 ⟨q, rfl, h⟩ hp
    have hin : In W H c := stkIn (by omega) hl1 (hp.subset (by simp))
    obtain ⟨fn, tmps, assign, body, hyy, hR⟩ := hY q ⟨c, hin⟩ W1 h (by have := hp.length_le; rw [List.length_append, List.length_map] at this; simp only [List.length_cons, List.length_nil] at this; omega)
    refine ⟨fn, tmps, assign, body, hyy, hR.mono ?_⟩
    rintro e V (⟨e1, e2, e3⟩ | ⟨e1, e2⟩)
    · exact Or.inl ⟨e1, ⟨q ++ [⟨c, hin⟩], by simp, e2⟩, e3⟩
    · exact Or.inr ⟨e1, ⟨q ++ [⟨c, hin⟩], by simp, e2⟩⟩
  · rintro e V ⟨e1, ⟨ys, e2, q, e3, e4⟩ | ⟨pre, e2, q, e3, e4⟩⟩
    · exact ⟨e1, Or.inl ⟨q, e3.trans e2, e4⟩⟩
    · exact ⟨e1, Or.inr ⟨q, (show q.map (·.1) <+: _ from e3 ▸ e2), e4⟩⟩
end Go.Proofs.Ytebfjldbhmmmlaa.Grid
namespace Go.Proofs.Ytebfjldbhmmmlaa.Dig
set_option linter.unusedVariables false
set_option linter.unusedSimpArgs false
open Go Go.RowKit Go.Shelf Go.Proofs Go.Proofs.Ytebfjldbhmmmlaa.Grid
section
variable {F : Fence} {n : Nat} {P : Program} {b : Frame} {a : Act} {k : List Item} {cs : List Frame} {w : World} {Q : Exit → Act → World → Prop}
theorem stepR_scope {c : Code} : step P (lone (b.atR a (.code (.scope c) :: k)) cs w) = .next (lone (b.atR a (.code c :: .inScope c :: k)) cs w) :=
  step_lone_go (by simp [stepG, stepG.exec, Frame.atR])
theorem stepR_inScope {c : Code} : step P (lone (b.atR a (.inScope c :: k)) cs w) = .next (lone (b.atR a k) cs w) :=
  step_lone_go (by simp [stepG, stepG.exec, Frame.atR])
theorem wpIn_scope_straight {c : Code} (h : c.wpIn F n P (Exit.noGoto Q) a w) : (Code.scope c).wpIn F n P Q a w := by
  intro b k cs hro hb hr
  have h0 : (lone (b.atR a (.code (.scope c) :: k)) cs w).fenced P F := fenced_calm hb hr rfl
  obtain ⟨e, a₁, w₁, hq, harr⟩ := h b (.inScope c :: k) cs hro hb hr
  cases e with
  | normal => exact ⟨.normal, a₁, w₁, hq, .head h0 stepR_scope (StepsIn.trans harr (.one (fenced_calm hb hr rfl) stepR_inScope))⟩
  | exit id =>
    have hx : exitTo id (.inScope c :: k) = exitTo id k := by simp [exitTo]
    exact ⟨.exit id, a₁, w₁, hq, fun k' hk => .head h0 stepR_scope (harr.1 k' (by rw [hx]; exact hk)),
      fun hr' hk => let ⟨k₁, h1, h2⟩ := harr.2 hr' (by rw [hx]; exact hk); ⟨k₁, h1, .head h0 stepR_scope h2⟩⟩
  | goto l => exact hq.elim
  | ret => exact ⟨_, a₁, w₁, hq, .of_steps (.one h0 stepR_scope) harr⟩
  | panic ch => exact ⟨_, a₁, w₁, hq, .of_steps (.one h0 stepR_scope) harr⟩
  | outgrown => exact ⟨_, a₁, w₁, hq, .of_steps (.one h0 stepR_scope) harr⟩
end
section
variable {F : Fence} {n : Nat} {ops : Array Oper} {rest : List Oper} {o : Oper} {a : Act} {w : World} {Q : Exit → Act → World → Prop}
theorem wpListIn_eqlCell (hg : o.guard = none) (x y : Operand) (ho : o.op = .binOp .eql 30 x y 30) (c d : Cell) (hx : a.eval x = .agg #[.int .i64 c.1, .int .i64 c.2]) (hy : a.eval y = .agg #[.int .i64 d.1, .int .i64 d.2]) (b : Bool) (hb : decide (c = d) = b)
    (h : wpListIn F n Try.prog ops Q rest (a.put o.dst (.bool b)) w) : wpListIn F n Try.prog ops Q (o :: rest) a w := by
  refine wpListIn_plain hg fun K hK => ⟨fun f hf => ?_, ?_⟩
  · unfold Oper.about at hf
    rw [ho] at hf
    cases hf
  · have e : o.semAt F.round a.eval = execOp a.eval o := by
      unfold Oper.semAt
      cases F.round <;> simp [ho]
    rw [e, run_eql_cell x y ho c.1 c.2 d.1 d.2 hx hy, Oper.uponIn_value]
    rw [show decide ((c.1, c.2) = (d.1, d.2)) = b from hb]
    exact hK _ _ h
theorem wpListIn_loadCell (hg : o.guard = none) (x : Operand) (ho : o.op = .load 30 x) (p : Addr) (c : Cell) (hx : a.eval x = .pointer (some p)) (hc : ∀ j z, #[Value.int .i64 c.1, .int .i64 c.2][j]? = some z → w.cell? (p.add j) = some z)
    (h : wpListIn F n Try.prog ops Q rest (a.put o.dst (.agg #[.int .i64 c.1, .int .i64 c.2])) w) : wpListIn F n Try.prog ops Q (o :: rest) a w := by
  refine wpListIn_plain hg fun K hK => ⟨fun f hf => ?_, ?_⟩
  · unfold Oper.about at hf
    rw [ho] at hf
    cases hf
  · have e : o.semAt F.round a.eval = execOp a.eval o := by
      unfold Oper.semAt
      cases F.round <;> simp [ho]
    rw [e, run_load_op 30 x ho p _ hx hc (aggCell w) infoCell2, Oper.uponIn_value]
    exact hK _ _ h
end
end Go.Proofs.Ytebfjldbhmmmlaa.Dig
namespace Go.Proofs.Ytebfjldbhmmmlaa.Grid
set_option linter.unusedVariables false
set_option linter.unusedSimpArgs false
open Go Go.RowKit Go.Shelf Go.Proofs

theorem shift_none {p : Pose} {d : Int} (h1 : 0 ≤ p.1.1) (h2 : p.1.1 < 16) (h3 : 0 ≤ p.1.2) (h4 : p.1.2 < 16) : shiftP p d 0 = p := by
  rw [shift_small (by omega) (by omega) (by omega) (by omega) (by omega) (by omega)]
  simp
theorem shift_next {p : Pose} {d k : Int} (h1 : 0 ≤ p.1.1) (h2 : p.1.1 < 16) (h3 : 0 ≤ p.1.2) (h4 : p.1.2 < 16) (hk : 0 ≤ k ∧ k + 1 ≤ 16) (hq : 0 ≤ (shiftP p d k).1.1 ∧ (shiftP p d k).1.1 < 16 ∧ 0 ≤ (shiftP p d k).1.2 ∧ (shiftP p d k).1.2 < 16) : shiftP (shiftP p d k) d 1 = shiftP p d (k + 1) := by
  rw [shift_small (p := shiftP p d k) (by omega) (by omega) (by omega) (by omega) (by omega) (by omega), shift_small (k := k + 1) (by omega) (by omega) (by omega) (by omega) (by omega) (by omega), shift_small (k := k) (by omega) (by omega) (by omega) (by omega) (by omega) (by omega)]
  simp only [Int.mul_add, Int.mul_one, Int.add_assoc]
def numN (W : Int) (c : Cell) : Nat := (c.2 * W + c.1).toNat
/- What the first i steps sweep. -/
def StepSet (W : Int) (p : Pose) (d : Int) (i k : Nat) : Prop := ∃ j : Nat, j < i ∧ ∃ c ∈ boxOf (shiftP p d (j : Int)) (shiftP p d ((j : Int) + 1)), numN W c = k
theorem steps_box {W H : Int} {us : List Int} {p : Pose} {d : Int} (hW : W ≤ 16) (hH : H ≤ 16) (hd : 0 ≤ d ∧ d ≤ 3) {n : Nat} (hn : 1 ≤ n ∧ n ≤ 16) (hf : ∀ j : Nat, j ≤ n → fitsU W H us (shiftP p d (j : Int)) = true) (hp : fitsU W H us p = true) (c : Cell) :
    c ∈ boxOf p (shiftP p d (n : Int)) ↔ ∃ j : Nat, j < n ∧ c ∈ boxOf (shiftP p d (j : Int)) (shiftP p d ((j : Int) + 1)) := by
  obtain ⟨p1, p2, p3, p4⟩ := fits_near hW hH hp
  have key : ∀ j : Nat, j < n → (c ∈ boxOf (shiftP p d (j : Int)) (shiftP p d ((j : Int) + 1)) ↔ (c = (shiftP p d (j : Int)).1 ∨ c = second (shiftP p d (j : Int))) ∨ (c = (shiftP p d ((j : Int) + 1)).1 ∨ c = second (shiftP p d ((j : Int) + 1)))) := by
    intro j hj
    have q := fits_near hW hH (hf j (by omega))
    have e := shift_next (d := d) p1 p2 p3 p4 (k := (j : Int)) ⟨by omega, by omega⟩ q
    have e0 := shift_none (p := shiftP p d (j : Int)) (d := d) q.1 q.2.1 q.2.2.1 q.2.2.2
    have := box_mem (p := shiftP p d (j : Int)) (d := d) (n := 1) q.1 q.2.1 q.2.2.1 q.2.2.2 hd ⟨by omega, by omega⟩ c
    rw [e] at this
    rw [this]
    constructor
    · rintro ⟨k, k1, k2, h⟩
      rcases (show k = 0 ∨ k = 1 by omega) with rfl | rfl
      · rw [e0] at h; exact Or.inl h
      · rw [e] at h; exact Or.inr h
    · rintro (h | h)
      · exact ⟨0, by omega, by omega, by rw [e0]; exact h⟩
      · exact ⟨1, by omega, by omega, by rw [e]; exact h⟩
  rw [box_mem p1 p2 p3 p4 hd ⟨by omega, by omega⟩ c]
  constructor
  · rintro ⟨k, k1, k2, h⟩
    obtain ⟨kn, rfl⟩ := Int.eq_ofNat_of_zero_le k1
    by_cases e : kn < n
    · exact ⟨kn, e, (key kn e).2 (Or.inl h)⟩
    · refine ⟨n - 1, by omega, (key (n - 1) (by omega)).2 (Or.inr ?_)⟩
      rw [show ((n - 1 : Nat) : Int) + 1 = (kn : Int) by omega]
      exact h
  · rintro ⟨j, hj, h⟩
    rcases (key j hj).1 h with h | h
    · exact ⟨j, by omega, by omega, h⟩
    · exact ⟨(j : Int) + 1, by omega, by omega, h⟩
theorem steps_all {W H : Int} {us : List Int} {p : Pose} {d : Int} (hW : W ≤ 16) (hH : H ≤ 16) (hd : 0 ≤ d ∧ d ≤ 3) {n : Nat} (hn : 1 ≤ n ∧ n ≤ 16) (hf : ∀ j : Nat, j ≤ n → fitsU W H us (shiftP p d (j : Int)) = true) (hp : fitsU W H us p = true) (k : Nat) :
    StepSet W p d n k ↔ ∃ c ∈ boxOf p (shiftP p d (n : Int)), numN W c = k := by
  unfold StepSet
  constructor
  · rintro ⟨j, hj, c, hc, e⟩
    exact ⟨c, (steps_box hW hH hd hn hf hp c).2 ⟨j, hj, hc⟩, e⟩
  · rintro ⟨c, hc, e⟩
    obtain ⟨j, hj, h⟩ := (steps_box hW hH hd hn hf hp c).1 hc
    exact ⟨j, hj, c, h, e⟩
theorem step_none (W : Int) (p : Pose) (d : Int) (k : Nat) : ¬ StepSet W p d 0 k := by
  rintro ⟨j, hj, _⟩
  omega
theorem step_succ (W : Int) (p : Pose) (d : Int) (i k : Nat) : StepSet W p d (i + 1) k ↔ StepSet W p d i k ∨ ∃ c ∈ boxOf (shiftP p d (i : Int)) (shiftP p d ((i : Int) + 1)), numN W c = k := by
  unfold StepSet
  constructor
  · rintro ⟨j, hj, h⟩
    by_cases e : j = i
    · rw [e] at h; exact Or.inr h
    · exact Or.inl ⟨j, by omega, h⟩
  · rintro (⟨j, hj, h⟩ | h)
    · exact ⟨j, by omega, h⟩
    · exact ⟨i, by omega, h⟩
/- The numbers of a box's cells rise. -/
theorem row_rises (W x0 y : Int) (m : Nat) : (row x0 y m).Pairwise (fun a b => a.2 * W + a.1 < b.2 * W + b.1) := by
  unfold row
  rw [List.pairwise_map]
  refine List.Pairwise.imp ?_ List.pairwise_lt_range
  intro a b h
  simp only
  omega
theorem rows_rise {W x0 y0 : Int} {m : Nat} (h0 : 0 ≤ x0) (h1 : x0 + m ≤ W) : ∀ h : Nat, (rows x0 y0 m h).Pairwise (fun a b => a.2 * W + a.1 < b.2 * W + b.1)
  | 0 => by simp [rows]
  | h + 1 => by
    rw [rows_succ, List.pairwise_append]
    refine ⟨rows_rise h0 h1 h, row_rises W x0 _ m, fun a ha b hb => ?_⟩
    unfold rows at ha
    rw [List.mem_flatMap] at ha
    obtain ⟨k, hk, ha⟩ := ha
    unfold row at ha hb
    rw [List.mem_map] at ha hb
    obtain ⟨i, hi, rfl⟩ := ha
    obtain ⟨j, hj, rfl⟩ := hb
    rw [List.mem_range] at hk hi hj
    simp only
    have e : (y0 + (k : Int) + 1) * W ≤ (y0 + (h : Int)) * W := Int.mul_le_mul_of_nonneg_right (by omega) (by omega)
    rw [Int.add_mul (y0 + (k : Int)) 1 W, Int.one_mul] at e
    omega
theorem box_rises {W H : Int} {a b : Pose} (hin : ∀ c ∈ boxOf a b, In W H c) (hne : (spanP a b).1.1 ≤ (spanP a b).2.1 ∧ (spanP a b).1.2 ≤ (spanP a b).2.2) : (boxOf a b).Pairwise (fun c e => c.2 * W + c.1 < e.2 * W + e.1) := by
  have c1 := hin ((spanP a b).1.1, (spanP a b).1.2) (by unfold boxOf; rw [mem_boxList]; simp only; omega)
  have c2 := hin ((spanP a b).2.1, (spanP a b).2.2) (by unfold boxOf; rw [mem_boxList]; simp only; omega)
  unfold In at c1 c2
  simp only at c1 c2
  unfold boxOf boxList
  exact rows_rise (by omega) (by omega) _
theorem num_grid {W H : Int} {c : Cell} (hW : W ≤ 16) (hH : H ≤ 16) (h : In W H c) : number W H c = (numN W c : Int) ∧ numN W c < 256 ∧ 0 ≤ c.2 * W + c.1 := by
  have q := num_lt h
  obtain ⟨a, b, e, f⟩ := h
  have e0 : 0 ≤ c.2 * W := Int.mul_nonneg e (by omega)
  have e1 : W * H ≤ 16 * 16 := by
    have i1 : W * H ≤ 16 * H := Int.mul_le_mul_of_nonneg_right hW (by omega)
    omega
  refine ⟨?_, ?_, by omega⟩
  · unfold number numN
    rw [if_pos ⟨a, b, e, f⟩]
    omega
  · unfold numN
    omega
/- Two lists without doubles that have the same items are as long. -/
theorem len_le_of_sub {α : Type} [BEq α] [LawfulBEq α] : ∀ (l m : List α), l.Nodup → (∀ x ∈ l, x ∈ m) → l.length ≤ m.length
  | [], m, _, _ => Nat.zero_le _
  | x :: l, m, hn, hs => by
    have h1 := List.nodup_cons.1 hn
    have hx := hs x (by simp)
    have := len_le_of_sub l (m.erase x) h1.2 (fun y hy => (List.mem_erase_of_ne (fun (e : y = x) => h1.1 (by rw [← e]; exact hy))).2 (hs y (by simp [hy])))
    rw [List.length_erase_of_mem hx] at this
    have hp : 0 < m.length := List.length_pos_of_mem hx
    simp only [List.length_cons]
    omega
def countB (bs : List Bool) (i : Nat) : Nat := ((List.range i).filter (fun k => bs.getD k false)).length
theorem countB_succ (bs : List Bool) (i : Nat) : countB bs (i + 1) = countB bs i + if bs.getD i false = true then 1 else 0 := by
  unfold countB
  rw [List.range_succ, List.filter_append, List.length_append]
  congr 1
  by_cases h : bs.getD i false = true
  · rw [if_pos h, List.filter_cons_of_pos (p := fun k => bs.getD k false) h]; rfl
  · rw [if_neg h, List.filter_cons_of_neg (p := fun k => bs.getD k false) h]; rfl
theorem countB_le (bs : List Bool) (i : Nat) : countB bs i ≤ i := by
  unfold countB
  exact Nat.le_trans (List.length_filter_le _ _) (by simp)
theorem count_all {W : Int} {l : List Cell} {bs : List Bool} (hr : l.Pairwise (fun c e => c.2 * W + c.1 < e.2 * W + e.1)) (h0 : ∀ c ∈ l, 0 ≤ c.2 * W + c.1 ∧ numN W c < 256) (hm : ∀ k, k < 256 → (bs.getD k false = true ↔ ∃ c ∈ l, numN W c = k)) : countB bs 256 = l.length := by
  have hd : (l.map (numN W)).Nodup := by
    unfold List.Nodup
    rw [List.pairwise_map]
    refine List.Pairwise.imp_of_mem ?_ hr
    intro a b ha hb h e
    have q1 := h0 a ha
    have q2 := h0 b hb
    unfold numN at e
    omega
  have hd2 : ((List.range 256).filter (fun k => bs.getD k false)).Nodup := List.Pairwise.filter _ List.nodup_range
  have hs : ∀ x, x ∈ l.map (numN W) ↔ x ∈ (List.range 256).filter (fun k => bs.getD k false) := by
    intro x
    rw [List.mem_map, List.mem_filter, List.mem_range]
    constructor
    · rintro ⟨c, hc, rfl⟩
      exact ⟨(h0 c hc).2, (hm _ (h0 c hc).2).2 ⟨c, hc, rfl⟩⟩
    · rintro ⟨h1, h2⟩
      obtain ⟨c, hc, e⟩ := (hm x h1).1 h2
      exact ⟨c, hc, e⟩
  have a := len_le_of_sub _ _ hd fun x hx => (hs x).1 hx
  have b := len_le_of_sub _ _ hd2 fun x hx => (hs x).2 hx
  rw [List.length_map] at a b
  unfold countB
  omega
end Go.Proofs.Ytebfjldbhmmmlaa.Grid
namespace Go.Proofs.Ytebfjldbhmmmlaa.Grid
set_option linter.unusedVariables false
set_option linter.unusedSimpArgs false
open Go Go.RowKit Go.Shelf Go.Proofs
attribute [local go_sem] Oper.semAt_some

def takeV (v : Value) (k : Nat) : Value := match v with
  | .slice (some a) _ c => .slice (some a) k c
  | .slice none _ _ => .slice none 0 0
  | v => v
theorem rowL_take {α : Type} {f : α → List Value} {S : Nat} (hf : ∀ x, (f x).length = S) : ∀ (l : List α) (k : Nat), (rowL f l).take (k * S) = rowL f (l.take k)
  | [], k => by simp [rowL]
  | x :: l, 0 => by simp [rowL]
  | x :: l, k + 1 => by
    have ih := rowL_take hf l k
    have e1 : rowL f (x :: l) = f x ++ rowL f l := by simp [rowL]
    have e2 : rowL f ((x :: l).take (k + 1)) = f x ++ rowL f (l.take k) := by simp [rowL]
    rw [e1, e2, List.take_append, hf x, ← ih]
    congr 1
    · rw [List.take_of_length_le (by rw [hf x, Nat.succ_mul]; omega)]
    · rw [Nat.succ_mul, Nat.add_sub_cancel]
theorem own_take {α : Type} {f : α → List Value} {S : Nat} (hf : ∀ x, (f x).length = S) {w : World} {b : Nat} {e : TypeId} {v : Value} {l : List α} (h : w.ownsRow b e S v l.length (rowL f l)) (k : Nat) (hk : k ≤ l.length) : w.ownsRow b e S (takeV v k) (l.take k).length (rowL f (l.take k)) := by
  have e0 : (l.take k).length = k := by rw [List.length_take]; omega
  refine ⟨rowL_len hf _, ?_⟩
  rcases h.2 with ⟨hv, h0⟩ | ⟨g, cap, cur, hv, h1, h2, h3, h4, h5, h6⟩
  · left
    refine ⟨by rw [hv]; rfl, by omega⟩
  · right
    refine ⟨g, cap, cur, by rw [hv, e0]; rfl, h1, h2, by omega, h4, h5, ?_⟩
    rw [e0, ← rowL_take hf l k, ← h6, List.take_take, Nat.min_eq_left (Nat.mul_le_mul_right S hk)]
theorem run_take_cell {w : World} {b : Nat} {v : Value} {n : Nat} {xs : List Value} (h : w.ownsRow b 30 2 v n xs) (k : Nat) (hk : k ≤ n) (u : World) : (Instr.sliceAt 22 v none (some (.int .i64 k)) none).run Try.prog u = .ok (takeV v k) u := by
  rcases h.2 with ⟨hv, h0⟩ | ⟨g, cap, cur, hv, h1, h2, h3, h4, h5, h6⟩
  · obtain rfl : k = 0 := by omega
    subst hv
    clear h
    unfold takeV
    go_simp
  · subst hv
    have a2 : (k : Int) ≤ (cap : Int) := by omega
    clear h h1 h2 h3 h4 h5 h6 hk
    unfold takeV
    go_simp
theorem run_take_int {w : World} {b : Nat} {v : Value} {n : Nat} {xs : List Value} (h : w.ownsRow b 3 1 v n xs) (k : Nat) (hk : k ≤ n) (u : World) : (Instr.sliceAt 38 v none (some (.int .i64 k)) none).run Try.prog u = .ok (takeV v k) u := by
  rcases h.2 with ⟨hv, h0⟩ | ⟨g, cap, cur, hv, h1, h2, h3, h4, h5, h6⟩
  · obtain rfl : k = 0 := by omega
    subst hv
    clear h
    unfold takeV
    go_simp
  · subst hv
    have a2 : (k : Int) ≤ (cap : Int) := by omega
    clear h h1 h2 h3 h4 h5 h6 hk
    unfold takeV
    go_simp
def placeG (v n : Int) : Int := if v.tmod n < 0 then v.tmod n + n else v.tmod n
theorem tmod_lowG (v n : Int) (h : 0 < n) : -n < v.tmod n := by
  by_cases g : 0 ≤ v
  · have := Int.tmod_nonneg n g
    omega
  · have h1 := Int.neg_tmod (a := v) (b := n)
    have h2 := Int.tmod_lt_of_pos (-v) h
    omega
theorem placeG_bd (v n : Int) (h : 0 < n) : 0 ≤ placeG v n ∧ placeG v n < n := by
  have h2 := Int.tmod_lt_of_pos v h
  have h3 := tmod_lowG v n h
  unfold placeG
  split <;> omega
theorem placeG_any (v n : Int) (w : World) (h0 : 0 < n) (h1 : n ≤ 9223372036854775807) : Calls Try.prog 6 #[.int .i64 v, .int .i64 n] w fun e w' => e = .returned (.int .i64 (placeG v n)) ∧ w' = w := by
  have h2 := Int.tmod_lt_of_pos v h0
  have h3 := tmod_lowG v n h0
  have H : Hid (placeG v n = if v.tmod n < 0 then v.tmod n + n else v.tmod n) := rfl
  have hn : (n == 0) = false := by rw [beq_eq_false_iff_ne]; omega
  have hn1 : ¬ n = 0 := by omega
  obtain ⟨q, hq⟩ : ∃ q, v.tmod n = q := ⟨_, rfl⟩
  rw [hq] at h2 h3 H
  by_cases hc : q < 0
  · go_enter Try.func6, Try.ntmps6
    go_wp2
    go_ret
    exact ⟨ret_int (by rw [H.out, if_pos hc]), rfl⟩
  · go_enter Try.func6, Try.ntmps6
    go_wp2
    go_ret
    exact ⟨ret_int (by rw [H.out, if_neg (by omega)]), rfl⟩
end Go.Proofs.Ytebfjldbhmmmlaa.Grid
