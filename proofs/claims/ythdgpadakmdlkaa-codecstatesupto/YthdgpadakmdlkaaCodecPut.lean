/-
  What is put behind bytes of one's own: numbers in a row, a bool, a cell, a pose, a move, an operation, a telegram; a number behind any bytes.
-/
import Derived.Test.YthdgpadakmdlkaaCodecNum
namespace Go.Proofs.Ythdgpadakmdlkaa.Codec
set_option linter.unusedVariables false
set_option linter.unusedSimpArgs false
open Go Go.RowKit

/- Numbers that lie in memory from an address on. -/
structure Nums (w : World) (a : Option Addr) (vs : List Int) : Prop where
  i64 : ∀ v ∈ vs, I64 v
  cell : ∀ i, i < vs.length → ∃ x, a = some x ∧ w.cell? (x.add i) = some (.int .i64 (vs.getD i 0))
theorem Nums.goes {b b' : Value} {w w' : World} {a : Option Addr} {vs : List Int} (h : Nums w a vs) (hg : Goes b w b' w') (hn : ∀ x, a = some x → x.block < w.heap.size ∧ b.ownBlock ≠ some x.block) : Nums w' a vs := by
  refine ⟨h.i64, fun i hi => ?_⟩
  obtain ⟨x, hx, hc⟩ := h.cell i hi
  obtain ⟨h1, h2⟩ := hn x hx
  exact ⟨x, hx, by rw [hg.cell (x.add i) (by rw [block_add]; exact h1) (by rw [block_add]; exact h2)]; exact hc⟩
def nums (vs : List Int) : List Int := vs.flatMap num
theorem nums_cons (v : Int) (vs : List Int) : nums (v :: vs) = num v ++ nums vs := rfl
theorem nums_nil : nums [] = [] := rfl
theorem nums_snoc (vs : List Int) (k : Nat) (h : k < vs.length) : nums (vs.take (k + 1)) = nums (vs.take k) ++ num (vs.getD k 0) := by
  rw [List.take_succ_eq_append_getElem h, getD_in vs k h, nums, List.flatMap_append, List.flatMap_singleton]
  rfl
theorem nums_part (vs : List Int) (k : Nat) (h : k < vs.length) : (nums (vs.take k)).length + (num (vs.getD k 0)).length ≤ (nums vs).length := by
  have e : nums vs = nums (vs.take (k + 1)) ++ nums (vs.drop (k + 1)) := by
    unfold nums; rw [← List.flatMap_append, List.take_append_drop]
  rw [e, nums_snoc vs k h, List.length_append, List.length_append]
  omega
theorem two_ok {x y : Int} (hx : I64 x) (hy : I64 y) : ∀ v ∈ [x, y], I64 v := by
  intro v hv
  rcases List.mem_cons.1 hv with rfl | hv
  · exact hx
  · rw [List.mem_singleton.1 hv]; exact hy
theorem three_ok {x y z : Int} (hx : I64 x) (hy : I64 y) (hz : I64 z) : ∀ v ∈ [x, y, z], I64 v := by
  intro v hv
  rcases List.mem_cons.1 hv with rfl | hv
  · exact hx
  · exact two_ok hy hz v hv
theorem four_ok {x y z u : Int} (hx : I64 x) (hy : I64 y) (hz : I64 z) (hu : I64 u) : ∀ v ∈ [x, y, z, u], I64 v := by
  intro v hv
  rcases List.mem_cons.1 hv with rfl | hv
  · exact hx
  · exact three_ok hy hz hu v hv
theorem put2 (x y : Int) : cCell.put (x, y) = nums [x, y] := by
  rw [nums_cons, nums_cons, nums_nil, List.append_nil]
  rfl
theorem put3 (x y z : Int) : cOp.put (x, y, z) = nums [x, y, z] := by
  rw [nums_cons, nums_cons, nums_cons, nums_nil, List.append_nil]
  rfl
/- Numbers in a new block. -/
theorem nums_new (w : World) (vs : List Int) (t : TypeId) (fr : Nat × Nat) (h : ∀ v ∈ vs, I64 v) : Nums (w.alloc (.cells (vs.map (Value.int .i64)).toArray t fr)) (some ⟨w.heap.size, 0, none⟩) vs := by
  refine ⟨h, fun i hi => ⟨_, rfl, ?_⟩⟩
  rw [Addr.add_lit, Nat.zero_add, cell_new, List.getElem?_toArray, List.getElem?_map, List.getElem?_eq_getElem hi, getD_in vs i hi]
  rfl

theorem nums2_new (w : World) (x y : Int) (t : TypeId) (fr : Nat × Nat) (h : ∀ v ∈ [x, y], I64 v) : Nums (w.alloc (.cells #[.int .i64 x, .int .i64 y] t fr)) (some ⟨w.heap.size, 0, none⟩) [x, y] := nums_new w [x, y] t fr h
theorem nums3_new (w : World) (x y z : Int) (t : TypeId) (fr : Nat × Nat) (h : ∀ v ∈ [x, y, z], I64 v) : Nums (w.alloc (.cells #[.int .i64 x, .int .i64 y, .int .i64 z] t fr)) (some ⟨w.heap.size, 0, none⟩) [x, y, z] := nums_new w [x, y, z] t fr h
theorem nums4_new (w : World) (x y z u : Int) (t : TypeId) (fr : Nat × Nat) (h : ∀ v ∈ [x, y, z, u], I64 v) : Nums (w.alloc (.cells #[.int .i64 x, .int .i64 y, .int .i64 z, .int .i64 u] t fr)) (some ⟨w.heap.size, 0, none⟩) [x, y, z, u] := nums_new w [x, y, z, u] t fr h
theorem apart_new {w : World} {b : Value} {zs : List Int} (hm : Mine w b zs) (o : Obj) : ∀ x : Addr, (some ⟨w.heap.size, 0, none⟩ : Option Addr) = some x → x.block < (w.alloc o).heap.size ∧ b.ownBlock ≠ some x.block := by
  intro x hx
  cases hx
  exact ⟨by simp, fun e => by have := hm.lt _ e; simp at this⟩

set_option maxRecDepth 100000 in
set_option maxHeartbeats 1000000 in
theorem putNumbers_any (w : World) (b : Value) (zs : List Int) (a : Option Addr) (n cap : Nat) (vs : List Int) (hm : Mine w b zs) (hv : Nums w a vs) (hn : ∀ x, a = some x → x.block < w.heap.size ∧ b.ownBlock ≠ some x.block) (hvl : vs.length = n)
    (hvm : n ≤ maxLen) (hl : zs.length + (nums vs).length ≤ 140737488355328) :
    Calls Try.prog 61 #[b, .slice a n cap] w fun e w' => ∃ b', e = .returned b' ∧ Mine w' b' (zs ++ nums vs) ∧ Goes b w b' w' := by
  unfold maxLen at hvm
  go_enter Try.func61, Try.ntmps61
  go_wp2
  go_loopw [0, 9] (fun b' i wr => ∃ (k : Nat), k ≤ n ∧ i = .int .i64 k ∧ Mine wr b' (zs ++ nums (vs.take k)) ∧ Goes b w b' wr) (fun _ i _ => n - (intOf i).toNat)
  case atStart => exact ⟨0, by omega, rfl, by simpa [nums] using hm, Goes.refl _ _⟩
  case round =>
    obtain ⟨k, hk, rfl, hm', hg⟩ := hrel
    by_cases hlt : k < n
    · obtain ⟨x, rfl, hc⟩ := hv.cell k (by omega)
      obtain ⟨h1, h2⟩ := hn x rfl
      rw [← hg.cell (x.add k) (by rw [block_add]; exact h1) (by rw [block_add]; exact h2)] at hc
      have hi : I64 (vs.getD k 0) := by rw [getD_in vs k (by omega)]; exact hv.i64 _ (List.getElem_mem _)
      have HE : Hid (nums (vs.take (k + 1)) = nums (vs.take k) ++ num (vs.getD k 0)) := nums_snoc vs k (by omega)
      have hp := nums_part vs k (by omega)
      generalize vs.getD k 0 = v at *
      have c1 := putNumber_any wr u0 (zs ++ nums (vs.take k)) v hm' hi (by rw [List.length_append]; omega)
      rw [List.append_assoc, ← HE.out] at c1
      clear hp
      go_wp2_with (go_at_call 75; refine c1.mono ?_; rintro e w1 ⟨b1, rfl, m1, g1⟩)
      go_roundw
      case rel => exact ⟨k + 1, by omega, by go_num, m1, hg.trans g1⟩
      case measure => simp [intOf]; omega
    · obtain rfl : k = n := by omega
      rw [List.take_of_length_le (by omega)] at hm'
      go_wp2
      go_ret
      exact ⟨_, rfl, hm', hg⟩

theorem putNumbers2 (b : Value) (zs : List Int) (x y : Int) (hi : ∀ v ∈ [x, y], I64 v) (hl : zs.length + (nums [x, y]).length ≤ 140737488355328) (u : World) (t : TypeId) (N : Nat) (hm : Mine u b zs) (hN : N = u.heap.size) :
    Calls Try.prog 61 #[b, .slice (some ⟨N, 0, none⟩) 2 2] (u.alloc (.cells #[.int .i64 x, .int .i64 y] t)) fun e w' => ∃ b', e = .returned b' ∧ Mine w' b' (zs ++ nums [x, y]) ∧ Goes b (u.alloc (.cells #[.int .i64 x, .int .i64 y] t)) b' w' := by
  subst hN
  exact putNumbers_any _ b zs _ 2 2 [x, y] (hm.alloc _) (nums2_new u x y t (0, 0) hi) (apart_new hm _) rfl (by decide) hl
theorem putNumbers3 (b : Value) (zs : List Int) (x y z : Int) (hi : ∀ v ∈ [x, y, z], I64 v) (hl : zs.length + (nums [x, y, z]).length ≤ 140737488355328) (u : World) (t : TypeId) (N : Nat) (hm : Mine u b zs) (hN : N = u.heap.size) :
    Calls Try.prog 61 #[b, .slice (some ⟨N, 0, none⟩) 3 3] (u.alloc (.cells #[.int .i64 x, .int .i64 y, .int .i64 z] t)) fun e w' => ∃ b', e = .returned b' ∧ Mine w' b' (zs ++ nums [x, y, z]) ∧ Goes b (u.alloc (.cells #[.int .i64 x, .int .i64 y, .int .i64 z] t)) b' w' := by
  subst hN
  exact putNumbers_any _ b zs _ 3 3 [x, y, z] (hm.alloc _) (nums3_new u x y z t (0, 0) hi) (apart_new hm _) rfl (by decide) hl
theorem putNumbers4 (b : Value) (zs : List Int) (x y z q : Int) (hi : ∀ v ∈ [x, y, z, q], I64 v) (hl : zs.length + (nums [x, y, z, q]).length ≤ 140737488355328) (u : World) (t : TypeId) (N : Nat) (hm : Mine u b zs) (hN : N = u.heap.size) :
    Calls Try.prog 61 #[b, .slice (some ⟨N, 0, none⟩) 4 4] (u.alloc (.cells #[.int .i64 x, .int .i64 y, .int .i64 z, .int .i64 q] t)) fun e w' => ∃ b', e = .returned b' ∧ Mine w' b' (zs ++ nums [x, y, z, q]) ∧ Goes b (u.alloc (.cells #[.int .i64 x, .int .i64 y, .int .i64 z, .int .i64 q] t)) b' w' := by
  subst hN
  exact putNumbers_any _ b zs _ 4 4 [x, y, z, q] (hm.alloc _) (nums4_new u x y z q t (0, 0) hi) (apart_new hm _) rfl (by decide) hl

set_option maxHeartbeats 1000000 in
theorem putBool_any (w : World) (b : Value) (zs : List Int) (d : Bool) (hm : Mine w b zs) (hl : zs.length + 1 ≤ 140737488355328) :
    Calls Try.prog 79 #[b, .bool d] w fun e w' => ∃ b', e = .returned b' ∧ Mine w' b' (zs ++ cFlag.put d) ∧ Goes b w b' w' := by
  cases d
  · have r1 := row_one w 0 5 (0, 0) (by decide) (by decide)
    go_enter Try.func79, Try.ntmps79
    go_wp2_with (at_builtin; go_loud (refine wpList_append_mine rfl (.tmp 9) (.tmp 10) rfl _ zs rfl (hm.alloc _) _ 1 1 _ rfl r1 (fun h => by cases h) (by omega) ?_; intro v1 w1 m1 g1))
    go_ret
    exact ⟨v1, rfl, m1, (goes_alloc _ _ _).trans g1⟩
  · have r1 := row_one w 1 5 (0, 0) (by decide) (by decide)
    go_enter Try.func79, Try.ntmps79
    go_wp2_with (at_builtin; refine wpList_append_mine rfl (.tmp 6) (.tmp 7) rfl _ zs rfl (hm.alloc _) _ 1 1 _ rfl r1 (fun h => by cases h) (by omega) ?_; intro v1 w1 m1 g1)
    go_ret
    exact ⟨v1, rfl, m1, (goes_alloc _ _ _).trans g1⟩

set_option maxHeartbeats 1000000 in
theorem putCell_any (w : World) (b : Value) (zs : List Int) (x y : Int) (hm : Mine w b zs) (ho : cCell.ok (x, y)) (hl : zs.length + (cCell.put (x, y)).length ≤ 140737488355328) :
    Calls Try.prog 97 #[b, .agg #[.int .i64 x, .int .i64 y]] w fun e w' => ∃ b', e = .returned b' ∧ Mine w' b' (zs ++ cCell.put (x, y)) ∧ Goes b w b' w' := by
  have he : cCell.put (x, y) = nums [x, y] := put2 x y
  rw [he] at hl ⊢
  have hi : ∀ v ∈ [x, y], I64 v := two_ok ho.1 ho.2
  have c1 := putNumbers2 b zs x y hi hl
  clear he hi ho
  generalize nums [x, y] = N at *
  go_enter Try.func97, Try.ntmps97
  go_wp2_with (go_at_call 61; go_loud (refine (c1 _ _ _ (hm.alloc _) (by simp)).mono ?_; rintro e w1 ⟨b1, rfl, m1, g1⟩))
  go_ret
  exact ⟨b1, rfl, m1, ((goes_alloc _ _ _).trans (goes_alloc _ _ _)).trans g1⟩

/- What a new block holds stays while bytes of one's own, that were there ahead of it, are put. -/
theorem box_stays {w w1 : World} {b b1 : Value} {zs : List Int} {cs : Array Value} {t : TypeId} (hm : Mine w b zs) (g : Goes b (w.alloc (.cells cs t)) b1 w1) (j : Nat) : w1.cell? ⟨w.heap.size, j, none⟩ = cs[j]? := by
  rw [g.cell ⟨w.heap.size, j, none⟩ (by simp) (fun e => by have := hm.lt _ e; simp at this), cell_new]

set_option maxRecDepth 100000 in
set_option maxHeartbeats 1000000 in
theorem putPose_any (w : World) (b : Value) (zs : List Int) (x y : Int) (d : Bool) (hm : Mine w b zs) (ho : cPose.ok ((x, y), d)) (hl : zs.length + (cPose.put ((x, y), d)).length ≤ 140737488355328) :
    Calls Try.prog 62 #[b, .agg #[.int .i64 x, .int .i64 y, .bool d]] w fun e w' => ∃ b', e = .returned b' ∧ Mine w' b' (zs ++ cPose.put ((x, y), d)) ∧ Goes b w b' w' := by
  have he : cPose.put ((x, y), d) = cCell.put (x, y) ++ cFlag.put d := rfl
  rw [he] at hl ⊢
  rw [List.length_append] at hl
  have h1 : (cFlag.put d).length = 1 := rfl
  have c1 := fun (u : World) (hm : Mine u b zs) => putCell_any u b zs x y hm ho.1 (by omega)
  have c2 := fun (u : World) (b1 : Value) (hm : Mine u b1 (zs ++ cCell.put (x, y))) => putBool_any u b1 (zs ++ cCell.put (x, y)) d hm (by rw [List.length_append]; omega)
  simp only [List.append_assoc] at c2
  clear he h1 ho
  generalize cCell.put (x, y) = N at *
  generalize cFlag.put d = M at *
  go_enter Try.func62, Try.ntmps62
  go_wp2_with (first
    | (go_at_call 97; refine (c1 _ (hm.alloc _)).mono ?_; rintro e w1 ⟨b1, rfl, m1, g1⟩; have k2 := box_stays hm g1 2; simp only [List.getElem?_toArray, List.getElem?_cons_succ, List.getElem?_cons_zero] at k2)
    | (go_at_call 79; refine (c2 _ _ m1).mono ?_; rintro e w2 ⟨b2, rfl, m2, g2⟩))
  go_ret
  exact ⟨b2, rfl, m2, ((goes_alloc _ _ _).trans g1).trans g2⟩
end Go.Proofs.Ythdgpadakmdlkaa.Codec
