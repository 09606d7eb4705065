/-
  The chapter's own answer: bytes as an operation.
-/
import Derived.Test.YtgliglealchjjaaCodecRefOp
namespace Go.Proofs.Ytgliglealchjjaa.Codec
set_option linter.unusedVariables false
set_option linter.unusedSimpArgs false
open Go Go.RowKit

theorem rr_new0 (w : World) (a : Option Addr) (n cap : Nat) (zs : List Int) (t : TypeId) (hr : Row w a n zs) (hc : n ≤ cap) (hc2 : cap ≤ 9223372036854775807) (h0 : a = none → cap = 0) (N : Nat) (hN : N = w.heap.size) : RR (w.alloc (.cells #[.slice a n cap, .int .i64 0, .bool false] t)) N a cap zs 0 false := by
  subst hN
  have hl := hr.len
  have hr' := hr.after ((Below.refl _ _).alloc (Nat.le_refl _) (.cells #[.slice a n cap, .int .i64 0, .bool false] t))
  refine ⟨?_, ?_, ?_, ?_, ?_, by rw [hl]; exact hr', fun x hx hn => Nat.ne_of_lt (hr.lt x hx (by omega)), by omega, by omega, hc2, h0⟩
  · rw [cell_new, hl]; rfl
  · rw [cell_new]; rfl
  · rw [cell_new]; rfl
  · unfold World.frozen?; rw [heap_alloc_new]; rfl
  · unfold World.frozen?; rw [heap_alloc_new]; rfl
theorem RR.other {w : World} {R : Nat} {a : Option Addr} {cap : Nat} {zs : List Int} {k : Nat} {bad : Bool} (h : RR w R a cap zs k bad) (N i : Nat) (v : Value) (hN : N ≠ R) (ha : ∀ x, a = some x → zs.length ≠ 0 → x.block ≠ N) : RR (w.setCell ⟨N, i, none⟩ v) R a cap zs k bad := by
  have ne : ∀ j, (⟨R, j, none⟩ : Addr) ≠ ⟨N, i, none⟩ := fun j e => hN (congrArg Addr.block e).symm
  refine ⟨?_, ?_, ?_, ?_, ?_, row_set _ h.row ha, h.apart, h.le, h.cap1, h.cap2, h.nil⟩
  · rw [World.cell?_setCell_other _ _ _ _ (by simp [hN])]; exact h.s
  · rw [World.cell?_setCell_other _ _ _ _ (by simp [hN])]; exact h.i
  · rw [World.cell?_setCell_other _ _ _ _ (by simp [hN])]; exact h.b
  · rw [World.frozen?_setCell]; exact h.fz
  · rw [World.frozen?_setCell]; exact h.fb
/- What lies there between the reads: the reader, the thing so far, the place of the result. -/
structure OpSt (w0 : World) (a : Option Addr) (cap : Nat) (zs : List Int) (w : World) (x y z : Int) (k : Nat) (bad : Bool) : Prop where
  below : Below w0.heap.size w0 w
  size : w0.heap.size + 3 ≤ w.heap.size
  rr : RR w (w0.heap.size + 1) a cap zs k bad
  res : w.heap[w0.heap.size]? = some (.cells #[.int .i64 0, .int .i64 0, .int .i64 0] 61 (0, 0))
  so : w.heap[w0.heap.size + 1 + 1]? = some (.cells #[.int .i64 x, .int .i64 y, .int .i64 z] 61 (0, 0))
  old : ∀ x, a = some x → zs.length ≠ 0 → x.block < w0.heap.size
theorem OpSt.kept {w0 w w1 : World} {a : Option Addr} {cap : Nat} {zs : List Int} {x y z : Int} {k k' : Nat} {bad bad' : Bool} (h : OpSt w0 a cap zs w x y z k bad) (g : w.grownBy w1 (some (w0.heap.size + 1))) (r : RR w1 (w0.heap.size + 1) a cap zs k' bad') : OpSt w0 a cap zs w1 x y z k' bad' := by
  have hs := h.size
  have hg := g.size
  exact ⟨h.below.grown g h.below.size (fun k hk => by cases hk; omega), by omega, r, heap_kept g (by omega) (by omega) h.res, heap_kept g (by omega) (by omega) h.so, h.old⟩
theorem OpSt.put {w0 w : World} {a : Option Addr} {cap : Nat} {zs : List Int} {x y z : Int} {k : Nat} {bad : Bool} (h : OpSt w0 a cap zs w x y z k bad) (i : Nat) (v x' y' z' : Int) (e : (#[.int .i64 x, .int .i64 y, .int .i64 z] : Array Value).setIfInBounds i (.int .i64 v) = #[.int .i64 x', .int .i64 y', .int .i64 z']) :
    OpSt w0 a cap zs (w.setCell ⟨w0.heap.size + 1 + 1, i, none⟩ (.int .i64 v)) x' y' z' k bad := by
  have hs := h.size
  refine ⟨h.below.grown (grown_setCell w ⟨w0.heap.size + 1 + 1, i, none⟩ (.int .i64 v)) h.below.size (fun k hk => by cases hk; simp only; omega), by simp; omega, h.rr.other _ _ _ (by omega) (fun x hx hn => by have := h.old x hx hn; omega), ?_, ?_, h.old⟩
  · rw [heap_setCell_other _ _ _ _ (by simp only; omega)]
    exact h.res
  · rw [← e]
    exact heap_setCell_same _ _ _ _ _ _ h.so
theorem OpSt.drewN {w0 w : World} {a : Option Addr} {cap : Nat} {zs : List Int} {x y z : Int} {k : Nat} {bad : Bool} (h : OpSt w0 a cap zs w x y z k bad) (m : Nat) : OpSt w0 a cap zs (w.drewN m) x y z k bad := h.kept (grown_drewN w m _) (h.rr.drewN m)
theorem OpSt.cell {w0 w : World} {a : Option Addr} {cap : Nat} {zs : List Int} {x y z : Int} {k : Nat} {bad : Bool} (h : OpSt w0 a cap zs w x y z k bad) (i : Nat) (v : Value) (e : (#[.int .i64 x, .int .i64 y, .int .i64 z] : Array Value)[i]? = some v) : w.cell? ⟨w0.heap.size + 1 + 1, i, none⟩ = some v ∧ w.frozen? ⟨w0.heap.size + 1 + 1, i, none⟩ = false := by
  refine ⟨(cell_of_row _ _ _ _ _ _ h.so).trans e, ?_⟩
  unfold World.frozen?
  rw [h.so]
  rfl
theorem wsizeOp2 : (Try.prog.info? 61).map (·.size) = some 3 := by kernel_rfl

set_option maxRecDepth 100000 in
set_option maxHeartbeats 4000000 in
theorem refGetOp_any (w : World) (a : Option Addr) (n cap : Nat) (zs : List Int) (hr : Row w a n zs) (hc : n ≤ cap) (hc2 : cap ≤ 9223372036854775807) (h0 : a = none → cap = 0) :
    Calls Try.prog 27 #[.slice a n cap] w fun e w' => Below w.heap.size w w' ∧
      ((∃ x, cOp.whole zs = some x ∧ e = .returned (.tuple #[.agg (opCells x), .bool true])) ∨ (cOp.whole zs = none ∧ e = .returned (.tuple #[.agg (opCells (0, 0, 0)), .bool false]))) := by
  have hl := hr.len
  obtain ⟨wc, hwc⟩ : ∃ wc, wc = ((w.alloc (.cells #[.int .i64 0, .int .i64 0, .int .i64 0] 61)).alloc (.cells #[.slice a n cap, .int .i64 0, .bool false] 31)).alloc (.cells #[.int .i64 0, .int .i64 0, .int .i64 0] 61) := ⟨_, rfl⟩
  have hS0 : OpSt w a cap zs wc 0 0 0 0 false := by
    have b1 : Below w.heap.size w (w.alloc (.cells #[.int .i64 0, .int .i64 0, .int .i64 0] 61)) := (Below.refl _ _).alloc (Nat.le_refl _) _
    have r1 := rr_new0 _ a n cap zs 31 (hr.after b1) hc hc2 h0 (w.heap.size + 1) (by simp)
    have s1 : ((w.alloc (.cells #[.int .i64 0, .int .i64 0, .int .i64 0] 61)).alloc (.cells #[.slice a n cap, .int .i64 0, .bool false] 31)).heap.size = w.heap.size + 1 + 1 := by simp
    rw [hwc]
    refine ⟨(b1.alloc (by simp) _).alloc (by simp; omega) _, by simp, r1.same ((Below.refl _ _).alloc (Nat.le_refl _) _), ?_, ?_, fun x hx hn => hr.lt x hx (by omega)⟩
    · rw [alloc_old _ _ _ (by simp; omega), alloc_old _ _ _ (by simp)]
      exact heap_alloc_new _ _
    · have := heap_alloc_new ((w.alloc (.cells #[.int .i64 0, .int .i64 0, .int .i64 0] 61)).alloc (.cells #[.slice a n cap, .int .i64 0, .bool false] 31)) (.cells #[.int .i64 0, .int .i64 0, .int .i64 0] 61)
      rw [s1] at this
      exact this
  go_enter Try.func27, Try.ntmps27
  go_upto_region 3 with fail
  rw [← hwc]
  clear hwc
  have cN := rnumber_any _ _ _ _ _ _ _ hS0.rr
  go_cut [11] (fun v wx => ∃ x k bad, OpSt w a cap zs wx x 0 0 k bad ∧ ((bad = false ∧ cNum.get zs = some (x, zs.drop k)) ∨ (bad = true ∧ cOp.get zs = none)))
  case first =>
    go_wp2_with (go_at_call 14; refine cN.mono ?_; rintro e1 w1 ⟨g1, ⟨v1, k1, hb1, q1, l1, o1, rfl, r1⟩ | ⟨q1, rfl, k1, r1⟩⟩; all_goals have hs1 := OpSt.kept hS0 g1 r1; all_goals have hcl := hs1.cell 0 _ rfl; all_goals have hcl1 := hcl.1; all_goals have hcl2 := hcl.2; all_goals try unfold vInt)
    · go_meet
      have hs2 := hs1.put 0 v1 v1 0 0 rfl
      rw [List.drop_zero] at q1
      exact ⟨v1, k1, false, hs2, Or.inl ⟨rfl, q1⟩⟩
    · go_meet
      have hs2 := hs1.put 0 0 0 0 0 rfl
      rw [List.drop_zero] at q1
      have hn1 : cNum.get zs = none := by
        rcases q1 with q | q
        · cases q
        · exact q
      exact ⟨0, k1, true, hs2, Or.inr ⟨rfl, pair_none hn1⟩⟩
  case rest =>
  obtain ⟨x, k, bad, hS, hst⟩ := hcut
  go_upto_region 4 with fail
  have cN := rnumber_any _ _ _ _ _ _ _ hS.rr
  go_cut [14] (fun v wx => ∃ x y k1 k bad, OpSt w a cap zs wx x y 0 k bad ∧ ((bad = false ∧ cNum.get zs = some (x, zs.drop k1) ∧ cNum.get (zs.drop k1) = some (y, zs.drop k)) ∨ (bad = true ∧ cOp.get zs = none)))
  case first =>
    go_wp2_with (go_at_call 14; refine cN.mono ?_; rintro e1 w1 ⟨g1, ⟨v1, k1, hb1, q1, l1, o1, rfl, r1⟩ | ⟨q1, rfl, k1, r1⟩⟩; all_goals have hs1 := OpSt.kept hS g1 r1; all_goals have hcl := hs1.cell 1 _ rfl; all_goals have hcl1 := hcl.1; all_goals have hcl2 := hcl.2; all_goals try unfold vInt)
    · go_meet
      have hs2 := hs1.put 1 v1 x v1 0 rfl
      subst hb1
      have hq : cNum.get zs = some (x, zs.drop k) := by
        rcases hst with ⟨_, q⟩ | ⟨q, _⟩
        · exact q
        · cases q
      exact ⟨x, v1, k, k1, false, hs2, Or.inl ⟨rfl, hq, q1⟩⟩
    · go_meet
      have hs2 := hs1.put 1 0 x 0 0 rfl
      have hn1 : cOp.get zs = none := by
        rcases hst with ⟨e, q⟩ | ⟨_, q⟩
        · rcases q1 with q2 | q2
          · rw [e] at q2
            cases q2
          · exact pair_none2 q (pair_none q2)
        · exact q
      exact ⟨x, 0, k, k1, true, hs2, Or.inr ⟨rfl, hn1⟩⟩
  case rest =>
  obtain ⟨x, y, k0, k, bad, hS, hst⟩ := hcut
  go_upto_region 5 with fail
  have cN := rnumber_any _ _ _ _ _ _ _ hS.rr
  go_cut [17] (fun v wx => ∃ x y z k bad, OpSt w a cap zs wx x y z k bad ∧ ((bad = false ∧ cOp.get zs = some ((x, y, z), zs.drop k)) ∨ (bad = true ∧ cOp.get zs = none)))
  case first =>
    go_wp2_with (go_at_call 14; refine cN.mono ?_; rintro e1 w1 ⟨g1, ⟨v1, k1, hb1, q1, l1, o1, rfl, r1⟩ | ⟨q1, rfl, k1, r1⟩⟩; all_goals have hs1 := OpSt.kept hS g1 r1; all_goals have hcl := hs1.cell 2 _ rfl; all_goals have hcl1 := hcl.1; all_goals have hcl2 := hcl.2; all_goals try unfold vInt)
    · go_meet
      have hs2 := hs1.put 2 v1 x y v1 rfl
      subst hb1
      have hq1 : cNum.get zs = some (x, zs.drop k0) := by
        rcases hst with ⟨_, q, _⟩ | ⟨q, _⟩
        · exact q
        · cases q
      have hq2 : cNum.get (zs.drop k0) = some (y, zs.drop k) := by
        rcases hst with ⟨_, _, q⟩ | ⟨q, _⟩
        · exact q
        · cases q
      exact ⟨x, y, v1, k1, false, hs2, Or.inl ⟨rfl, pair_some hq1 (pair_some hq2 q1)⟩⟩
    · go_meet
      have hs2 := hs1.put 2 0 x y 0 rfl
      have hn1 : cOp.get zs = none := by
        rcases hst with ⟨e, qa, qb⟩ | ⟨_, q⟩
        · rcases q1 with q2 | q2
          · rw [e] at q2
            cases q2
          · exact pair_none2 qa (pair_none2 qb q2)
        · exact q
      exact ⟨x, y, 0, k1, true, hs2, Or.inr ⟨rfl, hn1⟩⟩
  case rest =>
  obtain ⟨x, y, z, k, bad, hS, hst⟩ := hcut
  have cWh := rwhole_any _ _ _ _ _ _ _ hS.rr
  have hkl := hS.rr.le
  rcases hst with ⟨rfl, q⟩ | ⟨rfl, q⟩
  · by_cases hend : k = zs.length
    · rw [decide_eq_true hend] at cWh
      go_wp2_with (first
        | (go_at_call 43; refine cWh.mono ?_; rintro e2 w2 ⟨rfl, m2, rfl⟩; have hs3 := hS.drewN m2)
        | (refine wpList_load_row rfl 61 (.tmp 5) rfl (w.heap.size + 1 + 1) rfl 61 #[.int .i64 x, .int .i64 y, .int .i64 z] (0, 0) _ hs3.so Try.underlying61 rfl wsizeOp2 ?_)
        | (refine wpList_store_row rfl 61 (.tmp 2) (.tmp 23) rfl w.heap.size #[.int .i64 x, .int .i64 y, .int .i64 z] rfl rfl 61 #[.int .i64 0, .int .i64 0, .int .i64 0] hs3.res wsizeOp2 rfl (by simp [Value.oneCell']) ?_))
      refine bodyPost_ret (results_cell_tmp Try.results27 _ _ w.heap.size #[.int .i64 x, .int .i64 y, .int .i64 z] rfl (run_loadVar_row _ _ _ _ _ (0, 0) _ (setRow_heap _ _ _ _ _ _ hs3.res) Try.underlying61 rfl wsizeOp2)) rfl ?_
      refine ⟨below_row hs3.below (Nat.le_refl _) _, Or.inl ⟨(x, y, z), ?_, rfl⟩⟩
      unfold Cod.whole
      rw [q]
      simp only [Option.bind_some, List.length_drop]
      rw [if_pos (by omega)]
    · rw [decide_eq_false hend] at cWh
      go_wp2_with (first
        | (go_at_call 43; refine cWh.mono ?_; rintro e2 w2 ⟨rfl, m2, rfl⟩; have hs3 := hS.drewN m2)
        | (refine wpList_store_row rfl 61 (.tmp 2) (.tmp 22) rfl w.heap.size #[.int .i64 0, .int .i64 0, .int .i64 0] rfl rfl 61 #[.int .i64 0, .int .i64 0, .int .i64 0] hs3.res wsizeOp2 rfl (by simp [Value.oneCell']) ?_))
      refine bodyPost_ret (results_cell_tmp Try.results27 _ _ w.heap.size #[.int .i64 0, .int .i64 0, .int .i64 0] rfl (run_loadVar_row _ _ _ _ _ (0, 0) _ (setRow_heap _ _ _ _ _ _ hs3.res) Try.underlying61 rfl wsizeOp2)) rfl ?_
      refine ⟨below_row hs3.below (Nat.le_refl _) _, Or.inr ⟨?_, rfl⟩⟩
      unfold Cod.whole
      rw [q]
      simp only [Option.bind_some, List.length_drop]
      rw [if_neg (by omega)]
  · go_wp2_with (first
      | (go_at_call 43; refine cWh.mono ?_; rintro e2 w2 ⟨rfl, m2, rfl⟩; have hs3 := hS.drewN m2)
      | (refine wpList_store_row rfl 61 (.tmp 2) (.tmp 22) rfl w.heap.size #[.int .i64 0, .int .i64 0, .int .i64 0] rfl rfl 61 #[.int .i64 0, .int .i64 0, .int .i64 0] hs3.res wsizeOp2 rfl (by simp [Value.oneCell']) ?_))
    refine bodyPost_ret (results_cell_tmp Try.results27 _ _ w.heap.size #[.int .i64 0, .int .i64 0, .int .i64 0] rfl (run_loadVar_row _ _ _ _ _ (0, 0) _ (setRow_heap _ _ _ _ _ _ hs3.res) Try.underlying61 rfl wsizeOp2)) rfl ?_
    refine ⟨below_row hs3.below (Nat.le_refl _) _, Or.inr ⟨?_, rfl⟩⟩
    unfold Cod.whole
    rw [q]
    rfl
end Go.Proofs.Ytgliglealchjjaa.Codec
