/-
  What an iterator of moves tells, gathered: at most so many.
-/
import Derived.Test.YtnaojlngdfolaaaGridMoves
namespace Go.Proofs.Ytnaojlngdfolaaa.Grid
set_option linter.unusedVariables false
set_option linter.unusedSimpArgs false
open Go Go.RowKit Go.Shelf Go.Proofs

def moveL (m : Move) : List Value := [.int .i64 m.1, .int .i64 m.2.1, .int .i64 m.2.2.1, .int .i64 m.2.2.2.1.1.1, .int .i64 m.2.2.2.1.1.2, .bool m.2.2.2.1.2, .int .i64 m.2.2.2.2.1.1.1, .int .i64 m.2.2.2.2.1.1.2, .bool m.2.2.2.2.1.2, .int .i64 m.2.2.2.2.2.1, .int .i64 m.2.2.2.2.2.2]
theorem infoMove : (Try.prog.info? 56).map (fun i => (i.zero, i.size, i.bytes)) = some (some (.agg #[.int .i64 0, .int .i64 0, .int .i64 0, .int .i64 0, .int .i64 0, .bool false, .int .i64 0, .int .i64 0, .bool false, .int .i64 0, .int .i64 0]), 11, 88) := by kernel_rfl
theorem kindMove : Kind moveL 44 56 11 88 :=
  ⟨fun _ => rfl, fun x u hu => by simp [moveL] at hu; rcases hu with rfl | rfl | rfl | rfl | rfl | rfl | rfl | rfl | rfl | rfl | rfl <;> rfl, Try.underlying44, by decide, by obtain ⟨i0, hi, hz0, hz1, hz2⟩ := info_parts infoMove; exact ⟨i0, _, hi, hz0, hz1, hz2, rfl⟩⟩
/- One item, in a block of its own. -/
theorem list_one {α : Type} {f : α → List Value} {S : Nat} (w : World) (x : α) (t : TypeId) (hf : (f x).length = S) : ListAt S (ElL f) (fun b => b = w.heap.size) [x] (.slice (some ⟨w.heap.size, 0, none⟩) 1 1) (w.alloc (.cells (f x).toArray t)) := by
  refine ⟨some ⟨w.heap.size, 0, none⟩, 1, [(x, (f x).toArray)], rfl, rfl, fun y hy => ?_, fun i hi => ⟨_, rfl, rfl, fun j u hj => ?_⟩, fun h => by cases h⟩
  · rw [List.mem_singleton.1 hy]; rfl
  · simp only [List.length_cons, List.length_nil] at hi
    obtain rfl : i = 0 := by omega
    rw [Addr.add_lit, Nat.zero_mul, Nat.zero_add, Nat.zero_add, new_cell]
    simpa using hj
/- Moves that are gathered in a variable; the greatest number in another one. -/
structure Gath (w : World) (N0 Bl Bm : Nat) (most : Int) (pre : List Move) (v : Value) : Prop where
  box : w.heap[Bl]? = some (.cells #[v] 44 (0, 0))
  most : w.heap[Bm]? = some (.cells #[.int .i64 most] 3 (0, 0))
  own : w.ownsRow N0 56 11 v pre.length (rowL moveL pre)
theorem Gath.go {w w' : World} {N0 Bl Bm : Nat} {most : Int} {pre : List Move} {v : Value} (h : Gath w N0 Bl Bm most pre v) (hb : Below w.heap.size w w') : Gath w' N0 Bl Bm most pre v :=
  ⟨(hb.block _ (lt_of_heap h.box)).trans h.box, (hb.block _ (lt_of_heap h.most)).trans h.most, owns_go h.own hb⟩
/- Below N0 nothing has turned but block Bl. -/
structure FrN (N0 Bl : Nat) (w w' : World) : Prop where
  os : w'.os = w.os
  tape : w'.tape = w.tape
  output : w'.output = w.output
  size : w.heap.size ≤ w'.heap.size
  block : ∀ k, k < N0 → k ≠ Bl → w'.heap[k]? = w.heap[k]?
theorem FrN.refl (N0 Bl : Nat) (w : World) : FrN N0 Bl w w := ⟨rfl, rfl, rfl, Nat.le_refl _, fun _ _ _ => rfl⟩
theorem FrN.trans {N0 Bl : Nat} {w w1 w2 : World} (h : FrN N0 Bl w w1) (k : FrN N0 Bl w1 w2) : FrN N0 Bl w w2 :=
  ⟨k.os.trans h.os, k.tape.trans h.tape, k.output.trans h.output, Nat.le_trans h.size k.size, fun j hj hn => (k.block j hj hn).trans (h.block j hj hn)⟩
theorem FrN.below {N0 Bl : Nat} {w w' : World} (h : Below w.heap.size w w') (hN : N0 ≤ w.heap.size) : FrN N0 Bl w w' := ⟨h.os, h.tape, h.output, h.size, fun k hk _ => h.block k (by omega)⟩
set_option maxRecDepth 100000 in
set_option maxHeartbeats 2000000 in
theorem gather_any (m : Move) (N0 Bl Bm : Nat) (most : Int) (pre : List Move) (v : Value) (w : World) (h : Gath w N0 Bl Bm most pre v) (hBl : Bl < N0) (hBm : Bm < N0) (hN : N0 ≤ w.heap.size) (hne : Bm ≠ Bl) (hl : pre.length ≤ 1000) :
    Calls Try.prog 86 #[.agg (moveCs m), .pointer (some ⟨Bl, 0, none⟩), .pointer (some ⟨Bm, 0, none⟩)] w fun e w' => e = .returned (.bool (decide ((pre.length : Int) + 1 < most))) ∧ ∃ v', Gath w' N0 Bl Bm most (pre ++ [m]) v' ∧ FrN N0 Bl w w' := by
  obtain ⟨kd, dir, n, ⟨⟨fx, fy⟩, fd⟩, ⟨⟨tx, ty⟩, td⟩, ma, me⟩ := m
  unfold moveCs
  simp only
  obtain ⟨a, cap, rfl, hf0, hf1, hf2⟩ := own_form h.own
  have c0 : w.cell? ⟨Bl, 0, none⟩ = some (.slice a pre.length cap) := cell_of h.box 0
  obtain ⟨k, hk⟩ : ∃ k, pre.length = k := ⟨_, rfl⟩
  have HK : Hid (pre.length = k) := hk
  have hB2 : Below w.heap.size w ((w.alloc (.cells #[.int .i64 kd, .int .i64 dir, .int .i64 n, .int .i64 fx, .int .i64 fy, .bool fd, .int .i64 tx, .int .i64 ty, .bool td, .int .i64 ma, .int .i64 me] 56)).alloc (.cells #[.int .i64 kd, .int .i64 dir, .int .i64 n, .int .i64 fx, .int .i64 fy, .bool fd, .int .i64 tx, .int .i64 ty, .bool td, .int .i64 ma, .int .i64 me] 56)) := below_two _ _ _
  have own2 := owns_go h.own hB2
  have hl1 := list_one (f := moveL) (S := 11) (w.alloc (.cells #[.int .i64 kd, .int .i64 dir, .int .i64 n, .int .i64 fx, .int .i64 fy, .bool fd, .int .i64 tx, .int .i64 ty, .bool td, .int .i64 ma, .int .i64 me] 56)) (kd, dir, n, ((fx, fy), fd), ((tx, ty), td), ma, me) 56 rfl
  have s1 : (w.alloc (.cells #[.int .i64 kd, .int .i64 dir, .int .i64 n, .int .i64 fx, .int .i64 fy, .bool fd, .int .i64 tx, .int .i64 ty, .bool td, .int .i64 ma, .int .i64 me] 56)).heap.size = w.heap.size + 1 := by simp
  have s2 : ((w.alloc (.cells #[.int .i64 kd, .int .i64 dir, .int .i64 n, .int .i64 fx, .int .i64 fy, .bool fd, .int .i64 tx, .int .i64 ty, .bool td, .int .i64 ma, .int .i64 me] 56)).alloc (.cells #[.int .i64 kd, .int .i64 dir, .int .i64 n, .int .i64 fx, .int .i64 fy, .bool fd, .int .i64 tx, .int .i64 ty, .bool td, .int .i64 ma, .int .i64 me] 56)).heap.size = w.heap.size + 2 := by simp
  rw [s1] at hl1
  rw [hk] at c0 hl ⊢
  have HB : Hid (w.heap[Bl]? = some (.cells #[.slice a pre.length cap] 44 (0, 0)) ∧ w.heap[Bm]? = some (.cells #[.int .i64 most] 3 (0, 0))) := ⟨h.box, h.most⟩
  have HS : Hid (∀ j, (Value.slice a pre.length cap).ownBlock = some j → N0 ≤ j) := fun j hj => (own_since h.own j hj).1
  rw [hk] at HB HS
  clear hk h hf0 hf1 hf2
  have hBl' : Bl < w.heap.size := by omega
  have hBm' : Bm < w.heap.size := by omega
  go_enter Try.func86, Try.ntmps86
  go_wp2_with (first
    | (at_builtin; (refine wpList_app kindMove rfl (.tmp 5) (.tmp 7) rfl N0 (.slice a k cap) pre rfl (by rw [HK.out] at own2 ⊢; exact own2) _ _ [(kd, dir, n, ((fx, fy), fd), ((tx, ty), td), ma, me)] rfl hl1 (by rw [HK.out]; simp; omega) (by rw [HK.out]; unfold maxLen; simp; omega) (by omega) ?_; intro v4 w4 own4 gr4 at4; have L1 := (gr4.block Bl (by omega) (fun e => by have := HS.out Bl e.symm; omega)).trans ((hB2.block Bl (by omega)).trans HB.out.1); have L2 := (gr4.block Bm (by omega) (fun e => by have := HS.out Bm e.symm; omega)).trans ((hB2.block Bm (by omega)).trans HB.out.2); obtain ⟨a4, cap4, hv4, _⟩ := own_form own4; subst hv4; have d0 : w4.cell? ⟨Bl, 0, none⟩ = some (.slice a k cap) := cell_of L1 0; have z0 := frozen_of L1 0; have d1 : w4.cell? ⟨Bm, 0, none⟩ = some (.int .i64 most) := cell_of L2 0; clear hl1 own2)))
  go_ret
  have e : (pre ++ [((kd, dir, n, ((fx, fy), fd), ((tx, ty), td), ma, me) : Move)]).length = pre.length + 1 := by simp
  rw [e] at own4
  refine ⟨ret_bool (by rw [HK.out]), _, ⟨(heap_setCell_same _ _ _ _ _ _ L1).trans rfl, (heap_setCell_other _ _ _ _ hne).trans L2, ?_⟩, ⟨gr4.os.trans hB2.os, gr4.tape.trans hB2.tape, gr4.output.trans hB2.output, ?_, fun j hj hn => ?_⟩⟩
  · rw [e]
    exact owns_same own4 fun j hj => heap_setCell_other _ _ _ _ (by have := (own_since own4 j hj).1; simp only; omega)
  · have := gr4.size
    simp at this ⊢
    omega
  · exact (heap_setCell_other _ _ _ _ hn).trans ((gr4.block j (by omega) (fun e => by have := HS.out j e.symm; omega)).trans (hB2.block j (by omega)))
theorem take_of_pre {α : Type} {p l : List α} (h : p <+: l) : p = l.take p.length := by
  obtain ⟨r, rfl⟩ := h
  simp
theorem eql_func (u : World) (p q : Value) : (binOp .eql 39 (.func (.func 79) #[] #[p, q]) .nilFunc).run Try.prog u = .ok (.bool false) u := by kernel_rfl
set_option maxRecDepth 100000 in
set_option maxHeartbeats 2000000 in
/- Moves, at most so many. -/
theorem lawMoves_any (g u : Nat) (W H : Int) (us : List Int) (vp : Value) (Bg Bp : Nat) (x y : Int) (d : Bool) (most : Int) (h1 : 1 ≤ most) (h2 : most ≤ 1000) (w : World) (hC : Ctx w g u W H us vp Bg Bp ((x, y), d)) :
    Calls Try.prog 25 #[.func (.func 79) #[] #[.pointer (some ⟨Bg, 0, none⟩), .pointer (some ⟨Bp, 0, none⟩)], .int .i64 most] w fun e w' => ∃ v, e = .returned v ∧ w'.ownsRow w.heap.size 56 11 v ((movesP W H us ((x, y), d)).take most.toNat).length (rowL moveL ((movesP W H us ((x, y), d)).take most.toNat)) ∧ Below w.heap.size w w' := by
  have eF := eql_func
  have bN : Below w.heap.size w ((w.alloc (.cells #[.int .i64 most] 3)).alloc (.cells #[.slice none 0 0] 44)) := below_two _ _ _
  have sN : ((w.alloc (.cells #[.int .i64 most] 3)).alloc (.cells #[.slice none 0 0] 44)).heap.size = w.heap.size + 2 := by simp
  have mB : ((w.alloc (.cells #[.int .i64 most] 3)).alloc (.cells #[.slice none 0 0] 44)).heap[w.heap.size]? = some (.cells #[.int .i64 most] 3 (0, 0)) := (alloc_old _ _ _ (by simp)).trans (heap_alloc_new w _)
  have mL : ((w.alloc (.cells #[.int .i64 most] 3)).alloc (.cells #[.slice none 0 0] 44)).heap[w.heap.size + 1]? = some (.cells #[.slice none 0 0] 44 (0, 0)) := heap_new2 _ _ _
  have hCN := hC.go bN
  have lg := hC.grid.ltg
  have lu := hC.grid.ltu
  have lbg := lt_of_heap hC.bg
  have lbp := lt_of_heap hC.bp
  have cM := moves1_any g u W H us vp Bg Bp x y d 86 #[.pointer (some ⟨w.heap.size + 1, 0, none⟩), .pointer (some ⟨w.heap.size, 0, none⟩)]
    (fun pre wx => ∃ v, Gath wx (w.heap.size + 2) (w.heap.size + 1) w.heap.size most pre v ∧ FrN (w.heap.size + 2) (w.heap.size + 1) ((w.alloc (.cells #[.int .i64 most] 3)).alloc (.cells #[.slice none 0 0] 44)) wx ∧ (pre.length : Int) < most)
    (fun pre wx => ∃ v, Gath wx (w.heap.size + 2) (w.heap.size + 1) w.heap.size most pre v ∧ FrN (w.heap.size + 2) (w.heap.size + 1) ((w.alloc (.cells #[.int .i64 most] 3)).alloc (.cells #[.slice none 0 0] 44)) wx ∧ (pre.length : Int) = most)
    ((w.alloc (.cells #[.int .i64 most] 3)).alloc (.cells #[.slice none 0 0] 44))
    (fun pre w1 w2 ⟨v, q1, q2, q3⟩ hb => ⟨v, q1.go hb, q2.trans (FrN.below hb (by have := q2.size; omega)), q3⟩)
    (fun pre w1 ⟨v, q1, q2, q3⟩ => ⟨hCN.grid.same (q2.block _ (by omega) (by omega)) (q2.block _ (by omega) (by omega)), (q2.block _ (by omega) (by omega)).trans hCN.bg, (q2.block _ (by omega) (by omega)).trans hCN.bp⟩)
    (enters_of Try.func86 (by kernel_rfl) rfl)
    (fun pre m w1 ⟨v, q1, q2, q3⟩ _ => by
      refine (gather_any m (w.heap.size + 2) (w.heap.size + 1) w.heap.size most pre v w1 q1 (by omega) (by omega) (by have := q2.size; omega) (by omega) (by omega)).mono ?_
      rintro e w2 ⟨rfl, v', q4, q5⟩
      by_cases hq : (pre.length : Int) + 1 < most
      · exact Or.inl ⟨by rw [decide_eq_true hq], v', q4, q2.trans q5, by rw [List.length_append]; simp; exact hq⟩
      · exact Or.inr ⟨by rw [decide_eq_false hq], v', q4, q2.trans q5, by rw [List.length_append]; simp; omega⟩)
    ⟨.slice none 0 0, ⟨mL, mB, World.ownsRow_nil _ _ _ _⟩, FrN.refl _ _ _, by simp; omega⟩
  have HB : Hid (∀ wx, FrN (w.heap.size + 2) (w.heap.size + 1) ((w.alloc (.cells #[.int .i64 most] 3)).alloc (.cells #[.slice none 0 0] 44)) wx → Below w.heap.size w wx) := fun wx f => ⟨f.os.trans bN.os, f.tape.trans bN.tape, f.output.trans bN.output, Nat.le_trans bN.size f.size, fun k hk => (f.block k (by omega) (by omega)).trans (bN.block k hk)⟩
  have HT : Hid (∀ pre, pre <+: movesP W H us ((x, y), d) → (pre.length : Int) = most → pre = (movesP W H us ((x, y), d)).take most.toNat) := fun pre hp hl => by
    have := take_of_pre hp
    rwa [show pre.length = most.toNat by omega] at this
  have HA : Hid (∀ l : List Move, (l.length : Int) < most → l = l.take most.toNat) := fun l hl => by rw [List.take_of_length_le (by omega)]
  have cM2 := cM.mono (R' := fun e w' => e = .returned (.tuple #[]) ∧ ∃ v, w'.cell? ⟨w.heap.size + 1, 0, none⟩ = some v ∧ w'.ownsRow w.heap.size 56 11 v ((movesP W H us ((x, y), d)).take most.toNat).length (rowL moveL ((movesP W H us ((x, y), d)).take most.toNat)) ∧ Below w.heap.size w w') (by
    rintro e w3 ⟨rfl, ⟨v, q1, q2, q3⟩ | ⟨pre, hp, v, q1, q2, q3⟩⟩
    · refine ⟨rfl, v, cell_of q1.box 0, ?_, HB.out _ q2⟩
      rw [← HA.out _ q3]
      exact owns_base (by omega) q1.own
    · refine ⟨rfl, v, cell_of q1.box 0, ?_, HB.out _ q2⟩
      rw [← HT.out _ hp q3]
      exact owns_base (by omega) q1.own)
  clear cM HB HT HA hCN mB mL bN sN
  generalize (movesP W H us ((x, y), d)).take most.toNat = MP at *
  go_enter Try.func25, Try.ntmps25
  go_wp2_with (go_at_call 79; refine cM2.mono ?_; rintro e w3 ⟨rfl, v, c3, o3, b3⟩)
  go_ret
  exact ⟨v, rfl, o3, b3⟩
end Go.Proofs.Ytnaojlngdfolaaa.Grid
