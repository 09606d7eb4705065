/-
  All: what is told of a heap, at most so many.
-/
import Derived.Test.YtpbmkflkggeggaaHeapOrder
namespace Go.Proofs.Ytpbmkflkggeggaa.Hp
set_option linter.unusedVariables false
set_option linter.unusedSimpArgs false
open Go Go.RowKit Go.Shelf Go.Proofs
attribute [local go_sem] Oper.semAt_some

def vL (x : Int × Int) : List Value := [.int .i64 x.1, .int .i64 x.2]
theorem vL_len (x : Int × Int) : (vL x).length = 2 := rfl
theorem infoV : (Try.prog.info? 27).map (fun i => (i.zero, i.size, i.bytes)) = some (some (.agg #[.int .i64 0, .int .i64 0]), 2, 16) := by kernel_rfl
theorem run_pushV {w : World} {B : Nat} {v : Value} {l : List (Int × Int)} (hown : w.ownsRow B 27 2 v l.length (rowL vL l)) (q : Nat) (x : Int × Int) (c0 : w.cell? ⟨q, 0, none⟩ = some (.int .i64 x.1)) (c1 : w.cell? ⟨q, 1, none⟩ = some (.int .i64 x.2))
    (hm : l.length ≤ 1000000) (hB : B ≤ w.heap.size) (ty : TypeId) :
    ∃ v' w', (Builtin.append_ #[30, 30] ty #[v, .slice (some ⟨q, 0, none⟩) 1 1]).run Try.prog w = .ok v' w' ∧ w'.ownsRow B 27 2 v' (l ++ [x]).length (rowL vL (l ++ [x])) ∧ w.grownBy w' v.ownBlock ∧ (v'.ownBlock = v.ownBlock ∨ v'.ownBlock = some w.heap.size) := by
  obtain ⟨i0, hi, hz0, hz1, hz2⟩ := info_parts infoV
  obtain ⟨v', w', hrun, hown', hgrow, _, hat⟩ := run_append_own_at (P := Try.prog) w B 30 ty 27 i0 _ 2 16 Try.underlying30 hi hz0 hz1 hz2 rfl (by decide) v l.length _ hown ⟨q, 0, none⟩ 1 1 (vL x) (by rfl) (fun j u hj => by
      match j with
      | 0 => cases hj; exact c0
      | 1 => cases hj; exact c1
      | j + 2 => simp [vL] at hj) (fun u hu => by
      simp [vL] at hu
      rcases hu with rfl | rfl <;> rfl) (by unfold maxLen; omega) (by omega) hB
  exact ⟨v', w', hrun, by rw [List.length_append, rowL_append]; exact hown', hgrow, hat⟩
theorem wpList_pushV {w : World} {ops : Array Oper} {rest : List Oper} {o : Oper} {a : Act} {Q : Exit → Act → World → Prop} (hgd : o.guard = none) (s y : Operand)
    (ho : o.op = .call { callee := .builtin .append, args := #[s, y], argTypes := #[30, 30] }) (B : Nat) (v : Value) (l : List (Int × Int)) (hs : a.eval s = v) (hown : w.ownsRow B 27 2 v l.length (rowL vL l)) (q : Nat) (x : Int × Int) (hy : a.eval y = .slice (some ⟨q, 0, none⟩) 1 1)
    (c0 : w.cell? ⟨q, 0, none⟩ = some (.int .i64 x.1)) (c1 : w.cell? ⟨q, 1, none⟩ = some (.int .i64 x.2)) (hm : l.length ≤ 1000000) (hB : B ≤ w.heap.size)
    (h : ∀ v' w', w'.ownsRow B 27 2 v' (l ++ [x]).length (rowL vL (l ++ [x])) → w.grownBy w' v.ownBlock → (v'.ownBlock = v.ownBlock ∨ v'.ownBlock = some w.heap.size) → wpList Try.prog ops Q rest (a.put o.dst v') w') : wpList Try.prog ops Q (o :: rest) a w :=
  wpList_plain hgd fun _ hK => by
    obtain ⟨v', w', hrun, h2, h3, h4⟩ := run_pushV hown q x c0 c1 hm hB o.type
    unfold Oper.wp execOp
    simp only [ho, resolve, invoke, builtin, Sem.run_bind, Sem.run_pure, Result.andThen_ok, List.map_toArray, List.map_cons, List.map_nil, hs, hy, hrun]
    exact hK _ _ (h v' w' h2 h3 h4)
/- The row of a box that holds a slice. -/
def CmL (lb : Nat) (V : World) (k : Nat) : Prop := ∃ x, V.cell? ⟨lb, 0, none⟩ = some x ∧ x.ownBlock = some k
/- What was told so far: a box with a slice of its own. -/
structure Tell (B lb : Nat) (xs : List (Int × Int)) (V : World) : Prop where
  low : B ≤ lb
  box : ∃ x, Boxed V lb 30 x ∧ V.ownsRow B 27 2 x xs.length (rowL vL xs) ∧ x.ownBlock ≠ some lb
/- What telling one more turns. -/
structure Told (lb : Nat) (V V' : World) : Prop where
  os : V'.os = V.os
  tape : V'.tape = V.tape
  output : V'.output = V.output
  size : V.heap.size ≤ V'.heap.size
  block : ∀ k, k < V.heap.size → k ≠ lb → ¬ CmL lb V k → V'.heap[k]? = V.heap[k]?
  foot : ∀ k, CmL lb V' k → CmL lb V k ∨ V.heap.size ≤ k
theorem Tell.foot {B lb : Nat} {xs : List (Int × Int)} {V : World} (h : Tell B lb xs V) {k : Nat} (hk : CmL lb V k) : B ≤ k ∧ k < V.heap.size ∧ k ≠ lb ∧ ∃ ob, V.heap[k]? = some ob ∧ ob.isCells = true := by
  obtain ⟨x, b1, b2, b3⟩ := h.box
  obtain ⟨x', c1, c2⟩ := hk
  rw [b1.cell] at c1
  cases c1
  exact ⟨(own_since b2 k c2).1, (own_since b2 k c2).2, fun e => b3 (by rw [c2, e]), row_at b2 c2⟩
set_option maxHeartbeats 1000000 in
theorem tell_any (B lb mb : Nat) (xs : List (Int × Int)) (most k n : Int) (W : World) (h : Tell B lb xs W) (hmb : Boxed W mb 3 (.int .i64 most)) (hne : mb ≠ lb) (hnc : ¬ CmL lb W mb) (hm : xs.length ≤ 100000) :
    Calls Try.prog 41 #[.agg #[.int .i64 k, .int .i64 n], .pointer (some ⟨lb, 0, none⟩), .pointer (some ⟨mb, 0, none⟩)] W fun e W' => e = .returned (.bool (decide ((xs.length : Int) + 1 < most))) ∧ Tell B lb (xs ++ [(k, n)]) W' ∧ Told lb W W' := by
  obtain ⟨x, b1, b2, b3⟩ := h.box
  have hlow := h.low
  obtain ⟨A, hA⟩ : ∃ A, (W.alloc (.cells #[.int .i64 k, .int .i64 n] 27)).alloc (.cells #[.int .i64 k, .int .i64 n] 27) = A := ⟨_, rfl⟩
  have bA : Below W.heap.size W A := by rw [← hA]; exact ((Below.refl _ _).alloc (Nat.le_refl _) _).alloc (by simp) _
  have a0 : A.cell? ⟨W.heap.size + 1, 0, none⟩ = some (.int .i64 k) := by rw [← hA]; simp
  have a1 : A.cell? ⟨W.heap.size + 1, 1, none⟩ = some (.int .i64 n) := by rw [← hA]; simp
  have hrow := owns_go b2 bA
  have lbl := b1.lt
  have mbl := hmb.lt
  have l1 := (bA.block _ lbl).trans b1
  have m1 := (bA.block _ mbl).trans hmb
  have lc := b1.cell
  obtain ⟨xa, xc, rfl, _⟩ := own_form b2
  have hC : ∀ j, CmL lb W j ↔ (Value.slice xa xs.length xc).ownBlock = some j := fun j => ⟨fun ⟨y, y1, y2⟩ => by rw [b1.cell] at y1; cases y1; exact y2, fun q => ⟨_, b1.cell, q⟩⟩
  have hmo : (Value.slice xa xs.length xc).ownBlock ≠ some mb := fun e => hnc ((hC mb).2 e)
  have HW : Hid (A = (W.alloc (.cells #[.int .i64 k, .int .i64 n] 27)).alloc (.cells #[.int .i64 k, .int .i64 n] 27)) := hA.symm
  go_enter Try.func41, Try.ntmps41
  go_wp2_with (at_builtin; refine wpList_pushV rfl (.tmp 5) (.tmp 7) rfl B (.slice xa xs.length xc) xs rfl hrow (W.heap.size + 1) (k, n) rfl a0 a1 (by omega) (by have := bA.size; omega) ?_; intro v2 w2 o2 g2 z2; rw [show (xs ++ [(k, n)]).length = xs.length + 1 by simp] at o2; obtain ⟨va2, vc2, rfl, _⟩ := own_form o2; have l2 : Boxed w2 lb 30 (.slice xa xs.length xc) := (g2.block lb (by have := bA.size; omega) (fun e => b3 e.symm)).trans l1; have m2 : Boxed w2 mb 3 (.int .i64 most) := (g2.block mb (by have := bA.size; omega) (fun e => hmo e.symm)).trans m1; have l2c := l2.cell; have l2f := l2.frozen; have m2c := m2.cell; have l2l := l2.lt)
  go_ret
  have l3 := l2.set (.slice va2 (xs.length + 1) vc2)
  have ap : (Value.slice va2 (xs.length + 1) vc2).ownBlock ≠ some lb := fun e => by
    rcases z2 with q | q
    · exact b3 (by rw [← q]; exact e)
    · rw [q] at e; have := Option.some.inj e; have := bA.size; omega
  refine ⟨ret_bool rfl, ⟨hlow, _, l3, ?_, ap⟩, ⟨?_, ?_, ?_, ?_, fun j hj hl hc => ?_, fun j hj => ?_⟩⟩
  · rw [show (xs ++ [(k, n)]).length = xs.length + 1 by simp]
    exact owns_same o2 fun j hj => Below.heap_setCell _ _ _ j (fun e => ap (by rw [hj]; exact congrArg some e))
  · exact g2.os.trans bA.os
  · exact g2.tape.trans bA.tape
  · exact g2.output.trans bA.output
  · have := bA.size; have := g2.size; simp only [World.setCell, Array.size_modify]; omega
  · refine (Below.heap_setCell _ _ _ j hl).trans ((g2.block j (by have := bA.size; omega) (fun e => hc ((hC j).2 e.symm))).trans (bA.block j hj))
  · obtain ⟨y, y1, y2⟩ := hj
    rw [l3.cell] at y1
    cases y1
    rcases z2 with q | q
    · exact Or.inl ((hC j).2 (by rw [← q]; exact y2))
    · rw [q] at y2
      have := Option.some.inj y2
      have := bA.size
      exact Or.inr (by omega)
end Go.Proofs.Ytpbmkflkggeggaa.Hp
