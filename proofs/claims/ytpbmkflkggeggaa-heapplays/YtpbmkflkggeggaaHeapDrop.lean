/-
  What Drop's loop keeps: those that stay, how many went.
-/
import Derived.Test.YtpbmkflkggeggaaHeapSame
namespace Go.Proofs.Ytpbmkflkggeggaa.Hp
set_option linter.unusedVariables false
set_option linter.unusedSimpArgs false
open Go Go.RowKit Go.Shelf Go.Proofs
attribute [local go_sem] Oper.semAt_some

theorem wpList_pushI {w : World} {ops : Array Oper} {rest : List Oper} {o : Oper} {a : Act} {Q : Exit → Act → World → Prop} (hgd : o.guard = none) (s y : Operand)
    (ho : o.op = .call { callee := .builtin .append, args := #[s, y], argTypes := #[61, 61] }) (B : Nat) (v : Value) (l : List It) (hs : a.eval s = v) (hown : w.ownsRow B 65 3 v l.length (rowL itL l)) (q : Nat) (x : It) (hy : a.eval y = .slice (some ⟨q, 0, none⟩) 1 1)
    (c0 : w.cell? ⟨q, 0, none⟩ = some (.int .i64 x.k)) (c1 : w.cell? ⟨q, 1, none⟩ = some (.int .i64 x.n)) (c2 : w.cell? ⟨q, 2, none⟩ = some (.int .i64 (x.t : Nat))) (hm : l.length ≤ 1000000) (hB : B ≤ w.heap.size)
    (h : ∀ v' w', w'.ownsRow B 65 3 v' (l ++ [x]).length (rowL itL (l ++ [x])) → w.grownBy w' v.ownBlock → (v'.ownBlock = v.ownBlock ∨ v'.ownBlock = some w.heap.size) → wpList Try.prog ops Q rest (a.put o.dst v') w') : wpList Try.prog ops Q (o :: rest) a w :=
  wpList_plain hgd fun _ hK => by
    obtain ⟨v', w', hrun, h2, h3, h4⟩ := run_push hown q x c0 c1 c2 hm hB o.type
    unfold Oper.wp execOp
    simp only [ho, resolve, invoke, builtin, Sem.run_bind, Sem.run_pure, Result.andThen_ok, List.map_toArray, List.map_cons, List.map_nil, hs, hy, hrun]
    exact hK _ _ (h v' w' h2 h3 h4)
theorem wpListIn_pushI {F : Fence} {m : Nat} {w : World} {ops : Array Oper} {rest : List Oper} {o : Oper} {a : Act} {Q : Exit → Act → World → Prop} (hgd : o.guard = none) (s y : Operand)
    (ho : o.op = .call { callee := .builtin .append, args := #[s, y], argTypes := #[61, 61] }) (B : Nat) (v : Value) (l : List It) (hs : a.eval s = v) (hown : w.ownsRow B 65 3 v l.length (rowL itL l)) (q : Nat) (x : It) (hy : a.eval y = .slice (some ⟨q, 0, none⟩) 1 1)
    (c0 : w.cell? ⟨q, 0, none⟩ = some (.int .i64 x.k)) (c1 : w.cell? ⟨q, 1, none⟩ = some (.int .i64 x.n)) (c2 : w.cell? ⟨q, 2, none⟩ = some (.int .i64 (x.t : Nat))) (hm : l.length ≤ 1000000) (hB : B ≤ w.heap.size)
    (h : ∀ v' w', w'.ownsRow B 65 3 v' (l ++ [x]).length (rowL itL (l ++ [x])) → w.grownBy w' v.ownBlock → (v'.ownBlock = v.ownBlock ∨ v'.ownBlock = some w.heap.size) → wpListIn F m Try.prog ops Q rest (a.put o.dst v') w') : wpListIn F m Try.prog ops Q (o :: rest) a w :=
  wpListIn_plain hgd fun _ hK => by
    obtain ⟨v', w', hrun, h2, h3, h4⟩ := run_push hown q x c0 c1 c2 hm hB o.type
    unfold Oper.wpIn
    constructor
    · simp [Oper.about, ho, resolve, Target.leads, Sem.run_pure]
    · rw [Oper.semAt_plain _ _ _ (by rw [ho]; intro z hz; cases hz)]
      simp only [execOp, ho, resolve, invoke, builtin, Sem.run_bind, Sem.run_pure, Result.andThen_ok, List.map_toArray, List.map_cons, List.map_nil, hs, hy, hrun]
      exact hK _ _ (h v' w' h2 h3 h4)
/- Those that stay, how many go. -/
def stay (p : Int × Int → Bool) (l : List It) : List It := l.filter fun x => !p (vOf x)
def went (p : Int × Int → Bool) (l : List It) : Nat := l.countP fun x => p (vOf x)
theorem stay_yes {p : Int × Int → Bool} {l : List It} {x : It} (h : p (vOf x) = true) : stay p (l ++ [x]) = stay p l := by simp [stay, List.filter_append, h]
theorem stay_no {p : Int × Int → Bool} {l : List It} {x : It} (h : p (vOf x) = false) : stay p (l ++ [x]) = stay p l ++ [x] := by simp [stay, List.filter_append, h]
theorem went_yes {p : Int × Int → Bool} {l : List It} {x : It} (h : p (vOf x) = true) : went p (l ++ [x]) = went p l + 1 := by simp [went, List.countP_append, h]
theorem went_no {p : Int × Int → Bool} {l : List It} {x : It} (h : p (vOf x) = false) : went p (l ++ [x]) = went p l := by simp [went, List.countP_append, h]
theorem went_le (p : Int × Int → Bool) (l : List It) : went p l ≤ l.length := List.countP_le_length
theorem stay_le (p : Int × Int → Bool) (l : List It) : (stay p l).length ≤ l.length := List.length_filter_le _ _
structure Keep (p : Int × Int → Bool) (wv : Value) (w : World) (M : Nat) (pre : List It) (V : World) : Prop where
  kept : ∃ x, Boxed V (w.heap.size + 1) 61 x ∧ V.ownsRow w.heap.size 65 3 x (stay p pre).length (rowL itL (stay p pre))
  gone : Boxed V (w.heap.size + 2) 3 (.int .i64 (went p pre : Nat))
  which : Boxed V w.heap.size 43 wv
  below : Below w.heap.size w V
  rows : ∀ k, CmL (w.heap.size + 1) V k → w.heap.size + 4 ≤ k
  low : w.heap.size + 4 ≤ V.heap.size
  few : pre.length ≤ M
theorem Keep.foot {p : Int × Int → Bool} {wv : Value} {w : World} {M : Nat} {pre : List It} {V : World} (h : Keep p wv w M pre V) {k : Nat} (hk : CmL (w.heap.size + 1) V k) : k < V.heap.size ∧ ∃ ob, V.heap[k]? = some ob ∧ ob.isCells = true := by
  obtain ⟨x, b1, b2⟩ := h.kept
  obtain ⟨x', c1, c2⟩ := hk
  rw [b1.cell] at c1
  cases c1
  exact ⟨(own_since b2 k c2).2, row_at b2 c2⟩
theorem Keep.same {p : Int × Int → Bool} {wv : Value} {w : World} {M : Nat} {pre : List It} {V V' : World} (h : Keep p wv w M pre V) (sm : ∀ k, k < w.heap.size + 4 → V'.heap[k]? = V.heap[k]?) (cs : ∀ k, CmL (w.heap.size + 1) V k → V'.heap[k]? = V.heap[k]?) (os : V'.os = V.os) (tp : V'.tape = V.tape) (ou : V'.output = V.output) (sz : V.heap.size ≤ V'.heap.size) : Keep p wv w M pre V' := by
  obtain ⟨x, b1, b2⟩ := h.kept
  exact ⟨⟨x, (sm _ (by omega)).trans b1, owns_same b2 fun k hk => cs k ⟨x, b1.cell, hk⟩⟩, (sm _ (by omega)).trans h.gone, (sm _ (by omega)).trans h.which, ⟨os.trans h.below.os, tp.trans h.below.tape, ou.trans h.below.output, Nat.le_trans h.below.size sz, fun k hk => (sm k (by omega)).trans (h.below.block k hk)⟩, fun k hk => h.rows k (cm_same (sm _ (by omega)) hk), Nat.le_trans h.low sz, h.few⟩
theorem Keep.btw {p : Int × Int → Bool} {wv : Value} {w : World} {M : Nat} {pre : List It} {V V' : World} (h : Keep p wv w M pre V) (q : Btw (CmL (w.heap.size + 1)) (w.heap.size + 4) V V') : Keep p wv w M pre V' :=
  h.same (fun k hk => q.block k (by have := q.low; omega) (Or.inl hk)) (fun k hk => q.block k (h.foot hk).1 (Or.inr hk)) q.os q.tape q.output q.others.size
theorem Keep.put {p : Int × Int → Bool} {wv : Value} {w : World} {M : Nat} {pre : List It} {V : World} {l : Nat} {o : Obj} (o' : Obj) (h : Keep p wv w M pre V) (hl : w.heap.size + 4 ≤ l) (ho : V.heap[l]? = some o) (hc : o.isCells = false) : Keep p wv w M pre (V.putObj l o') := by
  have g := grownBy_putObj' V l o'
  refine h.same (fun k hk => World.putObj_heap_other (by omega)) (fun k hk => World.putObj_heap_other (fun e => ?_)) g.os g.tape g.output g.size
  obtain ⟨ob, h1, h2⟩ := (h.foot hk).2
  subst e
  rw [h1] at ho
  exact not_cells h2 hc (Option.some.inj ho)
/- A round: what it turns of the boxes and of the row of those that stay. -/
theorem keep_round {w : World} {W W' : World} (hlow : w.heap.size + 4 ≤ W.heap.size) (hrows : ∀ k, CmL (w.heap.size + 1) W k → ∃ ob, W.heap[k]? = some ob ∧ ob.isCells = true) (sz : W.heap.size ≤ W'.heap.size) (hb1 : ∃ ob, W.heap[w.heap.size + 1]? = some ob ∧ ob.isCells = true) (hb2 : ∃ ob, W.heap[w.heap.size + 2]? = some ob ∧ ob.isCells = true)
    (bl : ∀ k, k < W.heap.size → k ≠ w.heap.size + 1 → k ≠ w.heap.size + 2 → ¬ CmL (w.heap.size + 1) W k → W'.heap[k]? = W.heap[k]?) (ft : ∀ k, CmL (w.heap.size + 1) W' k → CmL (w.heap.size + 1) W k ∨ W.heap.size ≤ k) :
    KeepsOthers W W' ∧ Rnd (CmL (w.heap.size + 1)) (w.heap.size + 4) W W' := by
  refine ⟨⟨sz, fun k o hk hc => (bl k (lt_some hk) (fun e => ?_) (fun e => ?_) (fun z => ?_)).trans hk⟩, ⟨sz, fun k o hk hc hN hc' => (bl k (lt_some hk) (by omega) (by omega) hc').trans hk, ft⟩⟩
  · obtain ⟨ob, o1, o2⟩ := hb1
    subst e
    rw [o1] at hk
    exact not_cells o2 hc (Option.some.inj hk)
  · obtain ⟨ob, o1, o2⟩ := hb2
    subst e
    rw [o1] at hk
    exact not_cells o2 hc (Option.some.inj hk)
  · obtain ⟨ob, o1, o2⟩ := hrows k z
    rw [o1] at hk
    exact not_cells o2 hc (Option.some.inj hk)
end Go.Proofs.Ytpbmkflkggeggaa.Hp
