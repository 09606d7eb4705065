/-
  Due: what is told, and what waits behind it.
-/
import Derived.Test.YtdplacpdbknlgaaLinkCalls
namespace Go.Proofs.Ytdplacpdbknlgaa.Lk
set_option linter.unusedVariables false
set_option linter.unusedSimpArgs false
open Go Go.RowKit Go.Shelf Go.Proofs Go.Proofs.Ytdplacpdbknlgaa.Tick Go.Proofs.Ytdplacpdbknlgaa.Plain
attribute [local go_sem] Oper.semAt_some

/- What Due tells of one robot, and what waits then. -/
def due1 (now rsd : Int) (o : Option (Tl × Int)) : List Tl := match o with
  | none => []
  | some s => if rsd ≤ less now s.2 then [s.1] else []
def wait1 (now rsd : Int) (o : Option (Tl × Int)) : Option (Tl × Int) := match o with
  | none => none
  | some s => if rsd ≤ less now s.2 then some (s.1, now) else some s
/- Of the first k robots. -/
def dueL (now rsd : Int) (M : Mp) (k : Nat) : List Tl := (List.range k).flatMap fun (i : Nat) => due1 now rsd (M (i : Int))
def dueM (now rsd : Int) (M : Mp) (k : Nat) : Mp := fun x => if 0 ≤ x ∧ x < k then wait1 now rsd (M x) else M x
theorem dueL_succ (now rsd : Int) (M : Mp) (k : Nat) : dueL now rsd M (k + 1) = dueL now rsd M k ++ due1 now rsd (M (k : Int)) := by
  unfold dueL
  rw [List.range_succ, List.flatMap_append]
  simp
theorem dueL_len (now rsd : Int) (M : Mp) : ∀ k, (dueL now rsd M k).length ≤ k
  | 0 => Nat.le_refl _
  | k + 1 => by
    rw [dueL_succ, List.length_append]
    have h1 := dueL_len now rsd M k
    have h2 : (due1 now rsd (M (k : Int))).length ≤ 1 := by
      unfold due1
      split
      · simp
      · split <;> simp
    omega
theorem dueM_zero (now rsd : Int) (M : Mp) : dueM now rsd M 0 = M := by
  funext x
  unfold dueM
  rw [if_neg (by omega)]
theorem dueM_at (now rsd : Int) (M : Mp) (k : Nat) : dueM now rsd M k (k : Int) = M k := by
  unfold dueM
  rw [if_neg (by omega)]
theorem dueM_stay (now rsd : Int) (M : Mp) (k : Nat) (h : wait1 now rsd (M k) = M k) : dueM now rsd M (k + 1) = dueM now rsd M k := by
  funext x
  unfold dueM
  by_cases hx : x = k
  · subst hx
    rw [if_pos (by omega), if_neg (by omega), h]
  · by_cases hl : 0 ≤ x ∧ x < k
    · rw [if_pos hl, if_pos (by omega)]
    · rw [if_neg hl, if_neg (by omega)]
theorem dueM_turn (now rsd : Int) (M : Mp) (k : Nat) : dueM now rsd M (k + 1) = upd (dueM now rsd M k) k (wait1 now rsd (M k)) := by
  funext x
  unfold dueM upd
  show (if 0 ≤ x ∧ x < ((k + 1 : Nat) : Int) then wait1 now rsd (M x) else M x) = if x = (k : Int) then wait1 now rsd (M k) else if 0 ≤ x ∧ x < (k : Int) then wait1 now rsd (M x) else M x
  by_cases hx : x = k
  · subst hx
    rw [if_pos (by omega), if_pos rfl]
  · rw [if_neg hx]
    by_cases hl : 0 ≤ x ∧ x < k
    · rw [if_pos hl, if_pos (by omega)]
    · rw [if_neg hl, if_neg (by omega)]
/- A list of telegrams of one's own. -/
abbrev Own (w : World) (B : Nat) (v : Value) (l : List Tl) : Prop := w.ownsRow B 42 19 v l.length (rowL tlL l)
theorem tlL_one (t : Tl) : ∀ u ∈ tlL t, u.oneCell' = true := fun u hu => by
  have := tlA_one t
  rw [Array.all_eq_true'] at this
  exact this u (by unfold tlA; simpa using hu)
theorem infoT3 : (Try.prog.info? 42).map (fun i => (i.zero, i.size, i.bytes)) = some (some (.agg (tlA tl0)), 19, 152) := by kernel_rfl
theorem run_one (t : Tl) (w : World) : (Instr.buildSlice 27 1 #[(0, .agg (tlA t))]).run Try.prog w = .ok (.slice (some ⟨w.heap.size, 0, none⟩) 1 1) (w.alloc (.cells (tlA t) 42)) := by
  cases t
  kernel_rfl
theorem wpList_one {ops : Array Oper} {rest : List Oper} {o : Oper} {a : Act} {w : World} {Q : Exit → Act → World → Prop} (hg : o.guard = none) (x : Operand) (ho : o.op = .buildSlice 27 1 #[(0, x)]) (t : Tl) (hx : a.eval x = .agg (tlA t))
    (h : wpList Try.prog ops Q rest (a.put o.dst (.slice (some ⟨w.heap.size, 0, none⟩) 1 1)) (w.alloc (.cells (tlA t) 42))) : wpList Try.prog ops Q (o :: rest) a w := by
  refine wpList_plain hg fun K hK => ?_
  unfold Oper.wp execOp
  simp only [ho, List.map_toArray, List.map_cons, List.map_nil, hx, Sem.run_bind, run_one, Result.andThen_ok, Sem.run_pure]
  exact hK _ _ h
theorem wpList_push {ops : Array Oper} {rest : List Oper} {o : Oper} {a : Act} {w : World} {Q : Exit → Act → World → Prop} (hg : o.guard = none) (s x : Operand) (ho : o.op = .call { callee := .builtin .append, args := #[s, x], argTypes := #[27, 27] })
    (B : Nat) (v : Value) (l : List Tl) (hs : a.eval s = v) (hown : Own w B v l) (g : Nat) (t : Tl) (fr : Nat × Nat) (hx : a.eval x = .slice (some ⟨g, 0, none⟩) 1 1) (hgt : w.heap[g]? = some (.cells (tlA t) 42 fr)) (hl : l.length ≤ 1000000) (hB : B ≤ w.heap.size)
    (h : ∀ v' w', Own w' B v' (l ++ [t]) → w.grownBy w' v.ownBlock → wpList Try.prog ops Q rest (a.put o.dst v') w') : wpList Try.prog ops Q (o :: rest) a w := by
  refine wpList_plain hg fun K hK => ?_
  obtain ⟨i, hi, hz0, hz1, hz2⟩ := info_parts infoT3
  obtain ⟨v', w', hrun, hown', hgrow, _⟩ := run_append_own (P := Try.prog) w B 27 o.type 42 i _ 19 152 Try.underlying27 hi hz0 hz1 hz2 rfl (by decide) v l.length _ hown ⟨g, 0, none⟩ 1 1 (tlL t) rfl (fun j u hj => by rw [add_zero]; simpa [World.cell?, hgt, tlA] using hj) (tlL_one t) (by unfold maxLen; omega) (by omega) hB
  unfold Oper.wp execOp
  simp only [ho, resolve, invoke, builtin, Sem.run_bind, Sem.run_pure, Result.andThen_ok, List.map_toArray, List.map_cons, List.map_nil, hs, hx, hrun]
  refine hK _ _ (h v' w' ?_ hgrow)
  unfold Own
  rw [List.length_append, rowL_append]
  simpa [rowL] using hown'
end Go.Proofs.Ytdplacpdbknlgaa.Lk
