/-
  An item of a list of one's own; two telegrams held against each other.
-/
import Derived.Test.YtdplacpdbknlgaaLinkIn
namespace Go.Proofs.Ytdplacpdbknlgaa.Lk
set_option linter.unusedVariables false
set_option linter.unusedSimpArgs false
open Go Go.RowKit Go.Shelf Go.Proofs Go.Proofs.Ytdplacpdbknlgaa.Tick Go.Proofs.Ytdplacpdbknlgaa.Plain
attribute [local go_sem] Oper.semAt_some

theorem tlL_len (t : Tl) : (tlL t).length = 19 := rfl
theorem add_at (g o j : Nat) : (⟨g, o, none⟩ : Addr).add j = ⟨g, o + j, none⟩ := by
  unfold Addr.add
  by_cases h : j = 0
  · subst h; simp
  · simp [h]
theorem own_item {w : World} {B : Nat} {v : Value} {l : List Tl} (h : Own w B v l) {n : Nat} (hn : l.length = n) {k : Nat} (hk : k < l.length) :
    ∃ g cap, v = .slice (some ⟨g, 0, none⟩) n cap ∧ g < w.heap.size ∧ ∀ u : World, u.heap[g]? = w.heap[g]? → (loadVar 42 ⟨g, k * 19, none⟩).run Try.prog u = .ok (.agg (tlA (l[k]'hk))) u := by
  subst hn
  obtain ⟨h1, ⟨q, h2⟩ | ⟨g, cap, cur, e, hb, hg, hnc, hcm, hcs, ht⟩⟩ := h
  · omega
  · refine ⟨g, cap, e, (Array.getElem?_eq_some_iff.1 hg).1, fun u hu => run_loadVar_at u _ _ _ (fun j z hj => ?_) (aggTele _) infoTele⟩
    have hj' : (tlL (l[k]'hk))[j]? = some z := by unfold tlA at hj; simpa using hj
    have hr := rowL_at tlL_len l k hk j z hj'
    rw [← ht, List.getElem?_take] at hr
    split at hr
    · rw [add_at]
      simpa [World.cell?, hu, hg] using hr
    · cases hr
theorem run_neq_tele {o : Oper} {a : Act} {w : World} (R : TypeId) (x y : Operand) (ho : o.op = .binOp .neq 42 x y R) (t : Tl) (hx : a.eval x = .agg (tlA t)) (hy : a.eval y = .agg (tlA t)) : (execOp a.eval o).run Try.prog w = .ok (.value (.bool false)) w := by
  unfold execOp
  simp only [ho, hx, hy, Sem.run_bind, Sem.run_pure, Result.andThen_ok, run_eqGuard_agg _ _ _ _ _ _ _ gTele, run_neq_struct, eqTele_self, Bool.not_true]
theorem wpList_neq_tele {ops : Array Oper} {rest : List Oper} {o : Oper} {a : Act} {w : World} {Q : Exit → Act → World → Prop} (x y : Operand) (R : TypeId) (ho : o.op = .binOp .neq 42 x y R) (t : Tl) (hx : a.eval x = .agg (tlA t)) (hy : a.eval y = .agg (tlA t)) (hg : o.guard = none)
    (h : wpList Try.prog ops Q rest (a.put o.dst (.bool false)) w) : wpList Try.prog ops Q (o :: rest) a w := by
  refine wpList_plain hg fun K hK => ?_
  unfold Oper.wp
  rw [run_neq_tele R x y ho t hx hy]
  exact hK _ _ h
/- What waits at one robot alone. -/
def MW (t : Tl) (ls : Int) : Mp := upd (fun _ => none) 0 (some (t, ls))
theorem MW_got (t : Tl) (ls : Int) : upd (MW t ls) 0 none = fun _ => none := by
  funext y
  unfold MW upd
  by_cases h : y = 0
  · rw [if_pos h]
  · simp only [if_neg h]
theorem less_id {a b : Int} (h0 : 0 ≤ b) (h1 : b ≤ a) (h2 : a < 4611686018427387904) : less a b = a - b := by
  unfold less
  rw [cut_in (by omega) (by omega), cut_in h0 (by omega), if_neg (by omega), if_neg (by omega)]
theorem MW_dueL (t : Tl) (ls now rsd : Int) (h0 : 0 ≤ ls) (h1 : ls ≤ now) (h2 : now < 4611686018427387904) : dueL now rsd (MW t ls) 1 = if rsd ≤ now - ls then [t] else [] := by
  show due1 now rsd (some (t, ls)) ++ [] = _
  unfold due1
  simp only [less_id h0 h1 h2, List.append_nil]
theorem MW_dueM (t : Tl) (ls now rsd : Int) (h0 : 0 ≤ ls) (h1 : ls ≤ now) (h2 : now < 4611686018427387904) : dueM now rsd (MW t ls) 1 = MW t (if rsd ≤ now - ls then now else ls) := by
  funext y
  unfold dueM MW upd
  by_cases h : y = 0
  · subst h
    simp only [wait1, less_id h0 h1 h2, if_pos]
    rw [if_pos (by omega)]
    split <;> rfl
  · simp only [if_neg h]
    rw [if_neg (by omega)]
theorem builtG : Try.prog.built 42 [(0, .int .i64 1), (2, .int .i64 4), (3, .int .i64 9)] = some (tlA (tlG 1 0 4 9)) := by kernel_rfl
end Go.Proofs.Ytdplacpdbknlgaa.Lk
