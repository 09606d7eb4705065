/-
  The chapter's own stacks as lists: the row of cells, each pile; an insertion sort in plain words.
-/
import Derived.Test.YtabbdclpjghdbaaStkRs12
namespace Go.Proofs.Ytabbdclpjghdbaa.Stk
set_option linter.unusedVariables false
set_option linter.unusedSimpArgs false
open Go Go.RowKit Go.Shelf Go.Proofs Go.Proofs.Ytabbdclpjghdbaa.Grid

/- A pile's bins as a list. -/
theorem RsAt.ints {w : World} {K : Rk} {cs : Array Value} {vc : Value} {qs : List Pile} {ls : List Int} (h : RsAt w K cs vc qs ls) {i : Nat} {q : Pile} (hq : qs[i]? = some q) : ListAt 1 intEl (RB K qs) q.2.2 q.2.1 w := by
  obtain ⟨a, cap, e1, e2, e3, e4, e5, e6⟩ := h.pl i q hq
  refine ⟨a, cap, q.2.2.map (fun z => (z, #[.int .i64 z])), by simp [Function.comp_def], by rw [List.length_map]; exact e1, fun y hy => ?_, fun j hj => ?_, fun ha => (e2 ha).2⟩
  · obtain ⟨z, _, rfl⟩ := List.mem_map.1 hy
    rfl
  · rw [List.length_map] at hj
    obtain ⟨x, ex, hc⟩ := e6 j hj
    refine ⟨x, ex, Or.inr (Or.inr (Or.inr ⟨i, q, x, _, _, hq, by rw [e1, ex], rfl⟩)), fun k u hk => ?_⟩
    rw [List.getElem_map] at hk
    have : k = 0 := by
      have := (Array.getElem?_eq_some_iff.1 hk).1
      simpa using this
    subst this
    injection hk with hk
    rw [Nat.mul_one, Nat.add_zero, ← hk]
    exact hc
/- The row of cells as a list of stacks. -/
theorem RsAt.rows {w : World} {K : Rk} {cs : Array Value} {vc : Value} {qs : List Pile} {ls : List Int} (h : RsAt w K cs vc qs ls) : ListAt 3 stackEl (RB K qs) (qs.map prS) vc w := by
  rcases h.row with ⟨rfl, rfl⟩ | ⟨rfl, _, _, _⟩
  · exact ListAt.nil _ _ _ _
  · refine ⟨some ⟨K.rb, 0, none⟩, K.cap, qs.map (fun q => (prS q, (pileL q).toArray)), by simp [Function.comp_def], by rw [List.length_map], fun y hy => ?_, fun i hi => ?_, fun ha => by cases ha⟩
    · obtain ⟨q, hq, rfl⟩ := List.mem_map.1 hy
      obtain ⟨i, hi, e⟩ := List.getElem_of_mem hq
      exact ⟨q.2.1, rfl, h.ints (i := i) (by rw [List.getElem?_eq_getElem hi, e])⟩
    · rw [List.length_map] at hi
      refine ⟨⟨K.rb, 0, none⟩, rfl, Or.inr (Or.inl rfl), fun j u hj => ?_⟩
      rw [List.getElem_map] at hj
      rw [Addr.add_lit, Nat.zero_add]
      exact h.pc (List.getElem?_eq_getElem hi) j u (by rw [List.getElem?_toArray] at hj; exact hj)
/- All bins are the same in both. -/
theorem flat_filter {P : Stk → Bool} : ∀ l : List Stk, (∀ s ∈ l, P s = false → s.2 = []) → (l.filter P).flatMap (fun s => s.2) = l.flatMap (fun s => s.2)
  | [], _ => rfl
  | s :: l, h => by
    have ih := flat_filter l (fun t ht => h t (List.mem_cons_of_mem _ ht))
    rw [List.flatMap_cons, List.filter_cons]
    by_cases e : P s = true
    · rw [if_pos e, List.flatMap_cons, ih]
    · rw [if_neg e, h s List.mem_cons_self (by simpa using e), ih, List.nil_append]
theorem like_allB {c : Conf} {us : List Int} {ps qs : List Pile} {ls : List Int} (h : Like c us ps qs) (hc : ∀ p ∈ ps, openU c.W c.H us p.1 = false → p.2.2 = []) : allB ps ls = allB qs ls := by
  have e : ∀ l : List Pile, l.flatMap (fun p => p.2.2) = (l.map prS).flatMap (fun s => s.2) := fun l => by rw [List.flatMap_map]; rfl
  unfold allB
  rw [e ps, e qs, h, flat_filter _ fun s hs ho => by obtain ⟨p, hp, rfl⟩ := List.mem_map.1 hs; exact hc p hp ho]
theorem like_tell {c : Conf} {us : List Int} {ps qs : List Pile} (h : Like c us ps qs) : tellT c us ps ps.length = qs.map prS := by
  unfold tellT
  rw [List.take_length, h, List.filter_map]
  rfl
/- An insertion sort: the first i are in order; all but the k-th of the first i + 1 are. -/
def So (i : Nat) (M : List Int) : Prop := ∀ a b, a < b → b < i → M.getD a 0 ≤ M.getD b 0
def UpK (i k : Nat) (M : List Int) : Prop := (∀ a b, a < b → b ≤ i → a ≠ k → b ≠ k → M.getD a 0 ≤ M.getD b 0) ∧ ∀ b, k < b → b ≤ i → M.getD k 0 ≤ M.getD b 0
def swK (k : Nat) (M : List Int) : List Int := (M.set (k + 1) (M.getD k 0)).set k (M.getD (k + 1) 0)
theorem so_up {i : Nat} {M : List Int} (h : So i M) : UpK i i M :=
  ⟨fun a b h1 h2 _ h4 => h a b h1 (by omega), fun b h1 h2 => by omega⟩
theorem up_zero {i : Nat} {M : List Int} (h : UpK i 0 M) : So (i + 1) M := fun a b h1 h2 => by
  by_cases e : a = 0
  · subst e; exact h.2 b h1 (by omega)
  · exact h.1 a b h1 (by omega) e (by omega)
theorem up_stop {i k : Nat} {M : List Int} (h : UpK i (k + 1) M) (hk : k + 1 ≤ i) (hn : ¬ M.getD (k + 1) 0 < M.getD k 0) : So (i + 1) M := fun a b h1 h2 => by
  by_cases e : a = k + 1
  · subst e; exact h.2 b h1 (by omega)
  · by_cases e2 : b = k + 1
    · subst e2
      by_cases e3 : a = k
      · subst e3; omega
      · have := h.1 a k (by omega) (by omega) e (by omega)
        omega
    · exact h.1 a b h1 (by omega) e e2
theorem sw_len (k : Nat) (M : List Int) : (swK k M).length = M.length := by simp [swK]
theorem getD_set {M : List Int} {k : Nat} (hk : k < M.length) (z : Int) (j : Nat) : (M.set k z).getD j 0 = if j = k then z else M.getD j 0 := by
  rw [List.getD_eq_getElem?_getD, List.getD_eq_getElem?_getD, List.getElem?_set]
  by_cases e : k = j
  · subst e; simp [hk]
  · rw [if_neg e, if_neg (fun q => e q.symm)]
theorem sw_getD {k : Nat} {M : List Int} (hk : k + 1 < M.length) (j : Nat) : (swK k M).getD j 0 = if j = k then M.getD (k + 1) 0 else if j = k + 1 then M.getD k 0 else M.getD j 0 := by
  unfold swK
  rw [getD_set (by rw [List.length_set]; omega), getD_set hk]
theorem sw_perm {k : Nat} {M : List Int} (hk : k + 1 < M.length) : (swK k M).Perm M := by
  unfold swK
  have e1 : M.getD k 0 = M[k]'(by omega) := by rw [List.getD_eq_getElem?_getD, List.getElem?_eq_getElem (by omega)]; rfl
  have e2 : M.getD (k + 1) 0 = M[k + 1]'hk := by rw [List.getD_eq_getElem?_getD, List.getElem?_eq_getElem hk]; rfl
  rw [e1, e2]
  exact List.set_set_perm hk (by omega)
theorem up_step {i k : Nat} {M : List Int} (h : UpK i (k + 1) M) (hk : k + 1 ≤ i) (hi : i < M.length) (hl : M.getD (k + 1) 0 < M.getD k 0) : UpK i k (swK k M) := by
  have g := sw_getD (k := k) (M := M) (by omega)
  refine ⟨fun a b h1 h2 h3 h4 => ?_, fun b h1 h2 => ?_⟩
  · rw [g a, g b, if_neg h3, if_neg h4]
    by_cases ea : a = k + 1
    · rw [if_pos ea, if_neg (by omega)]
      exact h.1 k b (by omega) h2 (by omega) (by omega)
    · rw [if_neg ea]
      by_cases eb : b = k + 1
      · rw [if_pos eb]; exact h.1 a k (by omega) (by omega) ea (by omega)
      · rw [if_neg eb]; exact h.1 a b h1 h2 ea eb
  · rw [g k, g b, if_pos rfl, if_neg (by omega)]
    by_cases eb : b = k + 1
    · rw [if_pos eb]; omega
    · rw [if_neg eb]; exact h.2 b (by omega) h2
theorem so_pair {M : List Int} (h : So M.length M) : M.Pairwise (· ≤ ·) := by
  rw [List.pairwise_iff_getElem]
  intro i j hi hj hij
  have := h i j hij hj
  rw [List.getD_eq_getElem?_getD, List.getD_eq_getElem?_getD, List.getElem?_eq_getElem hi, List.getElem?_eq_getElem hj] at this
  exact this
end Go.Proofs.Ytabbdclpjghdbaa.Stk
