/-
  The chapter's own heap in plain words: a list in the order in which things were put in; the first of the least; what it gives out one by one.
-/
import Derived.Test.YtpbmkflkggeggaaHeapByKey
namespace Go.Proofs.Ytpbmkflkggeggaa.Hp
set_option linter.unusedVariables false
set_option linter.unusedSimpArgs false
open Go Go.RowKit Go.Shelf Go.Proofs
attribute [local go_sem] Oper.semAt_some

/- What a heap of these gives out: each put behind all whose key is not greater. -/
def sortV (L : List (Int × Int)) : List (Int × Int) := L.foldl (fun acc v => insV v acc) []
theorem sortV_snoc (L : List (Int × Int)) (v : Int × Int) : sortV (L ++ [v]) = insV v (sortV L) := by unfold sortV; rw [List.foldl_append]; rfl
theorem insV_perm (x : Int × Int) : ∀ l, (insV x l).Perm (x :: l)
  | [] => List.Perm.refl _
  | y :: l => by
    unfold insV
    split
    · exact ((insV_perm x l).cons y).trans (List.Perm.swap x y l)
    · exact List.Perm.refl _
theorem insV_sorted (x : Int × Int) : ∀ l : List (Int × Int), l.Pairwise (fun a b => a.1 ≤ b.1) → (insV x l).Pairwise (fun a b => a.1 ≤ b.1)
  | [], _ => List.pairwise_singleton _ _
  | y :: l, h => by
    have h' := List.pairwise_cons.1 h
    unfold insV
    split
    · rename_i hk
      refine List.pairwise_cons.2 ⟨fun z hz => ?_, insV_sorted x l h'.2⟩
      rcases List.mem_cons.1 ((insV_perm x l).mem_iff.1 hz) with rfl | hz
      · exact hk
      · exact h'.1 z hz
    · rename_i hk
      refine List.pairwise_cons.2 ⟨fun z hz => ?_, h⟩
      rcases List.mem_cons.1 hz with rfl | hz
      · omega
      · have := h'.1 z hz; omega
theorem snoc_ind {P : List (Int × Int) → Prop} (h0 : P []) (h1 : ∀ L v, P L → P (L ++ [v])) (L : List (Int × Int)) : P L := by
  have : ∀ n, ∀ L : List (Int × Int), L.length = n → P L := by
    intro n
    induction n with
    | zero => intro L hL; rw [List.eq_nil_of_length_eq_zero hL]; exact h0
    | succ n ih =>
      intro L hL
      have hne : L ≠ [] := fun e => by rw [e] at hL; simp at hL
      rw [← List.dropLast_concat_getLast hne]
      exact h1 _ _ (ih _ (by rw [List.length_dropLast, hL]; rfl))
  exact this _ L rfl
theorem sortV_sorted (L : List (Int × Int)) : (sortV L).Pairwise (fun a b => a.1 ≤ b.1) := by
  refine snoc_ind (P := fun L => (sortV L).Pairwise (fun a b => a.1 ≤ b.1)) List.Pairwise.nil (fun L v ih => ?_) L
  rw [sortV_snoc]
  exact insV_sorted v _ ih
theorem sortV_filter (p : Int × Int → Bool) (L : List (Int × Int)) : sortV (L.filter p) = (sortV L).filter p := by
  refine snoc_ind (P := fun L => sortV (L.filter p) = (sortV L).filter p) rfl (fun L v ih => ?_) L
  rw [sortV_snoc, filter_insV (sortV_sorted L), List.filter_append]
  by_cases h : p v = true
  · rw [if_pos h, List.filter_cons_of_pos h, List.filter_nil, sortV_snoc, ih]
  · rw [if_neg h, List.filter_cons_of_neg h, List.filter_nil, List.append_nil, ih]
theorem sortV_len (L : List (Int × Int)) : (sortV L).length = L.length := by
  refine snoc_ind (P := fun L => (sortV L).length = L.length) rfl (fun L v ih => ?_) L
  rw [sortV_snoc, (insV_perm _ _).length_eq, List.length_cons, ih]
  simp
/- The place of the first of the least among the first i; -1: there is none. -/
def best (L : List (Int × Int)) : Nat → Int
  | 0 => -1
  | i + 1 => if best L i < 0 ∨ (L.getD i (0, 0)).1 < (L.getD (best L i).toNat (0, 0)).1 then i else best L i
theorem best_bd (L : List (Int × Int)) : ∀ i, (i = 0 ∧ best L i = -1) ∨ (0 < i ∧ 0 ≤ best L i ∧ best L i < i)
  | 0 => Or.inl ⟨rfl, rfl⟩
  | i + 1 => by
    rcases best_bd L i with ⟨h, e⟩ | ⟨h, e1, e2⟩
    · refine Or.inr ⟨by omega, ?_⟩
      rw [best, if_pos (Or.inl (by omega))]
      omega
    · refine Or.inr ⟨by omega, ?_⟩
      rw [best]
      split <;> omega
theorem best_take {L : List (Int × Int)} : ∀ {i : Nat}, i ≤ L.length → 0 < i → ∀ j, best L i = (j : Nat) → sortV (L.take i) = L.getD j (0, 0) :: sortV ((L.take i).eraseIdx j)
  | 0, _, h, _, _ => by omega
  | i + 1, hi, _, j, hj => by
    have hlt : i < L.length := by omega
    have e1 : L.take (i + 1) = L.take i ++ [L.getD i (0, 0)] := by
      rw [List.take_add_one, List.getElem?_eq_getElem hlt, List.getD_eq_getElem?_getD, List.getElem?_eq_getElem hlt]
      rfl
    have hlen : (L.take i).length = i := by rw [List.length_take]; omega
    rw [e1, sortV_snoc]
    rw [best] at hj
    by_cases h0 : i = 0
    · subst h0
      have : j = 0 := by
        rw [if_pos (Or.inl (by rw [best]; omega))] at hj
        omega
      subst this
      rfl
    · rcases best_bd L i with ⟨h, _⟩ | ⟨_, b1, b2⟩
      · exact (h0 h).elim
      · obtain ⟨q, hq⟩ : ∃ q : Nat, best L i = (q : Int) := ⟨(best L i).toNat, by omega⟩
        have ih := best_take (L := L) (i := i) (by omega) (by omega) q hq
        rw [hq] at hj b2
        rw [Int.toNat_natCast] at hj
        by_cases hk : (L.getD i (0, 0)).1 < (L.getD q (0, 0)).1
        · rw [if_pos (Or.inr hk)] at hj
          have : j = i := by omega
          subst this
          have e2 : (L.take j ++ [L.getD j (0, 0)]).eraseIdx j = L.take j := by
            rw [List.eraseIdx_append_of_length_le (by omega), hlen]
            simp
          rw [e2, ih, insV, if_neg (by omega)]
        · rw [if_neg (by omega)] at hj
          have : j = q := by omega
          subst this
          have e2 : (L.take i ++ [L.getD i (0, 0)]).eraseIdx j = (L.take i).eraseIdx j ++ [L.getD i (0, 0)] := List.eraseIdx_append_of_lt_length (by omega) _
          rw [e2, sortV_snoc, ih, insV, if_pos (by omega)]
theorem best_all {L : List (Int × Int)} (h : 0 < L.length) : ∃ j : Nat, best L L.length = (j : Nat) ∧ j < L.length ∧ sortV L = L.getD j (0, 0) :: sortV (L.eraseIdx j) := by
  rcases best_bd L L.length with ⟨e, _⟩ | ⟨_, b1, b2⟩
  · omega
  · obtain ⟨q, hq⟩ : ∃ q : Nat, best L L.length = (q : Int) := ⟨(best L L.length).toNat, by omega⟩
    have := best_take (L := L) (Nat.le_refl _) h q hq
    rw [List.take_length] at this
    exact ⟨q, hq, by omega, this⟩
end Go.Proofs.Ytpbmkflkggeggaa.Hp
