/-
  What is put in, by the keys alone; what is dropped of it.
-/
import Derived.Test.YtpbmkflkggeggaaHeapApart
import Derived.Test.YtpbmkflkggeggaaHeapDrop
namespace Go.Proofs.Ytpbmkflkggeggaa.Hp
set_option linter.unusedVariables false
set_option linter.unusedSimpArgs false
open Go Go.RowKit Go.Shelf Go.Proofs
attribute [local go_sem] Oper.semAt_some

/- One is put behind all whose key is not greater. -/
def insV (x : Int × Int) : List (Int × Int) → List (Int × Int)
  | [] => [x]
  | y :: l => if y.1 ≤ x.1 then y :: insV x l else x :: y :: l
theorem map_ins {x : It} : ∀ {l : List It}, (∀ y ∈ l, y.t < x.t) → (ins x l).map vOf = insV (vOf x) (l.map vOf)
  | [], _ => rfl
  | y :: l, h => by
    have hy := h y (List.mem_cons_self ..)
    have ih := map_ins (l := l) fun z hz => h z (List.mem_cons_of_mem _ hz)
    by_cases hb : Bf y x
    · have hk : (vOf y).1 ≤ (vOf x).1 := by
        show y.k ≤ x.k
        rcases hb with q | q
        · have : y.k < x.k := q; omega
        · have : y.k = x.k := q.1; omega
      rw [ins_behind hb, List.map_cons, ih, List.map_cons, insV, if_pos hk]
    · have hk : ¬ (vOf y).1 ≤ (vOf x).1 := by
        show ¬ y.k ≤ x.k
        intro q
        apply hb
        rcases Int.lt_or_eq_of_le q with q | q
        · exact Or.inl q
        · exact Or.inr ⟨q, hy⟩
      rw [ins_ahead hb, List.map_cons, List.map_cons, insV, if_neg hk]
theorem filter_insV {p : Int × Int → Bool} {x : Int × Int} : ∀ {l : List (Int × Int)}, l.Pairwise (fun a b => a.1 ≤ b.1) → (insV x l).filter p = if p x then insV x (l.filter p) else l.filter p
  | [], _ => by
    by_cases h : p x = true
    · simp [insV, h]
    · simp [insV, h]
  | y :: l, hs => by
    have hs' := List.pairwise_cons.1 hs
    have ih := filter_insV (p := p) (x := x) hs'.2
    by_cases hk : y.1 ≤ x.1
    · rw [insV, if_pos hk]
      by_cases hy : p y = true
      · rw [List.filter_cons_of_pos hy, ih, List.filter_cons_of_pos hy]
        by_cases h : p x = true
        · simp only [h, if_true]
          rw [insV, if_pos hk]
        · simp [h]
      · rw [List.filter_cons_of_neg hy, ih, List.filter_cons_of_neg hy]
    · rw [insV, if_neg hk]
      have front : ∀ m : List (Int × Int), (∀ z ∈ m, ¬ z.1 ≤ x.1) → insV x m = x :: m := by
        intro m hm
        cases m with
        | nil => rfl
        | cons z m => rw [insV, if_neg (hm z (List.mem_cons_self ..))]
      have hf : ∀ z ∈ (y :: l).filter p, ¬ z.1 ≤ x.1 := fun z hz => by
        rcases List.mem_cons.1 (List.mem_filter.1 hz).1 with rfl | hz
        · exact hk
        · have := hs'.1 z hz; omega
      by_cases h : p x = true
      · rw [List.filter_cons_of_pos h, if_pos h, front _ hf]
      · rw [List.filter_cons_of_neg h, if_neg h]
theorem sorted_keys {s : List It} (h : Sorted s) : (s.map vOf).Pairwise (fun a b => a.1 ≤ b.1) := by
  refine List.pairwise_map.2 (h.imp fun {a b} q => ?_)
  show a.k ≤ b.k
  rcases q with q | q
  · have : a.k < b.k := q; omega
  · have : a.k = b.k := q.1; omega
theorem stay_map (p : Int × Int → Bool) (s : List It) : (stay p s).map vOf = (s.map vOf).filter fun x => !p x := by
  unfold stay
  rw [List.filter_map]
  rfl
theorem went_ins (p : Int × Int → Bool) (x : It) (s : List It) : went p (ins x s) = went p s + if p (vOf x) then 1 else 0 := by
  unfold went
  rw [(ins_perm x s).countP_eq, List.countP_cons]
theorem stay_stay (p : Int × Int → Bool) (s : List It) : stay p (stay p s) = stay p s ∧ went p (stay p s) = 0 := by
  constructor
  · unfold stay
    rw [List.filter_filter]
    simp
  · unfold went stay
    rw [List.countP_eq_zero]
    intro x hx
    have := (List.mem_filter.1 hx).2
    simpa using this
theorem stay_went (p : Int × Int → Bool) (s : List It) : (stay p s).length + went p s = s.length := by
  unfold stay went
  rw [← List.countP_eq_length_filter]
  induction s with
  | nil => rfl
  | cons x s ih =>
    rw [List.countP_cons, List.countP_cons, List.length_cons]
    by_cases h : p (vOf x) = true
    · simp [h]; omega
    · simp [h]; omega
theorem HpAt.turns {B : Nat} {w : World} {b : Nat} {v : Value} {s : List It} {c : Nat} (h : HpAt B w b v s c) : ∀ x ∈ s, x.t < c := by
  obtain ⟨l, _, hh⟩ := h
  exact hh.turns
theorem HpAt.ordered {B : Nat} {w : World} {b : Nat} {v : Value} {s : List It} {c : Nat} (h : HpAt B w b v s c) : Sorted s := by
  obtain ⟨l, _, hh⟩ := h
  exact hh.sorted
/- One more of both: of the heap of all, and of the heap of those that stay. -/
theorem both_yes {p : Int × Int → Bool} {ks : List Int} {i : Nat} {s2 : List It} (h : s2.map vOf = ((fill ks i).map vOf).filter fun x => !p x) (hp : p (ks.getD i 0, (i : Int)) = true) : s2.map vOf = ((fill ks (i + 1)).map vOf).filter fun x => !p x := by
  rw [fill, map_ins (fun y hy => (fill_mem ks i y hy).1), filter_insV (sorted_keys (fill_sorted ks i)), h]
  rw [if_neg]
  show ¬ (!p (ks.getD i 0, (i : Int))) = true
  rw [hp]
  decide
theorem both_no {p : Int × Int → Bool} {ks : List Int} {i c : Nat} {s2 : List It} (h : s2.map vOf = ((fill ks i).map vOf).filter fun x => !p x) (ht : ∀ x ∈ s2, x.t < c) (hp : p (ks.getD i 0, (i : Int)) = false) : (ins ⟨ks.getD i 0, i, c⟩ s2).map vOf = ((fill ks (i + 1)).map vOf).filter fun x => !p x := by
  rw [fill, map_ins ht, map_ins (fun y hy => (fill_mem ks i y hy).1), filter_insV (sorted_keys (fill_sorted ks i)), h]
  rw [if_pos]
  · rfl
  · show (!p (ks.getD i 0, (i : Int))) = true
    rw [hp]
    rfl
theorem both_len {p : Int × Int → Bool} {ks : List Int} {i : Nat} {s2 : List It} (h : s2.map vOf = ((fill ks i).map vOf).filter fun x => !p x) : s2.length ≤ i := by
  have := congrArg List.length h
  rw [List.length_map] at this
  rw [this]
  refine Nat.le_trans (List.length_filter_le _ _) ?_
  rw [List.length_map, fill_len]
  exact Nat.le_refl _
end Go.Proofs.Ytpbmkflkggeggaa.Hp
