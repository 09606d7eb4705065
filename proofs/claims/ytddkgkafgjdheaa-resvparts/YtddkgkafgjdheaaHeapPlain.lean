/-
  A heap in plain words: a list whose place i stands above 2i+1 and 2i+2; one that rises, one that sinks; what is left sorted.
-/
import Derived.Test.YtddkgkafgjdheaaChecked
namespace Go.Proofs.Ytddkgkafgjdheaa.Hp
set_option linter.unusedVariables false
set_option linter.unusedSimpArgs false

/- What an item goes by: a number, and its turn. -/
class Ranked (β : Type) where
  K : β → Int
  T : β → Nat
section
variable {β : Type}
def swp (l : List β) (i j : Nat) (hi : i < l.length) (hj : j < l.length) : List β := (l.set i l[j]).set j l[i]
theorem swp_len (l : List β) (i j : Nat) (hi hj) : (swp l i j hi hj).length = l.length := by simp [swp]
theorem swp_perm (l : List β) (i j : Nat) (hi hj) : (swp l i j hi hj).Perm l := List.set_set_perm hi hj
theorem swp_at (l : List β) (i j k : Nat) (hi hj) (hk : k < (swp l i j hi hj).length) : (swp l i j hi hj)[k] = if k = j then l[i] else if k = i then l[j] else l[k]'(by rw [swp_len] at hk; exact hk) := by
  have e0 : ∀ (m : List β) (e : swp l i j hi hj = m), (swp l i j hi hj)[k] = m[k]'(by rw [← e]; exact hk) := fun m e => by subst e; rfl
  rw [e0 ((l.set i l[j]).set j l[i]) rfl, List.getElem_set]
  by_cases h : j = k
  · rw [if_pos h, if_pos h.symm]
  · rw [if_neg h, if_neg (fun e => h e.symm), List.getElem_set]
    by_cases h2 : i = k
    · rw [if_pos h2, if_pos h2.symm]
    · rw [if_neg h2, if_neg (fun e => h2 e.symm)]
/- To take out the first: the last one goes to its place. -/
def outL (l : List β) (h0 : 0 < l.length) : List β := (l.set 0 (l[l.length - 1]'(by omega))).take (l.length - 1)
theorem outL_len (l : List β) (h0 : 0 < l.length) : (outL l h0).length = l.length - 1 := by simp [outL]
theorem outL_at (l : List β) (h0 : 0 < l.length) (k : Nat) (hk : k < (outL l h0).length) : (outL l h0)[k] = (l.set 0 (l[l.length - 1]'(by omega)))[k]'(by rw [outL_len] at hk; simp; omega) := by
  have e0 : ∀ (m : List β) (e : outL l h0 = m), (outL l h0)[k] = m[k]'(by rw [← e]; exact hk) := fun m e => by subst e; rfl
  rw [e0 ((l.set 0 (l[l.length - 1]'(by omega))).take (l.length - 1)) rfl, List.getElem_take]
theorem outL_perm (l : List β) (h0 : 0 < l.length) : (l[0] :: outL l h0).Perm l := by
  have hp := List.set_set_perm («as» := l) (i := 0) (j := l.length - 1) h0 (by omega)
  refine List.Perm.trans ?_ hp
  have : (l.set 0 (l[l.length - 1]'(by omega))).set (l.length - 1) l[0] = outL l h0 ++ [l[0]] := by
    apply List.ext_getElem
    · simp [outL]; omega
    · intro k h1 h2
      simp at h1
      rw [List.getElem_set]
      by_cases e : l.length - 1 = k
      · rw [if_pos e, List.getElem_append_right (by rw [outL_len]; omega)]
        simp [outL_len, e]
      · rw [if_neg e, List.getElem_append_left (by rw [outL_len]; omega)]
        exact (outL_at l h0 k _).symm
  rw [this]
  exact (List.perm_append_comm (l₁ := [l[0]])).trans (List.Perm.refl _)
end
variable {β : Type} [Ranked β]
open Ranked
/- a comes ahead of b. -/
def Bf (a b : β) : Prop := K a < K b ∨ (K a = K b ∧ T a < T b)
instance (a b : β) : Decidable (Bf a b) := by unfold Bf; infer_instance
theorem bf_trans {a b c : β} (h : Bf a b) (k : Bf b c) : Bf a c := by unfold Bf at *; omega
theorem bf_irrefl (a : β) : ¬ Bf a a := by unfold Bf; omega
theorem bf_asymm {a b : β} (h : Bf a b) : ¬ Bf b a := by unfold Bf at *; omega
theorem nbf_trans {a b c : β} (h : ¬ Bf b a) (k : ¬ Bf c b) : ¬ Bf c a := by unfold Bf at *; omega
theorem nbf_bf {a b c : β} (h : Bf a b) (k : ¬ Bf c b) : ¬ Bf c a := by unfold Bf at *; omega
/- As the code has it. -/
def ahB (a b : β) : Bool := if T a < T b then !(decide (K b < K a)) else decide (K a < K b)
theorem ahB_iff (a b : β) : ahB a b = true ↔ Bf a b := by
  unfold ahB Bf
  split <;> simp <;> omega
theorem ahB_eq (a b : β) : ahB a b = decide (Bf a b) := by
  rw [Bool.eq_iff_iff, ahB_iff, decide_eq_true_iff]

/- Neither of those below comes ahead of the one above, but for what stands at i. -/
def Heap (l : List β) : Prop := ∀ j (h : j < l.length), 0 < j → ¬ Bf (l[j]) (l[(j - 1) / 2]'(by omega))
def Rise (l : List β) (i : Nat) : Prop := (∀ j (h : j < l.length), 0 < j → j ≠ i → ¬ Bf (l[j]) (l[(j - 1) / 2]'(by omega))) ∧ (∀ j (h : j < l.length), 0 < i → ∀ (e : (j - 1) / 2 = i), 0 < j → ¬ Bf (l[j]) (l[(i - 1) / 2]'(by omega)))
def Sink (l : List β) (i : Nat) : Prop := (∀ j (h : j < l.length), 0 < j → (j - 1) / 2 ≠ i → ¬ Bf (l[j]) (l[(j - 1) / 2]'(by omega))) ∧ (∀ j (h : j < l.length), 0 < i → ∀ (e : (j - 1) / 2 = i), 0 < j → ¬ Bf (l[j]) (l[(i - 1) / 2]'(by omega)))
theorem rise_done {l : List β} {i : Nat} (h : Rise l i) (hi : i < l.length) (hd : i = 0 ∨ ¬ Bf (l[i]) (l[(i - 1) / 2]'(by omega))) : Heap l := by
  intro j hj h0
  by_cases e : j = i
  · subst e
    rcases hd with rfl | hd
    · omega
    · exact hd
  · exact h.1 j hj h0 e
theorem rise_step {l : List β} {i p : Nat} (h : Rise l i) (hi : i < l.length) (h0 : 0 < i) (hp : (i - 1) / 2 = p) (hpl : p < l.length) (hb : Bf (l[i]) (l[p])) : Rise (swp l i p hi hpl) p := by
  have hpi : p < i := by omega
  refine ⟨fun j hj hj0 hjp => ?_, fun j hj hp0 hjp hj0 => ?_⟩
  · rw [swp_at, swp_at]
    rw [swp_len] at hj
    rw [if_neg hjp]
    by_cases e : j = i
    · subst e
      rw [if_pos rfl, if_pos hp]
      exact bf_asymm hb
    · rw [if_neg e]
      by_cases e2 : (j - 1) / 2 = p
      · rw [if_pos e2]
        have := h.1 j hj hj0 e
        simp only [e2] at this
        exact nbf_bf hb this
      · rw [if_neg e2]
        by_cases e3 : (j - 1) / 2 = i
        · rw [if_pos e3]
          have := h.2 j hj h0 e3 hj0
          simp only [hp] at this
          exact this
        · rw [if_neg e3]
          exact h.1 j hj hj0 e
  · rw [swp_len] at hj
    rw [swp_at, swp_at, if_neg (by omega), if_neg (show ¬ (p - 1) / 2 = p by omega), if_neg (show ¬ (p - 1) / 2 = i by omega)]
    have hpp := h.1 p hpl hp0 (by omega)
    by_cases e : j = i
    · rw [if_pos e]
      exact hpp
    · rw [if_neg e]
      have := h.1 j hj hj0 e
      simp only [hjp] at this
      exact nbf_trans hpp this
theorem sink_done {l : List β} {i : Nat} (h : Sink l i) (hd : ∀ c (hc : c < l.length), 0 < c → ∀ (e : (c - 1) / 2 = i), ¬ Bf (l[c]) (l[i]'(by omega))) : Heap l := by
  intro j hj h0
  by_cases e : (j - 1) / 2 = i
  · have := hd j hj h0 e
    simp only [e]
    exact this
  · exact h.1 j hj h0 e
theorem sink_step {l : List β} {i f : Nat} (h : Sink l i) (hi : i < l.length) (hf : f < l.length) (hf0 : 0 < f) (hfi : (f - 1) / 2 = i) (hb : Bf (l[f]) (l[i])) (hd : ∀ c (hc : c < l.length), 0 < c → (c - 1) / 2 = i → ¬ Bf (l[c]) (l[f])) : Sink (swp l i f hi hf) f := by
  have hif : i < f := by omega
  refine ⟨fun j hj hj0 hjp => ?_, fun j hj hp0 hjp hj0 => ?_⟩
  · rw [swp_at, swp_at]
    rw [swp_len] at hj
    rw [if_neg hjp]
    by_cases e : j = f
    · subst e
      rw [if_pos rfl, if_pos hfi]
      exact bf_asymm hb
    · rw [if_neg e]
      by_cases e2 : (j - 1) / 2 = i
      · rw [if_pos e2, if_neg (by omega)]
        exact hd j hj hj0 e2
      · rw [if_neg e2]
        by_cases e3 : j = i
        · subst e3
          rw [if_pos rfl]
          have := h.2 f hf (by omega) hfi hf0
          exact this
        · rw [if_neg e3]
          exact h.1 j hj hj0 e2
  · rw [swp_len] at hj
    rw [swp_at, swp_at, if_neg (by omega), if_neg (by omega), if_neg (show ¬ (f - 1) / 2 = f by omega), if_pos hfi]
    have := h.1 j hj hj0 (by omega)
    simp only [hjp] at this
    exact this
/- The first one is behind none. -/
theorem heap_least {l : List β} (h : Heap l) (h0 : 0 < l.length) : ∀ j (hj : j < l.length), ¬ Bf (l[j]) (l[0]) := by
  intro j
  induction j using Nat.strongRecOn with
  | ind j ih =>
    intro hj
    by_cases e : j = 0
    · subst e; exact bf_irrefl _
    · exact nbf_trans (ih ((j - 1) / 2) (by omega) (by omega)) (h j hj (by omega))
/- Sorted: each ahead of all behind it. -/
def Sorted (s : List β) : Prop := s.Pairwise Bf
/- What a heap holds, in the order in which it gives it out; each has a turn below c. -/
structure Holds (l s : List β) (c : Nat) : Prop where
  heap : Heap l
  perm : l.Perm s
  sorted : Sorted s
  turns : ∀ x ∈ s, T x < c
theorem Holds.len {l s : List β} {c : Nat} (h : Holds l s c) : l.length = s.length := h.perm.length_eq
theorem Holds.first {l s : List β} {x : β} {c : Nat} (h : Holds l (x :: s) c) (h0 : 0 < l.length) : l[0] = x := by
  have hm : l[0] ∈ x :: s := h.perm.mem_iff.1 (List.getElem_mem h0)
  rcases List.mem_cons.1 hm with e | hs
  · exact e
  · exfalso
    have hb := (List.pairwise_cons.1 h.sorted).1 _ hs
    have hx : x ∈ l := h.perm.mem_iff.2 (List.mem_cons_self ..)
    obtain ⟨j, hj, e⟩ := List.mem_iff_getElem.1 hx
    have := heap_least h.heap h0 j hj
    rw [e] at this
    exact this hb
theorem Holds.nil (c : Nat) : Holds ([] : List β) [] c := ⟨fun j h => by simp at h, List.Perm.refl _, List.Pairwise.nil, fun x h => by simp at h⟩
/- One is put in. -/
def ins (x : β) : List β → List β
  | [] => [x]
  | y :: ys => if Bf y x then y :: ins x ys else x :: y :: ys
theorem ins_perm (x : β) : ∀ s : List β, (ins x s).Perm (x :: s)
  | [] => List.Perm.refl _
  | y :: ys => by
    unfold ins
    split
    · exact ((ins_perm x ys).cons y).trans (List.Perm.swap x y ys)
    · exact List.Perm.refl _
theorem ins_sorted {x : β} {c : Nat} (hx : T x = c) : ∀ s : List β, Sorted s → (∀ y ∈ s, T y < c) → Sorted (ins x s)
  | [], _, _ => List.pairwise_singleton _ _
  | y :: ys, hs, ht => by
    have hs' := List.pairwise_cons.1 hs
    unfold ins
    split
    · rename_i hb
      refine List.pairwise_cons.2 ⟨fun z hz => ?_, ins_sorted hx ys hs'.2 fun z hz => ht z (List.mem_cons_of_mem _ hz)⟩
      rcases List.mem_cons.1 ((ins_perm x ys).mem_iff.1 hz) with rfl | hz
      · exact hb
      · exact hs'.1 z hz
    · rename_i hb
      have hxy : Bf x y := by
        have := ht y (List.mem_cons_self ..)
        unfold Bf at *
        omega
      refine List.pairwise_cons.2 ⟨fun z hz => ?_, hs⟩
      rcases List.mem_cons.1 hz with rfl | hz
      · exact hxy
      · exact bf_trans hxy (hs'.1 z hz)
theorem Holds.push {l l' s : List β} {x : β} {c : Nat} (h : Holds l s c) (hx : T x = c) (hp : l'.Perm (l ++ [x])) (hl : Heap l') : Holds l' (ins x s) (c + 1) := by
  refine ⟨hl, ?_, ins_sorted hx s h.sorted h.turns, fun y hy => ?_⟩
  · refine hp.trans (List.perm_append_comm.trans ?_)
    exact (h.perm.cons x).trans (ins_perm x s).symm
  · rcases List.mem_cons.1 ((ins_perm x s).mem_iff.1 hy) with rfl | hy
    · omega
    · have := h.turns y hy; omega
/- To put in one behind all. -/
theorem rise_start {l : List β} {x : β} (h : Heap l) : Rise (l ++ [x]) l.length := by
  refine ⟨fun j hj hj0 hjl => ?_, fun j hj _ h2 h0 => ?_⟩
  · have hj' : j < l.length := by simp at hj; omega
    rw [List.getElem_append_left hj', List.getElem_append_left (by omega)]
    exact h j hj' hj0
  · simp at hj; omega
theorem sink_start {l : List β} (h : Heap l) (h0 : 0 < l.length) : Sink (outL l h0) 0 := by
  refine ⟨fun j hj hj0 hjp => ?_, fun j hj h2 => by omega⟩
  rw [outL_len] at hj
  rw [outL_at, outL_at, List.getElem_set_ne (by omega), List.getElem_set_ne (by omega)]
  exact h j (by omega) hj0
theorem Holds.out {l l' s : List β} {x : β} {c : Nat} (h : Holds l (x :: s) c) (h0 : 0 < l.length) (hp : l'.Perm (outL l h0)) (hl : Heap l') : Holds l' s c := by
  refine ⟨hl, ?_, (List.pairwise_cons.1 h.sorted).2, fun y hy => h.turns y (List.mem_cons_of_mem _ hy)⟩
  have h1 := (outL_perm l h0).trans h.perm
  rw [h.first h0] at h1
  exact hp.trans (List.Perm.cons_inv h1)
/- A sorted list is a heap. -/
theorem heap_sorted {s : List β} (h : Sorted s) : Heap s := by
  intro j hj h0
  exact bf_asymm (List.pairwise_iff_getElem.1 h ((j - 1) / 2) j (by omega) hj (by omega))
theorem Holds.sub {l s s' : List β} {c : Nat} (h : Holds l s c) (hs : s'.Sublist s) : Holds s' s' c :=
  ⟨heap_sorted (h.sorted.sublist hs), List.Perm.refl _, h.sorted.sublist hs, fun x hx => h.turns x (hs.subset hx)⟩
/- There is one sorted list only. -/
theorem sorted_unique : ∀ {s s' : List β}, Sorted s → Sorted s' → s.Perm s' → s = s'
  | [], s', _, _, hp => (List.Perm.nil_eq hp)
  | x :: s, [], _, _, hp => by have := hp.length_eq; simp at this
  | x :: s, y :: s', h, h', hp => by
    have e : x = y := by
      have hx : x ∈ y :: s' := hp.mem_iff.1 (List.mem_cons_self ..)
      have hy : y ∈ x :: s := hp.mem_iff.2 (List.mem_cons_self ..)
      rcases List.mem_cons.1 hx with e | hx
      · exact e
      · rcases List.mem_cons.1 hy with e | hy
        · exact e.symm
        · exact (bf_asymm ((List.pairwise_cons.1 h).1 _ hy) ((List.pairwise_cons.1 h').1 _ hx)).elim
    subst e
    rw [sorted_unique (List.pairwise_cons.1 h).2 (List.pairwise_cons.1 h').2 (List.Perm.cons_inv hp)]
end Go.Proofs.Ytddkgkafgjdheaa.Hp
