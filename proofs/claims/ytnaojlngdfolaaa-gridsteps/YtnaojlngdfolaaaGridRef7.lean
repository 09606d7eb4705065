/-
  The chapter's own word on stacks and bins.
-/
import Derived.Test.YtnaojlngdfolaaaGridCopy2
import Derived.Test.YtnaojlngdfolaaaGridRefNum
namespace Go.Proofs.Ytnaojlngdfolaaa.Grid
set_option linter.unusedVariables false
set_option linter.unusedSimpArgs false
open Go Go.RowKit Go.Shelf Go.Proofs

def binsP (c : Conf) : Prop := c.stacks.length ≤ 257 ∧ (∀ s ∈ c.stacks, stackedR c s.1 ∧ (s.2.length : Int) ≤ c.height) ∧ (c.stacks.map Prod.fst).Nodup ∧ mayBeP (c.stacks.flatMap Prod.snd)
instance (c : Conf) : Decidable (binsP c) := by unfold binsP; infer_instance
/- A config in a box of the call's own. -/
structure One (w : World) (cs : Array Value) (W : World) : Prop where
  below : Below w.heap.size w W
  a : W.heap[w.heap.size]? = some (.cells cs 26 (0, 0))
theorem One.go {w : World} {cs : Array Value} {W W' : World} (h : One w cs W) (hb : Below W.heap.size W W') : One w cs W' := ⟨bcat h.below hb (Nat.le_refl _), (hb.block _ (lt_of_heap h.a)).trans h.a⟩
def flatT (c : Conf) (k : Nat) : List Int := (c.stacks.take k).flatMap Prod.snd
structure Bn (w : World) (c : Conf) (cs : Array Value) (v : Value) (k : Nat) (wr : World) : Prop where
  box : One w cs wr
  own : wr.ownsRow (w.heap.size + 1) 3 1 v (flatT c k).length (rowL intL (flatT c k))
  small : (flatT c k).length ≤ 8 * k
  few : k ≤ 257
  good : ∀ s ∈ c.stacks.take k, stackedR c s.1 ∧ (s.2.length : Int) ≤ c.height
  nod : ((c.stacks.take k).map Prod.fst).Nodup
section
variable {w : World} {c : Conf} {cs : Array Value} {v : Value} {k : Nat} {wr : World}
theorem Bn.go (h : Bn w c cs v k wr) {W' : World} (hb : Below wr.heap.size wr W') : Bn w c cs v k W' := ⟨h.box.go hb, owns_go h.own hb, h.small, h.few, h.good, h.nod⟩
theorem Bn.next (h : Bn w c cs v k wr) (hk : k < c.stacks.length) (h8 : c.height ≤ 8) (h256 : ¬ 256 < k) (hs : stackedR c (c.stacks[k]'hk).1) (hl : ((c.stacks[k]'hk).2.length : Int) ≤ c.height) (hn : ∀ j (hj : j < k), (c.stacks[j]'(by omega)).1 ≠ (c.stacks[k]'hk).1) {v' : Value} {W' : World}
    (ho : W'.ownsRow (w.heap.size + 1) 3 1 v' (flatT c k ++ (c.stacks[k]'hk).2).length (rowL intL (flatT c k ++ (c.stacks[k]'hk).2))) (hg : wr.grownBy W' v.ownBlock) : Bn w c cs v' (k + 1) W' := by
  have e : flatT c (k + 1) = flatT c k ++ (c.stacks[k]'hk).2 := flat_take c.stacks Prod.snd k hk
  have et : c.stacks.take (k + 1) = c.stacks.take k ++ [c.stacks[k]'hk] := by rw [List.take_add_one, List.getElem?_eq_getElem hk]; rfl
  have hlt := h.own.lt
  refine ⟨⟨h.box.below.grown hg h.box.below.size (fun g q => by have := (hlt g q).1; omega), (hg.block _ (lt_of_heap h.box.a) (fun q => by have := (hlt _ q.symm).1; omega)).trans h.box.a⟩, by rw [e]; exact ho, ?_, by omega, fun s hs' => ?_, ?_⟩
  · rw [e, List.length_append]; have := h.small; omega
  · rw [et] at hs'
    rcases List.mem_append.1 hs' with q | q
    · exact h.good s q
    · rw [List.mem_singleton.1 q]; exact ⟨hs, hl⟩
  · rw [et, List.map_append, List.nodup_append]
    refine ⟨h.nod, by simp, fun a ha b hb => ?_⟩
    obtain ⟨s, hs', rfl⟩ := List.mem_map.1 ha
    obtain ⟨j, hj, e2⟩ := List.getElem_of_mem hs'
    rw [List.length_take] at hj
    rw [List.getElem_take] at e2
    simp at hb
    subst hb
    rw [← e2]
    exact hn j (by omega)
end
theorem bins_long {c : Conf} {k : Nat} (hk : k < c.stacks.length) (h : 256 < k) : decide (binsP c) = false := decide_eq_false fun q => by have := q.1; omega
theorem bins_bad {c : Conf} {k : Nat} (hk : k < c.stacks.length) (h : ¬ (stackedR c (c.stacks[k]'hk).1 ∧ ((c.stacks[k]'hk).2.length : Int) ≤ c.height)) : decide (binsP c) = false := decide_eq_false fun q => h (q.2.1 _ (List.getElem_mem hk))
theorem bins_twice {c : Conf} {k j : Nat} (hk : k < c.stacks.length) (hj : j < k) (h : (c.stacks[j]'(by omega)).1 = (c.stacks[k]'hk).1) : decide (binsP c) = false := decide_eq_false fun q => by
  have hn := q.2.2.1
  have e : ((c.stacks.map Prod.fst)[j]'(by rw [List.length_map]; omega)) = (c.stacks.map Prod.fst)[k]'(by rw [List.length_map]; exact hk) := by rw [List.getElem_map, List.getElem_map]; exact h
  have := (List.getElem_inj hn).1 e
  omega
theorem bins_all {w : World} {c : Conf} {cs : Array Value} {v : Value} {wr : World} (h : Bn w c cs v c.stacks.length wr) : decide (binsP c) = decide (mayBeP (flatT c c.stacks.length)) := by
  have hg := h.good
  have hn := h.nod
  rw [List.take_length] at hg hn
  refine decide_eq_decide.2 ⟨fun q => ?_, fun q => ⟨h.few, hg, hn, ?_⟩⟩
  · unfold flatT; rw [List.take_length]; exact q.2.2.2
  · unfold flatT at q; rw [List.take_length] at q; exact q
/- Numbers, each held against those before it. -/
theorem mayBe_long {A : List Int} (h : ¬ A.length ≤ 512) : decide (mayBeP A) = false := decide_eq_false fun q => h q.1
theorem mayBe_bad {A : List Int} {k : Nat} (hk : k < A.length) (h : upTo (A[k]'hk) 1000000000 = false) : decide (mayBeP A) = false := decide_eq_false fun q => by
  have := q.2.1 _ (List.getElem_mem hk)
  unfold upTo at h
  simp at h
  omega
theorem mayBe_twice {A : List Int} {k j : Nat} (hk : k < A.length) (hj : j < k) (h : (A[j]'(by omega)) = A[k]'hk) : decide (mayBeP A) = false := decide_eq_false fun q => by
  have := (List.getElem_inj q.2.2).1 h
  omega
theorem mayBe_yes {A : List Int} (hl : A.length ≤ 512) (h : ∀ k (hk : k < A.length), upTo (A[k]'hk) 1000000000 = true ∧ ∀ j (hj : j < k), (A[j]'(by omega)) ≠ A[k]'hk) : decide (mayBeP A) = true := decide_eq_true (by
  refine ⟨hl, fun b hb => ?_, ?_⟩
  · obtain ⟨k, hk, rfl⟩ := List.getElem_of_mem hb
    have := (h k hk).1
    unfold upTo at this
    simpa using this
  · rw [List.nodup_iff_pairwise_ne, List.pairwise_iff_getElem]
    exact fun i j hi hj hij => (h j hj).2 i hij)
end Go.Proofs.Ytnaojlngdfolaaa.Grid
