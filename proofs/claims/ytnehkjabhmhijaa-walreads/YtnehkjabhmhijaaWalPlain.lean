/-
  Records in bytes, in plain words: which record stands at the beginning of some bytes, the records of any bytes, what is appended, what is torn, what is turned. No model in here.
-/
import Derived.Test.YtnehkjabhmhijaaCrcPlain
namespace Go.Proofs.Ytnehkjabhmhijaa.Wal
set_option linter.unusedVariables false
set_option linter.unusedSimpArgs false
open Go.Proofs.Ytnehkjabhmhijaa.Crc (u32 more byte shs)

def num (l : List Int) : Int := l.foldr (fun c v => c + 256 * v) 0
def four (v : Int) : List Int := [v % 256, v / 256 % 256, v / 65536 % 256, v / 16777216 % 256]
def sumOf (len says : List Int) : Int := u32 (more 0#32 (len ++ says))
def rec (x : List Int) : List Int := four x.length ++ four (sumOf (four x.length) x) ++ x

theorem num_cons (c : Int) (l : List Int) : num (c :: l) = c + 256 * num l := rfl
theorem num_nil : num [] = 0 := rfl
theorem four_length (v : Int) : (four v).length = 4 := rfl
theorem four_small (v : Int) : ∀ z ∈ four v, 0 ≤ z ∧ z < 256 := by
  intro z hz
  simp only [four, List.mem_cons, List.not_mem_nil, or_false] at hz
  rcases hz with rfl | rfl | rfl | rfl <;> omega
theorem num_four (v : Int) (h0 : 0 ≤ v) (h1 : v < 4294967296) : num (four v) = v := by
  simp only [four, num_cons, num_nil]
  omega
theorem four_split (l : List Int) (h : l.length = 4) : ∃ a b c d, l = [a, b, c, d] := by
  match l, h with
  | [a, b, c, d], _ => exact ⟨a, b, c, d, rfl⟩
theorem num_inj (l m : List Int) (hl : l.length = 4) (hm : m.length = 4) (h1 : ∀ z ∈ l, 0 ≤ z ∧ z < 256) (h2 : ∀ z ∈ m, 0 ≤ z ∧ z < 256) (h : num l = num m) : l = m := by
  obtain ⟨a, b, c, d, rfl⟩ := four_split l hl
  obtain ⟨a', b', c', d', rfl⟩ := four_split m hm
  simp only [List.mem_cons, List.not_mem_nil, or_false, forall_eq_or_imp, forall_eq] at h1 h2
  simp only [num_cons, num_nil] at h
  obtain ⟨h11, h12, h13, h14⟩ := h1
  obtain ⟨h21, h22, h23, h24⟩ := h2
  have e1 : a = a' := by omega
  have e2 : b = b' := by omega
  have e3 : c = c' := by omega
  have e4 : d = d' := by omega
  rw [e1, e2, e3, e4]
theorem num_bd (l : List Int) (hl : l.length = 4) (h : ∀ z ∈ l, 0 ≤ z ∧ z < 256) : 0 ≤ num l ∧ num l < 4294967296 := by
  obtain ⟨a, b, c, d, rfl⟩ := four_split l hl
  simp only [List.mem_cons, List.not_mem_nil, or_false, forall_eq_or_imp, forall_eq] at h
  simp only [num_cons, num_nil]
  obtain ⟨h11, h12, h13, h14⟩ := h
  omega
theorem sumOf_bd (l m : List Int) : 0 ≤ sumOf l m ∧ sumOf l m < 4294967296 := Crc.u32_bd _

/- How many bytes the record says that stands at the beginning of b. -/
def first (b : List Int) : Option Nat :=
  if b.length < 8 then none
  else if num (b.take 4) < 1 ∨ 65536 < num (b.take 4) ∨ (b.length : Int) - 8 < num (b.take 4) then none
  else if num ((b.drop 4).take 4) = sumOf (b.take 4) ((b.drop 8).take (num (b.take 4)).toNat) then some (num (b.take 4)).toNat
  else none
theorem first_le {b : List Int} {n : Nat} (h : first b = some n) : 1 ≤ n ∧ n ≤ 65536 ∧ 8 + n ≤ b.length := by
  unfold first at h
  split at h
  · cases h
  · split at h
    · cases h
    · split at h
      · cases h
        omega
      · cases h

/- The records from a place on. -/
def Goes (b : List Int) : Nat → List Nat → Prop
  | _, [] => True
  | at_, n :: ns => first (b.drop at_) = some n ∧ Goes b (at_ + (8 + n)) ns
def stop (at_ : Nat) (ns : List Nat) : Nat := ns.foldl (fun a n => a + (8 + n)) at_
def says (b : List Int) : Nat → List Nat → List (List Int)
  | _, [] => []
  | at_, n :: ns => (b.drop (at_ + 8)).take n :: says b (at_ + (8 + n)) ns
def places : Nat → List Nat → List (Nat × Nat)
  | _, [] => []
  | at_, n :: ns => (at_, n) :: places (at_ + (8 + n)) ns
def Done (b : List Int) (ns : List Nat) : Prop := Goes b 0 ns ∧ first (b.drop (stop 0 ns)) = none

theorem stop_nil (a : Nat) : stop a [] = a := rfl
theorem stop_cons (a n : Nat) (ns : List Nat) : stop a (n :: ns) = stop (a + (8 + n)) ns := rfl
theorem stop_snoc (a n : Nat) (ns : List Nat) : stop a (ns ++ [n]) = stop a ns + (8 + n) := by unfold stop; rw [List.foldl_append]; rfl
theorem stop_append (a : Nat) (ns ms : List Nat) : stop a (ns ++ ms) = stop (stop a ns) ms := by unfold stop; rw [List.foldl_append]
theorem stop_ge (ns : List Nat) : ∀ a, a ≤ stop a ns := by
  induction ns with
  | nil => intro a; exact Nat.le_refl _
  | cons n ns ih => intro a; rw [stop_cons]; have := ih (a + (8 + n)); omega
theorem stop_count (ns : List Nat) : ∀ a, a + ns.length ≤ stop a ns := by
  induction ns with
  | nil => intro a; exact Nat.le_refl _
  | cons n ns ih => intro a; rw [stop_cons]; have := ih (a + (8 + n)); simp only [List.length_cons]; omega
theorem says_length (b : List Int) (ns : List Nat) : ∀ a, (says b a ns).length = ns.length := by
  induction ns with
  | nil => intro a; rfl
  | cons n ns ih => intro a; simp only [says, List.length_cons, ih]
theorem places_length (ns : List Nat) : ∀ a, (places a ns).length = ns.length := by
  induction ns with
  | nil => intro a; rfl
  | cons n ns ih => intro a; simp only [places, List.length_cons, ih]
theorem says_append (b : List Int) (ns ms : List Nat) : ∀ a, says b a (ns ++ ms) = says b a ns ++ says b (stop a ns) ms := by
  induction ns with
  | nil => intro a; rfl
  | cons n ns ih => intro a; simp only [List.cons_append, says, ih, stop_cons]
theorem places_append (ns ms : List Nat) : ∀ a, places a (ns ++ ms) = places a ns ++ places (stop a ns) ms := by
  induction ns with
  | nil => intro a; rfl
  | cons n ns ih => intro a; simp only [List.cons_append, places, ih, stop_cons]
theorem Goes.append {b : List Int} (ns ms : List Nat) : ∀ a, Goes b a (ns ++ ms) ↔ Goes b a ns ∧ Goes b (stop a ns) ms := by
  induction ns with
  | nil => intro a; simp [Goes, stop]
  | cons n ns ih => intro a; simp only [List.cons_append, Goes, ih, stop_cons, and_assoc]
theorem Goes.le {b : List Int} (ns : List Nat) : ∀ a, a ≤ b.length → Goes b a ns → stop a ns ≤ b.length := by
  induction ns with
  | nil => intro a ha _; exact ha
  | cons n ns ih =>
    intro a ha h
    have := first_le h.1
    rw [List.length_drop] at this
    exact ih (a + (8 + n)) (by omega) h.2
/- Each record lies within the bytes. -/
theorem Goes.place {b : List Int} (ns : List Nat) : ∀ a, Goes b a ns → ∀ r ∈ places a ns, 1 ≤ r.2 ∧ r.2 ≤ 65536 ∧ r.1 + 8 + r.2 ≤ b.length := by
  induction ns with
  | nil => intro a _ r hr; cases hr
  | cons n ns ih =>
    intro a h r hr
    rcases List.mem_cons.1 hr with rfl | hr
    · have := first_le h.1
      rw [List.length_drop] at this
      exact ⟨this.1, this.2.1, by omega⟩
    · exact ih _ h.2 r hr
theorem done_any (b : List Int) : ∃ ns, Done b ns := by
  have key : ∀ k a, a ≤ b.length → b.length - a ≤ k → ∃ ns, Goes b a ns ∧ first (b.drop (stop a ns)) = none := by
    intro k
    induction k with
    | zero =>
      intro a ha hk
      refine ⟨[], trivial, ?_⟩
      rw [stop_nil, List.drop_eq_nil_of_le (by omega)]
      rfl
    | succ k ih =>
      intro a ha hk
      cases hf : first (b.drop a) with
      | none => exact ⟨[], trivial, hf⟩
      | some n =>
        have := first_le hf
        rw [List.length_drop] at this
        obtain ⟨ns, h1, h2⟩ := ih (a + (8 + n)) (by omega) (by omega)
        exact ⟨n :: ns, ⟨hf, h1⟩, h2⟩
  exact key b.length 0 (by omega) (by omega)
theorem done_one {b : List Int} {ns ms : List Nat} (h : Done b ns) (h' : Done b ms) : ns = ms := by
  have key : ∀ (ns ms : List Nat) a, Goes b a ns → first (b.drop (stop a ns)) = none → Goes b a ms → first (b.drop (stop a ms)) = none → ns = ms := by
    intro ns
    induction ns with
    | nil =>
      intro ms a _ h2 h3 _
      cases ms with
      | nil => rfl
      | cons m ms => rw [stop_nil, h3.1] at h2; cases h2
    | cons n ns ih =>
      intro ms a h1 h2 h3 h4
      cases ms with
      | nil => rw [stop_nil, h1.1] at h4; cases h4
      | cons m ms =>
        have e : n = m := by have := h1.1; rw [h3.1] at this; exact (Option.some.inj this).symm
        subst e
        rw [ih ms _ h1.2 h2 h3.2 h4]
  exact key ns ms 0 h.1 h.2 h'.1 h'.2
theorem Done.le {b : List Int} {ns : List Nat} (h : Done b ns) : stop 0 ns ≤ b.length := Goes.le ns 0 (by omega) h.1
end Go.Proofs.Ytnehkjabhmhijaa.Wal
