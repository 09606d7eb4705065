/-
  What was done to a file since it was certain, as a list of units (a byte that is put behind, a cut), and what bytes come of it. No model in here.
-/
namespace Go.Proofs.Ytnifpfkemjolkaa.Disk
set_option linter.unusedVariables false
set_option linter.unusedSimpArgs false

abbrev U := Sum Int Nat

def step (b : List Int) (u : U) : List Int := match u with
  | .inl z => b ++ [z]
  | .inr n => b.take n
def run (b : List Int) (us : List U) : List Int := us.foldl step b

theorem run_nil (b : List Int) : run b [] = b := rfl
theorem run_append (b : List Int) (us vs : List U) : run b (us ++ vs) = run (run b us) vs := List.foldl_append ..
theorem run_bytes (zs : List Int) : ∀ b : List Int, run b (zs.map Sum.inl) = b ++ zs := by
  induction zs with
  | nil => intro b; simp [run]
  | cons z zs ih => intro b; show run (b ++ [z]) (zs.map Sum.inl) = _; rw [ih]; simp
theorem run_cut (b : List Int) (n : Nat) : run b [.inr n] = b.take n := rfl
theorem run_len (us : List U) : ∀ b : List Int, (run b us).length ≤ b.length + us.length := by
  induction us with
  | nil => intro b; simp [run]
  | cons u us ih =>
    intro b
    have h := ih (step b u)
    have h2 : (step b u).length ≤ b.length + 1 := by
      cases u with
      | inl z => simp [step]
      | inr n => simp [step]; omega
    show (run (step b u) us).length ≤ _
    simp only [List.length_cons]
    omega
theorem run_small (us : List U) : ∀ b : List Int, (∀ z ∈ b, 0 ≤ z ∧ z < 256) → (∀ z, Sum.inl z ∈ us → 0 ≤ z ∧ z < 256) → ∀ z ∈ run b us, 0 ≤ z ∧ z < 256 := by
  induction us with
  | nil => intro b hb _; exact hb
  | cons u us ih =>
    intro b hb hu
    refine ih (step b u) ?_ (fun z hz => hu z (List.mem_cons_of_mem _ hz))
    intro z hz
    cases u with
    | inl y =>
      rcases List.mem_append.1 hz with h | h
      · exact hb z h
      · have : z = y := by simpa using h
        subst this
        exact hu z (List.mem_cons_self ..)
    | inr n => exact hb z (List.mem_of_mem_take hz)

/- Each cut leaves no more than there is. -/
def okb : List Int → List U → Prop
  | _, [] => True
  | b, u :: us => (∀ n, u = .inr n → n ≤ b.length) ∧ okb (step b u) us
theorem okb_append (us vs : List U) : ∀ b : List Int, okb b (us ++ vs) ↔ okb b us ∧ okb (run b us) vs := by
  induction us with
  | nil => intro b; simp [okb, run]
  | cons u us ih =>
    intro b
    show (_ ∧ okb (step b u) (us ++ vs)) ↔ (_ ∧ okb (step b u) us) ∧ okb (run (step b u) us) vs
    rw [ih, and_assoc]
theorem okb_bytes (zs : List Int) : ∀ b : List Int, okb b (zs.map Sum.inl) := by
  induction zs with
  | nil => intro b; trivial
  | cons z zs ih => intro b; exact ⟨fun n h => (by cases h), ih _⟩
theorem okb_take (us : List U) (k : Nat) (b : List Int) (h : okb b us) : okb b (us.take k) := by
  have := (okb_append (us.take k) (us.drop k) b).1 (by rw [List.take_append_drop]; exact h)
  exact this.1
theorem take_pre (pre rest : List U) (m : Nat) (h : m ≤ pre.length) : (pre ++ rest).take m = pre.take m := by
  rw [List.take_append, show m - pre.length = 0 by omega, List.take_zero, List.append_nil]
theorem take_on (pre c : List U) (m : Nat) (h : pre.length ≤ m) : (pre ++ c).take m = pre.take m ++ c.take (m - pre.length) := by
  rw [List.take_append]
theorem take_map_inl (zs : List Int) (k : Nat) : (zs.map (Sum.inl : Int → U)).take k = (zs.take k).map Sum.inl := by rw [List.map_take]

end Go.Proofs.Ytnifpfkemjolkaa.Disk
