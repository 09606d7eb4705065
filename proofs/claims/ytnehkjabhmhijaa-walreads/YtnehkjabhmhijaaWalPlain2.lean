/-
  Records behind each other: what is told of them, torn anywhere, or with a byte that is turned. No model in here.
-/
import Derived.Test.YtnehkjabhmhijaaWalPlain
namespace Go.Proofs.Ytnehkjabhmhijaa.Wal
set_option linter.unusedVariables false
set_option linter.unusedSimpArgs false

def Fits (x : List Int) : Prop := 1 ≤ x.length ∧ x.length ≤ 65536
def recsOf (xs : List (List Int)) : List Int := xs.flatMap rec
def lens (xs : List (List Int)) : List Nat := xs.map List.length
theorem rec_len (x : List Int) : (rec x).length = 8 + x.length := by simp [rec, four_length]; omega
theorem recsOf_nil : recsOf [] = [] := rfl
theorem recsOf_cons (x : List Int) (xs : List (List Int)) : recsOf (x :: xs) = rec x ++ recsOf xs := rfl
theorem recsOf_append (xs ys : List (List Int)) : recsOf (xs ++ ys) = recsOf xs ++ recsOf ys := List.flatMap_append
theorem recsOf_snoc (xs : List (List Int)) (x : List Int) : recsOf (xs ++ [x]) = recsOf xs ++ rec x := by rw [recsOf_append, recsOf_cons, recsOf_nil, List.append_nil]
theorem lens_length (xs : List (List Int)) : (lens xs).length = xs.length := List.length_map ..

/- The head of a record's bytes, and what stands behind. -/
theorem rec_take4 (x rest : List Int) : (rec x ++ rest).take 4 = four x.length := by
  rw [rec, List.append_assoc, List.append_assoc, List.take_left' (four_length _)]
theorem rec_drop4 (x rest : List Int) : ((rec x ++ rest).drop 4).take 4 = four (sumOf (four x.length) x) := by
  rw [rec, List.append_assoc, List.append_assoc, List.drop_left' (four_length _), List.take_left' (four_length _)]
theorem rec_drop8 (x rest : List Int) : (rec x ++ rest).drop 8 = x ++ rest := by
  rw [rec, List.append_assoc, List.drop_left' (by simp [four_length])]
theorem num_len (x : List Int) (h : x.length ≤ 65536) : num (four x.length) = x.length := num_four _ (by omega) (by omega)
theorem first_rec (x rest : List Int) (h : Fits x) : first (rec x ++ rest) = some x.length := by
  have hn := num_len x h.2
  have h1 := h.1
  have h2 := h.2
  unfold first
  rw [if_neg (by rw [List.length_append, rec_len]; omega), rec_take4, hn, if_neg (by rw [List.length_append, rec_len]; omega), rec_drop4, rec_drop8, Int.toNat_natCast, List.take_left' rfl,
    num_four _ (sumOf_bd _ _).1 (sumOf_bd _ _).2, if_pos rfl]
theorem first_torn (x : List Int) (h : Fits x) (k : Nat) (hk : k < 8 + x.length) : first ((rec x).take k) = none := by
  have hn := num_len x h.2
  have hl : ((rec x).take k).length = k := by rw [List.length_take, rec_len]; omega
  unfold first
  by_cases h8 : k < 8
  · rw [if_pos (by rw [hl]; exact h8)]
  · rw [if_neg (by rw [hl]; exact h8), List.take_take, Nat.min_eq_left (by omega)]
    have e := rec_take4 x []
    rw [List.append_nil] at e
    rw [e, hn, if_pos (by rw [hl]; omega)]
theorem first_nil : first [] = none := rfl

theorem goes_recs (xs : List (List Int)) (hx : ∀ x ∈ xs, Fits x) : ∀ (pre rest : List Int), Goes (pre ++ (recsOf xs ++ rest)) pre.length (lens xs) ∧ stop pre.length (lens xs) = pre.length + (recsOf xs).length ∧ says (pre ++ (recsOf xs ++ rest)) pre.length (lens xs) = xs := by
  induction xs with
  | nil => intro pre rest; exact ⟨trivial, rfl, rfl⟩
  | cons x xs ih =>
    intro pre rest
    have hf := hx x (List.mem_cons_self ..)
    obtain ⟨h1, h2, h3⟩ := ih (fun y hy => hx y (List.mem_cons_of_mem _ hy)) (pre ++ rec x) rest
    have e : pre ++ rec x ++ (recsOf xs ++ rest) = pre ++ (recsOf (x :: xs) ++ rest) := by simp [recsOf_cons]
    have el : (pre ++ rec x).length = pre.length + (8 + x.length) := by rw [List.length_append, rec_len]
    rw [e, el] at h1 h3
    rw [el] at h2
    refine ⟨⟨?_, h1⟩, ?_, ?_⟩
    · rw [List.drop_left, recsOf_cons, List.append_assoc]
      exact first_rec x _ hf
    · show stop (pre.length + (8 + x.length)) (lens xs) = _
      rw [h2, recsOf_cons, List.length_append, rec_len]
      omega
    · show List.take x.length (List.drop (pre.length + 8) _) :: says _ (pre.length + (8 + x.length)) (lens xs) = _
      rw [h3, ← List.drop_drop, List.drop_left, recsOf_cons, List.append_assoc, rec_drop8, List.take_left' rfl]
theorem done_recs (xs : List (List Int)) (hx : ∀ x ∈ xs, Fits x) (rest : List Int) (hr : first rest = none) : Done (recsOf xs ++ rest) (lens xs) ∧ stop 0 (lens xs) = (recsOf xs).length ∧ says (recsOf xs ++ rest) 0 (lens xs) = xs := by
  obtain ⟨h1, h2, h3⟩ := goes_recs xs hx [] rest
  rw [List.nil_append, List.length_nil] at h1 h3
  rw [List.length_nil, Nat.zero_add] at h2
  refine ⟨⟨h1, ?_⟩, h2, h3⟩
  rw [h2, List.drop_left]
  exact hr
theorem done_all (xs : List (List Int)) (hx : ∀ x ∈ xs, Fits x) : Done (recsOf xs) (lens xs) ∧ stop 0 (lens xs) = (recsOf xs).length ∧ says (recsOf xs) 0 (lens xs) = xs := by
  have := done_recs xs hx [] first_nil
  rwa [List.append_nil] at this

/- Torn anywhere. -/
theorem torn (xs : List (List Int)) (hx : ∀ x ∈ xs, Fits x) : ∀ k, ∃ j rest, j ≤ xs.length ∧ (recsOf xs).take k = recsOf (xs.take j) ++ rest ∧ first rest = none ∧ ∀ i, i ≤ xs.length → (recsOf (xs.take i)).length ≤ k → i ≤ j := by
  induction xs with
  | nil => intro k; exact ⟨0, [], Nat.le_refl _, by simp [recsOf], first_nil, fun i hi _ => hi⟩
  | cons x xs ih =>
    intro k
    have hf := hx x (List.mem_cons_self ..)
    by_cases hk : k < 8 + x.length
    · refine ⟨0, (rec x).take k, Nat.zero_le _, ?_, first_torn x hf k hk, fun i hi hl => ?_⟩
      · rw [recsOf_cons, List.take_append_of_le_length (by rw [rec_len]; omega)]
        rfl
      · cases i with
        | zero => exact Nat.le_refl _
        | succ i =>
          rw [List.take_succ_cons, recsOf_cons, List.length_append, rec_len] at hl
          omega
    · obtain ⟨j, rest, h1, h2, h3, h4⟩ := ih (fun y hy => hx y (List.mem_cons_of_mem _ hy)) (k - (8 + x.length))
      refine ⟨j + 1, rest, by simpa using h1, ?_, h3, fun i hi hl => ?_⟩
      · rw [List.take_succ_cons, recsOf_cons, recsOf_cons, List.append_assoc, ← h2, List.take_append, rec_len, List.take_of_length_le (by rw [rec_len]; omega)]
      · cases i with
        | zero => exact Nat.zero_le _
        | succ i =>
          rw [List.take_succ_cons, recsOf_cons, List.length_append, rec_len] at hl
          have := h4 i (by simpa using hi) (by omega)
          omega

/- One byte that is turned. -/
theorem run_inj (l : List Int) (x y : BitVec 32) (h : Crc.run x l = Crc.run y l) : x = y := by
  have e : x = y ^^^ (y ^^^ x) := by rw [← BitVec.xor_assoc, BitVec.xor_self, BitVec.zero_xor]
  rw [e, Crc.run_xor] at h
  have h2 : Crc.shs (8 * l.length) (y ^^^ x) = 0#32 := by
    have := congrArg (fun z => Crc.run y l ^^^ z) h
    simp only [← BitVec.xor_assoc, BitVec.xor_self, BitVec.zero_xor] at this
    exact this
  have h3 := Crc.shs_inj _ _ h2
  have := congrArg (fun z => y ^^^ z) h3
  simp only [← BitVec.xor_assoc, BitVec.xor_self, BitVec.zero_xor, BitVec.xor_zero] at this
  exact this
theorem byte_inj (r : BitVec 32) (c d : Int) (c0 : 0 ≤ c) (c1 : c < 256) (d0 : 0 ≤ d) (d1 : d < 256) (h : Crc.byte r c = Crc.byte r d) : c = d := by
  unfold Crc.byte at h
  have e : r ^^^ BitVec.ofNat 32 c.toNat = (r ^^^ BitVec.ofNat 32 d.toNat) ^^^ ((r ^^^ BitVec.ofNat 32 d.toNat) ^^^ (r ^^^ BitVec.ofNat 32 c.toNat)) := by rw [← BitVec.xor_assoc, BitVec.xor_self, BitVec.zero_xor]
  rw [e, Crc.shs_xor] at h
  generalize hz : (r ^^^ BitVec.ofNat 32 d.toNat) ^^^ (r ^^^ BitVec.ofNat 32 c.toNat) = z at h
  have h2 : Crc.shs 8 z = 0#32 := by
    have := congrArg (fun u => Crc.shs 8 (r ^^^ BitVec.ofNat 32 d.toNat) ^^^ u) h
    simp only [← BitVec.xor_assoc, BitVec.xor_self, BitVec.zero_xor] at this
    exact this
  have h3 := Crc.shs_inj _ _ h2
  rw [h3] at hz
  have h4 : BitVec.ofNat 32 d.toNat = BitVec.ofNat 32 c.toNat := by
    have := congrArg (fun u => (r ^^^ BitVec.ofNat 32 d.toNat) ^^^ u) hz
    simp only [← BitVec.xor_assoc, BitVec.xor_self, BitVec.zero_xor, BitVec.xor_zero] at this
    have h5 := congrArg (fun u => r ^^^ u) this
    simp only [← BitVec.xor_assoc, BitVec.xor_self, BitVec.zero_xor] at h5
    exact h5.symm
  have h6 := congrArg BitVec.toNat h4
  rw [BitVec.toNat_ofNat, BitVec.toNat_ofNat] at h6
  omega
theorem set_split {α : Type} (l : List α) (k : Nat) (v : α) (h : k < l.length) : l = l.take k ++ l[k] :: l.drop (k + 1) ∧ l.set k v = l.take k ++ v :: l.drop (k + 1) := by
  refine ⟨?_, ?_⟩
  · rw [← List.drop_eq_getElem_cons h, List.take_append_drop]
  · rw [List.set_eq_take_append_cons_drop, if_pos h]
theorem sum_turned (p x : List Int) (k : Nat) (v : Int) (hk : k < x.length) (hs : ∀ z ∈ x, 0 ≤ z ∧ z < 256) (v0 : 0 ≤ v) (v1 : v < 256) (hne : v ≠ x[k]) : sumOf p (x.set k v) ≠ sumOf p x := by
  intro h
  have h1 := Crc.u32_inj h
  unfold Crc.more at h1
  have h2 : Crc.run (~~~ 0#32) (p ++ x.set k v) = Crc.run (~~~ 0#32) (p ++ x) := by
    have := congrArg (fun z => ~~~ z) h1
    simpa using this
  obtain ⟨e1, e2⟩ := set_split x k v hk
  have hx := hs x[k] (List.getElem_mem hk)
  rw [e2] at h2
  conv at h2 => rhs; rw [e1]
  rw [Crc.run_append, Crc.run_append, Crc.run_append, Crc.run_append, Crc.run_cons, Crc.run_cons] at h2
  exact hne (byte_inj _ _ _ v0 v1 hx.1 hx.2 (run_inj _ _ _ h2))
theorem first_turned (x rest : List Int) (h : Fits x) (hs : ∀ z ∈ x, 0 ≤ z ∧ z < 256) (q : Nat) (v : Int) (h4 : 4 ≤ q) (hq : q < (rec x).length) (v0 : 0 ≤ v) (v1 : v < 256) (hne : v ≠ (rec x)[q]) : first ((rec x).set q v ++ rest) = none := by
  have hn := num_len x h.2
  have hl := rec_len x
  have h1 := h.1
  have h2 := h.2
  have hF : (four x.length).length = 4 := rfl
  have hS : (four (sumOf (four x.length) x)).length = 4 := rfl
  have hsb := sumOf_bd (four x.length) x
  unfold first
  by_cases h8 : q < 8
  · have e : (rec x).set q v = four x.length ++ ((four (sumOf (four x.length) x)).set (q - 4) v ++ x) := by
      rw [rec, List.append_assoc, List.set_append_right _ _ (by omega), List.set_append_left _ _ (by omega)]
      rfl
    have e2 : (rec x)[q] = (four (sumOf (four x.length) x))[q - 4]'(by omega) := by
      simp only [rec, List.append_assoc]
      rw [List.getElem_append_right (by omega), List.getElem_append_left (by omega)]
      rfl
    rw [e2] at hne
    rw [e, List.append_assoc, if_neg (by simp [hF]; omega), List.take_left' (four_length _), hn, if_neg (by simp [hF]; omega), List.drop_left' (four_length _), List.append_assoc, List.take_left' (by rw [List.length_set]; exact four_length _), Int.toNat_natCast]
    have e3 : (four x.length ++ ((four (sumOf (four x.length) x)).set (q - 4) v ++ (x ++ rest))).drop 8 = x ++ rest := by
      rw [← List.append_assoc, List.drop_left' (by simp [hF, hS])]
    rw [e3, List.take_left' rfl, if_neg]
    intro hh
    have e4 : num (four (sumOf (four x.length) x)) = sumOf (four x.length) x := num_four _ hsb.1 hsb.2
    have e5 := num_inj _ _ (by simp [hS]) hS (by
      intro z hz
      rcases List.mem_or_eq_of_mem_set hz with h | h
      · exact four_small _ z h
      · rw [h]; exact ⟨v0, v1⟩) (four_small _) (hh.trans e4.symm)
    have e6 := congrArg (fun l => l[q - 4]?) e5
    simp only [List.getElem?_set, if_pos] at e6
    rw [if_pos (by omega), List.getElem?_eq_getElem (by omega)] at e6
    exact hne (Option.some.inj e6)
  · have e : (rec x).set q v = four x.length ++ (four (sumOf (four x.length) x) ++ x.set (q - 8) v) := by
      rw [rec, List.append_assoc, List.set_append_right _ _ (by omega), List.set_append_right _ _ (by omega)]
      congr 3
    have e2 : (rec x)[q] = x[q - 8]'(by omega) := by
      simp only [rec, List.append_assoc]
      rw [List.getElem_append_right (by omega), List.getElem_append_right (by omega)]
      congr 1
    rw [e2] at hne
    rw [e, List.append_assoc, if_neg (by simp [hF]; omega), List.take_left' (four_length _), hn, if_neg (by simp [hF]; omega), List.drop_left' (four_length _), List.append_assoc, List.take_left' (four_length _), Int.toNat_natCast]
    have e3 : (four x.length ++ (four (sumOf (four x.length) x) ++ (x.set (q - 8) v ++ rest))).drop 8 = x.set (q - 8) v ++ rest := by
      rw [← List.append_assoc, List.drop_left' (by simp [hF, hS])]
    rw [e3, List.take_left' (by simp), num_four _ hsb.1 hsb.2, if_neg]
    exact fun hh => sum_turned (four x.length) x (q - 8) v (by omega) hs v0 v1 hne hh.symm
end Go.Proofs.Ytnehkjabhmhijaa.Wal
