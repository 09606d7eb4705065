/-
  Runs in plain numbers: how far it goes until it can stand, the next speed, the speeds of a run.
-/
import Init
namespace Go.Proofs.Ytjblplaaogbkiaa.Kin
set_option linter.unusedVariables false

/- How far it goes behind a tick of the speed s, slower by a each tick. -/
def brk (a s : Nat) : Nat := if h : a = 0 ∨ s ≤ a then 0 else (s - a) + brk a (s - a)
termination_by s
decreasing_by omega
theorem brk_small {a s : Nat} (h : s ≤ a) : brk a s = 0 := by rw [brk, dif_pos (Or.inr h)]
theorem brk_big {a s : Nat} (ha : 1 ≤ a) (h : a < s) : brk a s = (s - a) + brk a (s - a) := by rw [brk, dif_neg (by omega)]
theorem brk_mono {a : Nat} (ha : 1 ≤ a) : ∀ {s t : Nat}, s ≤ t → brk a s ≤ brk a t := by
  intro s
  induction s using Nat.strongRecOn with
  | ind s ih =>
    intro t h
    by_cases h1 : s ≤ a
    · rw [brk_small h1]; exact Nat.zero_le _
    · rw [brk_big ha (by omega), brk_big (s := t) ha (by omega)]
      have := ih (s - a) (by omega) (t := t - a) (by omega)
      omega
theorem brk_le {a : Nat} (ha : 1 ≤ a) : ∀ s : Nat, brk a s ≤ s * s := by
  intro s
  induction s using Nat.strongRecOn with
  | ind s ih =>
    by_cases h1 : s ≤ a
    · rw [brk_small h1]; exact Nat.zero_le _
    · rw [brk_big ha (by omega)]
      have h := ih (s - a) (by omega)
      have h2 : (s - a) * (s - a + 1) ≤ s * s := Nat.mul_le_mul (by omega) (by omega)
      rw [Nat.mul_succ] at h2
      omega
theorem brk_bound {a s m : Nat} (ha : 1 ≤ a) (h : s ≤ m) : brk a s ≤ m * m := Nat.le_trans (brk_le ha s) (Nat.mul_le_mul h h)

/- The greatest speed up to q behind which it can stand within what is left. -/
def down (a left : Nat) : Nat → Nat
  | 0 => 0
  | q + 1 => if brk a (q + 1) ≤ left - (q + 1) then q + 1 else down a left q
theorem down_le (a left q : Nat) : down a left q ≤ q := by
  induction q with
  | zero => exact Nat.le_refl _
  | succ q ih => rw [down]; split <;> omega
theorem down_pos {a left : Nat} (ha : 1 ≤ a) : ∀ {q : Nat}, 1 ≤ q → 1 ≤ down a left q := by
  intro q
  induction q with
  | zero => intro h; omega
  | succ q ih =>
    intro _
    rw [down]
    by_cases h0 : q = 0
    · subst h0
      rw [if_pos (by rw [brk_small (by omega)]; exact Nat.zero_le _)]
      omega
    · split
      · omega
      · exact ih (by omega)
theorem down_fits (a left q : Nat) : down a left q = 0 ∨ brk a (down a left q) ≤ left - down a left q := by
  induction q with
  | zero => exact Or.inl rfl
  | succ q ih =>
    rw [down]
    by_cases h : brk a (q + 1) ≤ left - (q + 1)
    · rw [if_pos h]; exact Or.inr h
    · rw [if_neg h]; exact ih
theorem down_max (a left : Nat) : ∀ (q x : Nat), down a left q < x → x ≤ q → left - x < brk a x := by
  intro q
  induction q with
  | zero => intro x h1 h2; omega
  | succ q ih =>
    intro x h1 h2
    rw [down] at h1
    by_cases h : brk a (q + 1) ≤ left - (q + 1)
    · rw [if_pos h] at h1; omega
    · rw [if_neg h] at h1
      by_cases hx : x = q + 1
      · subst hx; omega
      · exact ih x h1 (by omega)
theorem down_yes {a left q : Nat} (h : brk a q ≤ left - q) : down a left q = q := by
  cases q with
  | zero => rfl
  | succ q => rw [down, if_pos h]
theorem down_no {a left q : Nat} (h : left - (q + 1) < brk a (q + 1)) : down a left (q + 1) = down a left q := by rw [down, if_neg (by omega)]

/- The next speed: what is left, how fast at most. -/
def nxt (a left f : Nat) : Nat := down a left (min f left)
theorem nxt_pos {a left f : Nat} (ha : 1 ≤ a) (hl : 1 ≤ left) (hf : 1 ≤ f) : 1 ≤ nxt a left f := down_pos ha (by omega)
theorem nxt_f (a left f : Nat) : nxt a left f ≤ f := Nat.le_trans (down_le _ _ _) (Nat.min_le_left _ _)
theorem nxt_left (a left f : Nat) : nxt a left f ≤ left := Nat.le_trans (down_le _ _ _) (Nat.min_le_right _ _)
theorem nxt_fits {a left f : Nat} (ha : 1 ≤ a) (hl : 1 ≤ left) (hf : 1 ≤ f) : brk a (nxt a left f) ≤ left - nxt a left f := by
  rcases down_fits a left (min f left) with h | h
  · have := nxt_pos ha hl hf; unfold nxt at this; omega
  · exact h
theorem nxt_max {a left f x : Nat} (h : nxt a left f < x) (hf : x ≤ f) (hl : x ≤ left) : left - x < brk a x := down_max a left _ x h (by omega)
/- A speed that may be is no faster than the next one. -/
theorem nxt_ge {a left f x : Nat} (hf : x ≤ f) (hl : x ≤ left) (hb : brk a x ≤ left - x) : x ≤ nxt a left f := by
  by_cases h : nxt a left f < x
  · have := nxt_max h hf hl; omega
  · omega

/- The speeds of a run: what is left, the speed ahead, by how much it rises a tick, how fast at most. -/
def runs (a v rise left s : Nat) : List Nat :=
  if h : left = 0 then [] else
    if hq : nxt a left (min (s + rise) v) = 0 then [] else nxt a left (min (s + rise) v) :: runs a v rise (left - nxt a left (min (s + rise) v)) (nxt a left (min (s + rise) v))
termination_by left
decreasing_by omega
theorem runs_nil (a v rise s : Nat) : runs a v rise 0 s = [] := by rw [runs, dif_pos rfl]
theorem runs_cons {a v rise left s : Nat} (ha : 1 ≤ a) (hv : 1 ≤ v) (hl : 1 ≤ left) (hs : 1 ≤ s + rise) :
    runs a v rise left s = nxt a left (min (s + rise) v) :: runs a v rise (left - nxt a left (min (s + rise) v)) (nxt a left (min (s + rise) v)) := by
  have := nxt_pos (a := a) (left := left) (f := min (s + rise) v) ha hl (by omega)
  rw [runs, dif_neg (by omega), dif_neg (by omega)]
/- What holds of every speed of a run, and of what is left behind it. -/
structure Step (a v rise left s q : Nat) : Prop where
  pos : 1 ≤ q
  le : q ≤ left
  rises : q ≤ s + rise
  top : q ≤ v
  fits : q + brk a q ≤ left
  max : ∀ x, q < x → x ≤ s + rise → x ≤ v → x ≤ left → left < x + brk a x
theorem step_of {a v rise left s : Nat} (ha : 1 ≤ a) (hv : 1 ≤ v) (hl : 1 ≤ left) (hs : 1 ≤ s + rise) : Step a v rise left s (nxt a left (min (s + rise) v)) := by
  have h1 := nxt_pos (a := a) (left := left) (f := min (s + rise) v) ha hl (by omega)
  have h2 := nxt_f a left (min (s + rise) v)
  have h3 := nxt_left a left (min (s + rise) v)
  have h4 := nxt_fits (a := a) (left := left) (f := min (s + rise) v) ha hl (by omega)
  refine ⟨h1, h3, by omega, by omega, by omega, fun x hx h5 h6 h7 => ?_⟩
  have := nxt_max hx (by omega) h7
  omega
/- The speed ahead of the i-th tick. -/
def ahead (s : Nat) (r : List Nat) (i : Nat) : Nat := if i = 0 then s else r.getD (i - 1) 0
theorem runs_sum {a v rise : Nat} (ha : 1 ≤ a) (hv : 1 ≤ v) : ∀ (left s : Nat), 1 ≤ s + rise → (runs a v rise left s).sum = left := by
  intro left
  induction left using Nat.strongRecOn with
  | ind left ih =>
    intro s hs
    by_cases h0 : left = 0
    · subst h0; rw [runs_nil]; rfl
    · have st := step_of (a := a) (v := v) (rise := rise) (left := left) (s := s) ha hv (by omega) hs
      have := st.pos
      have := st.le
      rw [runs_cons ha hv (by omega) hs, List.sum_cons, ih _ (by omega) _ (by omega)]
      omega
theorem runs_drop {a v rise : Nat} (ha : 1 ≤ a) (hv : 1 ≤ v) : ∀ (i left s : Nat), 1 ≤ s + rise → i ≤ (runs a v rise left s).length →
    (runs a v rise left s).drop i = runs a v rise (left - ((runs a v rise left s).take i).sum) (ahead s (runs a v rise left s) i) ∧ 1 ≤ ahead s (runs a v rise left s) i + rise := by
  intro i
  induction i with
  | zero => intro left s hs _; exact ⟨by simp [ahead], by simpa [ahead] using hs⟩
  | succ i ih =>
    intro left s hs hi
    by_cases h0 : left = 0
    · subst h0; rw [runs_nil] at hi; simp at hi
    · have st := step_of (a := a) (v := v) (rise := rise) (left := left) (s := s) ha hv (by omega) hs
      have := st.pos
      rw [runs_cons ha hv (by omega) hs] at hi ⊢
      generalize nxt a left (min (s + rise) v) = q at *
      have := ih (left - q) q (by omega) (by simpa using hi)
      rw [List.drop_succ_cons, List.take_succ_cons, List.sum_cons, Nat.sub_add_eq]
      have e : ahead s (q :: runs a v rise (left - q) q) (i + 1) = ahead q (runs a v rise (left - q) q) i := by
        unfold ahead
        rw [if_neg (by omega)]
        cases i with
        | zero => simp
        | succ i => simp
      rw [e]
      exact this
/- The i-th speed of a run. -/
theorem runs_step {a v rise left s i : Nat} (ha : 1 ≤ a) (hv : 1 ≤ v) (hs : 1 ≤ s + rise) (hi : i < (runs a v rise left s).length) :
    Step a v rise (left - ((runs a v rise left s).take i).sum) (ahead s (runs a v rise left s) i) ((runs a v rise left s).getD i 0) := by
  obtain ⟨h1, h2⟩ := runs_drop ha hv i left s hs (by omega)
  generalize hr : runs a v rise left s = r at *
  have hd : r.drop i = r[i] :: r.drop (i + 1) := List.drop_eq_getElem_cons hi
  have hl : 1 ≤ left - (r.take i).sum := by
    by_cases h0 : left - (r.take i).sum = 0
    · rw [h0, runs_nil, hd] at h1; cases h1
    · omega
  have st := step_of (a := a) (v := v) (rise := rise) (left := left - (r.take i).sum) (s := ahead s r i) ha hv hl h2
  rw [runs_cons ha hv hl h2, hd] at h1
  have e := (List.cons.inj h1).1
  have e2 : r.getD i 0 = r[i] := by simp [hi]
  rw [e2, e]
  exact st
theorem take_succ_sum {r : List Nat} {i : Nat} (hi : i < r.length) : (r.take (i + 1)).sum = (r.take i).sum + r.getD i 0 := by
  rw [List.take_succ_eq_append_getElem hi, List.sum_append]
  simp [hi]
theorem take_sum_le (r : List Nat) : ∀ i, (r.take i).sum ≤ r.sum := by
  induction r with
  | nil => intro i; simp
  | cons x r ih =>
    intro i
    cases i with
    | zero => simp
    | succ i => simp only [List.take_succ_cons, List.sum_cons]; have := ih i; omega
theorem take_sum_mono (r : List Nat) {i j : Nat} (h : i ≤ j) : (r.take i).sum ≤ (r.take j).sum := by
  have : r.take i = (r.take j).take i := by rw [List.take_take]; congr 1; omega
  rw [this]
  exact take_sum_le _ _
theorem len_le_sum : ∀ (r : List Nat), (∀ x ∈ r, 1 ≤ x) → r.length ≤ r.sum := by
  intro r
  induction r with
  | nil => intro _; exact Nat.le_refl _
  | cons x r ih =>
    intro h
    have h1 := h x (by simp)
    have h2 := ih (fun y hy => h y (by simp [hy]))
    simp only [List.length_cons, List.sum_cons]
    omega
theorem sum_le_mul : ∀ (r : List Nat) (v : Nat), (∀ x ∈ r, x ≤ v) → r.sum ≤ r.length * v := by
  intro r v
  induction r with
  | nil => intro _; simp
  | cons x r ih =>
    intro h
    have h1 := h x (by simp)
    have h2 := ih (fun y hy => h y (by simp [hy]))
    simp only [List.length_cons, List.sum_cons, Nat.succ_mul]
    omega
theorem mem_getD {r : List Nat} {x : Nat} (h : x ∈ r) : ∃ i, i < r.length ∧ r.getD i 0 = x := by
  obtain ⟨i, hi, e⟩ := List.getElem_of_mem h
  exact ⟨i, hi, by simp [hi, e]⟩
theorem runs_mem {a v rise left s : Nat} (ha : 1 ≤ a) (hv : 1 ≤ v) (hs : 1 ≤ s + rise) : ∀ x ∈ runs a v rise left s, 1 ≤ x ∧ x ≤ v := by
  intro x hx
  obtain ⟨i, hi, rfl⟩ := mem_getD hx
  have st := runs_step ha hv hs hi
  exact ⟨st.pos, st.top⟩
theorem runs_len {a v rise left s : Nat} (ha : 1 ≤ a) (hv : 1 ≤ v) (hs : 1 ≤ s + rise) : (runs a v rise left s).length ≤ left ∧ left ≤ (runs a v rise left s).length * v := by
  have h := runs_mem (left := left) ha hv hs
  have e := runs_sum ha hv left s hs
  have h1 := len_le_sum _ (fun x hx => (h x hx).1)
  have h2 := sum_le_mul _ v (fun x hx => (h x hx).2)
  omega
/- Without a rise no speed is above the one ahead. -/
theorem runs_flat {a v : Nat} (ha : 1 ≤ a) (hv : 1 ≤ v) : ∀ (left s : Nat), 1 ≤ s → ∀ x ∈ runs a v 0 left s, x ≤ s := by
  intro left
  induction left using Nat.strongRecOn with
  | ind left ih =>
    intro s hs x hx
    by_cases h0 : left = 0
    · subst h0; rw [runs_nil] at hx; cases hx
    · have st := step_of (a := a) (v := v) (rise := 0) (left := left) (s := s) ha hv (by omega) (by omega)
      have := st.pos
      have := st.le
      have := st.rises
      rw [runs_cons ha hv (by omega) (by omega)] at hx
      rcases List.mem_cons.1 hx with rfl | hx
      · omega
      · have := ih _ (by omega) _ st.pos x hx
        omega

/- The places behind each tick. -/
def sums (p : Nat) : List Nat → List Nat
  | [] => []
  | q :: l => (p + q) :: sums (p + q) l
theorem sums_length (p : Nat) (l : List Nat) : (sums p l).length = l.length := by
  induction l generalizing p with
  | nil => rfl
  | cons q l ih => simp [sums, ih]
theorem sums_snoc (p : Nat) (l : List Nat) (q : Nat) : sums p (l ++ [q]) = sums p l ++ [p + l.sum + q] := by
  induction l generalizing p with
  | nil => simp [sums]
  | cons x l ih => simp [sums, ih, Nat.add_assoc]
theorem sums_get (p : Nat) (l : List Nat) : ∀ i, i < l.length → (sums p l)[i]? = some (p + (l.take (i + 1)).sum) := by
  induction l generalizing p with
  | nil => intro i h; cases h
  | cons x l ih =>
    intro i h
    cases i with
    | zero => simp [sums]
    | succ i =>
      simp only [sums, List.getElem?_cons_succ, List.take_succ_cons, List.sum_cons]
      rw [ih _ i (by simpa using h)]
      simp [Nat.add_assoc]
/- A run's speeds, its places. -/
def spd (u a v n : Nat) : List Nat := runs a v a (n * u) 0
def prof (u a v n : Nat) : List Nat := sums 0 (spd u a v n)
/- The place behind t ticks. -/
def pos (u a v n t : Nat) : Nat := ((spd u a v n).take t).sum
theorem prof_len (u a v n : Nat) : (prof u a v n).length = (spd u a v n).length := sums_length _ _
theorem prof_get {u a v n i : Nat} (h : i < (spd u a v n).length) : (prof u a v n)[i]? = some (pos u a v n (i + 1)) := by
  unfold prof pos
  rw [sums_get 0 _ i h, Nat.zero_add]
theorem pos_zero (u a v n : Nat) : pos u a v n 0 = 0 := by simp [pos]
theorem pos_end {u a v n t : Nat} (ha : 1 ≤ a) (hv : 1 ≤ v) (h : (spd u a v n).length ≤ t) : pos u a v n t = n * u := by
  unfold pos
  rw [List.take_of_length_le h]
  exact runs_sum ha hv _ _ (by omega)
theorem pos_le {u a v n : Nat} (ha : 1 ≤ a) (hv : 1 ≤ v) (t : Nat) : pos u a v n t ≤ n * u := by
  have := take_sum_le (spd u a v n) t
  rw [show (spd u a v n).sum = n * u from runs_sum ha hv _ _ (by omega)] at this
  exact this
theorem pos_mono (u a v n : Nat) {s t : Nat} (h : s ≤ t) : pos u a v n s ≤ pos u a v n t := take_sum_mono _ h
/- How fast it was in the tick t + 1. -/
def vel (u a v n t : Nat) : Nat := pos u a v n t - pos u a v n (t - 1)
theorem vel_succ {u a v n t : Nat} (h : t < (spd u a v n).length) : vel u a v n (t + 1) = (spd u a v n).getD t 0 := by
  unfold vel pos
  rw [take_succ_sum h, Nat.add_sub_cancel]
  omega
theorem pos_succ {u a v n t : Nat} (h : t < (spd u a v n).length) : pos u a v n (t + 1) = pos u a v n t + (spd u a v n).getD t 0 := take_succ_sum h
theorem vel_end {u a v n t : Nat} (ha : 1 ≤ a) (hv : 1 ≤ v) (h : (spd u a v n).length < t) : vel u a v n t = 0 := by
  unfold vel
  rw [pos_end ha hv (by omega), pos_end ha hv (by omega)]
  omega
theorem spd_step {u a v n i : Nat} (ha : 1 ≤ a) (hv : 1 ≤ v) (hi : i < (spd u a v n).length) :
    Step a v a (n * u - pos u a v n i) (ahead 0 (spd u a v n) i) ((spd u a v n).getD i 0) := runs_step ha hv (by omega) hi
theorem ahead_vel {u a v n i : Nat} (hi : i ≤ (spd u a v n).length) : ahead 0 (spd u a v n) i = vel u a v n i := by
  unfold ahead
  cases i with
  | zero => rw [if_pos rfl]; simp [vel]
  | succ i => rw [if_neg (by omega), vel_succ (by omega)]; rfl
theorem spd_len {u a v n : Nat} (ha : 1 ≤ a) (hv : 1 ≤ v) : (spd u a v n).length ≤ n * u ∧ n * u ≤ (spd u a v n).length * v := runs_len ha hv (by omega)
/- Behind each tick Brake of the speed is at most what is left. -/
theorem brk_left {u a v n : Nat} (ha : 1 ≤ a) (hv : 1 ≤ v) (t : Nat) : pos u a v n t + brk a (vel u a v n t) ≤ n * u := by
  by_cases h : (spd u a v n).length < t
  · rw [vel_end ha hv h, brk_small (by omega)]
    have := pos_le (u := u) (n := n) ha hv t
    omega
  · cases t with
    | zero =>
      have : vel u a v n 0 = 0 := by simp [vel]
      rw [this, brk_small (by omega), pos_zero]
      omega
    | succ t =>
      have st := spd_step (u := u) (n := n) ha hv (i := t) (by omega)
      have := st.fits
      have := pos_le (u := u) (n := n) ha hv t
      rw [vel_succ (by omega), pos_succ (by omega)]
      omega
/- Where it could stand comes never nearer. -/
theorem brk_later {u a v n : Nat} (ha : 1 ≤ a) (hv : 1 ≤ v) (t : Nat) : pos u a v n t + brk a (vel u a v n t) ≤ pos u a v n (t + 1) + brk a (vel u a v n (t + 1)) := by
  have hB := brk_left (u := u) (n := n) ha hv t
  have hp := pos_le (u := u) (n := n) ha hv t
  by_cases h : t < (spd u a v n).length
  · have st := spd_step (u := u) (n := n) ha hv h
    rw [ahead_vel (by omega)] at st
    rw [vel_succ h, pos_succ h]
    generalize (spd u a v n).getD t 0 = q at *
    have h1 := st.pos
    by_cases h2 : vel u a v n t ≤ a
    · rw [brk_small h2]; omega
    · rw [brk_big ha (by omega)] at hB ⊢
      have hx : vel u a v n t - a ≤ q := by
        by_cases h3 : q < vel u a v n t - a
        · have hv' : vel u a v n t ≤ v := by
            cases t with
            | zero => simp [vel] at h2
            | succ t => rw [vel_succ (by omega)]; exact (spd_step (u := u) (n := n) ha hv (i := t) (by omega)).top
          have := st.max _ h3 (by omega) (by omega) (by omega)
          omega
        · omega
      have := brk_mono ha hx
      omega
  · rw [pos_end (t := t) ha hv (by omega)] at hB ⊢
    rw [pos_end (t := t + 1) ha hv (by omega)]
    omega
end Go.Proofs.Ytjblplaaogbkiaa.Kin
