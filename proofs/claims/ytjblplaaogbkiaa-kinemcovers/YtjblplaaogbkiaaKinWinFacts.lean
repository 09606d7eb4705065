/-
  Windows are stretches of ticks: from when to when.
-/
import Derived.Test.YtjblplaaogbkiaaKinWin
namespace Go.Proofs.Ytjblplaaogbkiaa.Kin
set_option linter.unusedVariables false
set_option linter.unusedSimpArgs false
open Go Go.RowKit Go.Shelf Go.Proofs

/- The first number below k of which it is so; else k. -/
def fst (p : Nat → Bool) : Nat → Nat
  | 0 => 0
  | k + 1 => if fst p k < k then fst p k else if p k then k else k + 1
theorem fst_le (p : Nat → Bool) : ∀ k, fst p k ≤ k := by
  intro k
  induction k with
  | zero => exact Nat.le_refl _
  | succ k ih =>
    rw [fst]
    split
    · omega
    · split <;> omega
theorem fst_iff {p : Nat → Bool} (hm : ∀ s t, s ≤ t → p s = true → p t = true) : ∀ k t, t < k → (p t = true ↔ fst p k ≤ t) := by
  intro k
  induction k with
  | zero => intro t h; omega
  | succ k ih =>
    intro t ht
    have hl := fst_le p k
    rw [fst]
    by_cases h1 : fst p k < k
    · rw [if_pos h1]
      by_cases h2 : t < k
      · exact ih t h2
      · obtain rfl : t = k := by omega
        have h3 := (ih (fst p t) h1).2 (Nat.le_refl _)
        exact ⟨fun _ => by omega, fun _ => hm _ _ (by omega) h3⟩
    · rw [if_neg h1]
      have hno : ∀ s, s < k → p s = false := fun s hs => by
        have := ih s hs
        cases hp : p s with
        | false => rfl
        | true => have := this.1 hp; omega
      by_cases h2 : p k = true
      · rw [if_pos h2]
        by_cases h3 : t < k
        · rw [hno t h3]; exact ⟨fun h => (by cases h), fun h => (by omega)⟩
        · obtain rfl : t = k := by omega
          exact ⟨fun _ => Nat.le_refl _, fun _ => h2⟩
      · rw [if_neg h2]
        refine ⟨fun h => ?_, fun h => by omega⟩
        by_cases h3 : t < k
        · rw [hno t h3] at h; cases h
        · obtain rfl : t = k := by omega
          exact (h2 h).elim
/- A stretch's window. -/
theorem win_stretch {on : Nat → Bool} {A B : Nat} (hAB : A < B) : ∀ k, (∀ t, t < k → on t = decide (A ≤ t ∧ t < B)) → win on k = if k ≤ A then (0, 0) else (A, min k B) := by
  intro k
  induction k with
  | zero => intro _; rw [if_pos (by omega)]; rfl
  | succ k ih =>
    intro h
    have i := ih (fun t ht => h t (by omega))
    have hk := h k (by omega)
    by_cases h1 : A ≤ k ∧ k < B
    · rw [win_yes (by rw [hk, decide_eq_true h1]), i, if_neg (by omega : ¬ k + 1 ≤ A)]
      by_cases h2 : k ≤ A
      · rw [if_pos h2, if_pos rfl, show k = A by omega]; congr 1; omega
      · rw [if_neg h2, if_neg (by show ¬ min k B = 0; omega)]; congr 1; omega
    · rw [win_no (by rw [hk, decide_eq_false h1]), i]
      by_cases h2 : k ≤ A
      · rw [if_pos h2, if_pos (by omega)]
      · rw [if_neg h2, if_neg (by omega)]; congr 1; omega
def loP (u a v n len j : Nat) (t : Nat) : Bool := decide (j * u < pos u a v n (t + 1) + len * u)
def hiP (u a v n j : Nat) (t : Nat) : Bool := decide ((j + 1) * u ≤ pos u a v n t)
/- From when, to when. -/
def loW (u a v n len j : Nat) : Nat := fst (loP u a v n len j) (spd u a v n).length
def hiW (u a v n j : Nat) : Nat := fst (hiP u a v n j) (spd u a v n).length
theorem lo_iff {u a v n len j t : Nat} (h : t < (spd u a v n).length) : j * u < pos u a v n (t + 1) + len * u ↔ loW u a v n len j ≤ t := by
  have := fst_iff (p := loP u a v n len j) (fun s t hst hs => by
    have := pos_mono u a v n (show s + 1 ≤ t + 1 by omega)
    have hs' := of_decide_eq_true hs
    exact decide_eq_true (by omega)) _ t h
  unfold loW
  rw [← this]
  unfold loP
  rw [decide_eq_true_iff]
theorem hi_iff {u a v n j t : Nat} (h : t < (spd u a v n).length) : (j + 1) * u ≤ pos u a v n t ↔ hiW u a v n j ≤ t := by
  have := fst_iff (p := hiP u a v n j) (fun s t hst hs => by
    have := pos_mono u a v n hst
    have hs' := of_decide_eq_true hs
    exact decide_eq_true (by omega)) _ t h
  unfold hiW
  rw [← this]
  unfold hiP
  rw [decide_eq_true_iff]
theorem on_iff {u a v n len j t : Nat} (h : t < (spd u a v n).length) : onB u a v n len j t = decide (loW u a v n len j ≤ t ∧ t < hiW u a v n j) := by
  unfold onB
  rw [decide_eq_decide]
  have h1 := lo_iff (len := len) (j := j) h
  have h2 := hi_iff (j := j) h
  constructor
  · rintro ⟨q1, q2⟩
    refine ⟨h1.1 q2, ?_⟩
    have : ¬ hiW u a v n j ≤ t := fun e => by have := h2.2 e; omega
    omega
  · rintro ⟨q1, q2⟩
    refine ⟨?_, h1.2 q1⟩
    have : ¬ (j + 1) * u ≤ pos u a v n t := fun e => by have := h2.1 e; omega
    omega
theorem lo_lt_hi {u a v n len j : Nat} (ok : Ok u a v) (hn1 : 1 ≤ n) (hn : n ≤ 16) (hl : 1 ≤ len) (hj : j < n + len) : loW u a v n len j < hiW u a v n j := by
  have hL := spd_bd ok hn1 hn
  have h1 : loW u a v n len j ≤ (spd u a v n).length := fst_le _ _
  have h2 : hiW u a v n j ≤ (spd u a v n).length := fst_le _ _
  -- it comes to the cell
  have hlt : loW u a v n len j < (spd u a v n).length := by
    have e : pos u a v n ((spd u a v n).length - 1 + 1) = n * u := pos_end ok.a1 ok.v1 (by omega)
    have q : j * u < pos u a v n ((spd u a v n).length - 1 + 1) + len * u := by
      rw [e, ← Nat.add_mul]
      exact Nat.mul_lt_mul_of_pos_right hj ok.u1
    have := (lo_iff (t := (spd u a v n).length - 1) (by omega)).1 q
    omega
  have hnot : ¬ hiW u a v n j ≤ loW u a v n len j := by
    intro h
    have q := (hi_iff (j := j) hlt).2 h
    have hu := ok.u1
    by_cases h0 : loW u a v n len j = 0
    · rw [h0, pos_zero] at q
      have : 1 ≤ (j + 1) * u := Nat.mul_pos (by omega) hu
      omega
    · have r : ¬ j * u < pos u a v n (loW u a v n len j - 1 + 1) + len * u := fun e => by
        have := (lo_iff (t := loW u a v n len j - 1) (by omega)).1 e
        omega
      rw [show loW u a v n len j - 1 + 1 = loW u a v n len j by omega] at r
      rw [Nat.succ_mul] at q
      have : 1 ≤ len * u := Nat.mul_pos hl hu
      omega
  omega
theorem win_is {u a v n len j : Nat} (ok : Ok u a v) (hn1 : 1 ≤ n) (hn : n ≤ 16) (hl : 1 ≤ len) (hj : j < n + len) : win (onB u a v n len j) (spd u a v n).length = (loW u a v n len j, hiW u a v n j) := by
  have h := lo_lt_hi ok hn1 hn hl hj
  have h2 : hiW u a v n j ≤ (spd u a v n).length := fst_le _ _
  rw [win_stretch h _ (fun t ht => on_iff ht), if_neg (by omega), show min (spd u a v n).length (hiW u a v n j) = hiW u a v n j by omega]
theorem lo_zero {u a v n len : Nat} (ok : Ok u a v) (hn1 : 1 ≤ n) (hn : n ≤ 16) (hl : 1 ≤ len) : loW u a v n len 0 = 0 := by
  have hL := spd_bd ok hn1 hn
  have : 1 ≤ len * u := Nat.mul_pos hl ok.u1
  have := (lo_iff (u := u) (a := a) (v := v) (n := n) (len := len) (j := 0) (t := 0) (by omega)).1 (by omega)
  omega
theorem hi_last {u a v n len j : Nat} (ok : Ok u a v) (hl : 1 ≤ len) (hj : j + 1 = n + len) : hiW u a v n j = (spd u a v n).length := by
  have h2 : hiW u a v n j ≤ (spd u a v n).length := fst_le _ _
  by_cases h : hiW u a v n j < (spd u a v n).length
  · have q := (hi_iff (j := j) h).2 (Nat.le_refl _)
    have := pos_le (u := u) (n := n) ok.a1 ok.v1 (hiW u a v n j)
    rw [hj, Nat.add_mul] at q
    have : 1 ≤ len * u := Nat.mul_pos hl ok.u1
    omega
  · omega
theorem lo_mono {u a v n len j : Nat} (ok : Ok u a v) (hn1 : 1 ≤ n) (hn : n ≤ 16) (hl : 1 ≤ len) (hj : j + 1 < n + len) : loW u a v n len j ≤ loW u a v n len (j + 1) := by
  have h := lo_lt_hi ok hn1 hn hl hj
  have h2 : hiW u a v n (j + 1) ≤ (spd u a v n).length := fst_le _ _
  refine (lo_iff (by omega)).1 ?_
  have := (lo_iff (u := u) (a := a) (v := v) (n := n) (len := len) (j := j + 1) (t := loW u a v n len (j + 1)) (by omega)).2 (Nat.le_refl _)
  rw [Nat.succ_mul] at this
  omega
theorem hi_mono (u a v n j : Nat) : hiW u a v n j ≤ hiW u a v n (j + 1) := by
  have h2 : hiW u a v n j ≤ (spd u a v n).length := fst_le _ _
  have h3 : hiW u a v n (j + 1) ≤ (spd u a v n).length := fst_le _ _
  by_cases h : hiW u a v n (j + 1) < (spd u a v n).length
  · refine (hi_iff h).1 ?_
    have := (hi_iff (j := j + 1) h).2 (Nat.le_refl _)
    rw [Nat.succ_mul] at this
    omega
  · omega
theorem lo_hi {u a v n len j : Nat} (ok : Ok u a v) (hn1 : 1 ≤ n) (hn : n ≤ 16) (hl : 1 ≤ len) (hj : j + 1 < n + len) : loW u a v n len (j + 1) ≤ hiW u a v n j := by
  have h2 : hiW u a v n j ≤ (spd u a v n).length := fst_le _ _
  have h3 : loW u a v n len (j + 1) ≤ (spd u a v n).length := fst_le _ _
  by_cases h : hiW u a v n j < (spd u a v n).length
  · refine (lo_iff h).1 ?_
    have q := (hi_iff (j := j) h).2 (Nat.le_refl _)
    have := pos_mono u a v n (show hiW u a v n j ≤ hiW u a v n j + 1 by omega)
    have : 1 ≤ len * u := Nat.mul_pos hl ok.u1
    omega
  · omega
end Go.Proofs.Ytjblplaaogbkiaa.Kin
