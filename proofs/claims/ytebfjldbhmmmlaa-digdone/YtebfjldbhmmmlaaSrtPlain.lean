/-
  A stable sort in plain words: which item lies where (p), what swaps, turns round and merges come to.
-/
import Derived.Test.YtebfjldbhmmmlaaChecked
namespace Go.Proofs.Ytebfjldbhmmmlaa.Srt
set_option linter.unusedVariables false
/- Items come in the order of their keys, those alike in the order of their numbers. -/
def lt (key : Nat → Int) (i j : Nat) : Prop := key i < key j ∨ (key i = key j ∧ i < j)
theorem lt.trans {key : Nat → Int} {i j k : Nat} (h : lt key i j) (g : lt key j k) : lt key i k := by
  unfold lt at *
  omega
/- From a to b the items rise. -/
def Up (key : Nat → Int) (p : Nat → Nat) (a b : Nat) : Prop := ∀ i j, a ≤ i → i < j → j < b → lt key (p i) (p j)
/- Outside of a to b nothing has turned; within are the same items. -/
structure Mix (a b : Nat) (p q : Nat → Nat) : Prop where
  out : ∀ k, (k < a ∨ b ≤ k) → q k = p k
  fro : ∀ k, a ≤ k → k < b → ∃ j, a ≤ j ∧ j < b ∧ q k = p j
  to : ∀ k, a ≤ k → k < b → ∃ j, a ≤ j ∧ j < b ∧ p k = q j
theorem Mix.refl (a b : Nat) (p : Nat → Nat) : Mix a b p p := ⟨fun _ _ => rfl, fun k h g => ⟨k, h, g, rfl⟩, fun k h g => ⟨k, h, g, rfl⟩⟩
theorem Mix.trans {a b : Nat} {p q r : Nat → Nat} (h : Mix a b p q) (g : Mix a b q r) : Mix a b p r :=
  ⟨fun k hk => (g.out k hk).trans (h.out k hk), fun k h1 h2 => by
    obtain ⟨j, j1, j2, e⟩ := g.fro k h1 h2
    obtain ⟨i, i1, i2, e'⟩ := h.fro j j1 j2
    exact ⟨i, i1, i2, e.trans e'⟩, fun k h1 h2 => by
    obtain ⟨j, j1, j2, e⟩ := h.to k h1 h2
    obtain ⟨i, i1, i2, e'⟩ := g.to j j1 j2
    exact ⟨i, i1, i2, e.trans e'⟩⟩
theorem Mix.wide {a b a' b' : Nat} {p q : Nat → Nat} (h : Mix a b p q) (ha : a' ≤ a) (hb : b ≤ b') : Mix a' b' p q :=
  ⟨fun k hk => h.out k (by omega), fun k h1 h2 => by
    by_cases hk : a ≤ k ∧ k < b
    · obtain ⟨j, j1, j2, e⟩ := h.fro k hk.1 hk.2
      exact ⟨j, by omega, by omega, e⟩
    · exact ⟨k, h1, h2, h.out k (by omega)⟩, fun k h1 h2 => by
    by_cases hk : a ≤ k ∧ k < b
    · obtain ⟨j, j1, j2, e⟩ := h.to k hk.1 hk.2
      exact ⟨j, by omega, by omega, e⟩
    · exact ⟨k, h1, h2, (h.out k (by omega)).symm⟩⟩
/- Two items change places. -/
def swp (p : Nat → Nat) (i j : Nat) : Nat → Nat := fun k => if k = i then p j else if k = j then p i else p k
theorem swp_mix {a b i j : Nat} (p : Nat → Nat) (h1 : a ≤ i) (h2 : i < b) (h3 : a ≤ j) (h4 : j < b) : Mix a b p (swp p i j) := by
  refine ⟨fun k hk => ?_, fun k k1 k2 => ?_, fun k k1 k2 => ?_⟩
  · unfold swp
    rw [if_neg (by omega), if_neg (by omega)]
  · unfold swp
    by_cases e : k = i
    · exact ⟨j, h3, h4, by rw [if_pos e]⟩
    · by_cases e' : k = j
      · exact ⟨i, h1, h2, by rw [if_neg e, if_pos e']⟩
      · exact ⟨k, k1, k2, by rw [if_neg e, if_neg e']⟩
  · unfold swp
    by_cases e : k = i
    · refine ⟨j, h3, h4, ?_⟩
      by_cases e2 : j = i
      · rw [if_pos e2, e, e2]
      · rw [if_neg e2, if_pos rfl, e]
    · by_cases e' : k = j
      · exact ⟨i, h1, h2, by rw [if_pos rfl, e']⟩
      · exact ⟨k, k1, k2, by rw [if_neg e, if_neg e']⟩
/- One item on its way down among those that rise already. -/
structure Ins (key : Nat → Int) (p0 : Nat → Nat) (a i j : Nat) (q : Nat → Nat) : Prop where
  aj : a ≤ j
  ji : j ≤ i
  mix : Mix a (i + 1) p0 q
  here : q j = p0 i
  rest : ∀ x y, a ≤ x → x < y → y ≤ i → x ≠ j → y ≠ j → lt key (q x) (q y)
  above : ∀ y, j < y → y ≤ i → lt key (p0 i) (q y)
  num : ∀ x, a ≤ x → x ≤ i → x ≠ j → q x < p0 i
theorem Ins.start {key : Nat → Int} {p : Nat → Nat} {a i : Nat} (h : a ≤ i) (hu : Up key p a i) (hn : ∀ x, a ≤ x → x < i → p x < p i) : Ins key p a i i p :=
  ⟨h, Nat.le_refl _, Mix.refl _ _ _, rfl, fun x y h1 h2 h3 h4 h5 => hu x y h1 h2 (by omega), fun y h1 h2 => by omega, fun x h1 h2 h3 => hn x h1 (by omega)⟩
theorem Ins.step {key : Nat → Int} {p0 q : Nat → Nat} {a i j : Nat} (h : Ins key p0 a i (j + 1) q) (hj : a ≤ j) (hk : key (q (j + 1)) < key (q j)) : Ins key p0 a i j (swp q (j + 1) j) := by
  have hji := h.ji
  have e0 : ∀ x, x ≠ j → x ≠ j + 1 → swp q (j + 1) j x = q x := fun x h1 h2 => by unfold swp; rw [if_neg h2, if_neg h1]
  have e1 : swp q (j + 1) j j = q (j + 1) := by unfold swp; rw [if_neg (by omega), if_pos rfl]
  have e2 : swp q (j + 1) j (j + 1) = q j := by unfold swp; rw [if_pos rfl]
  refine ⟨hj, by omega, h.mix.trans (swp_mix q (by omega) (by omega) (by omega) (by omega)), by rw [e1]; exact h.here, fun x y h1 h2 h3 h4 h5 => ?_, fun y h1 h2 => ?_, fun x h1 h2 h3 => ?_⟩
  · by_cases hx : x = j + 1
    · rw [hx, e2, e0 y (by omega) (by omega)]
      exact h.rest j y hj (by omega) h3 (by omega) (by omega)
    · rw [e0 x h4 hx]
      by_cases hy : y = j + 1
      · rw [hy, e2]
        exact h.rest x j h1 (by omega) (by omega) (by omega) (by omega)
      · rw [e0 y h5 hy]
        exact h.rest x y h1 h2 h3 hx hy
  · by_cases hy : y = j + 1
    · rw [hy, e2, ← h.here]
      exact Or.inl hk
    · rw [e0 y (by omega) hy]
      exact h.above y (by omega) h2
  · by_cases hx : x = j + 1
    · rw [hx, e2]
      exact h.num j hj (by omega) (by omega)
    · rw [e0 x h3 hx]
      exact h.num x h1 h2 hx
theorem Ins.stop {key : Nat → Int} {p0 q : Nat → Nat} {a i j : Nat} (h : Ins key p0 a i j q) (hs : j = a ∨ (∃ k, j = k + 1 ∧ ¬ key (q j) < key (q k))) : Up key q a (i + 1) := by
  intro x y h1 h2 h3
  have hji := h.ji
  by_cases hx : x = j
  · rw [hx, h.here]
    exact h.above y (by omega) (by omega)
  · by_cases hy : y = j
    · rcases hs with hs | ⟨k, hk, hs⟩
      · omega
      · have hl : lt key (q k) (q j) := by
          rw [h.here] at hs ⊢
          have := h.num k (by omega) (by omega) (by omega)
          unfold lt
          omega
        rw [hy]
        by_cases e : x = k
        · rw [e]; exact hl
        · exact (h.rest x k h1 (by omega) (by omega) hx (by omega)).trans hl
    · exact h.rest x y h1 h2 (by omega) hx hy
/- The first items of a stretch rise, those behind are as they were. -/
structure Insd (key : Nat → Int) (p0 : Nat → Nat) (a i : Nat) (q : Nat → Nat) : Prop where
  mix : Mix a i p0 q
  up : Up key q a i
theorem Insd.start (key : Nat → Int) (p : Nat → Nat) (a : Nat) : Insd key p a (a + 1) p := ⟨Mix.refl _ _ _, fun i j h1 h2 h3 => by omega⟩
theorem Insd.ins {key : Nat → Int} {p0 q : Nat → Nat} {a i b : Nat} (h : Insd key p0 a i q) (ha : a ≤ i) (hb : i < b) (hn : ∀ x y, a ≤ x → x < y → y < b → p0 x < p0 y) : Ins key q a i i q :=
  Ins.start ha h.up fun x h1 h2 => by
    obtain ⟨j, j1, j2, e⟩ := h.mix.fro x h1 h2
    rw [e, h.mix.out i (by omega)]
    exact hn j i j1 j2 hb
theorem Insd.next {key : Nat → Int} {p0 q r : Nat → Nat} {a i : Nat} (h : Insd key p0 a i q) (hm : Mix a (i + 1) q r) (hu : Up key r a (i + 1)) : Insd key p0 a (i + 1) r := ⟨(h.mix.wide (Nat.le_refl _) (by omega)).trans hm, hu⟩
theorem Insd.none {key : Nat → Int} {p q : Nat → Nat} {a b : Nat} (h : Insd key p a (a + 1) q) (hb : b ≤ a + 1) : Mix a b p q ∧ Up key q a b := by
  have e : ∀ k, q k = p k := fun k => by
    by_cases hk : k = a
    · obtain ⟨j, j1, j2, e⟩ := h.mix.fro k (by omega) (by omega)
      rw [e, show j = k by omega]
    · exact h.mix.out k (by omega)
  exact ⟨⟨fun k _ => e k, fun k k1 k2 => ⟨k, k1, k2, e k⟩, fun k k1 k2 => ⟨k, k1, k2, (e k).symm⟩⟩, fun i j i1 i2 i3 => by omega⟩
/- Two stretches change places. -/
def swr (p : Nat → Nat) (a b n : Nat) : Nat → Nat := fun k => if a ≤ k ∧ k < a + n then p (b + (k - a)) else if b ≤ k ∧ k < b + n then p (a + (k - b)) else p k
theorem swr_zero (p : Nat → Nat) (a b : Nat) : swr p a b 0 = p := by
  funext k
  unfold swr
  rw [if_neg (by omega), if_neg (by omega)]
theorem swr_succ (p : Nat → Nat) {a b n : Nat} (h : a + (n + 1) ≤ b) : swp (swr p a b n) (a + n) (b + n) = swr p a b (n + 1) := by
  funext k
  unfold swp
  by_cases h1 : k = a + n
  · rw [if_pos h1]
    unfold swr
    rw [if_neg (by omega), if_neg (by omega), if_pos (by omega), h1, show a + n - a = n by omega]
  · rw [if_neg h1]
    by_cases h2 : k = b + n
    · rw [if_pos h2]
      unfold swr
      rw [if_neg (by omega), if_neg (by omega), if_neg (by omega), if_pos (by omega), h2, show b + n - b = n by omega]
    · rw [if_neg h2]
      unfold swr
      by_cases h3 : a ≤ k ∧ k < a + n
      · rw [if_pos h3, if_pos (by omega)]
      · rw [if_neg h3, if_neg (by omega : ¬ (a ≤ k ∧ k < a + (n + 1)))]
        by_cases h4 : b ≤ k ∧ k < b + n
        · rw [if_pos h4, if_pos (by omega)]
        · rw [if_neg h4, if_neg (by omega)]
/- What stands from m on comes ahead of what stands from a on. -/
def rot (p : Nat → Nat) (a m b : Nat) : Nat → Nat := fun k => if k < a ∨ b ≤ k then p k else if k < a + (b - m) then p (k + (m - a)) else p (k - (b - m))
theorem rot_more {p q : Nat → Nat} {m i j : Nat} (hm : i ≤ m) (hj : j < i) (h0 : 0 < j) (hq : q = swr p (m - i) m j) : rot q (m - (i - j)) m (m + j) = rot p (m - i) m (m + j) := by
  subst hq
  funext k
  unfold rot
  by_cases h1 : k < m - i ∨ m + j ≤ k
  · rw [if_pos h1, if_pos (by omega)]
    unfold swr
    rw [if_neg (by omega), if_neg (by omega)]
  · rw [if_neg h1]
    by_cases h2 : k < m - i + j
    · rw [if_pos (by omega), if_pos (by omega)]
      unfold swr
      rw [if_pos (by omega)]
      congr 1
      omega
    · rw [if_neg (by omega), if_neg (by omega : ¬ k < m - i + (m + j - m))]
      by_cases h3 : k < m - (i - j) + (m + j - m)
      · rw [if_pos h3]
        unfold swr
        rw [if_neg (by omega), if_pos (by omega)]
        congr 1
        omega
      · rw [if_neg h3]
        unfold swr
        rw [if_neg (by omega), if_neg (by omega)]
theorem rot_less {p q : Nat → Nat} {m i j : Nat} (hm : i ≤ m) (hj : i < j) (h0 : 0 < i) (hq : q = swr p (m - i) (m + j - i) i) : rot q (m - i) m (m + (j - i)) = rot p (m - i) m (m + j) := by
  subst hq
  funext k
  unfold rot
  by_cases h1 : k < m - i ∨ m + j ≤ k
  · rw [if_pos h1, if_pos (by omega)]
    unfold swr
    rw [if_neg (by omega), if_neg (by omega)]
  · rw [if_neg h1]
    by_cases h2 : m + (j - i) ≤ k
    · rw [if_pos (by omega), if_neg (by omega : ¬ k < m - i + (m + j - m))]
      unfold swr
      rw [if_neg (by omega), if_pos (by omega)]
      congr 1
      omega
    · rw [if_neg (by omega), if_pos (by omega : k < m - i + (m + j - m))]
      by_cases h3 : k < m - i + (m + (j - i) - m)
      · rw [if_pos h3]
        unfold swr
        rw [if_neg (by omega), if_neg (by omega)]
      · rw [if_neg h3]
        unfold swr
        rw [if_pos (by omega)]
        congr 1
        omega
theorem rot_same {p q : Nat → Nat} {m i : Nat} (hm : i ≤ m) (hq : q = swr p (m - i) m i) : q = rot p (m - i) m (m + i) := by
  subst hq
  funext k
  unfold rot swr
  by_cases h1 : k < m - i ∨ m + i ≤ k
  · rw [if_pos h1, if_neg (by omega), if_neg (by omega)]
  · rw [if_neg h1]
    by_cases h2 : k < m - i + (m + i - m)
    · rw [if_pos h2, if_pos (by omega)]
      congr 1
      omega
    · rw [if_neg h2, if_neg (by omega), if_pos (by omega)]
      congr 1
      omega
theorem rot_mix (p : Nat → Nat) {a m b : Nat} (h1 : a ≤ m) (h2 : m ≤ b) : Mix a b p (rot p a m b) := by
  refine ⟨fun k hk => ?_, fun k k1 k2 => ?_, fun k k1 k2 => ?_⟩
  · unfold rot
    rw [if_pos hk]
  · unfold rot
    rw [if_neg (by omega)]
    by_cases h : k < a + (b - m)
    · exact ⟨k + (m - a), by omega, by omega, by rw [if_pos h]⟩
    · exact ⟨k - (b - m), by omega, by omega, by rw [if_neg h]⟩
  · unfold rot
    by_cases h : k < m
    · refine ⟨k + (b - m), by omega, by omega, ?_⟩
      rw [if_neg (by omega), if_neg (by omega)]
      congr 1
      omega
    · refine ⟨k - (m - a), by omega, by omega, ?_⟩
      rw [if_neg (by omega), if_pos (by omega)]
      congr 1
      omega
theorem rot_id (p : Nat → Nat) {a m b : Nat} (h1 : a ≤ m) (h2 : m ≤ b) (h : ¬ (a < m ∧ m < b)) : rot p a m b = p := by
  funext k
  unfold rot
  by_cases h3 : k < a ∨ b ≤ k
  · rw [if_pos h3]
  · rw [if_neg h3]
    by_cases e : a = m
    · rw [if_pos (by omega), show k + (m - a) = k by omega]
    · rw [if_neg (by omega), show k - (b - m) = k by omega]
/- An item is brought up to a place, or down. -/
def mv (p : Nat → Nat) (a k : Nat) : Nat → Nat := fun x => if a ≤ x ∧ x < k then p (x + 1) else if x = k then p a else p x
theorem mv_zero (p : Nat → Nat) (a : Nat) : mv p a a = p := by
  funext x
  unfold mv
  rw [if_neg (by omega)]
  by_cases h : x = a
  · rw [if_pos h, h]
  · rw [if_neg h]
theorem mv_succ (p : Nat → Nat) {a k : Nat} (h : a ≤ k) : swp (mv p a k) k (k + 1) = mv p a (k + 1) := by
  funext x
  unfold swp mv
  by_cases h1 : x = k
  · rw [if_pos h1, if_neg (by omega), if_neg (by omega), if_pos (by omega), h1]
  · rw [if_neg h1]
    by_cases h2 : x = k + 1
    · rw [if_pos h2, if_neg (by omega), if_pos rfl, if_neg (by omega), if_pos h2]
    · rw [if_neg h2]
      by_cases h3 : a ≤ x ∧ x < k
      · rw [if_pos h3, if_pos (by omega)]
      · rw [if_neg h3, if_neg h1, if_neg (by omega), if_neg h2]
theorem mv_mix (p : Nat → Nat) {a k b : Nat} (h : a ≤ k) (hb : k < b) : Mix a b p (mv p a k) := by
  induction k with
  | zero => obtain rfl : a = 0 := by omega
            rw [mv_zero]; exact Mix.refl _ _ _
  | succ k ih =>
    by_cases e : a = k + 1
    · rw [e, mv_zero]; exact Mix.refl _ _ _
    · rw [← mv_succ p (by omega : a ≤ k)]
      exact (ih (by omega) (by omega)).trans (swp_mix _ (by omega) (by omega) (by omega) (by omega))
def mvd (p : Nat → Nat) (m k : Nat) : Nat → Nat := fun x => if k < x ∧ x ≤ m then p (x - 1) else if x = k then p m else p x
theorem mvd_zero (p : Nat → Nat) (m : Nat) : mvd p m m = p := by
  funext x
  unfold mvd
  rw [if_neg (by omega)]
  by_cases h : x = m
  · rw [if_pos h, h]
  · rw [if_neg h]
theorem mvd_succ (p : Nat → Nat) {m k : Nat} (h : k + 1 ≤ m) : swp (mvd p m (k + 1)) (k + 1) k = mvd p m k := by
  funext x
  unfold swp mvd
  by_cases h1 : x = k + 1
  · rw [if_pos h1, if_neg (by omega), if_neg (by omega), if_pos (by omega), h1, Nat.add_sub_cancel]
  · rw [if_neg h1]
    by_cases h2 : x = k
    · rw [if_pos h2, if_neg (by omega), if_pos rfl, if_neg (by omega), if_pos h2]
    · rw [if_neg h2]
      by_cases h3 : k + 1 < x ∧ x ≤ m
      · rw [if_pos h3, if_pos (by omega)]
      · rw [if_neg h3, if_neg h1, if_neg (by omega), if_neg h2]
theorem mvd_mix (p : Nat → Nat) {m a b : Nat} (hb : m < b) : ∀ d, a + d ≤ m → Mix a b p (mvd p m (m - d))
  | 0, _ => by rw [Nat.sub_zero, mvd_zero]; exact Mix.refl _ _ _
  | d + 1, h => by
    have := mvd_succ p (m := m) (k := m - (d + 1)) (by omega)
    rw [← this, show m - (d + 1) + 1 = m - d by omega]
    exact (mvd_mix p hb d (by omega)).trans (swp_mix _ (by omega) (by omega) (by omega) (by omega))
/- What is merged: both halves rise, the left one's numbers are lower. -/
structure Two (key : Nat → Int) (p : Nat → Nat) (a m b : Nat) : Prop where
  am : a < m
  mb : m < b
  left : Up key p a m
  right : Up key p m b
  num : ∀ i j, a ≤ i → i < m → m ≤ j → j < b → p i < p j
theorem Two.lt_of {key : Nat → Int} {p : Nat → Nat} {a m b : Nat} (h : Two key p a m b) {i j : Nat} (i1 : a ≤ i) (i2 : i < m) (j1 : m ≤ j) (j2 : j < b) : (key (p j) < key (p i) → lt key (p j) (p i)) ∧ (¬ key (p j) < key (p i) → lt key (p i) (p j)) := by
  have := h.num i j i1 i2 j1 j2
  unfold lt
  omega
theorem up_mono {key : Nat → Int} {p : Nat → Nat} {a b i j : Nat} (h : Up key p a b) (h1 : a ≤ i) (h2 : i ≤ j) (h3 : j < b) : i = j ∨ lt key (p i) (p j) := by
  by_cases e : i = j
  · exact Or.inl e
  · exact Or.inr (h i j h1 (by omega) h3)
theorem key_mono {key : Nat → Int} {p : Nat → Nat} {a b i j : Nat} (h : Up key p a b) (h1 : a ≤ i) (h2 : i ≤ j) (h3 : j < b) : key (p i) ≤ key (p j) := by
  rcases up_mono h h1 h2 h3 with e | e
  · rw [e]; omega
  · unfold lt at e; omega
/- One on the left. -/
theorem Two.one {key : Nat → Int} {p : Nat → Nat} {a m b i : Nat} (h : Two key p a m b) (h1 : m = a + 1) (hi : m ≤ i) (hib : i ≤ b) (hl : ∀ x, m ≤ x → x < i → key (p x) < key (p a)) (hr : ∀ x, i ≤ x → x < b → ¬ key (p x) < key (p a)) : Up key (mv p a (i - 1)) a b := by
  intro x y x1 x2 x3
  have hm := h.mb
  unfold mv
  by_cases hx : a ≤ x ∧ x < i - 1
  · rw [if_pos hx]
    by_cases hy : a ≤ y ∧ y < i - 1
    · rw [if_pos hy]
      exact h.right _ _ (by omega) (by omega) (by omega)
    · rw [if_neg hy]
      by_cases e : y = i - 1
      · rw [if_pos e]
        exact (h.lt_of (Nat.le_refl a) h.am (by omega) (by omega)).1 (hl (x + 1) (by omega) (by omega))
      · rw [if_neg e]
        exact h.right _ _ (by omega) (by omega) (by omega)
  · rw [if_neg hx, if_neg (by omega : ¬ (a ≤ y ∧ y < i - 1))]
    by_cases e : x = i - 1
    · rw [if_pos e, if_neg (by omega)]
      exact (h.lt_of (Nat.le_refl a) h.am (by omega) (by omega)).2 (hr y (by omega) (by omega))
    · rw [if_neg e, if_neg (by omega)]
      exact h.right _ _ (by omega) (by omega) (by omega)
/- One on the right. -/
theorem Two.last {key : Nat → Int} {p : Nat → Nat} {a m b i : Nat} (h : Two key p a m b) (h1 : b = m + 1) (hi : a ≤ i) (hib : i ≤ m) (hl : ∀ x, a ≤ x → x < i → ¬ key (p m) < key (p x)) (hr : ∀ x, i ≤ x → x < m → key (p m) < key (p x)) : Up key (mvd p m i) a b := by
  intro x y x1 x2 x3
  have hm := h.mb
  unfold mvd
  by_cases hx : i < x ∧ x ≤ m
  · rw [if_pos hx]
    by_cases hy : i < y ∧ y ≤ m
    · rw [if_pos hy]
      exact h.left _ _ (by omega) (by omega) (by omega)
    · omega
  · rw [if_neg hx]
    by_cases e : x = i
    · rw [if_pos e]
      by_cases hy : i < y ∧ y ≤ m
      · rw [if_pos hy]
        exact (h.lt_of (i := y - 1) (by omega) (by omega) (Nat.le_refl m) h.mb).1 (hr (y - 1) (by omega) (by omega))
      · omega
    · rw [if_neg e]
      by_cases hy : i < y ∧ y ≤ m
      · rw [if_pos hy]
        exact h.left _ _ (by omega) (by omega) (by omega)
      · rw [if_neg hy]
        by_cases e2 : y = i
        · rw [if_pos e2]
          exact (h.lt_of (i := x) (by omega) (by omega) (Nat.le_refl m) h.mb).2 (hl x (by omega) (by omega))
        · rw [if_neg e2]
          exact h.left _ _ (by omega) (by omega) (by omega)
/- Where the search ends: what is ahead of start is below its mirror, what is behind is above. -/
structure Cut (key : Nat → Int) (p : Nat → Nat) (a m b mid start : Nat) : Prop where
  lo : (if mid < m then mid + m - b else a) ≤ start
  hi : start ≤ (if mid < m then mid else m)
  ahead : ∀ x, (if mid < m then mid + m - b else a) ≤ x → x < start → ¬ key (p (mid + m - 1 - x)) < key (p x)
  behind : ∀ x, start ≤ x → x < (if mid < m then mid else m) → key (p (mid + m - 1 - x)) < key (p x)
/- Both halves of the whole, once turned round. -/
structure Halves (key : Nat → Int) (q : Nat → Nat) (a mid b : Nat) (s e : Nat) : Prop where
  s1 : a ≤ s
  s2 : s ≤ mid
  e1 : mid ≤ e
  e2 : e ≤ b
  ll : Up key q a s
  lr : Up key q s mid
  rl : Up key q mid e
  rr : Up key q e b
  ln : ∀ i j, a ≤ i → i < s → s ≤ j → j < mid → q i < q j
  rn : ∀ i j, mid ≤ i → i < e → e ≤ j → j < b → q i < q j
  across : ∀ i j, a ≤ i → i < mid → mid ≤ j → j < b → lt key (q i) (q j)
theorem Two.halves {key : Nat → Int} {p : Nat → Nat} {a m b mid s : Nat} (h : Two key p a m b) (hmid : mid = (a + b) / 2) (h2 : a + 2 ≤ m) (h3 : m + 2 ≤ b) (c : Cut key p a m b mid s) : Halves key (rot p s m (mid + m - s)) a mid b s (mid + m - s) := by
  have am := h.am
  have mb := h.mb
  have lo := c.lo
  have hi := c.hi
  have hs : a ≤ s ∧ s ≤ m ∧ s ≤ mid ∧ mid + m - s ≤ b ∧ m ≤ mid + m - s ∧ mid ≤ mid + m - s := by
    by_cases e : mid < m
    · rw [if_pos e] at lo hi; omega
    · rw [if_neg e] at lo hi; omega
  obtain ⟨s1, s2, s3, s4, s5, s6⟩ := hs
  have r1 : ∀ k, k < s → rot p s m (mid + m - s) k = p k := fun k hk => by unfold rot; rw [if_pos (by omega)]
  have r2 : ∀ k, s ≤ k → k < mid → rot p s m (mid + m - s) k = p (k + (m - s)) := fun k h1 h2 => by unfold rot; rw [if_neg (by omega), if_pos (by omega)]
  have r3 : ∀ k, mid ≤ k → k < mid + m - s → rot p s m (mid + m - s) k = p (k - (mid - s)) := fun k h1 h2 => by
    unfold rot; rw [if_neg (by omega), if_neg (by omega)]; congr 1; omega
  have r4 : ∀ k, mid + m - s ≤ k → rot p s m (mid + m - s) k = p k := fun k hk => by unfold rot; rw [if_pos (by omega)]
  /- the left one's beginning lies below the right one's end -/
  have f1 : ∀ i j, a ≤ i → i < s → mid + m - s ≤ j → j < b → lt key (p i) (p j) := by
    intro i j i1 i2 j1 j2
    have hlo : (if mid < m then mid + m - b else a) < s := by
      by_cases e : mid < m
      · rw [if_pos e] at lo ⊢; omega
      · rw [if_neg e] at lo ⊢; omega
    have := c.ahead (s - 1) (by omega) (by omega)
    have k1 := key_mono h.left (i := i) (j := s - 1) i1 (by omega) (by omega)
    have k2 := key_mono h.right (i := mid + m - 1 - (s - 1)) (j := j) (by omega) (by omega) j2
    have k3 := h.num i j i1 (by omega) (by omega) j2
    unfold lt
    omega
  /- the right one's beginning lies below the left one's end -/
  have f2 : ∀ i j, m ≤ i → i < mid + m - s → s ≤ j → j < m → lt key (p i) (p j) := by
    intro i j i1 i2 j1 j2
    have hhi : s < (if mid < m then mid else m) := by
      by_cases e : mid < m
      · rw [if_pos e] at hi ⊢; omega
      · rw [if_neg e] at hi ⊢; omega
    have := c.behind s (Nat.le_refl _) hhi
    have k1 := key_mono h.left (i := s) (j := j) s1 j1 j2
    have k2 := key_mono h.right (i := i) (j := mid + m - 1 - s) i1 (by omega) (by omega)
    unfold lt
    omega
  refine ⟨s1, s3, s6, s4, fun i j i1 i2 i3 => ?_, fun i j i1 i2 i3 => ?_, fun i j i1 i2 i3 => ?_, fun i j i1 i2 i3 => ?_, fun i j i1 i2 i3 i4 => ?_, fun i j i1 i2 i3 i4 => ?_, fun i j i1 i2 i3 i4 => ?_⟩
  · rw [r1 i (by omega), r1 j (by omega)]; exact h.left i j i1 i2 (by omega)
  · rw [r2 i (by omega) (by omega), r2 j (by omega) (by omega)]; exact h.right _ _ (by omega) (by omega) (by omega)
  · rw [r3 i (by omega) (by omega), r3 j (by omega) (by omega)]; exact h.left _ _ (by omega) (by omega) (by omega)
  · rw [r4 i (by omega), r4 j (by omega)]; exact h.right _ _ (by omega) (by omega) (by omega)
  · rw [r1 i (by omega), r2 j (by omega) (by omega)]; exact h.num _ _ (by omega) (by omega) (by omega) (by omega)
  · rw [r3 i (by omega) (by omega), r4 j (by omega)]; exact h.num _ _ (by omega) (by omega) (by omega) (by omega)
  · by_cases x1 : i < s
    · rw [r1 i x1]
      by_cases y1 : j < mid + m - s
      · rw [r3 j i3 y1]; exact h.left _ _ i1 (by omega) (by omega)
      · rw [r4 j (by omega)]; exact f1 i j i1 x1 (by omega) i4
    · rw [r2 i (by omega) i2]
      by_cases y1 : j < mid + m - s
      · rw [r3 j i3 y1]; exact f2 _ _ (by omega) (by omega) (by omega) (by omega)
      · rw [r4 j (by omega)]; exact h.right _ _ (by omega) (by omega) i4
theorem Halves.twoL {key : Nat → Int} {q : Nat → Nat} {a mid b s e : Nat} (h : Halves key q a mid b s e) (h1 : a < s) (h2 : s < mid) : Two key q a s mid := ⟨h1, h2, h.ll, h.lr, h.ln⟩
/- Behind the left half's own merging. -/
structure Hal2 (key : Nat → Int) (q : Nat → Nat) (a mid b e : Nat) : Prop where
  e1 : mid ≤ e
  e2 : e ≤ b
  l : Up key q a mid
  rl : Up key q mid e
  rr : Up key q e b
  rn : ∀ i j, mid ≤ i → i < e → e ≤ j → j < b → q i < q j
  across : ∀ i j, a ≤ i → i < mid → mid ≤ j → j < b → lt key (q i) (q j)
theorem Halves.done {key : Nat → Int} {q r : Nat → Nat} {a mid b s e : Nat} (h : Halves key q a mid b s e) (hm : Mix a mid q r) (hu : Up key r a mid) : Hal2 key r a mid b e := by
  have o : ∀ k, mid ≤ k → r k = q k := fun k hk => hm.out k (Or.inr hk)
  refine ⟨h.e1, h.e2, hu, fun i j i1 i2 i3 => ?_, fun i j i1 i2 i3 => ?_, fun i j i1 i2 i3 i4 => ?_, fun i j i1 i2 i3 i4 => ?_⟩
  · rw [o i i1, o j (by omega)]; exact h.rl i j i1 i2 i3
  · have := h.e1
    rw [o i (by omega), o j (by omega)]; exact h.rr i j i1 i2 i3
  · have := h.e1
    rw [o i (by omega), o j (by omega)]; exact h.rn i j i1 i2 i3 i4
  · obtain ⟨k, k1, k2, e'⟩ := hm.fro i i1 i2
    rw [e', o j i3]
    exact h.across k j k1 k2 i3 i4
theorem Halves.skip {key : Nat → Int} {q : Nat → Nat} {a mid b s e : Nat} (h : Halves key q a mid b s e) (hn : ¬ (a < s ∧ s < mid)) : Up key q a mid := by
  intro i j i1 i2 i3
  have := h.s1
  have := h.s2
  by_cases e' : s = a
  · exact h.lr i j (by omega) i2 i3
  · exact h.ll i j i1 i2 (by omega)
theorem Hal2.two {key : Nat → Int} {q : Nat → Nat} {a mid b e : Nat} (h : Hal2 key q a mid b e) (h1 : mid < e) (h2 : e < b) : Two key q mid e b := ⟨h1, h2, h.rl, h.rr, h.rn⟩
theorem Hal2.skip {key : Nat → Int} {q : Nat → Nat} {a mid b e : Nat} (h : Hal2 key q a mid b e) (hn : ¬ (mid < e ∧ e < b)) : Up key q mid b := by
  intro i j i1 i2 i3
  have := h.e1
  have := h.e2
  by_cases e' : e = mid
  · exact h.rr i j (by omega) i2 i3
  · exact h.rl i j i1 i2 (by omega)
theorem Hal2.done {key : Nat → Int} {q r : Nat → Nat} {a mid b e : Nat} (h : Hal2 key q a mid b e) (hm : Mix mid b q r) (hu : Up key r mid b) : Up key r a b := by
  intro i j i1 i2 i3
  by_cases hi : i < mid
  · rw [hm.out i (Or.inl hi)]
    by_cases hj : j < mid
    · rw [hm.out j (Or.inl hj)]; exact h.l i j i1 i2 hj
    · obtain ⟨k, k1, k2, e'⟩ := hm.fro j (by omega) i3
      rw [e']
      exact h.across i k i1 hi k1 k2
  · exact hu i j (by omega) i2 i3
/- A stretch that is in order, with its own items. -/
structure Seg (key : Nat → Int) (p : Nat → Nat) (x y : Nat) : Prop where
  up : Up key p x y
  own : ∀ k, x ≤ k → k < y → x ≤ p k ∧ p k < y
  all : ∀ v, x ≤ v → v < y → ∃ k, x ≤ k ∧ k < y ∧ p k = v
theorem Seg.mix {key : Nat → Int} {p q : Nat → Nat} {x y : Nat} (hp : ∀ k, x ≤ k → k < y → x ≤ p k ∧ p k < y) (ha : ∀ v, x ≤ v → v < y → ∃ k, x ≤ k ∧ k < y ∧ p k = v) (hm : Mix x y p q) (hu : Up key q x y) : Seg key q x y :=
  ⟨hu, fun k k1 k2 => by
    obtain ⟨j, j1, j2, e⟩ := hm.fro k k1 k2
    rw [e]; exact hp j j1 j2, fun v v1 v2 => by
    obtain ⟨k, k1, k2, e⟩ := ha v v1 v2
    obtain ⟨j, j1, j2, e'⟩ := hm.to k k1 k2
    exact ⟨j, j1, j2, by rw [← e', e]⟩⟩
theorem Seg.first {key : Nat → Int} {p q : Nat → Nat} {x y : Nat} (hp : ∀ k, x ≤ k → k < y → p k = k) (hm : Mix x y p q) (hu : Up key q x y) : Seg key q x y :=
  Seg.mix (fun k k1 k2 => by rw [hp k k1 k2]; exact ⟨k1, k2⟩) (fun v v1 v2 => ⟨v, v1, v2, hp v v1 v2⟩) hm hu
theorem Seg.two {key : Nat → Int} {p : Nat → Nat} {x y z : Nat} (h : Seg key p x y) (g : Seg key p y z) (h1 : x < y) (h2 : y < z) : Two key p x y z :=
  ⟨h1, h2, h.up, g.up, fun i j i1 i2 i3 i4 => Nat.lt_of_lt_of_le (h.own i i1 i2).2 (g.own j i3 i4).1⟩
theorem Seg.merge {key : Nat → Int} {p q : Nat → Nat} {x y z : Nat} (h : Seg key p x y) (g : Seg key p y z) (h1 : x ≤ y) (h2 : y ≤ z) (hm : Mix x z p q) (hu : Up key q x z) : Seg key q x z := by
  refine Seg.mix (fun k k1 k2 => ?_) (fun v v1 v2 => ?_) hm hu
  · by_cases e : k < y
    · have := h.own k k1 e; omega
    · have := g.own k (by omega) k2; omega
  · by_cases e : v < y
    · obtain ⟨k, k1, k2, e'⟩ := h.all v v1 e
      exact ⟨k, k1, by omega, e'⟩
    · obtain ⟨k, k1, k2, e'⟩ := g.all v (by omega) v2
      exact ⟨k, by omega, k2, e'⟩
theorem Seg.same {key : Nat → Int} {p q : Nat → Nat} {x y : Nat} (h : Seg key p x y) (e : ∀ k, x ≤ k → k < y → q k = p k) : Seg key q x y :=
  ⟨fun i j i1 i2 i3 => by rw [e i i1 (by omega), e j (by omega) i3]; exact h.up i j i1 i2 i3, fun k k1 k2 => by rw [e k k1 k2]; exact h.own k k1 k2, fun v v1 v2 => by
    obtain ⟨k, k1, k2, e'⟩ := h.all v v1 v2
    exact ⟨k, k1, k2, by rw [e k k1 k2, e']⟩⟩
theorem Seg.empty (key : Nat → Int) (p : Nat → Nat) {x y : Nat} (h : y ≤ x) : Seg key p x y := ⟨fun i j _ _ _ => by omega, fun k _ _ => by omega, fun v _ _ => by omega⟩
/- In blocks of s all is in order. -/
def Blks (key : Nat → Int) (p : Nat → Nat) (s n : Nat) : Prop := ∀ t, t * s < n → Seg key p (t * s) (min (t * s + s) n)
/- The first blocks' own sorting. -/
structure Fst (key : Nat → Int) (p : Nat → Nat) (s n t : Nat) : Prop where
  done : ∀ t', t' < t → Seg key p (t' * s) (t' * s + s)
  rest : ∀ k, t * s ≤ k → p k = k
theorem Fst.start (key : Nat → Int) (s n : Nat) : Fst key id s n 0 := ⟨fun t h => by omega, fun _ _ => rfl⟩
theorem mul_lt_blk {s t t' : Nat} (h : t' < t) : t' * s + s ≤ t * s := by
  have := Nat.mul_le_mul_right s (show t' + 1 ≤ t from h)
  rw [Nat.succ_mul] at this
  exact this
theorem Fst.next {key : Nat → Int} {p q : Nat → Nat} {s n t : Nat} (h : Fst key p s n t) (hm : Mix (t * s) (t * s + s) p q) (hu : Up key q (t * s) (t * s + s)) : Fst key q s n (t + 1) := by
  refine ⟨fun t' ht => ?_, fun k hk => ?_⟩
  · by_cases e : t' = t
    · rw [e]; exact Seg.first (fun k k1 k2 => h.rest k k1) hm hu
    · have hb := mul_lt_blk (s := s) (show t' < t by omega)
      exact (h.done t' (by omega)).same fun k k1 k2 => hm.out k (Or.inl (by omega))
  · rw [Nat.succ_mul] at hk
    rw [hm.out k (Or.inr hk)]
    exact h.rest k (by omega)
theorem Fst.num {key : Nat → Int} {p : Nat → Nat} {s n t : Nat} (h : Fst key p s n t) (b : Nat) : ∀ x y, t * s ≤ x → x < y → y < b → p x < p y := fun x y h1 h2 h3 => by rw [h.rest x h1, h.rest y (by omega)]; exact h2
theorem Fst.last {key : Nat → Int} {p q : Nat → Nat} {s n t : Nat} (h : Fst key p s n t) (h1 : t * s ≤ n) (h2 : n < t * s + s) (hm : Mix (t * s) n p q) (hu : Up key q (t * s) n) : Blks key q s n := by
  intro t' ht
  by_cases e : t' = t
  · rw [e, Nat.min_eq_right (by omega)]
    exact Seg.first (fun k k1 k2 => h.rest k k1) hm hu
  · have hlt : t' < t := by
      rcases Nat.lt_or_ge t' t with hl | hl
      · exact hl
      · have := mul_lt_blk (s := s) (show t < t' by omega)
        omega
    have hb := mul_lt_blk (s := s) hlt
    rw [Nat.min_eq_left (by omega)]
    exact (h.done t' hlt).same fun k k1 k2 => hm.out k (Or.inl (by omega))
/- Pairs of blocks, merged one after the other. -/
structure Prs (key : Nat → Int) (p : Nat → Nat) (s n t : Nat) : Prop where
  done : ∀ t', t' < t → Seg key p (t' * (2 * s)) (t' * (2 * s) + 2 * s)
  rest : ∀ t', 2 * t ≤ t' → t' * s < n → Seg key p (t' * s) (min (t' * s + s) n)
theorem Prs.start {key : Nat → Int} {p : Nat → Nat} {s n : Nat} (h : Blks key p s n) : Prs key p s n 0 := ⟨fun t h => by omega, fun t _ ht => h t ht⟩
theorem two_mul_blk (s t : Nat) : 2 * t * s = t * (2 * s) := by rw [Nat.mul_comm 2 t, Nat.mul_assoc]
theorem Prs.left {key : Nat → Int} {p : Nat → Nat} {s n t : Nat} (h : Prs key p s n t) (hb : t * (2 * s) + s ≤ n) (hs : 0 < s) : Seg key p (t * (2 * s)) (t * (2 * s) + s) := by
  have := h.rest (2 * t) (Nat.le_refl _) (by rw [two_mul_blk]; omega)
  rwa [two_mul_blk, Nat.min_eq_left hb] at this
theorem Prs.right {key : Nat → Int} {p : Nat → Nat} {s n t : Nat} (h : Prs key p s n t) (hb : t * (2 * s) + s < n) : Seg key p (t * (2 * s) + s) (min (t * (2 * s) + 2 * s) n) := by
  have := h.rest (2 * t + 1) (by omega) (by rw [Nat.succ_mul, two_mul_blk]; exact hb)
  rwa [Nat.succ_mul, two_mul_blk, show t * (2 * s) + s + s = t * (2 * s) + 2 * s by omega] at this
theorem Prs.two {key : Nat → Int} {p : Nat → Nat} {s n t b : Nat} (h : Prs key p s n t) (hs : 0 < s) (hb : b = min (t * (2 * s) + 2 * s) n) (h1 : t * (2 * s) + s < n) : Two key p (t * (2 * s)) (t * (2 * s) + s) b := by
  subst hb
  exact (h.left (by omega) hs).two (h.right h1) (by omega) (by omega)
theorem Prs.next {key : Nat → Int} {p q : Nat → Nat} {s n t : Nat} (h : Prs key p s n t) (hs : 0 < s) (hb : t * (2 * s) + 2 * s ≤ n) (hm : Mix (t * (2 * s)) (t * (2 * s) + 2 * s) p q) (hu : Up key q (t * (2 * s)) (t * (2 * s) + 2 * s)) : Prs key q s n (t + 1) := by
  have hr := h.right (by omega)
  rw [Nat.min_eq_left hb] at hr
  refine ⟨fun t' ht => ?_, fun t' ht hn => ?_⟩
  · by_cases e : t' = t
    · rw [e]
      exact (h.left (by omega) hs).merge hr (by omega) (by omega) hm hu
    · have hb' := mul_lt_blk (s := 2 * s) (show t' < t by omega)
      exact (h.done t' (by omega)).same fun k k1 k2 => hm.out k (Or.inl (by omega))
  · have hl : t * (2 * s) + 2 * s ≤ t' * s := by
      have := Nat.mul_le_mul_right s ht
      rw [two_mul_blk, Nat.succ_mul] at this
      exact this
    exact (h.rest t' (by omega) hn).same fun k k1 k2 => hm.out k (Or.inr (by omega))
theorem Prs.blks {key : Nat → Int} {p : Nat → Nat} {s n t : Nat} (h : Prs key p s n t) (h0 : t * (2 * s) ≤ n) (h2 : n < t * (2 * s) + 2 * s) (hl : Seg key p (t * (2 * s)) n) : Blks key p (2 * s) n := by
  intro t' ht
  by_cases e : t' = t
  · rw [e, Nat.min_eq_right (by omega)]; exact hl
  · have hlt : t' < t := by
      rcases Nat.lt_or_ge t' t with hl | hl
      · exact hl
      · have := mul_lt_blk (s := 2 * s) (show t < t' by omega)
        omega
    have h1 := mul_lt_blk (s := 2 * s) hlt
    rw [Nat.min_eq_left (by omega)]
    exact h.done t' hlt
theorem Prs.last {key : Nat → Int} {p q : Nat → Nat} {s n t : Nat} (h : Prs key p s n t) (hs : 0 < s) (h1 : t * (2 * s) + s < n) (h2 : n < t * (2 * s) + 2 * s) (hm : Mix (t * (2 * s)) n p q) (hu : Up key q (t * (2 * s)) n) : Blks key q (2 * s) n := by
  have hr := h.right h1
  rw [Nat.min_eq_right (by omega)] at hr
  have hd : ∀ t', t' < t → Seg key q (t' * (2 * s)) (t' * (2 * s) + 2 * s) := fun t' ht => by
    have hb' := mul_lt_blk (s := 2 * s) ht
    exact (h.done t' ht).same fun k k1 k2 => hm.out k (Or.inl (by omega))
  intro t' ht
  by_cases e : t' = t
  · rw [e, Nat.min_eq_right (by omega)]
    exact (h.left (by omega) hs).merge hr (by omega) (by omega) hm hu
  · have hlt : t' < t := by
      rcases Nat.lt_or_ge t' t with hl | hl
      · exact hl
      · have := mul_lt_blk (s := 2 * s) (show t < t' by omega)
        omega
    have h1 := mul_lt_blk (s := 2 * s) hlt
    rw [Nat.min_eq_left (by omega)]
    exact hd t' hlt
theorem Prs.lone {key : Nat → Int} {p : Nat → Nat} {s n t : Nat} (h : Prs key p s n t) (h0 : t * (2 * s) ≤ n) (h1 : n ≤ t * (2 * s) + s) (h2 : n < t * (2 * s) + 2 * s) : Blks key p (2 * s) n := by
  refine h.blks h0 h2 ?_
  by_cases e : t * (2 * s) < n
  · have := h.rest (2 * t) (Nat.le_refl _) (by rw [two_mul_blk]; exact e)
    rwa [two_mul_blk, Nat.min_eq_right h1] at this
  · exact Seg.empty _ _ (by omega)
theorem Blks.whole {key : Nat → Int} {p : Nat → Nat} {s n : Nat} (h : Blks key p s n) (hs : n ≤ s) : Seg key p 0 n := by
  by_cases e : 0 < n
  · have := h 0 (by omega)
    rwa [Nat.zero_mul, Nat.zero_add, Nat.min_eq_right hs] at this
  · exact Seg.empty _ _ (by omega)
end Go.Proofs.Ytebfjldbhmmmlaa.Srt
