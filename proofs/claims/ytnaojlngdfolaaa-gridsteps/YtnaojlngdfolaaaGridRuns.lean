/-
  Legal runs and turns in plain words: a run is legal just if every pose on its way fits; which moves a pose has, each once.
-/
import Derived.Test.YtnaojlngdfolaaaGridGather
import Derived.Test.YtnaojlngdfolaaaGridLegal2
namespace Go.Proofs.Ytnaojlngdfolaaa.Grid
set_option linter.unusedVariables false
set_option linter.unusedSimpArgs false
open Go Go.RowKit Go.Shelf Go.Proofs

theorem mem_boxList {x0 y0 x1 y1 : Int} {c : Cell} : c ∈ boxList x0 y0 x1 y1 ↔ x0 ≤ c.1 ∧ c.1 ≤ x1 ∧ y0 ≤ c.2 ∧ c.2 ≤ y1 := by
  unfold boxList rows row
  simp only [List.mem_flatMap, List.mem_map, List.mem_range]
  constructor
  · rintro ⟨k, hk, j, hj, rfl⟩
    simp only
    omega
  · rintro ⟨h1, h2, h3, h4⟩
    refine ⟨(c.2 - y0).toNat, by omega, (c.1 - x0).toNat, by omega, ?_⟩
    exact Prod.ext (by simp only; omega) (by simp only; omega)
def dx (d : Int) : Int := if d = 1 then 1 else if d = 3 then -1 else 0
def dy (d : Int) : Int := if d = 0 then -1 else if d = 2 then 1 else 0
theorem shift_small {p : Pose} {d k : Int} (h1 : -100 ≤ p.1.1) (h2 : p.1.1 ≤ 100) (h3 : -100 ≤ p.1.2) (h4 : p.1.2 ≤ 100) (hk : 0 ≤ k) (hk2 : k ≤ 16) : shiftP p d k = ((p.1.1 + dx d * k, p.1.2 + dy d * k), p.2) := by
  unfold shiftP dx dy
  by_cases e0 : d = 0
  · subst e0; simp [w64_id (n := p.1.2 - k) (by omega) (by omega)]; omega
  · by_cases e1 : d = 1
    · subst e1; simp [w64_id (n := p.1.1 + k) (by omega) (by omega)]
    · by_cases e2 : d = 2
      · subst e2; simp [w64_id (n := p.1.2 + k) (by omega) (by omega)]
      · by_cases e3 : d = 3
        · subst e3; simp [w64_id (n := p.1.1 - k) (by omega) (by omega)]; omega
        · simp [e0, e1, e2, e3]
theorem second_small {p : Pose} (h1 : -200 ≤ p.1.1) (h2 : p.1.1 ≤ 200) (h3 : -200 ≤ p.1.2) (h4 : p.1.2 ≤ 200) : second p = if p.2 then (p.1.1, p.1.2 + 1) else (p.1.1 + 1, p.1.2) := by
  unfold second east south
  cases p.2
  · simp [w64_id (n := p.1.1 + 1) (by omega) (by omega)]
  · simp [w64_id (n := p.1.2 + 1) (by omega) (by omega)]
theorem fits_near {W H : Int} {us : List Int} {p : Pose} (hW : W ≤ 16) (hH : H ≤ 16) (h : fitsU W H us p = true) : 0 ≤ p.1.1 ∧ p.1.1 < 16 ∧ 0 ≤ p.1.2 ∧ p.1.2 < 16 := by
  obtain ⟨⟨a, b, c, d⟩, _⟩ := fits_in h
  exact ⟨a, by omega, c, by omega⟩
theorem fits_iff {W H : Int} {us : List Int} {p : Pose} : fitsU W H us p = true ↔ openU W H us p.1 = true ∧ openU W H us (second p) = true := by
  unfold fitsU
  rw [Bool.and_eq_true]
/- The box of a run is what its poses cover. -/
theorem box_run {W H : Int} {us : List Int} {p : Pose} {d n : Int} (h1 : 0 ≤ p.1.1) (h2 : p.1.1 < 16) (h3 : 0 ≤ p.1.2) (h4 : p.1.2 < 16) (hd : 0 ≤ d ∧ d ≤ 3) (hn : 0 ≤ n ∧ n ≤ 16) :
    (∀ c ∈ boxOf p (shiftP p d n), openU W H us c = true) ↔ ∀ k, 0 ≤ k → k ≤ n → fitsU W H us (shiftP p d k) = true := by
  have hs := fun k (q : 0 ≤ k) (r : k ≤ 16) => shift_small (p := p) (d := d) (k := k) (by omega) (by omega) (by omega) (by omega) q r
  have hb : -1 ≤ dx d ∧ dx d ≤ 1 ∧ -1 ≤ dy d ∧ dy d ≤ 1 ∧ (dx d = 0 ∨ dy d = 0) := by
    unfold dx dy
    rcases (show d = 0 ∨ d = 1 ∨ d = 2 ∨ d = 3 by omega) with rfl | rfl | rfl | rfl <;> decide
  have hx : ∀ k, 0 ≤ k → k ≤ 16 → -16 ≤ dx d * k ∧ dx d * k ≤ 16 ∧ -16 ≤ dy d * k ∧ dy d * k ≤ 16 := fun k q r => by
    rcases (show dx d = -1 ∨ dx d = 0 ∨ dx d = 1 by omega) with e | e | e <;> rcases (show dy d = -1 ∨ dy d = 0 ∨ dy d = 1 by omega) with f | f | f <;> rw [e, f] <;> omega
  have hsec := fun k (q : 0 ≤ k) (r : k ≤ 16) => second_small (p := ((p.1.1 + dx d * k, p.1.2 + dy d * k), p.2)) (by have := hx k q r; simp only; omega) (by have := hx k q r; simp only; omega) (by have := hx k q r; simp only; omega) (by have := hx k q r; simp only; omega)
  have hp := second_small (p := p) (by omega) (by omega) (by omega) (by omega)
  have hmem : ∀ c, c ∈ boxOf p (shiftP p d n) ↔ ∃ k, 0 ≤ k ∧ k ≤ n ∧ (c = (shiftP p d k).1 ∨ c = second (shiftP p d k)) := by
    intro c
    unfold boxOf spanP
    rw [mem_boxList, hs n hn.1 hn.2, hsec n hn.1 hn.2, hp]
    have hxn := hx n hn.1 hn.2
    constructor
    · rintro ⟨q1, q2, q3, q4⟩
      obtain ⟨cx, cy⟩ := c
      obtain ⟨⟨px, py⟩, pd⟩ := p
      simp only at *
      have key : ∃ k, 0 ≤ k ∧ k ≤ n ∧ ((cx, cy) = (px + dx d * k, py + dy d * k) ∨ (cx, cy) = if pd = true then (px + dx d * k, py + dy d * k + 1) else (px + dx d * k + 1, py + dy d * k)) := by
        cases pd
        · simp only [Bool.false_eq_true, if_false] at q1 q2 q3 q4 ⊢
          simp only [Prod.mk.injEq]
          rcases (show d = 0 ∨ d = 1 ∨ d = 2 ∨ d = 3 by omega) with rfl | rfl | rfl | rfl
          · simp only [show dx 0 = 0 from rfl, show dy 0 = -1 from rfl] at *
            exact ⟨py - cy, by omega, by omega, by omega⟩
          · simp only [show dx 1 = 1 from rfl, show dy 1 = 0 from rfl] at *
            by_cases q : cx - px ≤ n
            · exact ⟨cx - px, by omega, by omega, by omega⟩
            · exact ⟨n, by omega, by omega, by omega⟩
          · simp only [show dx 2 = 0 from rfl, show dy 2 = 1 from rfl] at *
            exact ⟨cy - py, by omega, by omega, by omega⟩
          · simp only [show dx 3 = -1 from rfl, show dy 3 = 0 from rfl] at *
            by_cases q : cx ≤ px
            · exact ⟨px - cx, by omega, by omega, by omega⟩
            · exact ⟨0, by omega, by omega, by omega⟩
        · simp only [if_true] at q1 q2 q3 q4 ⊢
          simp only [Prod.mk.injEq]
          rcases (show d = 0 ∨ d = 1 ∨ d = 2 ∨ d = 3 by omega) with rfl | rfl | rfl | rfl
          · simp only [show dx 0 = 0 from rfl, show dy 0 = -1 from rfl] at *
            by_cases q : cy ≤ py
            · exact ⟨py - cy, by omega, by omega, by omega⟩
            · exact ⟨0, by omega, by omega, by omega⟩
          · simp only [show dx 1 = 1 from rfl, show dy 1 = 0 from rfl] at *
            exact ⟨cx - px, by omega, by omega, by omega⟩
          · simp only [show dx 2 = 0 from rfl, show dy 2 = 1 from rfl] at *
            by_cases q : cy - py ≤ n
            · exact ⟨cy - py, by omega, by omega, by omega⟩
            · exact ⟨n, by omega, by omega, by omega⟩
          · simp only [show dx 3 = -1 from rfl, show dy 3 = 0 from rfl] at *
            exact ⟨px - cx, by omega, by omega, by omega⟩
      obtain ⟨k, k1, k2, k3⟩ := key
      refine ⟨k, k1, k2, ?_⟩
      rw [hs k k1 (by omega), hsec k k1 (by omega)]
      exact k3
    · rintro ⟨k, k1, k2, k3⟩
      rw [hs k k1 (by omega), hsec k k1 (by omega)] at k3
      have hxk := hx k k1 (by omega)
      obtain ⟨⟨px, py⟩, pd⟩ := p
      simp only at *
      rcases (show d = 0 ∨ d = 1 ∨ d = 2 ∨ d = 3 by omega) with rfl | rfl | rfl | rfl <;>
        simp only [show dx 0 = 0 from rfl, show dy 0 = -1 from rfl, show dx 1 = 1 from rfl, show dy 1 = 0 from rfl, show dx 2 = 0 from rfl, show dy 2 = 1 from rfl, show dx 3 = -1 from rfl, show dy 3 = 0 from rfl] at * <;>
        cases pd <;> simp only [Bool.false_eq_true, if_false, if_true] at * <;> rcases k3 with rfl | rfl <;> simp only <;> omega
  constructor
  · intro h k k1 k2
    rw [fits_iff]
    exact ⟨h _ ((hmem _).2 ⟨k, k1, k2, Or.inl rfl⟩), h _ ((hmem _).2 ⟨k, k1, k2, Or.inr rfl⟩)⟩
  · intro h c hc
    obtain ⟨k, k1, k2, k3⟩ := (hmem c).1 hc
    have := fits_iff.1 (h k k1 k2)
    rcases k3 with rfl | rfl
    · exact this.1
    · exact this.2
theorem shift_zero {p : Pose} {d : Int} (h1 : 0 ≤ p.1.1) (h2 : p.1.1 < 16) (h3 : 0 ≤ p.1.2) (h4 : p.1.2 < 16) : shiftP p d 0 = p := by
  rw [shift_small (by omega) (by omega) (by omega) (by omega) (by omega) (by omega)]
  simp
theorem legal_run {W H : Int} {us : List Int} {p : Pose} {d n : Int} (hW : W ≤ 16) (hH : H ≤ 16) (hd : 0 ≤ d ∧ d ≤ 3) (hn : 1 ≤ n ∧ n ≤ 16) :
    legalU W H us (runM p d n) = true ↔ fitsU W H us p = true ∧ ∀ k, 1 ≤ k → k ≤ n → fitsU W H us (shiftP p d k) = true := by
  have hm : mayShift d n = true := by unfold mayShift; simp; omega
  have e : legalU W H us (runM p d n) = (fitsU W H us p && (boxOf p (shiftP p d n)).all (openU W H us)) := by
    unfold legalU runM leadsP shiftR
    simp [hm, show 0 < n by omega]
  rw [e, Bool.and_eq_true, List.all_eq_true]
  constructor
  · rintro ⟨h, q⟩
    obtain ⟨a, b, c, f⟩ := fits_near hW hH h
    exact ⟨h, fun k k1 k2 => (box_run a b c f hd ⟨by omega, hn.2⟩).1 q k (by omega) k2⟩
  · rintro ⟨h, q⟩
    obtain ⟨a, b, c, f⟩ := fits_near hW hH h
    refine ⟨h, (box_run a b c f hd ⟨by omega, hn.2⟩).2 fun k k1 k2 => ?_⟩
    by_cases k0 : k = 0
    · rw [k0, shift_zero a b c f]; exact h
    · exact q k (by omega) k2
/- The moves of a pose: which there are, each once. -/
theorem mem_runs {W H : Int} {us : List Int} {p : Pose} {d : Int} : ∀ (f : Nat) (n0 : Int) (m : Move), m ∈ runsP W H us p d f n0 ↔ ∃ j, n0 ≤ j ∧ j < n0 + f ∧ m = runM p d j ∧ ∀ k, n0 ≤ k → k ≤ j → fitsU W H us (shiftP p d k) = true
  | 0, n0, m => by
    unfold runsP
    refine iff_of_false (by simp) ?_
    rintro ⟨j, h1, h2, _⟩
    omega
  | f + 1, n0, m => by
    unfold runsP
    split
    · rename_i hf
      rw [List.mem_cons, mem_runs f (n0 + 1) m]
      constructor
      · rintro (rfl | ⟨j, h1, h2, h3, h4⟩)
        · exact ⟨n0, Int.le_refl _, by omega, rfl, fun k k1 k2 => by rw [show k = n0 by omega]; exact hf⟩
        · refine ⟨j, by omega, by omega, h3, fun k k1 k2 => ?_⟩
          by_cases e : k = n0
          · rw [e]; exact hf
          · exact h4 k (by omega) k2
      · rintro ⟨j, h1, h2, h3, h4⟩
        by_cases e : j = n0
        · exact Or.inl (by rw [h3, e])
        · exact Or.inr ⟨j, by omega, by omega, h3, fun k k1 k2 => h4 k (by omega) k2⟩
    · rename_i hf
      refine iff_of_false (by simp) ?_
      rintro ⟨j, h1, h2, h3, h4⟩
      exact hf (h4 n0 (Int.le_refl _) h1)
theorem runs_nodup {W H : Int} {us : List Int} {p : Pose} {d : Int} : ∀ (f : Nat) (n0 : Int), (runsP W H us p d f n0).Nodup
  | 0, n0 => by unfold runsP; exact List.nodup_nil
  | f + 1, n0 => by
    unfold runsP
    split
    · rw [List.nodup_cons]
      refine ⟨fun h => ?_, runs_nodup f (n0 + 1)⟩
      obtain ⟨j, h1, _, h3, _⟩ := (mem_runs f (n0 + 1) _).1 h
      have : n0 = j := congrArg (fun m : Move => m.2.2.1) h3
      omega
    · exact List.nodup_nil
theorem mem_dir {W H : Int} {us : List Int} {p : Pose} {d : Int} {m : Move} (hW : W ≤ 16) (hH : H ≤ 16) (hd : 0 ≤ d ∧ d ≤ 3) (hf : fitsU W H us p = true) : m ∈ dirP W H us p d ↔ ∃ j, 1 ≤ j ∧ j ≤ 16 ∧ m = runM p d j ∧ legalU W H us m = true := by
  unfold dirP
  rw [mem_runs]
  constructor
  · rintro ⟨j, h1, h2, h3, h4⟩
    refine ⟨j, h1, by omega, h3, ?_⟩
    rw [h3, legal_run hW hH hd ⟨h1, by omega⟩]
    exact ⟨hf, h4⟩
  · rintro ⟨j, h1, h2, h3, h4⟩
    refine ⟨j, h1, by omega, h3, ?_⟩
    rw [h3, legal_run hW hH hd ⟨h1, h2⟩] at h4
    exact h4.2
theorem dirs_nodup {W H : Int} {us : List Int} {p : Pose} : ∀ j : Nat, (dirsP W H us p j).Nodup ∧ ∀ m ∈ dirsP W H us p j, m.1 = 1 ∧ m.2.1 < (j : Int)
  | 0 => ⟨List.nodup_nil, fun m hm => by simp [dirsP] at hm⟩
  | j + 1 => by
    rw [dirs_succ]
    obtain ⟨h1, h2⟩ := dirs_nodup (W := W) (H := H) (us := us) (p := p) j
    refine ⟨List.nodup_append.2 ⟨h1, runs_nodup _ _, fun a ha b hb e => ?_⟩, fun m hm => ?_⟩
    · obtain ⟨k, _, _, q, _⟩ := (mem_runs _ _ _).1 hb
      have := (h2 a ha).2
      rw [e, q] at this
      simp [runM] at this
    · rcases List.mem_append.1 hm with q | q
      · have := h2 m q
        exact ⟨this.1, by omega⟩
      · obtain ⟨k, _, _, q, _⟩ := (mem_runs _ _ _).1 q
        rw [q]
        exact ⟨rfl, by simp [runM]; omega⟩
theorem mem_dirs {W H : Int} {us : List Int} {p : Pose} {m : Move} : ∀ j : Nat, m ∈ dirsP W H us p j ↔ ∃ i : Nat, i < j ∧ m ∈ dirP W H us p (i : Int) := by
  intro j
  unfold dirsP
  simp only [List.mem_flatMap, List.mem_range]
theorem moves_nodup {W H : Int} {us : List Int} {p : Pose} : (movesP W H us p).Nodup := by
  unfold movesP
  split
  · refine List.nodup_append.2 ⟨(dirs_nodup 4).1, ?_, fun a ha b hb e => ?_⟩
    · unfold lastP; split <;> simp
    · have h1 := ((dirs_nodup 4).2 a ha).1
      unfold lastP at hb
      split at hb
      · rw [List.mem_singleton.1 hb] at e
        rw [e] at h1
        cases h1
      · simp at hb
  · exact List.nodup_nil
theorem mem_moves {W H : Int} {us : List Int} {m : Move} (hW : W ≤ 16) (hH : H ≤ 16) (ha : m.2.2.2.2.2.1 = 0) (he : m.2.2.2.2.2.2 = 0) : m ∈ movesP W H us m.2.2.2.1 ↔ legalU W H us m = true ∧ (m.1 = 1 ∨ m.1 = 2) := by
  obtain ⟨kd, dir, n, f, t, a, e⟩ := m
  simp only at ha he
  subst ha he
  simp only
  constructor
  · intro h
    unfold movesP at h
    split at h
    · rename_i hf
      rcases List.mem_append.1 h with q | q
      · obtain ⟨i, hi, q⟩ := (mem_dirs 4).1 q
        obtain ⟨j, _, _, q1, q2⟩ := (mem_dir hW hH ⟨by omega, by omega⟩ hf).1 q
        exact ⟨q2, Or.inl (congrArg Prod.fst q1)⟩
      · unfold lastP at q
        split at q
        · rename_i hl
          have := List.mem_singleton.1 q
          exact ⟨by rw [this]; exact hl, Or.inr (congrArg Prod.fst this)⟩
        · simp at q
    · simp at h
  · rintro ⟨hl, hk⟩
    have hl0 := hl
    unfold legalU at hl
    simp only [Bool.and_eq_true, decide_eq_true_eq] at hl
    obtain ⟨⟨⟨h1, h2⟩, h3⟩, h4⟩ := hl
    unfold movesP
    rw [if_pos h3]
    rcases hk with rfl | rfl
    · refine List.mem_append_left _ ?_
      unfold leadsP at h1 h2
      rw [if_pos rfl] at h1 h2
      simp only [Bool.and_eq_true, decide_eq_true_eq] at h1
      obtain ⟨h1, h5⟩ := h1
      have hm := h1
      unfold mayShift at h1
      simp only [Bool.and_eq_true, decide_eq_true_eq] at h1
      unfold shiftR at h2
      rw [if_pos hm] at h2
      simp only at h2
      subst h2
      refine (mem_dirs 4).2 ⟨dir.toNat, by omega, ?_⟩
      rw [show ((dir.toNat : Nat) : Int) = dir by omega]
      exact (mem_dir hW hH ⟨by omega, by omega⟩ h3).2 ⟨n, by omega, by omega, rfl, hl0⟩
    · refine List.mem_append_right _ ?_
      unfold leadsP at h1 h2
      rw [if_neg (by decide), if_pos rfl] at h1 h2
      simp only at h1 h2
      unfold still at h1
      simp only [Bool.and_eq_true, decide_eq_true_eq] at h1
      obtain ⟨rfl, rfl⟩ : dir = 0 ∧ n = 0 := by omega
      subst h2
      unfold lastP
      rw [if_pos (show legalU W H us (turnM f) = true from hl0)]
      exact List.mem_singleton.2 rfl
theorem count_moves {W H : Int} {us : List Int} {m : Move} (hW : W ≤ 16) (hH : H ≤ 16) (ha : m.2.2.2.2.2.1 = 0) (he : m.2.2.2.2.2.2 = 0) : (movesP W H us m.2.2.2.1).count m = if legalU W H us m = true ∧ (m.1 = 1 ∨ m.1 = 2) then 1 else 0 := by
  rw [moves_nodup.count]
  simp only [mem_moves hW hH ha he]
theorem runs_len {W H : Int} {us : List Int} {p : Pose} {d : Int} : ∀ (f : Nat) (n0 : Int), (runsP W H us p d f n0).length ≤ f
  | 0, n0 => by unfold runsP; simp
  | f + 1, n0 => by
    unfold runsP
    split
    · have := runs_len (W := W) (H := H) (us := us) (p := p) (d := d) f (n0 + 1)
      rw [List.length_cons]; omega
    · simp
theorem moves_len {W H : Int} {us : List Int} {p : Pose} : (movesP W H us p).length ≤ 65 := by
  have h : ∀ j : Nat, (dirsP W H us p j).length ≤ 16 * j := fun j => by
    induction j with
    | zero => simp [dirsP]
    | succ j ih =>
      rw [dirs_succ, List.length_append]
      have : (dirP W H us p (j : Int)).length ≤ 16 := runs_len 16 1
      omega
  unfold movesP
  split
  · rw [List.length_append]
    have := h 4
    have : (lastP W H us p).length ≤ 1 := by unfold lastP; split <;> simp
    omega
  · simp
end Go.Proofs.Ytnaojlngdfolaaa.Grid
