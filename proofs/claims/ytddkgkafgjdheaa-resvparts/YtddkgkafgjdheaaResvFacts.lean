/-
  What follows of slots, in plain words: a robot that is cleared; a claim that was taken; stretches.
-/
import Derived.Test.YtddkgkafgjdheaaResvPl
namespace Go.Proofs.Ytddkgkafgjdheaa.Rs
set_option linter.unusedVariables false
set_option linter.unusedSimpArgs false
open Go Go.RowKit Go.Shelf Go.Proofs Hp
theorem has_lt {l : List Sl} (h : Ok l) {t r : Int} (k : Has l t r) : 0 ≤ t ∧ t < FV := by
  obtain ⟨s, hs, _, h1, h2⟩ := k
  have := h.fit s hs
  unfold Fit at this
  omega
theorem has_more_r {more : List Sl} {R : Int} (hr : ∀ s ∈ more, s.r = R) {t r : Int} (k : Has more t r) : r = R := by
  obtain ⟨s, hs, e, _⟩ := k
  rw [← e]; exact hr s hs
theorem clear_none {l : List Sl} (hl : Ok l) {R t : Int} : ¬ Has (cutL (isR R) FV l) t R := fun h => by
  have := (cut_has _ _ _ _ _).1 h
  have h2 := this.2 (by simp [isR])
  have := has_lt hl this.1
  omega
theorem clear_other {l : List Sl} {R t r : Int} (hr : r ≠ R) : Has (cutL (isR R) FV l) t r ↔ Has l t r := by
  rw [cut_has]
  exact ⟨fun h => h.1, fun h => ⟨h, fun k => absurd (by simpa [isR] using k) hr⟩⟩
theorem clear_back {R : Int} {l l2 more : List Sl} (hl : Ok l) (hw : With (cutL (isR R) FV l) more l2) (hr : ∀ s ∈ more, s.r = R) : cutL (isR R) FV l2 = cutL (isR R) FV l := by
  refine ok_ext (cut_ok _ _ hw.ok) (cut_ok _ _ hl) fun t r => ?_
  by_cases h : r = R
  · subst h
    exact ⟨fun k => absurd k (clear_none hw.ok), fun k => absurd k (clear_none hl)⟩
  · rw [clear_other h, hw.has]
    exact ⟨fun k => k.elim id fun k => absurd (has_more_r hr k) h, Or.inl⟩
theorem clear_twice {R : Int} {l : List Sl} (hl : Ok l) : cutL (isR R) FV (cutL (isR R) FV l) = cutL (isR R) FV l := by
  refine ok_ext (cut_ok _ _ (cut_ok _ _ hl)) (cut_ok _ _ hl) fun t r => ?_
  by_cases h : r = R
  · subst h
    exact ⟨fun k => absurd k (clear_none (cut_ok _ _ hl)), fun k => absurd k (clear_none hl)⟩
  · rw [clear_other h]
theorem back_claim {R : Int} {ws : List Wn} {ls l2 : List (List Sl)} {e : Int} (hl : OkT ls) (hC : ClaimR R ws (ls.map (cutL (isR R) FV)) e l2) : l2.map (cutL (isR R) FV) = ls.map (cutL (isR R) FV) := by
  have same : l2 = ls.map (cutL (isR R) FV) → l2.map (cutL (isR R) FV) = ls.map (cutL (isR R) FV) := fun q => by
    rw [q, List.map_map]
    exact List.map_congr_left fun l h => clear_twice (hl l h)
  by_cases hb : badArg R ws (ls.map (cutL (isR R) FV)).length = true
  · exact same (hC.arg hb).2
  · have hb := Bool.eq_false_iff.2 hb
    by_cases hm : MetT R ws (ls.map (cutL (isR R) FV))
    · exact same (hC.taken hb hm).2
    · obtain ⟨_, hln, hW⟩ := hC.done hb hm
      rw [List.length_map] at hln
      refine List.ext_getElem (by simp [hln]) fun i h1 h2 => ?_
      rw [List.getElem_map, List.getElem_map]
      rw [List.length_map] at h1 h2
      have q := hW i (by rw [List.length_map]; exact h2) h1
      rw [List.getElem_map] at q
      exact clear_back (hl _ (List.getElem_mem h2)) q moreOf_r
theorem cover {l : List Sl} (h : Ok l) {R f t : Int} (hft : f < t) (hh : ∀ x, f ≤ x → x < t → Has l x R) : ∃ s ∈ l, s.r = R ∧ s.f ≤ f ∧ t ≤ s.t := by
  obtain ⟨s, hs, hr, h1, h2⟩ := hh f (Int.le_refl _) hft
  refine ⟨s, hs, hr, h1, ?_⟩
  rcases Int.lt_or_le s.t t with k | k
  · exfalso
    obtain ⟨q, hq, hqr, q1, q2⟩ := hh s.t (by omega) k
    obtain ⟨i, hi, rfl⟩ := List.getElem_of_mem hs
    obtain ⟨j, hj, rfl⟩ := List.getElem_of_mem hq
    rcases Nat.lt_trichotomy i j with c | c | c
    · have a := List.pairwise_iff_getElem.1 h.rise i j hi hj c
      have := a.2 (by have := a.1; omega)
      exact this (by rw [hr, hqr])
    · subst c; omega
    · have a := List.pairwise_iff_getElem.1 h.rise j i hj hi c
      have := a.1
      have := h.fit _ (List.getElem_mem hi)
      unfold Fit at this
      omega
  · exact k
def inB (R f t : Int) (l : List Sl) : Bool := l.any fun s => decide (s.r = R) && decide (s.f ≤ f) && decide (s.t ≥ t)
theorem inB_of {l : List Sl} {R f t : Int} (h : ∃ s ∈ l, s.r = R ∧ s.f ≤ f ∧ t ≤ s.t) : inB R f t l = true := by
  obtain ⟨s, hs, h1, h2, h3⟩ := h
  unfold inB
  rw [List.any_eq_true]
  exact ⟨s, hs, by simp only [Bool.and_eq_true, decide_eq_true_eq]; exact ⟨⟨h1, h2⟩, h3⟩⟩
theorem badArg_parts {R : Int} {ws : List Wn} {n : Nat} (h : badArg R ws n = false) : 0 ≤ R ∧ ∀ x ∈ ws, 0 ≤ x.c ∧ x.c < n ∧ 0 ≤ x.f ∧ x.f < x.t ∧ x.t ≤ FV := by
  unfold badArg at h
  rw [Bool.or_eq_false_iff] at h
  refine ⟨by have := of_decide_eq_false h.1; omega, fun x hx => ?_⟩
  have := List.any_eq_false.1 h.2 x hx
  unfold badW isThere at this
  simp at this
  omega
theorem rowOf_nat (ls : List (List Sl)) (i : Nat) (hi : i < ls.length) : rowOf ls (i : Nat) = ls[i] := by
  unfold rowOf
  rw [if_pos (by omega)]
  simp [hi]
theorem whole_in {R : Int} {ws : List Wn} {ls ls' : List (List Sl)} {e : Int} (hl : OkT ls) (C : ClaimR R ws ls e ls') (he : e = 0) {x : Wn} (hx : x ∈ ws) : inB R x.f x.t (rowOf ls' x.c) = true := by
  have hb : badArg R ws ls.length = false := by
    rw [Bool.eq_false_iff]; intro h; have := (C.arg h).1; omega
  have hm : ¬ MetT R ws ls := fun h => by have := (C.taken hb h).1; omega
  obtain ⟨_, hln, hW⟩ := C.done hb hm
  obtain ⟨hR, hp⟩ := badArg_parts hb
  have q := hp x hx
  obtain ⟨i, hi⟩ : ∃ i : Nat, x.c = (i : Nat) := ⟨x.c.toNat, by omega⟩
  have hil : i < ls.length := by omega
  rw [hi, rowOf_nat ls' i (by omega)]
  have w := hW i hil (by omega)
  refine inB_of (cover w.ok q.2.2.2.1 fun y h1 h2 => ?_)
  rw [w.has]
  have k := in_moreOf (R := R) hx
  rw [hi] at k
  exact Or.inr ⟨_, k, rfl, h1, h2⟩
def metW (R : Int) (ls : List (List Sl)) (x : Wn) : Bool := metB (rowOf ls x.c) R x.f x.t
theorem whole_met {R : Int} {ws : List Wn} {ls ls' : List (List Sl)} {e : Int} (hl : OkT ls) (C : ClaimR R ws ls e ls') (hb : badArg R ws ls.length = false) : ws.any (metW R ls') = decide (e = 18) ∧ (e = 0 ∨ e = 18) := by
  obtain ⟨hR, hp⟩ := badArg_parts hb
  by_cases hm : MetT R ws ls
  · obtain ⟨he, hs⟩ := C.taken hb hm
    subst hs
    refine ⟨?_, Or.inr he⟩
    rw [decide_eq_true he, List.any_eq_true]
    obtain ⟨x, hx, i, hi, hc, hmt⟩ := metT_one hm
    exact ⟨x, hx, by unfold metW; rw [hc, rowOf_nat _ i hi]; exact metB_iff.2 hmt⟩
  · obtain ⟨he, hln, hW⟩ := C.done hb hm
    refine ⟨?_, Or.inl he⟩
    rw [decide_eq_false (by omega), List.any_eq_false]
    intro x hx h
    have q := hp x hx
    obtain ⟨i, hi⟩ : ∃ i : Nat, x.c = (i : Nat) := ⟨x.c.toNat, by omega⟩
    have hil : i < ls.length := by omega
    unfold metW at h
    rw [hi, rowOf_nat ls' i (by omega)] at h
    exact hm (metT_of hx hil hi (met_back (hW i hil (by omega)) moreOf_r q.2.2.2.1 (metB_iff.1 h)))
theorem gaps_eq_mine {R at_ : Int} {s : Sl} {l : List Sl} (h : s.r = R) : gaps R at_ (s :: l) = gaps R at_ l := by simp only [gaps]; rw [if_pos h]
theorem gaps_eq_yes {R at_ : Int} {s : Sl} {l : List Sl} (h : s.r ≠ R) : gaps R at_ (s :: l) = (if at_ < s.f then [(at_, s.f)] else []) ++ gaps R s.t l := by simp only [gaps]; rw [if_neg h]
structure GapOk (R at_ : Int) (l : List Sl) (p : Int × Int) : Prop where
  low : at_ ≤ p.1
  lt : p.1 < p.2
  top : p.2 ≤ FV
  left : at_ < p.1 → ∃ r, r ≠ R ∧ Has l (p.1 - 1) r
  right : p.2 < FV → ∃ r, r ≠ R ∧ Has l p.2 r
  free : ∀ t, p.1 ≤ t → t < p.2 → ∀ r, r ≠ R → ¬ Has l t r
theorem gaps_all (R : Int) : ∀ (l : List Sl) (at_ : Int), Ok l → (∀ s ∈ l, at_ ≤ s.f) → (∀ p ∈ gaps R at_ l, GapOk R at_ l p) ∧ (gaps R at_ l).Pairwise (fun p q => p.2 < q.1) ∧ (gaps R at_ l).length ≤ l.length + 1
  | [], at_, _, _ => by
    simp only [gaps]
    split
    · rename_i h
      refine ⟨fun p hp => ?_, List.pairwise_singleton _ _, by simp⟩
      rw [List.mem_singleton] at hp
      subst hp
      exact ⟨Int.le_refl _, h, Int.le_refl _, fun k => absurd k (by simp), fun k => absurd k (by simp), fun t _ _ r _ k => has_nil _ _ k⟩
    · exact ⟨fun p hp => (by cases hp), List.Pairwise.nil, by simp⟩
  | s :: l, at_, hl, ha => by
    have fs := hl.first
    unfold Fit at fs
    have hh := hl.head
    have has_s : at_ ≤ s.f := ha s (List.mem_cons_self ..)
    by_cases hr : s.r = R
    · rw [gaps_eq_mine hr]
      obtain ⟨h1, h2, h3⟩ := gaps_all R l at_ hl.tail fun q hq => ha q (List.mem_cons_of_mem _ hq)
      refine ⟨fun p hp => ?_, h2, by simp only [List.length_cons]; omega⟩
      have g := h1 p hp
      refine ⟨g.low, g.lt, g.top, fun k => ?_, fun k => ?_, fun t k1 k2 r k3 k4 => ?_⟩
      · obtain ⟨r, a, b⟩ := g.left k; exact ⟨r, a, has_cons.2 (Or.inr b)⟩
      · obtain ⟨r, a, b⟩ := g.right k; exact ⟨r, a, has_cons.2 (Or.inr b)⟩
      · rcases has_cons.1 k4 with q | q
        · exact k3 (by rw [← q.1, hr])
        · exact g.free t k1 k2 r k3 q
    · rw [gaps_eq_yes hr]
      obtain ⟨h1, h2, h3⟩ := gaps_all R l s.t hl.tail fun q hq => (hh q hq).1
      have tail : ∀ p ∈ gaps R s.t l, GapOk R at_ (s :: l) p := fun p hp => by
        have g := h1 p hp
        refine ⟨by have := g.low; omega, g.lt, g.top, fun k => ?_, fun k => ?_, fun t k1 k2 r k3 k4 => ?_⟩
        · rcases Int.lt_or_le s.t p.1 with q | q
          · obtain ⟨r, a, b⟩ := g.left q; exact ⟨r, a, has_cons.2 (Or.inr b)⟩
          · exact ⟨s.r, hr, has_cons.2 (Or.inl ⟨rfl, by have := g.low; omega, by have := g.low; omega⟩)⟩
        · obtain ⟨r, a, b⟩ := g.right k; exact ⟨r, a, has_cons.2 (Or.inr b)⟩
        · rcases has_cons.1 k4 with q | q
          · have := g.low; omega
          · exact g.free t k1 k2 r k3 q
      split
      · rename_i hlt
        refine ⟨fun p hp => ?_, ?_, by simp only [List.length_append, List.length_cons, List.length_nil]; omega⟩
        · rw [List.singleton_append] at hp
          rcases List.mem_cons.1 hp with q | q
          · subst q
            refine ⟨Int.le_refl _, hlt, by simp only; omega, fun k => absurd k (by simp), fun k => ⟨s.r, hr, has_cons.2 (Or.inl ⟨rfl, Int.le_refl _, fs.2.1⟩)⟩, fun t k1 k2 r k3 k4 => ?_⟩
            simp only at k1 k2
            rcases has_cons.1 k4 with q | ⟨q, hq, _, q1, q2⟩
            · omega
            · have := (hh q hq).1; omega
          · exact tail p q
        · rw [List.singleton_append, List.pairwise_cons]
          exact ⟨fun p hp => by have := (h1 p hp).low; simp only; omega, h2⟩
      · refine ⟨fun p hp => tail p (by simpa using hp), by simpa using h2, by simp only [List.nil_append, List.length_cons]; omega⟩
theorem gaps_filter (R : Int) : ∀ (l : List Sl) (at_ : Int), gaps R at_ (l.filter fun s => decide (s.r ≠ R)) = gaps R at_ l
  | [], at_ => rfl
  | s :: l, at_ => by
    by_cases h : s.r = R
    · rw [List.filter_cons_of_neg (by simp [h]), gaps_eq_mine h, gaps_filter R l at_]
    · rw [List.filter_cons_of_pos (by simp [h]), gaps_eq_yes h, gaps_eq_yes h, gaps_filter R l s.t]
theorem filter_ok {l : List Sl} (h : Ok l) (R : Int) : Ok (l.filter fun s => decide (s.r ≠ R)) := ⟨h.rise.filter _, fun s hs => h.fit s (List.mem_filter.1 hs).1⟩
theorem filter_has {l : List Sl} {R t r : Int} : Has (l.filter fun s => decide (s.r ≠ R)) t r ↔ r ≠ R ∧ Has l t r := by
  constructor
  · rintro ⟨s, hs, e, h⟩
    have := List.mem_filter.1 hs
    exact ⟨by rw [← e]; simpa using this.2, s, this.1, e, h⟩
  · rintro ⟨hr, s, hs, e, h⟩
    exact ⟨s, List.mem_filter.2 ⟨hs, by rw [e]; simpa using hr⟩, e, h⟩
theorem gaps_same {l l' : List Sl} (h : Ok l) (h' : Ok l') {R : Int} (e : ∀ t r, r ≠ R → (Has l t r ↔ Has l' t r)) (at_ : Int) : gaps R at_ l = gaps R at_ l' := by
  rw [← gaps_filter R l, ← gaps_filter R l']
  congr 1
  refine ok_ext (filter_ok h R) (filter_ok h' R) fun t r => ?_
  rw [filter_has, filter_has]
  exact ⟨fun q => ⟨q.1, (e t r q.1).1 q.2⟩, fun q => ⟨q.1, (e t r q.1).2 q.2⟩⟩
/- Another one has a tick: what holds it is taken. -/
theorem met_at {l : List Sl} {R t f u : Int} (h : ∃ r, r ≠ R ∧ Has l t r) (h1 : f ≤ t) (h2 : t < u) : Met l R [⟨f, u, R⟩] := by
  obtain ⟨r, hr, s, hs, e, k1, k2⟩ := h
  exact ⟨s, hs, _, List.mem_singleton.2 rfl, by rw [e]; exact hr, by simp only; omega, by simp only; omega⟩
theorem free_met {l : List Sl} (hl : Ok l) {R f u : Int} (hfu : f < u) (h : ∀ t, f ≤ t → t < u → ∀ r, r ≠ R → ¬ Has l t r) : ¬ Met l R [⟨f, u, R⟩] := by
  rintro ⟨s, hs, m, hm, h1, h2, h3⟩
  rw [List.mem_singleton] at hm
  subst hm
  simp only at h2 h3
  have := hl.fit s hs
  unfold Fit at this
  exact h (max s.f f) (by omega) (by omega) s.r h1 ⟨s, hs, rfl, by omega, by omega⟩
end Go.Proofs.Ytddkgkafgjdheaa.Rs
