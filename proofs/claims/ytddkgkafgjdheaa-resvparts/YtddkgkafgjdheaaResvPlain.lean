/-
  Slots of a cell in plain words: who has which tick; slots that are put together; what is cut off; stretches; the chapter's own put.
-/
import Derived.Test.YtddkgkafgjdheaaChecked
namespace Go.Proofs.Ytddkgkafgjdheaa.Rs
set_option linter.unusedVariables false
set_option linter.unusedSimpArgs false
/- A slot: from, to, whose. -/
structure Sl where
  f : Int
  t : Int
  r : Int
def FV : Int := 4611686018427387904
def Fit (s : Sl) : Prop := 0 ≤ s.f ∧ s.f < s.t ∧ s.t ≤ FV ∧ 0 ≤ s.r
def Ahead (a b : Sl) : Prop := a.t ≤ b.f ∧ (a.t = b.f → a.r ≠ b.r)
/- A cell's slots as they must be. -/
structure Ok (l : List Sl) : Prop where
  rise : l.Pairwise Ahead
  fit : ∀ s ∈ l, Fit s
/- Who has a tick. -/
def Has (l : List Sl) (t r : Int) : Prop := ∃ s ∈ l, s.r = r ∧ s.f ≤ t ∧ t < s.t
theorem Ok.nil : Ok [] := ⟨List.Pairwise.nil, fun s h => by cases h⟩
theorem Ok.tail {a : Sl} {l : List Sl} (h : Ok (a :: l)) : Ok l := ⟨(List.pairwise_cons.1 h.rise).2, fun s hs => h.fit s (List.mem_cons_of_mem _ hs)⟩
theorem Ok.head {a : Sl} {l : List Sl} (h : Ok (a :: l)) : ∀ s ∈ l, Ahead a s := (List.pairwise_cons.1 h.rise).1
theorem Ok.first {a : Sl} {l : List Sl} (h : Ok (a :: l)) : Fit a := h.fit a (List.mem_cons_self ..)
theorem has_nil (t r : Int) : ¬ Has [] t r := fun ⟨s, h, _⟩ => by cases h
theorem has_cons {a : Sl} {l : List Sl} {t r : Int} : Has (a :: l) t r ↔ (a.r = r ∧ a.f ≤ t ∧ t < a.t) ∨ Has l t r := by
  constructor
  · rintro ⟨s, hs, h⟩
    rcases List.mem_cons.1 hs with rfl | hs
    · exact Or.inl h
    · exact Or.inr ⟨s, hs, h⟩
  · rintro (h | ⟨s, hs, h⟩)
    · exact ⟨a, List.mem_cons_self .., h⟩
    · exact ⟨s, List.mem_cons_of_mem _ hs, h⟩
theorem has_append {a b : List Sl} {t r : Int} : Has (a ++ b) t r ↔ Has a t r ∨ Has b t r := by
  constructor
  · rintro ⟨s, hs, h⟩
    rcases List.mem_append.1 hs with hs | hs
    · exact Or.inl ⟨s, hs, h⟩
    · exact Or.inr ⟨s, hs, h⟩
  · rintro (⟨s, hs, h⟩ | ⟨s, hs, h⟩)
    · exact ⟨s, List.mem_append.2 (Or.inl hs), h⟩
    · exact ⟨s, List.mem_append.2 (Or.inr hs), h⟩
theorem has_perm {a b : List Sl} (p : a.Perm b) {t r : Int} : Has a t r ↔ Has b t r :=
  ⟨fun ⟨s, hs, h⟩ => ⟨s, p.mem_iff.1 hs, h⟩, fun ⟨s, hs, h⟩ => ⟨s, p.mem_iff.2 hs, h⟩⟩
/- One robot's or nobody's. -/
theorem Ok.one {l : List Sl} (h : Ok l) {t r q : Int} (hr : Has l t r) (hq : Has l t q) : r = q := by
  induction l with
  | nil => exact absurd hr (has_nil _ _)
  | cons a l ih =>
    have hd := h.head
    rcases has_cons.1 hr with ⟨rfl, x1, x2⟩ | ⟨s, hs, rfl, x1, x2⟩
    · rcases has_cons.1 hq with ⟨rfl, y1, y2⟩ | ⟨s, hs, rfl, y1, y2⟩
      · rfl
      · have := (hd s hs).1; omega
    · rcases has_cons.1 hq with ⟨rfl, y1, y2⟩ | hq'
      · have := (hd s hs).1; omega
      · exact ih h.tail ⟨s, hs, rfl, x1, x2⟩ hq'
/- The ticks tell the slots. -/
theorem ok_ext : ∀ {l m : List Sl}, Ok l → Ok m → (∀ t r, Has l t r ↔ Has m t r) → l = m
  | [], [], _, _, _ => rfl
  | [], b :: m, _, hm, e => by
    have := hm.first
    exact absurd ((e b.f b.r).2 (has_cons.2 (Or.inl ⟨rfl, by omega, this.2.1⟩))) (has_nil _ _)
  | a :: l, [], hl, _, e => by
    have := hl.first
    exact absurd ((e a.f a.r).1 (has_cons.2 (Or.inl ⟨rfl, by omega, this.2.1⟩))) (has_nil _ _)
  | a :: l, b :: m, hl, hm, e => by
    have fa := hl.first; have fb := hm.first
    have da := hl.head; have db := hm.head
    have ta : Has (a :: l) a.f a.r := has_cons.2 (Or.inl ⟨rfl, by omega, fa.2.1⟩)
    have tb : Has (b :: m) b.f b.r := has_cons.2 (Or.inl ⟨rfl, by omega, fb.2.1⟩)
    have e1 : b.f ≤ a.f ∧ (b.r = a.r ∨ b.t ≤ a.f) := by
      rcases has_cons.1 ((e _ _).1 ta) with ⟨h1, h2, h3⟩ | ⟨s, hs, h1, h2, h3⟩
      · exact ⟨h2, Or.inl h1⟩
      · have := (db s hs).1; have := fb.2.1; exact ⟨by omega, Or.inr (by omega)⟩
    have e2 : a.f ≤ b.f := by
      rcases has_cons.1 ((e _ _).2 tb) with ⟨h1, h2, h3⟩ | ⟨s, hs, h1, h2, h3⟩
      · exact h2
      · have := (da s hs).1; have := fa.2.1; omega
    have ef : a.f = b.f := by omega
    have er : a.r = b.r := by
      rcases e1.2 with h | h
      · exact h.symm
      · have := fb.2.1; omega
    have et : a.t = b.t := by
      rcases Int.lt_trichotomy a.t b.t with h | h | h
      · have : Has (b :: m) a.t b.r := has_cons.2 (Or.inl ⟨rfl, by have := fa.2.1; omega, h⟩)
        rcases has_cons.1 ((e _ _).2 this) with ⟨h1, h2, h3⟩ | ⟨s, hs, h1, h2, h3⟩
        · omega
        · have q := da s hs
          exact absurd (er.trans h1.symm) (q.2 (by have := q.1; omega))
      · exact h
      · have : Has (a :: l) b.t a.r := has_cons.2 (Or.inl ⟨rfl, by have := fb.2.1; omega, h⟩)
        rcases has_cons.1 ((e _ _).1 this) with ⟨h1, h2, h3⟩ | ⟨s, hs, h1, h2, h3⟩
        · omega
        · have q := db s hs
          exact absurd (er.symm.trans h1.symm) (q.2 (by have := q.1; omega))
    have ea : a = b := by cases a; cases b; simp_all
    subst ea
    rw [ok_ext hl.tail hm.tail]
    intro t r
    constructor
    · intro h
      obtain ⟨s, hs, h1, h2, h3⟩ := id h
      rcases has_cons.1 ((e t r).1 (has_cons.2 (Or.inr h))) with ⟨_, _, k⟩ | k
      · have := (da s hs).1; omega
      · exact k
    · intro h
      obtain ⟨s, hs, h1, h2, h3⟩ := id h
      rcases has_cons.1 ((e t r).2 (has_cons.2 (Or.inr h))) with ⟨_, _, k⟩ | k
      · have := (db s hs).1; omega
      · exact k
/- Slots put together, as the code does it. -/
def merge : Sl → List Sl → Option (List Sl)
  | one, [] => some [one]
  | one, s :: l => if s.r = one.r ∧ s.f ≤ one.t then merge ⟨one.f, max one.t s.t, one.r⟩ l else if s.f < one.t then none else (merge s l).map (one :: ·)
def Fits (l : List Sl) : Prop := ∀ s ∈ l, s.f < s.t
def ByFrom (l : List Sl) : Prop := l.Pairwise fun a b => a.f ≤ b.f
/- What comes of it: rising, the same ticks, each end one of those that were there. -/
theorem merge_some : ∀ (l : List Sl) (one : Sl) (out : List Sl), merge one l = some out → ByFrom (one :: l) → Fits (one :: l) →
    out.Pairwise Ahead ∧ Fits out ∧ (∀ t r, Has out t r ↔ Has (one :: l) t r) ∧ (∀ y ∈ out, one.f ≤ y.f) ∧ (∀ y ∈ out, ∃ s ∈ one :: l, s.f = y.f ∧ s.r = y.r) ∧ (∀ y ∈ out, ∃ s ∈ one :: l, s.t = y.t ∧ s.r = y.r) ∧ out.length ≤ l.length + 1 ∧ (∀ y ∈ out, y.r = one.r → y.f = one.f ∨ one.t < y.f)
  | [], one, out, h, hb, hf => by
    simp only [merge, Option.some.injEq] at h
    subst h
    refine ⟨List.pairwise_singleton _ _, hf, fun _ _ => Iff.rfl, ?_, ?_, ?_, by simp, ?_⟩
    · intro y hy; rw [List.mem_singleton] at hy; subst hy; omega
    · intro y hy; exact ⟨y, hy, rfl, rfl⟩
    · intro y hy; exact ⟨y, hy, rfl, rfl⟩
    · intro y hy; rw [List.mem_singleton] at hy; subst hy; intro _; exact Or.inl rfl
  | s :: l, one, out, h, hb, hf => by
    have hb1 := List.pairwise_cons.1 hb
    have hb2 := List.pairwise_cons.1 hb1.2
    have f1 := hf one (List.mem_cons_self ..)
    have f2 := hf s (List.mem_cons_of_mem _ (List.mem_cons_self ..))
    have o1 := hb1.1 s (List.mem_cons_self ..)
    simp only [merge] at h
    by_cases c : s.r = one.r ∧ s.f ≤ one.t
    · rw [if_pos c] at h
      obtain ⟨a1, a2, a3, a4, a5, a6, a7, a8⟩ := merge_some l ⟨one.f, max one.t s.t, one.r⟩ out h (List.pairwise_cons.2 ⟨fun b hb => hb1.1 b (List.mem_cons_of_mem _ hb), hb2.2⟩) (fun x hx => by
        rcases List.mem_cons.1 hx with rfl | hx
        · show one.f < max one.t s.t; omega
        · exact hf x (List.mem_cons_of_mem _ (List.mem_cons_of_mem _ hx)))
      refine ⟨a1, a2, fun t r => (a3 t r).trans ?_, a4, ?_, ?_, by simp; omega, ?_⟩
      · rw [has_cons, has_cons, has_cons]
        simp only
        constructor
        · rintro (⟨h1, h2, h3⟩ | h4)
          · by_cases q : t < one.t
            · exact Or.inl ⟨h1, h2, q⟩
            · exact Or.inr (Or.inl ⟨c.1.trans h1, by omega, by omega⟩)
          · exact Or.inr (Or.inr h4)
        · rintro (⟨h1, h2, h3⟩ | ⟨h1, h2, h3⟩ | h4)
          · exact Or.inl ⟨h1, h2, by omega⟩
          · exact Or.inl ⟨c.1.symm.trans h1, by omega, by omega⟩
          · exact Or.inr h4
      · intro y hy
        obtain ⟨x, hx, e1, e2⟩ := a5 y hy
        rcases List.mem_cons.1 hx with rfl | hx
        · exact ⟨one, List.mem_cons_self .., e1, e2⟩
        · exact ⟨x, List.mem_cons_of_mem _ (List.mem_cons_of_mem _ hx), e1, e2⟩
      · intro y hy
        obtain ⟨x, hx, e1, e2⟩ := a6 y hy
        rcases List.mem_cons.1 hx with rfl | hx
        · simp only at e1 e2
          by_cases q : s.t ≤ one.t
          · exact ⟨one, List.mem_cons_self .., by omega, e2⟩
          · exact ⟨s, List.mem_cons_of_mem _ (List.mem_cons_self ..), by omega, c.1.trans e2⟩
        · exact ⟨x, List.mem_cons_of_mem _ (List.mem_cons_of_mem _ hx), e1, e2⟩
      · intro y hy er
        rcases a8 y hy er with q | q
        · exact Or.inl q
        · simp only at q; exact Or.inr (by omega)
    · rw [if_neg c] at h
      by_cases d : s.f < one.t
      · rw [if_pos d] at h; cases h
      · rw [if_neg d] at h
        cases hm : merge s l with
        | none => rw [hm] at h; cases h
        | some o2 =>
          rw [hm] at h
          simp only [Option.map_some, Option.some.injEq] at h
          subst h
          obtain ⟨a1, a2, a3, a4, a5, a6, a7, a8⟩ := merge_some l s o2 hm hb1.2 (fun x hx => hf x (List.mem_cons_of_mem _ hx))
          have hne : ∀ y ∈ o2, Ahead one y := fun y hy => by
            have := a4 y hy
            refine ⟨by omega, fun e er => ?_⟩
            obtain ⟨x, hx, e1, e2⟩ := a5 y hy
            by_cases hs : s.r = one.r
            · have : ¬ s.f ≤ one.t := fun q => c ⟨hs, q⟩
              omega
            · rcases List.mem_cons.1 hx with rfl | hx
              · exact hs (e2.trans er.symm)
              · have q1 := hb2.1 x hx
                have q2 : x.f = s.f := by omega
                have t1 : Has o2 s.f s.r := (a3 _ _).2 (has_cons.2 (Or.inl ⟨rfl, by omega, f2⟩))
                have t2 : Has o2 s.f y.r := (a3 _ _).2 ⟨x, List.mem_cons_of_mem _ hx, e2, by omega, by have := hf x (List.mem_cons_of_mem _ (List.mem_cons_of_mem _ hx)); omega⟩
                have : s.r = y.r := by
                  obtain ⟨u, hu, u1, u2, u3⟩ := t1
                  obtain ⟨v, hv, v1, v2, v3⟩ := t2
                  have fu := a4 u hu; have fv := a4 v hv
                  have ap := a1
                  by_cases q : s.r = y.r
                  · exact q
                  · exfalso
                    have : u ≠ v := fun e => q (by rw [← u1, e, v1])
                    obtain ⟨i, hi, rfl⟩ := List.mem_iff_getElem.1 hu
                    obtain ⟨j, hj, rfl⟩ := List.mem_iff_getElem.1 hv
                    have hij : i ≠ j := fun e => this (by subst e; rfl)
                    rcases Nat.lt_or_gt_of_ne hij with k | k
                    · have := (List.pairwise_iff_getElem.1 ap i j hi hj k).1; omega
                    · have := (List.pairwise_iff_getElem.1 ap j i hj hi k).1; omega
                exact hs (this.trans er.symm)
          refine ⟨List.pairwise_cons.2 ⟨hne, a1⟩, ?_, ?_, ?_, ?_, ?_, by simp; omega, ?_⟩
          · intro x hx
            rcases List.mem_cons.1 hx with rfl | hx
            · exact f1
            · exact a2 x hx
          · intro t r; rw [has_cons, a3, ← has_cons]
          · intro y hy
            rcases List.mem_cons.1 hy with rfl | hy
            · omega
            · have := a4 y hy; omega
          · intro y hy
            rcases List.mem_cons.1 hy with rfl | hy
            · exact ⟨y, List.mem_cons_self .., rfl, rfl⟩
            · obtain ⟨x, hx, e⟩ := a5 y hy; exact ⟨x, List.mem_cons_of_mem _ hx, e⟩
          · intro y hy
            rcases List.mem_cons.1 hy with rfl | hy
            · exact ⟨y, List.mem_cons_self .., rfl, rfl⟩
            · obtain ⟨x, hx, e⟩ := a6 y hy; exact ⟨x, List.mem_cons_of_mem _ hx, e⟩
          · intro y hy er
            rcases List.mem_cons.1 hy with rfl | hy
            · exact Or.inl rfl
            · have q := hne y hy
              have := q.1
              rcases Int.lt_or_le one.t y.f with k | k
              · exact Or.inr k
              · exact absurd er.symm (q.2 (by omega))
/- Where it fails two robots have a tick. -/
theorem merge_none : ∀ (l : List Sl) (one : Sl), merge one l = none → ByFrom (one :: l) → Fits (one :: l) → ∃ t r q, r ≠ q ∧ Has (one :: l) t r ∧ Has (one :: l) t q
  | [], one, h, hb, hf => by simp [merge] at h
  | s :: l, one, h, hb, hf => by
    have hb1 := List.pairwise_cons.1 hb
    have hb2 := List.pairwise_cons.1 hb1.2
    have f1 := hf one (List.mem_cons_self ..)
    have f2 := hf s (List.mem_cons_of_mem _ (List.mem_cons_self ..))
    have o1 := hb1.1 s (List.mem_cons_self ..)
    simp only [merge] at h
    by_cases c : s.r = one.r ∧ s.f ≤ one.t
    · rw [if_pos c] at h
      obtain ⟨t, r, q, hn, h1, h2⟩ := merge_none l ⟨one.f, max one.t s.t, one.r⟩ h (List.pairwise_cons.2 ⟨fun b hb => hb1.1 b (List.mem_cons_of_mem _ hb), hb2.2⟩) (fun x hx => by
        rcases List.mem_cons.1 hx with rfl | hx
        · show one.f < max one.t s.t; omega
        · exact hf x (List.mem_cons_of_mem _ (List.mem_cons_of_mem _ hx)))
      have key : ∀ r, Has (⟨one.f, max one.t s.t, one.r⟩ :: l) t r → Has (one :: s :: l) t r := fun r h => by
        rw [has_cons] at h
        rw [has_cons, has_cons]
        rcases h with ⟨h1, h2, h3⟩ | h4
        · simp only at h1 h2 h3
          by_cases q : t < one.t
          · exact Or.inl ⟨h1, h2, q⟩
          · exact Or.inr (Or.inl ⟨c.1.trans h1, by omega, by omega⟩)
        · exact Or.inr (Or.inr h4)
      exact ⟨t, r, q, hn, key r h1, key q h2⟩
    · rw [if_neg c] at h
      by_cases d : s.f < one.t
      · exact ⟨s.f, s.r, one.r, fun e => c ⟨e, by omega⟩, has_cons.2 (Or.inr (has_cons.2 (Or.inl ⟨rfl, by omega, f2⟩))), has_cons.2 (Or.inl ⟨rfl, o1, d⟩)⟩
      · rw [if_neg d] at h
        cases hm : merge s l with
        | none =>
          obtain ⟨t, r, q, hn, h1, h2⟩ := merge_none l s hm hb1.2 (fun x hx => hf x (List.mem_cons_of_mem _ hx))
          exact ⟨t, r, q, hn, has_cons.2 (Or.inr h1), has_cons.2 (Or.inr h2)⟩
        | some o2 => rw [hm] at h; cases h
def tog : List Sl → Option (List Sl)
  | [] => some []
  | s :: l => merge s l
theorem Ahead.mem {l : List Sl} (h : l.Pairwise Ahead) {a b : List Sl} (e : l = a ++ b) {x y : Sl} (hx : x ∈ a) (hy : y ∈ b) : Ahead x y := by
  subst e
  exact (List.pairwise_append.1 h).2.2 x hx y hy
/- One of another robot meets one of R's. -/
def Met (l : List Sl) (R : Int) (more : List Sl) : Prop := ∃ s ∈ l, ∃ m ∈ more, s.r ≠ R ∧ s.f < m.t ∧ m.f < s.t
def Two (l : List Sl) : Prop := ∃ t r q, r ≠ q ∧ Has l t r ∧ Has l t q
theorem two_met {l more : List Sl} {R : Int} (hl : Ok l) (hr : ∀ s ∈ more, s.r = R) (h : Two (l ++ more)) : Met l R more := by
  obtain ⟨t, r, q, hn, h1, h2⟩ := h
  rcases has_append.1 h1 with h1 | h1 <;> rcases has_append.1 h2 with h2 | h2
  · exact absurd (hl.one h1 h2) hn
  · obtain ⟨s, hs, rfl, s1, s2⟩ := h1
    obtain ⟨m, hm, rfl, m1, m2⟩ := h2
    exact ⟨s, hs, m, hm, by rw [← hr m hm]; exact hn, by omega, by omega⟩
  · obtain ⟨s, hs, rfl, s1, s2⟩ := h2
    obtain ⟨m, hm, rfl, m1, m2⟩ := h1
    exact ⟨s, hs, m, hm, by rw [← hr m hm]; exact fun e => hn e.symm, by omega, by omega⟩
  · obtain ⟨s, hs, rfl, s1, s2⟩ := h1
    obtain ⟨m, hm, rfl, m1, m2⟩ := h2
    exact absurd ((hr s hs).trans (hr m hm).symm) hn
theorem met_two {l more : List Sl} {R : Int} (hl : Fits l) (hf : Fits more) (hr : ∀ s ∈ more, s.r = R) (h : Met l R more) : ∃ t r q, r ≠ q ∧ Has l t r ∧ Has more t q := by
  obtain ⟨s, hs, m, hm, hn, h1, h2⟩ := h
  have a := hl s hs
  have b := hf m hm
  exact ⟨max s.f m.f, s.r, m.r, by rw [hr m hm]; exact hn, ⟨s, hs, rfl, by omega, by omega⟩, ⟨m, hm, rfl, by omega, by omega⟩⟩
structure With (l more l' : List Sl) : Prop where
  ok : Ok l'
  has : ∀ t r, Has l' t r ↔ Has l t r ∨ Has more t r
  len : l'.length ≤ l.length + more.length
theorem with_all {l more d : List Sl} (hl : Ok l) (hm : ∀ s ∈ more, Fit s) {i j : Nat} (hij : i ≤ j) {fr to : Int} (hfr : ∀ s ∈ more, fr ≤ s.f) (hto : ∀ s ∈ more, s.t ≤ to)
    (h1 : ∀ a ∈ l.take i, a.t < fr) (h3 : ∀ z ∈ l.drop j, to < z.f) (hp : d.Perm ((l.take j).drop i ++ more)) (hs : ByFrom d) :
    (tog d = none → Two (l ++ more)) ∧ (∀ out, tog d = some out → With l more (l.take i ++ out ++ l.drop j)) := by
  have e0 : l = l.take i ++ ((l.take j).drop i ++ l.drop j) := by
    have : l.take i = (l.take j).take i := by rw [List.take_take]; congr 1; omega
    rw [← List.append_assoc, this, List.take_append_drop, List.take_append_drop]
  generalize l.take i = A at *
  generalize (l.take j).drop i = M at *
  generalize l.drop j = Z at *
  subst e0
  have pw := hl.rise
  have p1 := List.pairwise_append.1 pw
  have p2 := List.pairwise_append.1 p1.2.1
  have fd : ∀ s ∈ d, Fit s := fun s hs => by
    rcases List.mem_append.1 (hp.mem_iff.1 hs) with h | h
    · exact hl.fit s (by simp [h])
    · exact hm s h
  have hd : ∀ t r, Has d t r ↔ Has M t r ∨ Has more t r := fun t r => (has_perm hp).trans has_append
  cases d with
  | nil =>
    have e := hp.length_eq
    simp at e
    obtain ⟨rfl, rfl⟩ : M = [] ∧ more = [] := ⟨List.eq_nil_of_length_eq_zero (by omega), List.eq_nil_of_length_eq_zero (by omega)⟩
    refine ⟨fun h => (by cases h), fun out h => ?_⟩
    cases h
    refine ⟨by simpa using hl, fun t r => ?_, by simp⟩
    simp [has_append, has_nil]
  | cons one d =>
    have fts : Fits (one :: d) := fun s hs => (fd s hs).2.1
    refine ⟨fun h => ?_, fun out h => ?_⟩
    · obtain ⟨t, r, q, hn, h1, h2⟩ := merge_none d one h hs fts
      have k : ∀ r, Has (one :: d) t r → Has (A ++ (M ++ Z) ++ more) t r := fun r h => by
        rw [has_append, has_append, has_append]
        rcases (hd t r).1 h with h | h
        · exact Or.inl (Or.inr (Or.inl h))
        · exact Or.inr h
      exact ⟨t, r, q, hn, k r h1, k q h2⟩
    · obtain ⟨a1, a2, a3, a4, a5, a6, a7, a8⟩ := merge_some d one out h hs fts
      have fo : ∀ y ∈ out, Fit y := fun y hy => by
        obtain ⟨s, hs, e1, e2⟩ := a5 y hy
        obtain ⟨s', hs', e1', e2'⟩ := a6 y hy
        have f1 := fd s hs; have f2 := fd s' hs'
        exact ⟨by have := f1.1; omega, a2 y hy, by have := f2.2.2.1; omega, by have := f1.2.2.2; omega⟩
      have ao : ∀ a ∈ A, ∀ y ∈ out, Ahead a y := fun a ha y hy => by
        obtain ⟨s, hs, e1, e2⟩ := a5 y hy
        rcases List.mem_append.1 (hp.mem_iff.1 hs) with k | k
        · have q := p1.2.2 a ha s (by simp [k])
          exact ⟨by rw [← e1]; exact q.1, fun e => by rw [← e2]; exact q.2 (by omega)⟩
        · have q1 := h1 a ha; have q2 := hfr s k
          exact ⟨by omega, fun e => by omega⟩
      have oz : ∀ y ∈ out, ∀ z ∈ Z, Ahead y z := fun y hy z hz => by
        obtain ⟨s, hs, e1, e2⟩ := a6 y hy
        rcases List.mem_append.1 (hp.mem_iff.1 hs) with k | k
        · have q := p2.2.2 s k z hz
          exact ⟨by rw [← e1]; exact q.1, fun e => by rw [← e2]; exact q.2 (by omega)⟩
        · have q1 := h3 z hz; have q2 := hto s k
          exact ⟨by omega, fun e => by omega⟩
      refine ⟨⟨?_, ?_⟩, fun t r => ?_, ?_⟩
      · rw [List.append_assoc]
        refine List.pairwise_append.2 ⟨p1.1, List.pairwise_append.2 ⟨a1, p2.2.1, oz⟩, fun a ha b hb => ?_⟩
        rcases List.mem_append.1 hb with k | k
        · exact ao a ha b k
        · exact p1.2.2 a ha b (by simp [k])
      · intro s hs
        simp only [List.mem_append] at hs
        rcases hs with (k | k) | k
        · exact hl.fit s (by simp [k])
        · exact fo s k
        · exact hl.fit s (by simp [k])
      · rw [has_append, has_append, has_append, has_append, a3, hd]
        constructor
        · rintro ((h | h | h) | h)
          · exact Or.inl (Or.inl h)
          · exact Or.inl (Or.inr (Or.inl h))
          · exact Or.inr h
          · exact Or.inl (Or.inr (Or.inr h))
        · rintro ((h | h | h) | h)
          · exact Or.inl (Or.inl h)
          · exact Or.inl (Or.inr (Or.inl h))
          · exact Or.inr h
          · exact Or.inl (Or.inr (Or.inr h))
      · have := hp.length_eq
        simp at this ⊢
        omega
theorem With.no_met {l more l' : List Sl} {R : Int} (h : With l more l') (hl : Fits l) (hf : Fits more) (hr : ∀ s ∈ more, s.r = R) : ¬ Met l R more := fun k => by
  obtain ⟨t, r, q, hn, h1, h2⟩ := met_two hl hf hr k
  exact hn (h.ok.one ((h.has t r).2 (Or.inl h1)) ((h.has t q).2 (Or.inr h2)))
theorem With.unique {l more l1 l2 : List Sl} (h : With l more l1) (k : With l more l2) : l1 = l2 := ok_ext h.ok k.ok fun t r => (h.has t r).trans (k.has t r).symm
theorem With.none {l : List Sl} (h : Ok l) : With l [] l := ⟨h, fun t r => by simp [has_nil], by simp⟩
/- Gaps. -/
def gaps (R : Int) : Int → List Sl → List (Int × Int)
  | at_, [] => if at_ < FV then [(at_, FV)] else []
  | at_, s :: l => if s.r = R then gaps R at_ l else (if at_ < s.f then [(at_, s.f)] else []) ++ gaps R s.t l
/- What is cut off. -/
def cut1 (p : Int → Bool) (upto : Int) (s : Sl) : Sl := if p s.r = true then ⟨max s.f upto, s.t, s.r⟩ else s
def cutL (p : Int → Bool) (upto : Int) (l : List Sl) : List Sl := (l.map (cut1 p upto)).filter fun s => decide (s.f < s.t)
theorem cutL_len (p : Int → Bool) (u : Int) (l : List Sl) : (cutL p u l).length ≤ l.length := by
  unfold cutL; refine Nat.le_trans (List.length_filter_le _ _) (by simp)
theorem cut1_t (p : Int → Bool) (u : Int) (s : Sl) : (cut1 p u s).t = s.t := by unfold cut1; split <;> rfl
theorem cut1_r (p : Int → Bool) (u : Int) (s : Sl) : (cut1 p u s).r = s.r := by unfold cut1; split <;> rfl
theorem cut1_f (p : Int → Bool) (u : Int) (s : Sl) : s.f ≤ (cut1 p u s).f := by unfold cut1; split <;> simp <;> omega
theorem cut_ok (p : Int → Bool) (u : Int) {l : List Sl} (h : Ok l) : Ok (cutL p u l) := by
  refine ⟨?_, fun s hs => ?_⟩
  · refine List.Pairwise.sublist List.filter_sublist ?_
    rw [List.pairwise_map]
    refine List.Pairwise.imp_of_mem ?_ h.rise
    intro a b ha hb q
    refine ⟨by rw [cut1_t]; have := cut1_f p u b; have := q.1; omega, fun e => ?_⟩
    rw [cut1_r, cut1_r]
    rw [cut1_t] at e
    exact q.2 (by have := cut1_f p u b; have := q.1; omega)
  · unfold cutL at hs
    obtain ⟨h1, h2⟩ := List.mem_filter.1 hs
    obtain ⟨x, hx, rfl⟩ := List.mem_map.1 h1
    have f := h.fit x hx
    refine ⟨by have := cut1_f p u x; have := f.1; omega, by simpa using h2, by rw [cut1_t]; exact f.2.2.1, by rw [cut1_r]; exact f.2.2.2⟩
theorem cut_has (p : Int → Bool) (u : Int) (l : List Sl) (t r : Int) : Has (cutL p u l) t r ↔ Has l t r ∧ (p r = true → u ≤ t) := by
  constructor
  · rintro ⟨s, hs, rfl, h1, h2⟩
    unfold cutL at hs
    obtain ⟨k1, k2⟩ := List.mem_filter.1 hs
    obtain ⟨x, hx, rfl⟩ := List.mem_map.1 k1
    refine ⟨⟨x, hx, (cut1_r p u x).symm, by have := cut1_f p u x; omega, by rw [cut1_t] at h2; exact h2⟩, fun hp => ?_⟩
    rw [cut1_r] at hp
    unfold cut1 at h1
    rw [if_pos hp] at h1
    simp only at h1
    omega
  · rintro ⟨⟨s, hs, rfl, h1, h2⟩, h3⟩
    have q : (cut1 p u s).f ≤ t := by
      unfold cut1
      by_cases hp : p s.r = true
      · rw [if_pos hp]; have := h3 hp; simp only; omega
      · rw [if_neg hp]; exact h1
    exact ⟨cut1 p u s, List.mem_filter.2 ⟨List.mem_map.2 ⟨s, hs, rfl⟩, by rw [cut1_t]; simp; omega⟩, cut1_r p u s, q, by rw [cut1_t]; exact h2⟩
/- The chapter's put. -/
def scan (R : Int) : Sl → List Sl → Sl × List Sl
  | x, [] => (x, [])
  | x, s :: l => if s.r = R ∧ s.f ≤ x.t ∧ x.f ≤ s.t then scan R ⟨min x.f s.f, max x.t s.t, R⟩ l else ((scan R x l).1, s :: (scan R x l).2)
theorem scan_far (R : Int) : ∀ (l : List Sl) (x : Sl), (∀ s ∈ l, x.t < s.f) → scan R x l = (x, l)
  | [], x, _ => rfl
  | s :: l, x, h => by
    have := h s (List.mem_cons_self ..)
    simp only [scan]
    rw [if_neg (by omega), scan_far R l x (fun y hy => h y (List.mem_cons_of_mem _ hy))]
structure Scan (R : Int) (x : Sl) (l : List Sl) (y : Sl) (m : List Sl) : Prop where
  r : y.r = R
  lo : y.f ≤ x.f
  hi : x.t ≤ y.t
  sub : m.Sublist l
  has : ∀ t r, (r = R ∧ y.f ≤ t ∧ t < y.t) ∨ Has m t r ↔ (r = R ∧ x.f ≤ t ∧ t < x.t) ∨ Has l t r
  far : ∀ s ∈ m, s.r = R → s.t < y.f ∨ y.t < s.f
  fend : y.f = x.f ∨ ∃ s ∈ l, s.f = y.f ∧ s.r = R
  tend : y.t = x.t ∨ ∃ s ∈ l, s.t = y.t
theorem scan_all (R : Int) : ∀ (l : List Sl) (x : Sl), Ok l → x.r = R → x.f < x.t → Scan R x l (scan R x l).1 (scan R x l).2
  | [], x, _, hr, _ => ⟨hr, Int.le_refl _, Int.le_refl _, List.Sublist.refl _, fun _ _ => Iff.rfl, fun s h => (by cases h), Or.inl rfl, Or.inl rfl⟩
  | s :: l, x, hl, hr, hx => by
    have fs := hl.first
    have hd := hl.head
    simp only [scan]
    by_cases c : s.r = R ∧ s.f ≤ x.t ∧ x.f ≤ s.t
    · rw [if_pos c]
      have q := scan_all R l ⟨min x.f s.f, max x.t s.t, R⟩ hl.tail rfl (by show min x.f s.f < max x.t s.t; omega)
      generalize (scan R ⟨min x.f s.f, max x.t s.t, R⟩ l).1 = y at *
      generalize (scan R ⟨min x.f s.f, max x.t s.t, R⟩ l).2 = m at *
      refine ⟨q.r, by have := q.lo; simp only at this; omega, by have := q.hi; simp only at this; omega, q.sub.cons _, fun t r => (q.has t r).trans ?_, q.far, ?_, ?_⟩
      · simp only [has_cons]
        constructor
        · rintro (⟨h1, h2, h3⟩ | h)
          · by_cases k : x.f ≤ t ∧ t < x.t
            · exact Or.inl ⟨h1, k⟩
            · exact Or.inr (Or.inl ⟨c.1.trans h1.symm, by omega, by omega⟩)
          · exact Or.inr (Or.inr h)
        · rintro (⟨h1, h2, h3⟩ | ⟨h1, h2, h3⟩ | h)
          · exact Or.inl ⟨h1, by omega, by omega⟩
          · exact Or.inl ⟨h1.symm.trans c.1, by omega, by omega⟩
          · exact Or.inr h
      · rcases q.fend with e | ⟨z, hz, e⟩
        · simp only at e
          by_cases k : x.f ≤ s.f
          · exact Or.inl (by omega)
          · exact Or.inr ⟨s, List.mem_cons_self .., by omega, c.1⟩
        · exact Or.inr ⟨z, List.mem_cons_of_mem _ hz, e⟩
      · rcases q.tend with e | ⟨z, hz, e⟩
        · simp only at e
          by_cases k : s.t ≤ x.t
          · exact Or.inl (by omega)
          · exact Or.inr ⟨s, List.mem_cons_self .., by omega⟩
        · exact Or.inr ⟨z, List.mem_cons_of_mem _ hz, e⟩
    · rw [if_neg c]
      have q := scan_all R l x hl.tail hr hx
      have far : (∀ s ∈ l, x.t < s.f) → (scan R x l).1 = x := fun h => by rw [scan_far R l x h]
      generalize (scan R x l).1 = y at *
      generalize (scan R x l).2 = m at *
      refine ⟨q.r, q.lo, q.hi, q.sub.cons_cons _, fun t r => ?_, ?_, ?_, ?_⟩
      · simp only [has_cons]
        have := q.has t r
        constructor
        · rintro (h | h | h)
          · rcases this.1 (Or.inl h) with k | k
            · exact Or.inl k
            · exact Or.inr (Or.inr k)
          · exact Or.inr (Or.inl h)
          · rcases this.1 (Or.inr h) with k | k
            · exact Or.inl k
            · exact Or.inr (Or.inr k)
        · rintro (h | h | h)
          · rcases this.2 (Or.inl h) with k | k
            · exact Or.inl k
            · exact Or.inr (Or.inr k)
          · exact Or.inr (Or.inl h)
          · rcases this.2 (Or.inr h) with k | k
            · exact Or.inl k
            · exact Or.inr (Or.inr k)
      · intro z hz er
        rcases List.mem_cons.1 hz with rfl | hz
        · by_cases k : z.t < x.f
          · refine Or.inl ?_
            rcases q.fend with e | ⟨u, hu, e1, e2⟩
            · omega
            · have a := hd u hu
              rcases Int.lt_or_le z.t u.f with b | b
              · omega
              · exact absurd (er.trans e2.symm) (a.2 (by have := a.1; omega))
          · refine Or.inr ?_
            have : x.t < z.f := by
              rcases Int.lt_or_le x.t z.f with b | b
              · exact b
              · exact absurd ⟨er, b, by omega⟩ c
            have e := far (fun u hu => by have := (hd u hu).1; have := fs.2.1; omega)
            rw [e]
            exact this
        · exact q.far z hz er
      · rcases q.fend with e | ⟨z, hz, e⟩
        · exact Or.inl e
        · exact Or.inr ⟨z, List.mem_cons_of_mem _ hz, e⟩
      · rcases q.tend with e | ⟨z, hz, e⟩
        · exact Or.inl e
        · exact Or.inr ⟨z, List.mem_cons_of_mem _ hz, e⟩
theorem put_all {R : Int} {l : List Sl} {x : Sl} (hl : Ok l) (hx : Fit x) (hr : x.r = R) (hm : ¬ Met l R [x]) {k : Nat} (h1 : ∀ a ∈ (scan R x l).2.take k, a.f < (scan R x l).1.f) (h2 : ∀ b ∈ (scan R x l).2.drop k, (scan R x l).1.f ≤ b.f) :
    With l [x] ((scan R x l).2.take k ++ [(scan R x l).1] ++ (scan R x l).2.drop k) := by
  have q := scan_all R l x hl hr hx.2.1
  generalize (scan R x l).1 = y at *
  generalize (scan R x l).2 = m at *
  have ml : ∀ s ∈ m, s ∈ l := fun s hs => q.sub.subset hs
  have pm : m.Pairwise Ahead := hl.rise.sublist q.sub
  have fy : y.f < y.t := by have := q.lo; have := q.hi; have := hx.2.1; omega
  have no : ∀ s ∈ m, s.r ≠ R → ∀ t, s.f ≤ t → t < s.t → y.f ≤ t → t < y.t → False := fun s hs hn t a b c d => by
    rcases (q.has t R).1 (Or.inl ⟨rfl, c, d⟩) with k | k
    · exact hm ⟨s, ml s hs, x, by simp, hn, by omega, by omega⟩
    · exact hn (hl.one ⟨s, ml s hs, rfl, a, b⟩ k)
  have e0 : m = m.take k ++ m.drop k := (List.take_append_drop k m).symm
  have t1 : ∀ a ∈ m.take k, a ∈ m := fun a ha => List.mem_of_mem_take ha
  have t2 : ∀ a ∈ m.drop k, a ∈ m := fun a ha => List.mem_of_mem_drop ha
  refine ⟨⟨?_, ?_⟩, fun t r => ?_, ?_⟩
  · rw [List.append_assoc]
    have pk := List.pairwise_append.1 (e0 ▸ pm)
    refine List.pairwise_append.2 ⟨pk.1, List.pairwise_append.2 ⟨List.pairwise_singleton _ _, pk.2.1, fun a ha b hb => ?_⟩, fun a ha b hb => ?_⟩
    · rw [List.mem_singleton] at ha
      subst ha
      have f1 := h2 b hb
      have fb := (hl.fit b (ml b (t2 b hb))).2.1
      by_cases er : b.r = R
      · rcases q.far b (t2 b hb) er with z | z
        · omega
        · exact ⟨by omega, fun e => by omega⟩
      · refine ⟨?_, fun _ e => er (e.symm.trans q.r)⟩
        rcases Int.lt_or_le b.f a.t with z | z
        · exact (no b (t2 b hb) er b.f (by omega) fb f1 z).elim
        · exact z
    · rcases List.mem_append.1 hb with hb | hb
      · rw [List.mem_singleton] at hb
        subst hb
        have f1 := h1 a ha
        have fa := (hl.fit a (ml a (t1 a ha))).2.1
        by_cases er : a.r = R
        · rcases q.far a (t1 a ha) er with z | z
          · exact ⟨by omega, fun e => by omega⟩
          · omega
        · refine ⟨?_, fun _ e => er (e.trans q.r)⟩
          rcases Int.lt_or_le b.f a.t with z | z
          · exact (no a (t1 a ha) er b.f (by omega) z (by omega) fy).elim
          · exact z
      · exact pk.2.2 a ha b hb
  · intro s hs
    simp only [List.mem_append, List.mem_singleton] at hs
    rcases hs with (h | rfl) | h
    · exact hl.fit s (ml s (t1 s h))
    · refine ⟨?_, fy, ?_, by rw [q.r, ← hr]; exact hx.2.2.2⟩
      · rcases q.fend with e | ⟨z, hz, e, _⟩
        · rw [e]; exact hx.1
        · rw [← e]; exact (hl.fit z hz).1
      · rcases q.tend with e | ⟨z, hz, e⟩
        · rw [e]; exact hx.2.2.1
        · rw [← e]; exact (hl.fit z hz).2.2.1
    · exact hl.fit s (ml s (t2 s h))
  · have hh := q.has t r
    have hm2 : Has m t r ↔ Has (m.take k) t r ∨ Has (m.drop k) t r := by
      conv => lhs; rw [e0]
      exact has_append
    rw [has_append, has_append, has_cons, has_cons]
    rw [hm2] at hh
    constructor
    · rintro ((h | h) | h)
      · rcases hh.1 (Or.inr (Or.inl h)) with ⟨a, b⟩ | z
        · exact Or.inr (Or.inl ⟨hr.trans a.symm, b⟩)
        · exact Or.inl z
      · rcases h with ⟨a, b⟩ | h
        · rcases hh.1 (Or.inl ⟨a.symm.trans q.r, b⟩) with ⟨a, b⟩ | z
          · exact Or.inr (Or.inl ⟨hr.trans a.symm, b⟩)
          · exact Or.inl z
        · exact absurd h (has_nil _ _)
      · rcases hh.1 (Or.inr (Or.inr h)) with ⟨a, b⟩ | z
        · exact Or.inr (Or.inl ⟨hr.trans a.symm, b⟩)
        · exact Or.inl z
    · have fin : (r = R ∧ y.f ≤ t ∧ t < y.t) ∨ Has (m.take k) t r ∨ Has (m.drop k) t r → (Has (m.take k) t r ∨ (y.r = r ∧ y.f ≤ t ∧ t < y.t) ∨ Has [] t r) ∨ Has (m.drop k) t r := by
        rintro (⟨a, b⟩ | h | h)
        · exact Or.inl (Or.inr (Or.inl ⟨q.r.trans a.symm, b⟩))
        · exact Or.inl (Or.inl h)
        · exact Or.inr h
      rintro (h | (⟨a, b⟩ | h))
      · exact fin (hh.2 (Or.inr h))
      · exact fin (hh.2 (Or.inl ⟨a.symm.trans hr, b⟩))
      · exact absurd h (has_nil _ _)
  · have := q.sub.length_le
    have e1 := congrArg List.length e0
    simp at e1 ⊢
    omega
end Go.Proofs.Ytddkgkafgjdheaa.Rs
