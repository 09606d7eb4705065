/-
  Things as bytes, on lists of numbers alone: how each is put and got; what is got of bytes is just what was put, and what follows behind (numbers, bools, pairs, lists).
-/
import Derived.Laws.BitsAllLaws
namespace Go.Proofs.Ythdgpadakmdlkaa.Codec
set_option linter.unusedVariables false
set_option linter.unusedSimpArgs false

def Bytes (zs : List Int) : Prop := ∀ z ∈ zs, 0 ≤ z ∧ z < 256
theorem Bytes.nil : Bytes [] := fun z h => by simp at h
theorem Bytes.cons {z : Int} {zs : List Int} (h : Bytes (z :: zs)) : (0 ≤ z ∧ z < 256) ∧ Bytes zs := ⟨h z (by simp), fun y hy => h y (by simp [hy])⟩
theorem Bytes.mk {z : Int} {zs : List Int} (h0 : 0 ≤ z) (h1 : z < 256) (h : Bytes zs) : Bytes (z :: zs) := by
  intro y hy
  rcases List.mem_cons.1 hy with rfl | hy
  · exact ⟨h0, h1⟩
  · exact h y hy
theorem Bytes.append {xs ys : List Int} (hx : Bytes xs) (hy : Bytes ys) : Bytes (xs ++ ys) := by
  intro z hz
  rcases List.mem_append.1 hz with h | h
  · exact hx z h
  · exact hy z h
theorem Bytes.left {xs ys : List Int} (h : Bytes (xs ++ ys)) : Bytes xs := fun z hz => h z (List.mem_append_left _ hz)
theorem Bytes.right {xs ys : List Int} (h : Bytes (xs ++ ys)) : Bytes ys := fun z hz => h z (List.mem_append_right _ hz)
theorem Bytes.drop {xs : List Int} (h : Bytes xs) (k : Nat) : Bytes (xs.drop k) := fun z hz => h z (List.mem_of_mem_drop hz)
theorem Bytes.take {xs : List Int} (h : Bytes xs) (k : Nat) : Bytes (xs.take k) := fun z hz => h z (List.mem_of_mem_take hz)

/- A number's groups of seven bits. -/
def grp : Nat → Nat → List Int
  | 0, u => [(u : Int)]
  | f + 1, u => if u < 128 then [(u : Int)] else ((u % 128 + 128 : Nat) : Int) :: grp f (u / 128)
def getG : Nat → Nat → List Int → Option (Nat × List Int)
  | 0, _, _ => none
  | _ + 1, _, [] => none
  | f + 1, i, c :: r =>
    if c < 128 then (if (0 < i ∧ c = 0) ∨ (f = 0 ∧ 1 < c) then none else some (c.toNat, r))
    else (getG f (i + 1) r).map fun p => ((c - 128).toNat + 128 * p.1, p.2)

theorem grp_pos (f u : Nat) : 1 ≤ (grp f u).length := by
  cases f with
  | zero => simp [grp]
  | succ f => unfold grp; split <;> simp
theorem grp_len (f : Nat) : ∀ u, (grp f u).length ≤ f + 1 := by
  induction f with
  | zero => intro u; simp [grp]
  | succ f ih =>
    intro u
    unfold grp
    split
    · simp
    · have := ih (u / 128)
      simp only [List.length_cons]; omega
theorem grp_bytes (f : Nat) : ∀ u, u < 2 * 128 ^ f → Bytes (grp f u) := by
  induction f with
  | zero => intro u h; simp at h; exact Bytes.mk (by omega) (by omega) Bytes.nil
  | succ f ih =>
    intro u h
    unfold grp
    split
    · exact Bytes.mk (by omega) (by omega) Bytes.nil
    · exact Bytes.mk (by omega) (by omega) (ih _ (by rw [Nat.pow_succ] at h; omega))

theorem getG_iff (f : Nat) : ∀ (i : Nat) (zs : List Int) (u : Nat) (r : List Int), Bytes zs →
    (getG (f + 1) i zs = some (u, r) ↔ zs = grp f u ++ r ∧ (0 < i → 0 < u) ∧ u < 2 * 128 ^ f) := by
  induction f with
  | zero =>
    intro i zs u r hb
    cases zs with
    | nil => simp [getG, grp]
    | cons c zs =>
      obtain ⟨⟨c0, c1⟩, hb⟩ := hb.cons
      by_cases h : c < 128
      · simp only [getG, if_pos h, grp, List.singleton_append, List.cons.injEq, Nat.pow_zero, Nat.mul_one]
        by_cases g : (0 < i ∧ c = 0) ∨ (True ∧ 1 < c)
        · rw [if_pos g]
          constructor
          · intro e; cases e
          · rintro ⟨⟨rfl, rfl⟩, h1, h2⟩
            exfalso
            rcases g with ⟨g1, g2⟩ | ⟨_, g2⟩
            · have := h1 g1; omega
            · omega
        · rw [if_neg g]
          simp only [Option.some.injEq, Prod.mk.injEq]
          constructor
          · rintro ⟨rfl, rfl⟩
            refine ⟨⟨by omega, rfl⟩, fun h => ?_, ?_⟩
            · rcases Nat.eq_zero_or_pos c.toNat with e | e
              · exact absurd (Or.inl ⟨h, by omega⟩) g
              · exact e
            · have : ¬ 1 < c := fun e => g (Or.inr ⟨trivial, e⟩)
              omega
          · rintro ⟨⟨rfl, rfl⟩, h1, h2⟩
            exact ⟨by omega, rfl⟩
      · simp only [getG, if_neg h, grp, Option.map_none]
        constructor
        · intro e; cases e
        · rintro ⟨e, _, h2⟩
          simp at e h2
          omega
  | succ f ih =>
    intro i zs u r hb
    cases zs with
    | nil =>
      simp only [getG]
      constructor
      · intro e; cases e
      · rintro ⟨e, _⟩
        have := grp_pos (f + 1) u
        have e2 := congrArg List.length e
        rw [List.length_append, List.length_nil] at e2
        omega
    | cons c zs =>
      obtain ⟨⟨c0, c1⟩, hb⟩ := hb.cons
      have hp : 0 < 128 ^ f := Nat.pos_of_ne_zero (by simp)
      by_cases h : c < 128
      · have e0 : getG (f + 1 + 1) i (c :: zs) = if (0 < i ∧ c = 0) ∨ (f + 1 = 0 ∧ 1 < c) then none else some (c.toNat, zs) := by
          conv => lhs; unfold getG
          rw [if_pos h]
        rw [e0]
        by_cases g : (0 < i ∧ c = 0) ∨ (f + 1 = 0 ∧ 1 < c)
        · rw [if_pos g]
          constructor
          · intro e; cases e
          · rintro ⟨e, h1, h2⟩
            exfalso
            rcases g with ⟨g1, g2⟩ | ⟨g1, _⟩
            · have := h1 g1
              unfold grp at e
              split at e
              · simp at e; omega
              · simp at e; omega
            · omega
        · rw [if_neg g]
          simp only [Option.some.injEq, Prod.mk.injEq]
          constructor
          · rintro ⟨rfl, rfl⟩
            refine ⟨?_, fun h => ?_, ?_⟩
            · unfold grp
              rw [if_pos (by omega)]
              simp; omega
            · rcases Nat.eq_zero_or_pos c.toNat with e | e
              · exact absurd (Or.inl ⟨h, by omega⟩) g
              · exact e
            · rw [Nat.pow_succ]; omega
          · rintro ⟨e, h1, h2⟩
            unfold grp at e
            split at e
            · simp at e
              exact ⟨by omega, e.2⟩
            · simp at e; omega
      · have e0 : getG (f + 1 + 1) i (c :: zs) = (getG (f + 1) (i + 1) zs).map fun p => ((c - 128).toNat + 128 * p.1, p.2) := by
          conv => lhs; unfold getG
          rw [if_neg h]
        rw [e0]
        constructor
        · intro e
          obtain ⟨⟨u', r'⟩, e1, e2⟩ := Option.map_eq_some_iff.1 e
          obtain ⟨h1, h2, h3⟩ := (ih (i + 1) zs u' r' hb).1 e1
          simp only [Prod.mk.injEq] at e2
          obtain ⟨rfl, rfl⟩ := e2
          have h4 := h2 (by omega)
          refine ⟨?_, fun _ => by omega, by rw [Nat.pow_succ]; omega⟩
          unfold grp
          rw [if_neg (by omega), show ((c - 128).toNat + 128 * u') / 128 = u' by omega, show ((c - 128).toNat + 128 * u') % 128 = (c - 128).toNat by omega, h1, List.cons_append]
          congr 1
          omega
        · rintro ⟨e, h1, h2⟩
          unfold grp at e
          split at e
          · simp at e; omega
          · rename_i hu
            rw [List.cons_append, List.cons.injEq] at e
            obtain ⟨e1, e2⟩ := e
            rw [(ih (i + 1) zs (u / 128) r hb).2 ⟨e2, fun _ => by omega, by rw [Nat.pow_succ] at h2; omega⟩]
            simp only [Option.map_some, Option.some.injEq, Prod.mk.injEq, and_true]
            omega

def I64 (v : Int) : Prop := -9223372036854775808 ≤ v ∧ v < 9223372036854775808
def fold (v : Int) : Nat := if v < 0 then (-2 * v - 1).toNat else (2 * v).toNat
def unf (u : Nat) : Int := if u % 2 = 1 then -((u / 2 : Nat) : Int) - 1 else ((u / 2 : Nat) : Int)
theorem fold_lt (v : Int) (h : I64 v) : fold v < 18446744073709551616 := by
  obtain ⟨h0, h1⟩ := h
  unfold fold
  split <;> omega
theorem unf_fold (v : Int) : unf (fold v) = v := by
  unfold unf fold
  split
  · rw [if_pos (by omega)]; omega
  · rw [if_neg (by omega)]; omega
theorem fold_unf (u : Nat) : fold (unf u) = u := by
  unfold unf fold
  split <;> split <;> omega
theorem unf_i64 (u : Nat) (h : u < 18446744073709551616) : I64 (unf u) := by
  unfold unf I64
  split <;> omega

def num (v : Int) : List Int := grp 9 (fold v)
def getNum (zs : List Int) : Option (Int × List Int) := (getG 10 0 zs).map fun p => (unf p.1, p.2)
theorem two_pow : 2 * 128 ^ 9 = 18446744073709551616 := by decide
theorem num_pos (v : Int) : 1 ≤ (num v).length := grp_pos _ _
theorem num_len (v : Int) : (num v).length ≤ 10 := grp_len _ _
theorem num_bytes (v : Int) (h : I64 v) : Bytes (num v) := grp_bytes 9 _ (by rw [two_pow]; exact fold_lt v h)
theorem getNum_iff (zs : List Int) (v : Int) (r : List Int) (hb : Bytes zs) : getNum zs = some (v, r) ↔ zs = num v ++ r ∧ I64 v := by
  unfold getNum num
  constructor
  · intro e
    obtain ⟨⟨u, r'⟩, e1, e2⟩ := Option.map_eq_some_iff.1 e
    simp only [Prod.mk.injEq] at e2
    obtain ⟨rfl, rfl⟩ := e2
    obtain ⟨h1, _, h3⟩ := (getG_iff 9 0 zs u r' hb).1 e1
    rw [two_pow] at h3
    rw [fold_unf]
    exact ⟨h1, unf_i64 u h3⟩
  · rintro ⟨e, h⟩
    rw [(getG_iff 9 0 zs (fold v) r hb).2 ⟨e, fun h => by omega, by rw [two_pow]; exact fold_lt v h⟩]
    simp [unf_fold]

/- How things of one kind are put and got; which of them may be. -/
structure Cod (α : Type) where
  put : α → List Int
  get : List Int → Option (α × List Int)
  ok : α → Prop
structure Good {α : Type} (c : Cod α) : Prop where
  iff : ∀ zs a r, Bytes zs → (c.get zs = some (a, r) ↔ zs = c.put a ++ r ∧ c.ok a)
  bytes : ∀ a, c.ok a → Bytes (c.put a)
  pos : ∀ a, 1 ≤ (c.put a).length
def Cod.whole {α : Type} (c : Cod α) (zs : List Int) : Option α := (c.get zs).bind fun p => if p.2.length = 0 then some p.1 else none

theorem Good.rest {α : Type} {c : Cod α} (g : Good c) {zs : List Int} {k : Nat} {a : α} {r : List Int} (hb : Bytes zs) (hk : k ≤ zs.length) (h : c.get (zs.drop k) = some (a, r)) :
    ∃ k', r = zs.drop k' ∧ k < k' ∧ k' ≤ zs.length ∧ k' = k + (c.put a).length ∧ c.ok a := by
  obtain ⟨e, ho⟩ := (g.iff _ _ _ (hb.drop k)).1 h
  have hp := g.pos a
  have hl := congrArg List.length e
  rw [List.length_drop, List.length_append] at hl
  refine ⟨k + (c.put a).length, ?_, by omega, by omega, rfl, ho⟩
  rw [← List.drop_drop, e, List.drop_left]
theorem Good.back {α : Type} {c : Cod α} (g : Good c) (a : α) (r : List Int) (hr : Bytes r) (h : c.ok a) : c.get (c.put a ++ r) = some (a, r) :=
  (g.iff _ _ _ ((g.bytes a h).append hr)).2 ⟨rfl, h⟩
theorem Good.whole_put {α : Type} {c : Cod α} (g : Good c) (a : α) (h : c.ok a) : c.whole (c.put a) = some a := by
  have e := g.back a [] Bytes.nil h
  rw [List.append_nil] at e
  simp [Cod.whole, e]
theorem Good.whole_iff {α : Type} {c : Cod α} (g : Good c) (zs : List Int) (a : α) (hb : Bytes zs) : c.whole zs = some a ↔ zs = c.put a ∧ c.ok a := by
  unfold Cod.whole
  constructor
  · intro e
    obtain ⟨⟨a', r⟩, e1, e2⟩ := Option.bind_eq_some_iff.1 e
    simp only at e2
    split at e2
    · rename_i hr
      cases e2
      obtain ⟨h1, h2⟩ := (g.iff _ _ _ hb).1 e1
      rw [List.eq_nil_of_length_eq_zero hr, List.append_nil] at h1
      exact ⟨h1, h2⟩
    · cases e2
  · rintro ⟨rfl, h⟩
    exact g.whole_put a h
theorem Good.inj {α : Type} {c : Cod α} (g : Good c) (a b : α) (ha : c.ok a) (hb : c.ok b) (h : c.put a = c.put b) : a = b := by
  have h1 := g.whole_put a ha
  rw [h, g.whole_put b hb] at h1
  exact (Option.some.inj h1).symm
theorem Good.cut {α : Type} {c : Cod α} (g : Good c) (a : α) (ha : c.ok a) (k : Nat) (hk : k < (c.put a).length) : c.whole ((c.put a).take k) = none := by
  cases h : c.whole ((c.put a).take k) with
  | none => rfl
  | some b =>
    exfalso
    have hb := g.bytes a ha
    obtain ⟨e, ho⟩ := (g.whole_iff _ _ (hb.take k)).1 h
    have e1 : c.get (c.put a) = some (b, (c.put a).drop k) := (g.iff _ _ _ hb).2 ⟨by rw [← e, List.take_append_drop], ho⟩
    have e2 := g.back a [] Bytes.nil ha
    rw [List.append_nil, e1] at e2
    have e3 := congrArg (fun o => (o.map fun p : α × List Int => p.2.length)) e2
    simp at e3
    omega
theorem Good.more {α : Type} {c : Cod α} (g : Good c) (a : α) (ha : c.ok a) (r : List Int) (hr : Bytes r) (h : r.length ≠ 0) : c.whole (c.put a ++ r) = none := by
  unfold Cod.whole
  rw [g.back a r hr ha]
  simp only [Option.bind_some]
  rw [if_neg h]

def cNum : Cod Int := { put := num, get := getNum, ok := I64 }
theorem gNum : Good cNum := ⟨fun zs a r hb => getNum_iff zs a r hb, num_bytes, num_pos⟩
def cFlag : Cod Bool := { put := fun b => [if b then 1 else 0], get := fun zs => match zs with | [] => none | c :: r => if 1 < c then none else some (c == 1, r), ok := fun _ => True }
theorem gFlag : Good cFlag := by
  refine ⟨fun zs a r hb => ?_, fun a _ => ?_, fun a => by simp [cFlag]⟩
  · cases zs with
    | nil => simp [cFlag]
    | cons c zs =>
      obtain ⟨⟨c0, c1⟩, hb⟩ := hb.cons
      by_cases h : 1 < c
      · simp only [cFlag, if_pos h, List.singleton_append, List.cons.injEq, and_true]
        constructor
        · intro e; cases e
        · rintro ⟨e, _⟩
          exfalso
          cases a <;> simp at e <;> omega
      · simp only [cFlag, if_neg h, List.singleton_append, List.cons.injEq, and_true, Option.some.injEq, Prod.mk.injEq]
        rcases (show c = 0 ∨ c = 1 by omega) with rfl | rfl <;> cases a <;> simp
  · cases a
    · exact Bytes.mk (by decide) (by decide) Bytes.nil
    · exact Bytes.mk (by decide) (by decide) Bytes.nil

def pair {α β : Type} (c : Cod α) (d : Cod β) : Cod (α × β) :=
  { put := fun p => c.put p.1 ++ d.put p.2
    get := fun zs => (c.get zs).bind fun p => (d.get p.2).map fun q => ((p.1, q.1), q.2)
    ok := fun p => c.ok p.1 ∧ d.ok p.2 }
theorem pair_some {α β : Type} {c : Cod α} {d : Cod β} {zs r r' : List Int} {a : α} {b : β} (h : c.get zs = some (a, r)) (h' : d.get r = some (b, r')) : (pair c d).get zs = some ((a, b), r') := by simp [pair, h, h']
theorem pair_none {α β : Type} {c : Cod α} {d : Cod β} {zs : List Int} (h : c.get zs = none) : (pair c d).get zs = none := by simp [pair, h]
theorem pair_none2 {α β : Type} {c : Cod α} {d : Cod β} {zs r : List Int} {a : α} (h : c.get zs = some (a, r)) (h' : d.get r = none) : (pair c d).get zs = none := by simp [pair, h, h']
theorem gPair {α β : Type} {c : Cod α} {d : Cod β} (g : Good c) (g' : Good d) : Good (pair c d) := by
  refine ⟨fun zs p r hb => ?_, fun p hp => (g.bytes _ hp.1).append (g'.bytes _ hp.2), fun p => ?_⟩
  · obtain ⟨a, b⟩ := p
    simp only [pair]
    constructor
    · intro e
      obtain ⟨⟨a', r1⟩, e1, e2⟩ := Option.bind_eq_some_iff.1 e
      obtain ⟨⟨b', r2⟩, e3, e4⟩ := Option.map_eq_some_iff.1 e2
      simp only [Prod.mk.injEq] at e4
      obtain ⟨⟨rfl, rfl⟩, rfl⟩ := e4
      obtain ⟨h1, h2⟩ := (g.iff _ _ _ hb).1 e1
      rw [h1] at hb
      obtain ⟨h3, h4⟩ := (g'.iff _ _ _ hb.right).1 e3
      exact ⟨by rw [h1, h3, List.append_assoc], h2, h4⟩
    · rintro ⟨e, h1, h2⟩
      rw [List.append_assoc] at e
      rw [(g.iff zs a (d.put b ++ r) hb).2 ⟨e, h1⟩]
      rw [e] at hb
      simp only [Option.bind_some]
      rw [(g'.iff (d.put b ++ r) b r hb.right).2 ⟨rfl, h2⟩]
      rfl
  · have := g.pos p.1
    simp only [pair, List.length_append]
    omega

def getN {α : Type} (c : Cod α) : Nat → List Int → Option (List α × List Int)
  | 0, zs => some ([], zs)
  | n + 1, zs => (c.get zs).bind fun p => (getN c n p.2).map fun q => (p.1 :: q.1, q.2)
def list {α : Type} (c : Cod α) : Cod (List α) :=
  { put := fun l => num l.length ++ l.flatMap c.put
    get := fun zs => (getNum zs).bind fun p => if p.1 < 0 ∨ (p.2.length : Int) < p.1 then none else getN c p.1.toNat p.2
    ok := fun l => I64 l.length ∧ ∀ x ∈ l, c.ok x }
theorem getN_iff {α : Type} {c : Cod α} (g : Good c) : ∀ (n : Nat) (zs : List Int) (l : List α) (r : List Int), Bytes zs → (getN c n zs = some (l, r) ↔ zs = l.flatMap c.put ++ r ∧ l.length = n ∧ ∀ x ∈ l, c.ok x) := by
  intro n
  induction n with
  | zero =>
    intro zs l r hb
    simp only [getN, Option.some.injEq, Prod.mk.injEq]
    constructor
    · rintro ⟨rfl, rfl⟩; simp
    · rintro ⟨e, h, _⟩
      obtain rfl := List.eq_nil_of_length_eq_zero h
      simp at e
      exact ⟨rfl, e⟩
  | succ n ih =>
    intro zs l r hb
    simp only [getN]
    constructor
    · intro e
      obtain ⟨⟨a, r1⟩, e1, e2⟩ := Option.bind_eq_some_iff.1 e
      obtain ⟨⟨l1, r2⟩, e3, e4⟩ := Option.map_eq_some_iff.1 e2
      simp only [Prod.mk.injEq] at e4
      obtain ⟨rfl, rfl⟩ := e4
      obtain ⟨h1, h2⟩ := (g.iff _ _ _ hb).1 e1
      rw [h1] at hb
      obtain ⟨h3, h4, h5⟩ := (ih _ _ _ hb.right).1 e3
      refine ⟨by rw [h1, h3]; simp, by simp [h4], ?_⟩
      intro x hx
      rcases List.mem_cons.1 hx with rfl | hx
      · exact h2
      · exact h5 x hx
    · rintro ⟨e, h, ho⟩
      cases l with
      | nil => simp at h
      | cons a l =>
        rw [List.flatMap_cons, List.append_assoc] at e
        rw [(g.iff zs a _ hb).2 ⟨e, ho a (by simp)⟩]
        rw [e] at hb
        simp only [Option.bind_some]
        rw [(ih _ l r hb.right).2 ⟨rfl, by simpa using h, fun x hx => ho x (by simp [hx])⟩]
        rfl
theorem flat_len {α : Type} {c : Cod α} (g : Good c) (l : List α) : l.length ≤ (l.flatMap c.put).length := by
  induction l with
  | nil => simp
  | cons a l ih => have := g.pos a; simp only [List.flatMap_cons, List.length_append, List.length_cons]; omega
theorem flat_bytes {α : Type} {c : Cod α} (g : Good c) (l : List α) (h : ∀ x ∈ l, c.ok x) : Bytes (l.flatMap c.put) := by
  intro z hz
  obtain ⟨x, hx, hz⟩ := List.mem_flatMap.1 hz
  exact g.bytes x (h x hx) z hz
theorem gList {α : Type} {c : Cod α} (g : Good c) : Good (list c) := by
  refine ⟨fun zs l r hb => ?_, fun l hl => (num_bytes _ hl.1).append (flat_bytes g l hl.2), fun l => ?_⟩
  · simp only [list]
    constructor
    · intro e
      obtain ⟨⟨n, r1⟩, e1, e2⟩ := Option.bind_eq_some_iff.1 e
      simp only at e2
      split at e2
      · cases e2
      · rename_i hn
        obtain ⟨h1, h2⟩ := (getNum_iff _ _ _ hb).1 e1
        rw [h1] at hb
        obtain ⟨h3, h4, h5⟩ := (getN_iff g _ _ _ _ hb.right).1 e2
        have e5 : (l.length : Int) = n := by omega
        rw [← e5] at h1 h2
        exact ⟨by rw [h1, h3, List.append_assoc], h2, h5⟩
    · rintro ⟨e, h1, h2⟩
      rw [List.append_assoc] at e
      rw [(getNum_iff zs _ _ hb).2 ⟨e, h1⟩]
      rw [e] at hb
      simp only [Option.bind_some]
      have hl := flat_len g l
      rw [if_neg (by rw [List.length_append]; omega), Int.toNat_natCast]
      exact (getN_iff g _ _ _ _ hb.right).2 ⟨rfl, rfl, h2⟩
  · have := num_pos (l.length : Int)
    simp only [list, List.length_append]
    omega
/- One item more of a list that is read from the front. -/
theorem getN_snoc {α : Type} {c : Cod α} {n : Nat} {zs r : List Int} {a : α} (h : c.get zs = some (a, r)) : getN c (n + 1) zs = (getN c n r).map fun q => (a :: q.1, q.2) := by simp [getN, h]
theorem getN_stop {α : Type} {c : Cod α} {n : Nat} {zs : List Int} (h : c.get zs = none) : getN c (n + 1) zs = none := by simp [getN, h]

abbrev TCell := Int × Int
abbrev TPose := TCell × Bool
abbrev TMove := Int × Int × Int × TPose × TPose × Int × Int
abbrev TEvent := Int × Int × Int × TPose × List TMove
abbrev TTele := Int × Int × Int × Int × TMove × TPose × Int
abbrev TOper := Int × Int × Int
abbrev TStack := TCell × List Int
abbrev TRobot := TPose × Int × Int × List TMove × Bool × Int × Bool
abbrev TPort := Int × Int × List Int
abbrev TOrder := Int × Int × Int × Int
abbrev TJob := Int × Int × Int × Int × TCell × TCell × Int
abbrev TState := Int × Int × Bool × List TStack × List TRobot × List TPort × List TOrder × List TJob × Int × Int
def cCell : Cod TCell := pair cNum cNum
def cPose : Cod TPose := pair cCell cFlag
def cMove : Cod TMove := pair cNum (pair cNum (pair cNum (pair cPose (pair cPose (pair cNum cNum)))))
def cEvent : Cod TEvent := pair cNum (pair cNum (pair cNum (pair cPose (list cMove))))
def cTele : Cod TTele := pair cNum (pair cNum (pair cNum (pair cNum (pair cMove (pair cPose cNum)))))
def cOp : Cod TOper := pair cNum (pair cNum cNum)
def cStack : Cod TStack := pair cCell (list cNum)
def cRobot : Cod TRobot := pair cPose (pair cNum (pair cNum (pair (list cMove) (pair cFlag (pair cNum cFlag)))))
def cPort : Cod TPort := pair cNum (pair cNum (list cNum))
def cOrder : Cod TOrder := pair cNum (pair cNum (pair cNum cNum))
def cJob : Cod TJob := pair cNum (pair cNum (pair cNum (pair cNum (pair cCell (pair cCell cNum)))))
def cState : Cod TState := pair cNum (pair cNum (pair cFlag (pair (list cStack) (pair (list cRobot) (pair (list cPort) (pair (list cOrder) (pair (list cJob) (pair cNum cNum))))))))
theorem gCell : Good cCell := gPair gNum gNum
theorem gPose : Good cPose := gPair gCell gFlag
theorem gMove : Good cMove := gPair gNum (gPair gNum (gPair gNum (gPair gPose (gPair gPose (gPair gNum gNum)))))
theorem gEvent : Good cEvent := gPair gNum (gPair gNum (gPair gNum (gPair gPose (gList gMove))))
theorem gTele : Good cTele := gPair gNum (gPair gNum (gPair gNum (gPair gNum (gPair gMove (gPair gPose gNum)))))
theorem gOp : Good cOp := gPair gNum (gPair gNum gNum)
theorem gStack : Good cStack := gPair gCell (gList gNum)
theorem gRobot : Good cRobot := gPair gPose (gPair gNum (gPair gNum (gPair (gList gMove) (gPair gFlag (gPair gNum gFlag)))))
theorem gPort : Good cPort := gPair gNum (gPair gNum (gList gNum))
theorem gOrder : Good cOrder := gPair gNum (gPair gNum (gPair gNum gNum))
theorem gJob : Good cJob := gPair gNum (gPair gNum (gPair gNum (gPair gNum (gPair gCell (gPair gCell gNum)))))
theorem gState : Good cState := gPair gNum (gPair gNum (gPair gFlag (gPair (gList gStack) (gPair (gList gRobot) (gPair (gList gPort) (gPair (gList gOrder) (gPair (gList gJob) (gPair gNum gNum))))))))

end Go.Proofs.Ythdgpadakmdlkaa.Codec
