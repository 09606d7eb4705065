/-
  Which configs may be: what New reckons, cell by cell, comes to the chapter's conditions.
-/
import Derived.Test.YtnaojlngdfolaaaGridPlain
namespace Go.Proofs.Ytnaojlngdfolaaa.Grid
set_option linter.unusedVariables false
set_option linter.unusedSimpArgs false

def carry (w h : Int) (us : List Int) (height : Int) : List Bool → List Int → List Stk → Option (List Int)
  | st, acc, [] => some acc
  | st, acc, s :: l => if stackedU w h us s.1 = true ∧ st.getD (s.1.2 * w + s.1.1).toNat false = false ∧ (s.2.length : Int) ≤ height then
      carry w h us height (st.set (s.1.2 * w + s.1.1).toNat true) (acc ++ s.2) l else none
/- Which cells are stood on. -/
structure Stood (w h : Int) (st : List Bool) (D : Cell → Prop) : Prop where
  len : (st.length : Int) = w * h
  at_ : ∀ c, In w h c → (st.getD (c.2 * w + c.1).toNat false = true ↔ D c)
theorem getD_setB (us : List Bool) (i j : Nat) (u : Bool) (hi : i < us.length) : (us.set i u).getD j false = if j = i then u else us.getD j false := by
  rw [List.getD_eq_getElem?_getD, List.getD_eq_getElem?_getD, List.getElem?_set]
  by_cases e : i = j
  · subst e; simp [hi]
  · rw [if_neg e, if_neg (fun h => e h.symm)]
theorem Stood.set {w h : Int} {st : List Bool} {D : Cell → Prop} (hS : Stood w h st D) {c : Cell} (hc : In w h c) : Stood w h (st.set (c.2 * w + c.1).toNat true) (fun x => x = c ∨ D x) := by
  refine ⟨by rw [List.length_set]; exact hS.len, fun x hx => ?_⟩
  have h1 := num_lt hc
  have h2 := num_lt hx
  have h3 := hS.len
  rw [getD_setB _ _ _ _ (by omega)]
  by_cases e : x = c
  · subst e; simp
  · rw [if_neg (fun e2 => e (num_inj hx hc (by omega))), hS.at_ x hx]
    simp [e]
theorem bool_not {b : Bool} {p : Prop} (h : b = true ↔ p) : b = false ↔ ¬ p := by
  rw [← h, Bool.not_eq_true]
theorem carry_some {w h : Int} {us : List Int} {height : Int} : ∀ (l : List Stk) {st : List Bool} {acc bins : List Int} {D : Cell → Prop}, Stood w h st D → carry w h us height st acc l = some bins →
    (∀ s ∈ l, stackedU w h us s.1 = true ∧ ¬ D s.1 ∧ (s.2.length : Int) ≤ height) ∧ (l.map Prod.fst).Nodup ∧ bins = acc ++ l.flatMap Prod.snd
  | [], st, acc, bins, D, hS, e => by
    cases e
    exact ⟨fun s hs => by simp at hs, List.nodup_nil, by simp⟩
  | s :: l, st, acc, bins, D, hS, e => by
    unfold carry at e
    split at e
    · rename_i hc
      have hin : In w h s.1 := by
        have := hc.1
        unfold stackedU at this
        rw [Bool.and_eq_true, decide_eq_true_eq] at this
        exact this.1
      obtain ⟨k1, k2, k3⟩ := carry_some l (hS.set hin) e
      refine ⟨fun x hx => ?_, ?_, ?_⟩
      · rcases List.mem_cons.1 hx with rfl | hx
        · exact ⟨hc.1, (bool_not (hS.at_ _ hin)).1 hc.2.1, hc.2.2⟩
        · obtain ⟨q1, q2, q3⟩ := k1 x hx
          exact ⟨q1, fun hd => q2 (Or.inr hd), q3⟩
      · rw [List.map_cons, List.nodup_cons]
        refine ⟨fun hm => ?_, k2⟩
        obtain ⟨y, hy, e1⟩ := List.mem_map.1 hm
        exact (k1 y hy).2.1 (Or.inl e1)
      · rw [k3, List.flatMap_cons, List.append_assoc]
    · cases e
theorem carry_none {w h : Int} {us : List Int} {height : Int} : ∀ (l : List Stk) {st : List Bool} {acc : List Int} {D : Cell → Prop}, Stood w h st D → carry w h us height st acc l = none →
    ¬ ((∀ s ∈ l, stackedU w h us s.1 = true ∧ ¬ D s.1 ∧ (s.2.length : Int) ≤ height) ∧ (l.map Prod.fst).Nodup)
  | [], st, acc, D, hS, e => by cases e
  | s :: l, st, acc, D, hS, e => by
    unfold carry at e
    rintro ⟨q1, q2⟩
    obtain ⟨a1, a2, a3⟩ := q1 s List.mem_cons_self
    have hin : In w h s.1 := by
      have := a1
      unfold stackedU at this
      rw [Bool.and_eq_true, decide_eq_true_eq] at this
      exact this.1
    rw [if_pos ⟨a1, (bool_not (hS.at_ _ hin)).2 a2, a3⟩] at e
    rw [List.map_cons, List.nodup_cons] at q2
    refine carry_none l (hS.set hin) e ⟨fun x hx => ?_, q2.2⟩
    obtain ⟨b1, b2, b3⟩ := q1 x (List.mem_cons_of_mem _ hx)
    exact ⟨b1, fun hd => hd.elim (fun e1 => q2.1 (List.mem_map.2 ⟨x, hx, e1⟩)) b2, b3⟩
/- Of stacks that stand there can be no more than there are cells. -/
theorem carry_len {w h : Int} {us : List Int} {height : Int} : ∀ (l : List Stk) {st : List Bool} {acc bins : List Int}, (st.length : Int) = w * h → carry w h us height st acc l = some bins → l.length ≤ st.count false
  | [], st, acc, bins, hl, e => Nat.zero_le _
  | s :: l, st, acc, bins, hl, e => by
    unfold carry at e
    split at e
    · rename_i hc
      have hin : In w h s.1 := by
        have := hc.1
        unfold stackedU at this
        rw [Bool.and_eq_true, decide_eq_true_eq] at this
        exact this.1
      have hi : (s.1.2 * w + s.1.1).toNat < st.length := by have := num_lt hin; omega
      have := carry_len l (by rw [List.length_set]; exact hl) e
      have hz := hc.2.1
      rw [List.getD_eq_getElem?_getD, List.getElem?_eq_getElem hi, Option.getD_some] at hz
      rw [List.count_set hi, hz] at this
      have hp : 0 < st.count false := List.count_pos_iff.2 (hz ▸ List.getElem_mem hi)
      simp at this
      rw [List.length_cons]
      omega
    · cases e

def mayBeP (l : List Int) : Prop := l.length ≤ 512 ∧ (∀ b ∈ l, 1 ≤ b ∧ b ≤ 1000000000) ∧ l.Nodup
instance (l : List Int) : Decidable (mayBeP l) := by unfold mayBeP; infer_instance
def upTo (v g : Int) : Bool := decide (1 ≤ v) && decide (v ≤ g)
/- Sorted, no two neighbours alike: none twice. -/
def sortedI (l : List Int) : List Int := l.mergeSort fun x y => decide (x ≤ y)
theorem pairs_of {s : List Int} (hs : s.Pairwise (· ≤ ·)) (h : ∀ i, 0 < i → i < s.length → s.getD i 0 ≠ s.getD (i - 1) 0) : s.Nodup := by
  induction s with
  | nil => exact List.nodup_nil
  | cons x l ih =>
    rw [List.pairwise_cons] at hs
    rw [List.nodup_cons]
    refine ⟨fun hm => ?_, ih hs.2 fun i h0 hi => ?_⟩
    · cases l with
      | nil => simp at hm
      | cons y r =>
        have h1 := h 1 (by omega) (by simp)
        simp at h1
        have h2 := hs.1 y List.mem_cons_self
        have h3 : y ≤ x := by
          rcases List.mem_cons.1 hm with e | e
          · omega
          · exact (List.pairwise_cons.1 hs.2).1 x e
        omega
    · have := h (i + 1) (by omega) (by simp; omega)
      simp only [Nat.add_sub_cancel, List.getD_cons_succ] at this
      obtain ⟨j, rfl⟩ : ∃ j, i = j + 1 := ⟨i - 1, by omega⟩
      simpa using this
theorem sorted_pair (l : List Int) : (sortedI l).Pairwise (· ≤ ·) := by
  have := List.pairwise_mergeSort (le := fun x y : Int => decide (x ≤ y)) (fun a b c h1 h2 => by simp at *; omega) (fun a b => by simp; omega) l
  exact this.imp (fun h => by simpa using h)
theorem sorted_perm (l : List Int) : (sortedI l).Perm l := List.mergeSort_perm l _
theorem mayBe_sorted (l : List Int) : mayBeP l ↔ l.length ≤ 512 ∧ ∀ i, i < (sortedI l).length → upTo ((sortedI l).getD i 0) 1000000000 = true ∧ (0 < i → (sortedI l).getD i 0 ≠ (sortedI l).getD (i - 1) 0) := by
  have hp := sorted_perm l
  have hs := sorted_pair l
  generalize sortedI l = s at *
  unfold mayBeP upTo
  refine and_congr Iff.rfl ⟨fun ⟨h1, h2⟩ i hi => ?_, fun h => ⟨fun b hb => ?_, ?_⟩⟩
  · rw [List.getD_eq_getElem?_getD, List.getElem?_eq_getElem hi, Option.getD_some]
    have hm := h1 _ (hp.mem_iff.1 (List.getElem_mem hi))
    refine ⟨by simp; exact hm, fun h0 => ?_⟩
    rw [List.getD_eq_getElem?_getD, List.getElem?_eq_getElem (by omega), Option.getD_some]
    intro e
    have := (List.getElem_inj ((hp.nodup_iff).2 h2)).1 e
    omega
  · obtain ⟨i, hi, e⟩ := List.getElem_of_mem (hp.mem_iff.2 hb)
    have := (h i hi).1
    rw [List.getD_eq_getElem?_getD, List.getElem?_eq_getElem hi, Option.getD_some, e] at this
    simpa using this
  · exact (hp.nodup_iff).1 (pairs_of hs fun i h0 hi => (h i hi).2 h0)

structure GS where
  w : Int
  h : Int
  uses : List Int
  ports : List Cell
def limited (c : Conf) : Bool := upTo c.unit 1000 && upTo c.accel 1000 && upTo c.speed 1000 && upTo c.turn 1000 && upTo c.hoist 1000 && upTo c.resend 1000 &&
  (upTo c.W 16 && upTo c.H 16 && upTo c.height 8 && upTo c.queue 16 && upTo c.budget 1048576)
def newP (c : Conf) : Option GS :=
  if limited c = true then
    (takeAll c.W c.H 1 (List.replicate (c.W * c.H).toNat 0) c.blocked).bind fun u1 =>
    (if c.ports.length ≤ 8 then takeP c.W c.H u1 c.ports else none).bind fun u2 =>
    (if c.robots.length ≤ 8 then takeR c.W c.H u2 c.robots else none).bind fun u3 =>
    (carry c.W c.H (stackUs c.W c.H u3) c.height (List.replicate (c.W * c.H).toNat false) [] c.stacks).bind fun bins =>
    if mayBeP bins then some ⟨c.W, c.H, stackUs c.W c.H u3, c.ports⟩ else none
  else none

/- The chapter's own words. -/
def openR (c : Conf) (x : Cell) : Prop := In c.W c.H x ∧ x ∉ c.blocked
def besideR (c : Conf) (x : Cell) : Prop := openR c (east x) ∨ openR c (south x)
def homes (c : Conf) : List Cell := c.robots.flatMap cellsOf
def stackedR (c : Conf) (x : Cell) : Prop := openR c x ∧ x ∉ c.ports ∧ x ∉ homes c ∧ besideR c x
def fitsR (c : Conf) (p : Pose) : Prop := openR c p.1 ∧ openR c (second p)
instance (c : Conf) (x : Cell) : Decidable (openR c x) := by unfold openR; infer_instance
instance (c : Conf) (x : Cell) : Decidable (besideR c x) := by unfold besideR; infer_instance
instance (c : Conf) (x : Cell) : Decidable (stackedR c x) := by unfold stackedR; infer_instance
instance (c : Conf) (p : Pose) : Decidable (fitsR c p) := by unfold fitsR; infer_instance
def mayR (c : Conf) : Prop :=
  limited c = true ∧ c.ports.length ≤ 8 ∧ c.robots.length ≤ 8 ∧ (∀ b ∈ c.blocked, In c.W c.H b ∧ b ∉ c.ports) ∧ c.blocked.Nodup ∧
  (∀ p ∈ c.ports, In c.W c.H p ∧ p ∉ homes c ∧ besideR c p) ∧ c.ports.Nodup ∧ (∀ r ∈ c.robots, fitsR c r) ∧ (homes c).Nodup ∧
  (∀ s ∈ c.stacks, stackedR c s.1 ∧ (s.2.length : Int) ≤ c.height) ∧ (c.stacks.map Prod.fst).Nodup ∧ mayBeP (c.stacks.flatMap Prod.snd)
def useR (c : Conf) (x : Cell) : Int := if x ∈ homes c then 3 else if x ∈ c.ports then 2 else if x ∈ c.blocked then 1 else if besideR c x then 4 else 0

theorem us_zero (w h : Int) (hw : 0 ≤ w) (hh : 0 ≤ h) : Us w h (List.replicate (w * h).toNat 0) (fun _ => 0) := by
  have := Int.mul_nonneg hw hh
  refine ⟨by rw [List.length_replicate]; omega, fun c hc => ?_⟩
  have := num_lt hc
  rw [List.getD_eq_getElem?_getD, List.getElem?_replicate, if_pos (by omega)]
  rfl
theorem stood_none (w h : Int) (hw : 0 ≤ w) (hh : 0 ≤ h) : Stood w h (List.replicate (w * h).toNat false) (fun _ => False) := by
  have := Int.mul_nonneg hw hh
  refine ⟨by rw [List.length_replicate]; omega, fun c hc => ?_⟩
  have := num_lt hc
  rw [List.getD_eq_getElem?_getD, List.getElem?_replicate, if_pos (by omega)]
  simp
theorem limited_sides {c : Conf} (h : limited c = true) : 1 ≤ c.W ∧ c.W ≤ 16 ∧ 1 ≤ c.H ∧ c.H ≤ 16 ∧ 1 ≤ c.height ∧ c.height ≤ 8 := by
  unfold limited upTo at h
  simp only [Bool.and_eq_true, decide_eq_true_eq] at h
  omega

/- What a config's uses are, once each part was laid. -/
theorem flat_mem {c : Conf} {x : Cell} : x ∈ homes c ↔ ∃ r ∈ c.robots, x = r.1 ∨ x = second r := by
  unfold homes
  rw [List.mem_flatMap]
  simp [cellsOf]
section
variable {c : Conf} (hl : limited c = true)
include hl
theorem lay1 {u1 : List Int} (e1 : takeAll c.W c.H 1 (List.replicate (c.W * c.H).toNat 0) c.blocked = some u1) :
    (∀ b ∈ c.blocked, In c.W c.H b) ∧ c.blocked.Nodup ∧ Us c.W c.H u1 (fun x => if x ∈ c.blocked then 1 else 0) := by
  obtain ⟨s1, s2, s3, s4, _⟩ := limited_sides hl
  obtain ⟨h1, h2, h3, _⟩ := takeAll_some (by decide) _ (us_zero c.W c.H (by omega) (by omega)) e1
  exact ⟨fun b hb => (h1 b hb).1, h2, h3⟩
end
theorem open_blk {c : Conf} {f : Cell → Int} (hf : ∀ x, f x = 1 ↔ x ∈ c.blocked) (x : Cell) : openF c.W c.H f x ↔ openR c x := by
  unfold openF openR
  rw [Ne, hf x]
theorem served_blk {c : Conf} {f : Cell → Int} (hf : ∀ x, f x = 1 ↔ x ∈ c.blocked) (x : Cell) : servedF c.W c.H f x ↔ besideR c x := by
  unfold servedF besideR
  rw [open_blk hf, open_blk hf]

theorem new_some {c : Conf} {G : GS} (e : newP c = some G) : mayR c ∧ G.w = c.W ∧ G.h = c.H ∧ G.ports = c.ports ∧ Us c.W c.H G.uses (useR c) := by
  unfold newP at e
  split at e
  · rename_i hl
    obtain ⟨u1, e1, e⟩ := Option.bind_eq_some_iff.1 e
    obtain ⟨u2, e2, e⟩ := Option.bind_eq_some_iff.1 e
    obtain ⟨u3, e3, e⟩ := Option.bind_eq_some_iff.1 e
    obtain ⟨bins, e4, e⟩ := Option.bind_eq_some_iff.1 e
    split at e2
    · rename_i hp8
      split at e3
      · rename_i hr8
        split at e
        · rename_i hmb
          cases e
          obtain ⟨s1, s2, s3, s4, _⟩ := limited_sides hl
          obtain ⟨a1, a2, U1⟩ := lay1 hl e1
          obtain ⟨e2', sv⟩ := (takeP_eq c.W c.H c.ports U1).1 u2 e2
          obtain ⟨b1, b2, U2, _⟩ := takeAll_some (by decide) _ U1 e2'
          rw [takeR_eq] at e3
          obtain ⟨d1, d2, U3, _⟩ := takeAll_some (by decide) _ U2 e3
          have pb : ∀ x, x ∈ c.ports → x ∉ c.blocked := fun x hx hb => by have := (b1 x hx).2; rw [if_pos hb] at this; cases this
          have hb : ∀ x, x ∈ homes c → x ∉ c.ports ∧ x ∉ c.blocked := fun x hx => by
            have := (d1 x hx).2
            by_cases q1 : x ∈ c.ports
            · rw [if_pos q1] at this; cases this
            · rw [if_neg q1] at this
              refine ⟨q1, fun q2 => ?_⟩
              rw [if_pos q2] at this; cases this
          have f1 : ∀ x, (if x ∈ c.blocked then (1 : Int) else 0) = 1 ↔ x ∈ c.blocked := fun x => by by_cases q : x ∈ c.blocked <;> simp [q]
          have f3 : ∀ x, (if x ∈ List.flatMap cellsOf c.robots then (3 : Int) else if x ∈ c.ports then 2 else if x ∈ c.blocked then 1 else 0) = 1 ↔ x ∈ c.blocked := fun x => by
            by_cases q1 : x ∈ List.flatMap cellsOf c.robots
            · simp [q1, (hb x q1).2]
            · by_cases q2 : x ∈ c.ports
              · simp [q1, q2, pb x q2]
              · by_cases q3 : x ∈ c.blocked <;> simp [q1, q2, q3]
          have U4 := stackUs_us U3
          have sU : ∀ x, servedU c.W c.H u3 x = true ↔ besideR c x := fun x => (servedU_iff U3 x).trans (served_blk f3 x)
          have us4 : Us c.W c.H (stackUs c.W c.H u3) (useR c) := by
            refine ⟨U4.len, fun x hx => (U4.at_ x hx).trans ?_⟩
            unfold useR homes
            simp only [sU]
            by_cases q1 : x ∈ List.flatMap cellsOf c.robots
            · simp [q1]
            · by_cases q2 : x ∈ c.ports
              · simp [q1, q2]
              · by_cases q3 : x ∈ c.blocked <;> simp [q1, q2, q3]
          have st : ∀ x, stackedU c.W c.H (stackUs c.W c.H u3) x = true ↔ stackedR c x := fun x => by
            rw [stackedU_iff us4]
            unfold stackedR openR useR
            by_cases q1 : x ∈ homes c
            · simp [q1]
            · by_cases q2 : x ∈ c.ports
              · simp [q1, q2]
              · by_cases q3 : x ∈ c.blocked
                · simp [q1, q2, q3]
                · by_cases q4 : besideR c x <;> simp [q1, q2, q3, q4]
          obtain ⟨g1, g2, g3⟩ := carry_some _ (stood_none c.W c.H (by omega) (by omega)) e4
          rw [List.nil_append] at g3
          subst g3
          refine ⟨⟨hl, hp8, hr8, fun b hb' => ⟨a1 b hb', fun hp => pb b hp hb'⟩, a2, fun p hp => ⟨(b1 p hp).1, fun hh => (hb p hh).1 hp, (served_blk f1 p).1 (sv p hp)⟩, b2, fun r hr => ?_, d2, fun s hs => ⟨(st _).1 (g1 s hs).1, (g1 s hs).2.2⟩, g2, hmb⟩, rfl, rfl, rfl, us4⟩
          have m1 : r.1 ∈ homes c := flat_mem.2 ⟨r, hr, Or.inl rfl⟩
          have m2 : second r ∈ homes c := flat_mem.2 ⟨r, hr, Or.inr rfl⟩
          exact ⟨⟨(d1 _ m1).1, (hb _ m1).2⟩, (d1 _ m2).1, (hb _ m2).2⟩
        · cases e
      · cases e3
    · cases e2
  · cases e
theorem new_none {c : Conf} (e : newP c = none) : ¬ mayR c := by
  rintro ⟨hl, hp8, hr8, hb, nb, hp, np, hr, nr, hs, ns, hm⟩
  obtain ⟨s1, s2, s3, s4, _⟩ := limited_sides hl
  unfold newP at e
  rw [if_pos hl] at e
  cases e1 : takeAll c.W c.H 1 (List.replicate (c.W * c.H).toNat 0) c.blocked with
  | none => exact takeAll_none (by decide) _ (us_zero c.W c.H (by omega) (by omega)) e1 ⟨fun x hx => ⟨(hb x hx).1, rfl⟩, nb⟩
  | some u1 =>
    rw [e1, Option.bind_some, if_pos hp8] at e
    obtain ⟨a1, a2, U1⟩ := lay1 hl e1
    have f1 : ∀ x, (if x ∈ c.blocked then (1 : Int) else 0) = 1 ↔ x ∈ c.blocked := fun x => by by_cases q : x ∈ c.blocked <;> simp [q]
    have pb : ∀ x, x ∈ c.ports → x ∉ c.blocked := fun x hx hb' => (hb x hb').2 hx
    cases e2 : takeP c.W c.H u1 c.ports with
    | none =>
      rcases (takeP_eq c.W c.H c.ports U1).2 e2 with q | q
      · exact takeAll_none (by decide) _ U1 q ⟨fun x hx => ⟨(hp x hx).1, if_neg (pb x hx)⟩, np⟩
      · exact q fun x hx => (served_blk f1 x).2 (hp x hx).2.2
    | some u2 =>
      rw [e2, Option.bind_some, if_pos hr8] at e
      obtain ⟨e2', sv⟩ := (takeP_eq c.W c.H c.ports U1).1 u2 e2
      obtain ⟨b1, b2, U2, _⟩ := takeAll_some (by decide) _ U1 e2'
      have hm' : ∀ x, x ∈ homes c → In c.W c.H x ∧ x ∉ c.blocked := fun x hx => by
        obtain ⟨r, hr', e3⟩ := flat_mem.1 hx
        rcases e3 with rfl | rfl
        · exact (hr r hr').1
        · exact (hr r hr').2
      have hh : ∀ x, x ∈ homes c → x ∉ c.ports := fun x hx hp' => (hp x hp').2.1 hx
      cases e3 : takeR c.W c.H u2 c.robots with
      | none =>
        rw [takeR_eq] at e3
        exact takeAll_none (by decide) _ U2 e3 ⟨fun x hx => ⟨(hm' x hx).1, by rw [if_neg (hh x hx), if_neg (hm' x hx).2]⟩, nr⟩
      | some u3 =>
        rw [e3, Option.bind_some] at e
        rw [takeR_eq] at e3
        obtain ⟨d1, d2, U3, _⟩ := takeAll_some (by decide) _ U2 e3
        have f3 : ∀ x, (if x ∈ List.flatMap cellsOf c.robots then (3 : Int) else if x ∈ c.ports then 2 else if x ∈ c.blocked then 1 else 0) = 1 ↔ x ∈ c.blocked := fun x => by
          by_cases q1 : x ∈ List.flatMap cellsOf c.robots
          · simp [q1, (hm' x q1).2]
          · by_cases q2 : x ∈ c.ports
            · simp [q1, q2, pb x q2]
            · by_cases q3 : x ∈ c.blocked <;> simp [q1, q2, q3]
        have U4 := stackUs_us U3
        have sU : ∀ x, servedU c.W c.H u3 x = true ↔ besideR c x := fun x => (servedU_iff U3 x).trans (served_blk f3 x)
        have st : ∀ x, stackedR c x → stackedU c.W c.H (stackUs c.W c.H u3) x = true := fun x hx => by
          rw [stackedU_iff U4]
          obtain ⟨⟨q1, q2⟩, q3, q4, q5⟩ := hx
          refine ⟨q1, ?_⟩
          have q4' : x ∉ List.flatMap cellsOf c.robots := q4
          simp only [q2, q3, q4', if_false, true_and, (sU x).2 q5, if_true]
        cases e4 : carry c.W c.H (stackUs c.W c.H u3) c.height (List.replicate (c.W * c.H).toNat false) [] c.stacks with
        | none => exact carry_none _ (stood_none c.W c.H (by omega) (by omega)) e4 ⟨fun s hs' => ⟨st _ (hs s hs').1, fun h => h, (hs s hs').2⟩, ns⟩
        | some bins =>
          rw [e4, Option.bind_some] at e
          obtain ⟨g1, g2, g3⟩ := carry_some _ (stood_none c.W c.H (by omega) (by omega)) e4
          rw [List.nil_append] at g3
          subst g3
          rw [if_pos hm] at e
          cases e
/- Nor can there be more blocked cells, or stacks, than cells. -/
theorem new_few {c : Conf} (h : mayR c) : c.blocked.length ≤ 256 ∧ c.stacks.length ≤ 256 := by
  cases e : newP c with
  | none => exact absurd h (new_none e)
  | some G =>
    unfold newP at e
    obtain ⟨s1, s2, s3, s4, _⟩ := limited_sides h.1
    have hm := Int.mul_nonneg (show 0 ≤ c.W by omega) (show 0 ≤ c.H by omega)
    have hx : c.W * c.H ≤ 16 * c.H := Int.mul_le_mul_of_nonneg_right s2 (by omega)
    rw [if_pos h.1] at e
    obtain ⟨u1, e1, e⟩ := Option.bind_eq_some_iff.1 e
    obtain ⟨u2, e2, e⟩ := Option.bind_eq_some_iff.1 e
    obtain ⟨u3, e3, e⟩ := Option.bind_eq_some_iff.1 e
    obtain ⟨bins, e4, e⟩ := Option.bind_eq_some_iff.1 e
    obtain ⟨_, _, _, k1⟩ := takeAll_some (by decide) _ (us_zero c.W c.H (by omega) (by omega)) e1
    have k2 := carry_len _ (by rw [List.length_replicate]; omega) e4
    rw [List.count_replicate_self] at k1 k2
    omega
end Go.Proofs.Ytnaojlngdfolaaa.Grid
