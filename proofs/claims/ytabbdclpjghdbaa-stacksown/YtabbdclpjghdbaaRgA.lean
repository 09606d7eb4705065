/-
  Chapter 7 in plain numbers and lists: cells, poses, what each call of package grid reckons, what the chapter's own answer reckons; that both come to the same.
  Which configs may be: what New reckons, cell by cell, comes to the chapter's conditions.
  Lists and grids in memory: by which blocks they are held; what stays while nothing old is turned.
  Cells, poses, and what a grid says of one.
-/
import Derived.Test.YtabbdclpjghdbaaChecked
import Derived.WalkKit
import Derived.ProofKit
import Derived.OpenShut
import Derived.BigQuiet
import Derived.Deep.QuietTactic
import Derived.WalkSmall
import Derived.Laws.AppendOwnNone
import Derived.OwnWalk
import Derived.Laws.Cover1
import Derived.Laws.Pointers
import Derived.Deep.AppendLies
import Derived.Maps.AppendAt
namespace Go.Proofs.Ytabbdclpjghdbaa.Grid
set_option linter.unusedVariables false
set_option linter.unusedSimpArgs false

abbrev Cell := Int × Int
abbrev Pose := Cell × Bool
abbrev Stk := Cell × List Int
structure Conf where
  W : Int
  H : Int
  height : Int
  blocked : List Cell
  ports : List Cell
  robots : List Pose
  stacks : List Stk
  unit : Int
  accel : Int
  speed : Int
  turn : Int
  hoist : Int
  queue : Int
  resend : Int
  budget : Int
  back : Bool

/- modulo 2^64 -/
def w64 (n : Int) : Int := (n + 9223372036854775808) % 18446744073709551616 - 9223372036854775808
theorem w64_id {n : Int} (h : -9223372036854775808 ≤ n) (k : n < 9223372036854775808) : w64 n = n := by unfold w64; omega
theorem w64_bd (n : Int) : -9223372036854775808 ≤ w64 n ∧ w64 n < 9223372036854775808 := by unfold w64; omega
def I64 (n : Int) : Prop := -9223372036854775808 ≤ n ∧ n < 9223372036854775808
def C64 (c : Cell) : Prop := I64 c.1 ∧ I64 c.2

def east (c : Cell) : Cell := (w64 (c.1 + 1), c.2)
def south (c : Cell) : Cell := (c.1, w64 (c.2 + 1))
def second (p : Pose) : Cell := if p.2 then south p.1 else east p.1
def cellsOf (p : Pose) : List Cell := [p.1, second p]

/- A cell of a grid of w by h. -/
def In (w h : Int) (c : Cell) : Prop := 0 ≤ c.1 ∧ c.1 < w ∧ 0 ≤ c.2 ∧ c.2 < h
instance (w h : Int) (c : Cell) : Decidable (In w h c) := by unfold In; infer_instance
def number (w h : Int) (c : Cell) : Int := if In w h c then c.2 * w + c.1 else -1
def cellAt (w : Int) (i : Nat) : Cell := ((i : Int) % w, (i : Int) / w)

theorem num_lt {w h : Int} {c : Cell} (hi : In w h c) : 0 ≤ c.2 * w + c.1 ∧ c.2 * w + c.1 < w * h := by
  obtain ⟨h1, h2, h3, h4⟩ := hi
  have a := Int.mul_nonneg h3 (show 0 ≤ w by omega)
  have b : (c.2 + 1) * w ≤ h * w := Int.mul_le_mul_of_nonneg_right (by omega) (by omega)
  rw [Int.add_mul, Int.one_mul] at b
  rw [Int.mul_comm w h]
  omega
theorem num_inj {w h : Int} {c d : Cell} (hc : In w h c) (hd : In w h d) (e : c.2 * w + c.1 = d.2 * w + d.1) : c = d := by
  obtain ⟨h1, h2, h3, h4⟩ := hc
  obtain ⟨k1, k2, k3, k4⟩ := hd
  have a : c.1 = d.1 := by
    have := congrArg (· % w) e
    simp only [Int.add_comm (_ * w), Int.add_mul_emod_self_right] at this
    rwa [Int.emod_eq_of_lt h1 h2, Int.emod_eq_of_lt k1 k2] at this
  have b : c.2 = d.2 := by
    have e2 : c.2 * w = d.2 * w := by omega
    exact Int.eq_of_mul_eq_mul_right (by omega) e2
  exact Prod.ext a b
theorem cellAt_num {w h : Int} {c : Cell} (hc : In w h c) : cellAt w (c.2 * w + c.1).toNat = c := by
  obtain ⟨h1, h2, h3, h4⟩ := hc
  have hb := (num_lt ⟨h1, h2, h3, h4⟩ : _).1
  unfold cellAt
  rw [Int.toNat_of_nonneg hb]
  refine Prod.ext ?_ ?_
  · simp only [Int.add_comm (_ * w), Int.add_mul_emod_self_right]
    exact Int.emod_eq_of_lt h1 h2
  · simp only [Int.add_comm (_ * w)]
    rw [Int.add_mul_ediv_right _ _ (by omega), Int.ediv_eq_zero_of_lt h1 h2]
    omega
theorem cellAt_in {w h : Int} (hw : 0 < w) {i : Nat} (hi : (i : Int) < w * h) : In w h (cellAt w i) := by
  unfold cellAt In
  have h3 : (0 : Int) ≤ (i : Int) / w := Int.ediv_nonneg (by omega) (by omega)
  refine ⟨Int.emod_nonneg _ (by omega), Int.emod_lt_of_pos _ hw, h3, ?_⟩
  exact Int.ediv_lt_of_lt_mul hw (by rw [Int.mul_comm]; exact hi)
theorem num_cellAt {w : Int} (i : Nat) : (cellAt w i).2 * w + (cellAt w i).1 = i := by
  unfold cellAt
  have := Int.mul_ediv_add_emod (i : Int) w
  rw [Int.mul_comm] at this
  exact this

/- The uses of the cells, by their numbers: what f tells of each. -/
structure Us (w h : Int) (us : List Int) (f : Cell → Int) : Prop where
  len : (us.length : Int) = w * h
  at_ : ∀ c, In w h c → us.getD (c.2 * w + c.1).toNat 0 = f c
def take (w h : Int) (us : List Int) (c : Cell) (u : Int) : Option (List Int) :=
  if In w h c ∧ us.getD (c.2 * w + c.1).toNat 0 = 0 then some (us.set (c.2 * w + c.1).toNat u) else none
theorem getD_set (us : List Int) (i j : Nat) (u : Int) (hi : i < us.length) : (us.set i u).getD j 0 = if j = i then u else us.getD j 0 := by
  rw [List.getD_eq_getElem?_getD, List.getD_eq_getElem?_getD, List.getElem?_set]
  by_cases e : i = j
  · subst e; simp [hi]
  · rw [if_neg e, if_neg (fun h => e h.symm)]
theorem Us.idx {w h : Int} {us : List Int} {f : Cell → Int} (hU : Us w h us f) {c : Cell} (hc : In w h c) : (c.2 * w + c.1).toNat < us.length := by
  have := num_lt hc
  have := hU.len
  omega
theorem Us.set {w h : Int} {us : List Int} {f : Cell → Int} (hU : Us w h us f) {c : Cell} (hc : In w h c) (u : Int) : Us w h (us.set (c.2 * w + c.1).toNat u) (fun x => if x = c then u else f x) := by
  refine ⟨by rw [List.length_set]; exact hU.len, fun x hx => ?_⟩
  rw [getD_set _ _ _ _ (hU.idx hc)]
  by_cases e : x = c
  · subst e; simp
  · rw [if_neg e, if_neg, hU.at_ x hx]
    intro e2
    have h1 := num_lt hc
    have h2 := num_lt hx
    exact e (num_inj hx hc (by omega))
theorem take_some {w h : Int} {us us' : List Int} {f : Cell → Int} (hU : Us w h us f) {c : Cell} {u : Int} (hu : u ≠ 0) (e : take w h us c u = some us') :
    In w h c ∧ f c = 0 ∧ Us w h us' (fun x => if x = c then u else f x) ∧ us'.count 0 + 1 = us.count 0 := by
  unfold take at e
  split at e
  · rename_i hc
    cases e
    refine ⟨hc.1, by rw [← hU.at_ c hc.1]; exact hc.2, hU.set hc.1 u, ?_⟩
    have hi := hU.idx hc.1
    have hz := hc.2
    rw [List.getD_eq_getElem?_getD, List.getElem?_eq_getElem hi, Option.getD_some] at hz
    rw [List.count_set hi, hz]
    have : 0 < us.count 0 := List.count_pos_iff.2 (hz ▸ List.getElem_mem hi)
    simp [hu]
    omega
  · cases e
theorem take_none {w h : Int} {us : List Int} {f : Cell → Int} (hU : Us w h us f) {c : Cell} {u : Int} (e : take w h us c u = none) : ¬ (In w h c ∧ f c = 0) := by
  unfold take at e
  split at e
  · cases e
  · rename_i hn
    exact fun hc => hn ⟨hc.1, by rw [hU.at_ c hc.1]; exact hc.2⟩
def takeAll (w h u : Int) : List Int → List Cell → Option (List Int)
  | us, [] => some us
  | us, c :: l => (take w h us c u).bind fun us' => takeAll w h u us' l
theorem takeAll_some {w h u : Int} (hu : u ≠ 0) : ∀ (l : List Cell) {us us' : List Int} {f : Cell → Int}, Us w h us f → takeAll w h u us l = some us' →
    (∀ c ∈ l, In w h c ∧ f c = 0) ∧ l.Nodup ∧ Us w h us' (fun x => if x ∈ l then u else f x) ∧ us'.count 0 + l.length = us.count 0
  | [], us, us', f, hU, e => by
    cases e
    exact ⟨fun c hc => by simp at hc, List.nodup_nil, by simpa using hU, rfl⟩
  | c :: l, us, us', f, hU, e => by
    unfold takeAll at e
    cases ht : take w h us c u with
    | none => rw [ht] at e; cases e
    | some us1 =>
      rw [ht] at e
      obtain ⟨h1, h2, h3, h4⟩ := take_some hU hu ht
      obtain ⟨k1, k2, k3, k4⟩ := takeAll_some hu l h3 e
      refine ⟨fun x hx => ?_, ?_, ⟨k3.len, fun x hx => ?_⟩, by rw [List.length_cons]; omega⟩
      · rcases List.mem_cons.1 hx with rfl | hx
        · exact ⟨h1, h2⟩
        · have := (k1 x hx).2
          by_cases e1 : x = c
          · subst e1; rw [if_pos rfl] at this; exact absurd this hu
          · rw [if_neg e1] at this
            exact ⟨(k1 x hx).1, this⟩
      · refine List.nodup_cons.2 ⟨fun hm => ?_, k2⟩
        have := (k1 c hm).2
        rw [if_pos rfl] at this
        exact hu this
      · rw [k3.at_ x hx]
        by_cases e1 : x ∈ l
        · rw [if_pos e1, if_pos (List.mem_cons_of_mem _ e1)]
        · rw [if_neg e1]
          by_cases e2 : x = c
          · subst e2; simp
          · rw [if_neg e2, if_neg]
            intro hm
            rcases List.mem_cons.1 hm with e3 | e3
            · exact e2 e3
            · exact e1 e3
theorem takeAll_none {w h u : Int} (hu : u ≠ 0) : ∀ (l : List Cell) {us : List Int} {f : Cell → Int}, Us w h us f → takeAll w h u us l = none → ¬ ((∀ c ∈ l, In w h c ∧ f c = 0) ∧ l.Nodup)
  | [], us, f, hU, e => by cases e
  | c :: l, us, f, hU, e => by
    unfold takeAll at e
    rintro ⟨q1, q2⟩
    cases ht : take w h us c u with
    | none => exact take_none hU ht (q1 c List.mem_cons_self)
    | some us1 =>
      rw [ht] at e
      obtain ⟨h1, h2, h3, h4⟩ := take_some hU hu ht
      have q3 := List.nodup_cons.1 q2
      refine takeAll_none hu l h3 e ⟨fun x hx => ⟨(q1 x (List.mem_cons_of_mem _ hx)).1, ?_⟩, q3.2⟩
      rw [if_neg (fun e1 : x = c => q3.1 (e1 ▸ hx))]
      exact (q1 x (List.mem_cons_of_mem _ hx)).2

/- Open cells, by the uses. -/
def openU (w h : Int) (us : List Int) (c : Cell) : Bool := decide (In w h c) && decide (us.getD (c.2 * w + c.1).toNat 0 ≠ 1)
def servedU (w h : Int) (us : List Int) (c : Cell) : Bool := openU w h us (east c) || openU w h us (south c)
def openF (w h : Int) (f : Cell → Int) (c : Cell) : Prop := In w h c ∧ f c ≠ 1
theorem openU_iff {w h : Int} {us : List Int} {f : Cell → Int} (hU : Us w h us f) (c : Cell) : openU w h us c = true ↔ openF w h f c := by
  unfold openU openF
  rw [Bool.and_eq_true, decide_eq_true_eq, decide_eq_true_eq]
  constructor
  · rintro ⟨a, b⟩; exact ⟨a, by rw [← hU.at_ c a]; exact b⟩
  · rintro ⟨a, b⟩; exact ⟨a, by rw [hU.at_ c a]; exact b⟩
theorem openF_congr {w h : Int} {f g : Cell → Int} (e : ∀ c, f c = 1 ↔ g c = 1) (c : Cell) : openF w h f c ↔ openF w h g c := by
  unfold openF
  rw [Ne, Ne, e c]
def servedF (w h : Int) (f : Cell → Int) (c : Cell) : Prop := openF w h f (east c) ∨ openF w h f (south c)
theorem servedU_iff {w h : Int} {us : List Int} {f : Cell → Int} (hU : Us w h us f) (c : Cell) : servedU w h us c = true ↔ servedF w h f c := by
  unfold servedU servedF
  rw [Bool.or_eq_true, openU_iff hU, openU_iff hU]
theorem servedF_congr {w h : Int} {f g : Cell → Int} (e : ∀ c, f c = 1 ↔ g c = 1) (c : Cell) : servedF w h f c ↔ servedF w h g c := by
  unfold servedF
  rw [openF_congr e, openF_congr e]

/- Ports: each is taken, and served. -/
def takeP (w h : Int) : List Int → List Cell → Option (List Int)
  | us, [] => some us
  | us, c :: l => (take w h us c 2).bind fun us' => if servedU w h us' c then takeP w h us' l else none
theorem takeP_eq (w h : Int) : ∀ (l : List Cell) {us : List Int} {f : Cell → Int}, Us w h us f →
    (∀ us', takeP w h us l = some us' → takeAll w h 2 us l = some us' ∧ ∀ c ∈ l, servedF w h f c) ∧ (takeP w h us l = none → takeAll w h 2 us l = none ∨ ¬ ∀ c ∈ l, servedF w h f c)
  | [], us, f, hU => ⟨fun us' e => ⟨e, fun c hc => by simp at hc⟩, fun e => by cases e⟩
  | c :: l, us, f, hU => by
    unfold takeP takeAll
    cases ht : take w h us c 2 with
    | none => exact ⟨fun us' e => (by cases e), fun _ => Or.inl rfl⟩
    | some us1 =>
      obtain ⟨h1, h2, h3, h4⟩ := take_some hU (by decide) ht
      have hs : ∀ x, servedF w h f x ↔ servedF w h (fun x => if x = c then 2 else f x) x := fun x => servedF_congr (fun y => by
        by_cases e : y = c
        · subst e; simp [h2]
        · simp [e]) x
      simp only [Option.bind_some]
      obtain ⟨k1, k2⟩ := takeP_eq w h l h3
      by_cases hv : servedU w h us1 c = true
      · rw [if_pos hv]
        refine ⟨fun us' e => ?_, fun e => ?_⟩
        · obtain ⟨q1, q2⟩ := k1 us' e
          refine ⟨q1, fun x hx => ?_⟩
          rcases List.mem_cons.1 hx with rfl | hx
          · exact (hs x).2 ((servedU_iff h3 x).1 hv)
          · exact (hs x).2 (q2 x hx)
        · rcases k2 e with q | q
          · exact Or.inl q
          · exact Or.inr fun q' => q fun x hx => (hs x).1 (q' x (List.mem_cons_of_mem _ hx))
      · rw [if_neg hv]
        exact ⟨fun us' e => (by cases e), fun _ => Or.inr fun q => hv ((servedU_iff h3 c).2 ((hs c).1 (q c List.mem_cons_self)))⟩

/- Homes: two cells a robot. -/
def takeR (w h : Int) : List Int → List Pose → Option (List Int)
  | us, [] => some us
  | us, p :: l => (take w h us p.1 3).bind fun us' => (take w h us' (second p) 3).bind fun us'' => takeR w h us'' l
theorem takeR_eq (w h : Int) : ∀ (l : List Pose) (us : List Int), takeR w h us l = takeAll w h 3 us (l.flatMap cellsOf)
  | [], us => rfl
  | p :: l, us => by
    unfold takeR
    rw [List.flatMap_cons, show cellsOf p = [p.1, second p] from rfl]
    show _ = takeAll w h 3 us (p.1 :: second p :: l.flatMap cellsOf)
    unfold takeAll
    cases take w h us p.1 3 with
    | none => rfl
    | some us1 =>
      simp only [Option.bind_some]
      unfold takeAll
      cases take w h us1 (second p) 3 with
      | none => rfl
      | some us2 => simp only [Option.bind_some]; exact takeR_eq w h l us2

/- Stack cells. -/
def stackOf (w h : Int) (us : List Int) (i : Nat) : Int := if us.getD i 0 = 0 ∧ servedU w h us (cellAt w i) = true then 4 else us.getD i 0
def stackUs (w h : Int) (us : List Int) : List Int := (List.range us.length).map (stackOf w h us)
theorem stackUs_us {w h : Int} {us : List Int} {f : Cell → Int} (hU : Us w h us f) : Us w h (stackUs w h us) (fun x => if f x = 0 ∧ (servedU w h us x = true) then 4 else f x) := by
  refine ⟨by unfold stackUs; rw [List.length_map, List.length_range]; exact hU.len, fun c hc => ?_⟩
  have hi := hU.idx hc
  unfold stackUs
  rw [List.getD_eq_getElem?_getD, List.getElem?_map, List.getElem?_range hi]
  simp only [Option.map_some, Option.getD_some]
  unfold stackOf
  rw [hU.at_ c hc, cellAt_num hc]

/- Stacks: each on a stack cell where none stands yet. -/
def stackedU (w h : Int) (us : List Int) (c : Cell) : Bool := decide (In w h c) && decide (us.getD (c.2 * w + c.1).toNat 0 = 4)
theorem stackedU_iff {w h : Int} {us : List Int} {f : Cell → Int} (hU : Us w h us f) (c : Cell) : stackedU w h us c = true ↔ In w h c ∧ f c = 4 := by
  unfold stackedU
  rw [Bool.and_eq_true, decide_eq_true_eq, decide_eq_true_eq]
  constructor
  · rintro ⟨a, b⟩; exact ⟨a, by rw [← hU.at_ c a]; exact b⟩
  · rintro ⟨a, b⟩; exact ⟨a, by rw [hU.at_ c a]; exact b⟩
end Go.Proofs.Ytabbdclpjghdbaa.Grid
namespace Go.Proofs.Ytabbdclpjghdbaa.Grid
set_option linter.unusedVariables false
set_option linter.unusedSimpArgs false

def carry (w h : Int) (us : List Int) (height : Int) : List Bool → List Int → List Stk → Option (List Int)
  | st, acc, [] => some acc
  | st, acc, s :: l => if stackedU w h us s.1 = true ∧ st.getD (s.1.2 * w + s.1.1).toNat false = false ∧ (s.2.length : Int) ≤ height then
      carry w h us height (st.set (s.1.2 * w + s.1.1).toNat true) (acc ++ s.2) l else none
/- Which cells are stood on. -/
structure Stood (w h : Int) (st : List Bool) (D : Cell → Prop) : Prop where
  len : (st.length : Int) = w * h
  at_ : ∀ c, In w h c → (st.getD (c.2 * w + c.1).toNat false = true ↔ D c)
theorem getD_setB (us : List Bool) (i j : Nat) (u : Bool) (hi : i < us.length) : (us.set i u).getD j false = if j = i then u else us.getD j false := by
  rw [List.getD_eq_getElem?_getD, List.getD_eq_getElem?_getD, List.getElem?_set]
  by_cases e : i = j
  · subst e; simp [hi]
  · rw [if_neg e, if_neg (fun h => e h.symm)]
theorem Stood.set {w h : Int} {st : List Bool} {D : Cell → Prop} (hS : Stood w h st D) {c : Cell} (hc : In w h c) : Stood w h (st.set (c.2 * w + c.1).toNat true) (fun x => x = c ∨ D x) := by
  refine ⟨by rw [List.length_set]; exact hS.len, fun x hx => ?_⟩
  have h1 := num_lt hc
  have h2 := num_lt hx
  have h3 := hS.len
  rw [getD_setB _ _ _ _ (by omega)]
  by_cases e : x = c
  · subst e; simp
  · rw [if_neg (fun e2 => e (num_inj hx hc (by omega))), hS.at_ x hx]
    simp [e]
theorem bool_not {b : Bool} {p : Prop} (h : b = true ↔ p) : b = false ↔ ¬ p := by
  rw [← h, Bool.not_eq_true]
theorem carry_some {w h : Int} {us : List Int} {height : Int} : ∀ (l : List Stk) {st : List Bool} {acc bins : List Int} {D : Cell → Prop}, Stood w h st D → carry w h us height st acc l = some bins →
    (∀ s ∈ l, stackedU w h us s.1 = true ∧ ¬ D s.1 ∧ (s.2.length : Int) ≤ height) ∧ (l.map Prod.fst).Nodup ∧ bins = acc ++ l.flatMap Prod.snd
  | [], st, acc, bins, D, hS, e => by
    cases e
    exact ⟨fun s hs => by simp at hs, List.nodup_nil, by simp⟩
  | s :: l, st, acc, bins, D, hS, e => by
    unfold carry at e
    split at e
    · rename_i hc
      have hin : In w h s.1 := by
        have := hc.1
        unfold stackedU at this
        rw [Bool.and_eq_true, decide_eq_true_eq] at this
        exact this.1
      obtain ⟨k1, k2, k3⟩ := carry_some l (hS.set hin) e
      refine ⟨fun x hx => ?_, ?_, ?_⟩
      · rcases List.mem_cons.1 hx with rfl | hx
        · exact ⟨hc.1, (bool_not (hS.at_ _ hin)).1 hc.2.1, hc.2.2⟩
        · obtain ⟨q1, q2, q3⟩ := k1 x hx
          exact ⟨q1, fun hd => q2 (Or.inr hd), q3⟩
      · rw [List.map_cons, List.nodup_cons]
        refine ⟨fun hm => ?_, k2⟩
        obtain ⟨y, hy, e1⟩ := List.mem_map.1 hm
        exact (k1 y hy).2.1 (Or.inl e1)
      · rw [k3, List.flatMap_cons, List.append_assoc]
    · cases e
theorem carry_none {w h : Int} {us : List Int} {height : Int} : ∀ (l : List Stk) {st : List Bool} {acc : List Int} {D : Cell → Prop}, Stood w h st D → carry w h us height st acc l = none →
    ¬ ((∀ s ∈ l, stackedU w h us s.1 = true ∧ ¬ D s.1 ∧ (s.2.length : Int) ≤ height) ∧ (l.map Prod.fst).Nodup)
  | [], st, acc, D, hS, e => by cases e
  | s :: l, st, acc, D, hS, e => by
    unfold carry at e
    rintro ⟨q1, q2⟩
    obtain ⟨a1, a2, a3⟩ := q1 s List.mem_cons_self
    have hin : In w h s.1 := by
      have := a1
      unfold stackedU at this
      rw [Bool.and_eq_true, decide_eq_true_eq] at this
      exact this.1
    rw [if_pos ⟨a1, (bool_not (hS.at_ _ hin)).2 a2, a3⟩] at e
    rw [List.map_cons, List.nodup_cons] at q2
    refine carry_none l (hS.set hin) e ⟨fun x hx => ?_, q2.2⟩
    obtain ⟨b1, b2, b3⟩ := q1 x (List.mem_cons_of_mem _ hx)
    exact ⟨b1, fun hd => hd.elim (fun e1 => q2.1 (List.mem_map.2 ⟨x, hx, e1⟩)) b2, b3⟩
/- Of stacks that stand there can be no more than there are cells. -/
theorem carry_len {w h : Int} {us : List Int} {height : Int} : ∀ (l : List Stk) {st : List Bool} {acc bins : List Int}, (st.length : Int) = w * h → carry w h us height st acc l = some bins → l.length ≤ st.count false
  | [], st, acc, bins, hl, e => Nat.zero_le _
  | s :: l, st, acc, bins, hl, e => by
    unfold carry at e
    split at e
    · rename_i hc
      have hin : In w h s.1 := by
        have := hc.1
        unfold stackedU at this
        rw [Bool.and_eq_true, decide_eq_true_eq] at this
        exact this.1
      have hi : (s.1.2 * w + s.1.1).toNat < st.length := by have := num_lt hin; omega
      have := carry_len l (by rw [List.length_set]; exact hl) e
      have hz := hc.2.1
      rw [List.getD_eq_getElem?_getD, List.getElem?_eq_getElem hi, Option.getD_some] at hz
      rw [List.count_set hi, hz] at this
      have hp : 0 < st.count false := List.count_pos_iff.2 (hz ▸ List.getElem_mem hi)
      simp at this
      rw [List.length_cons]
      omega
    · cases e

def mayBeP (l : List Int) : Prop := l.length ≤ 512 ∧ (∀ b ∈ l, 1 ≤ b ∧ b ≤ 1000000000) ∧ l.Nodup
instance (l : List Int) : Decidable (mayBeP l) := by unfold mayBeP; infer_instance
def upTo (v g : Int) : Bool := decide (1 ≤ v) && decide (v ≤ g)
/- Sorted, no two neighbours alike: none twice. -/
def sortedI (l : List Int) : List Int := l.mergeSort fun x y => decide (x ≤ y)
theorem pairs_of {s : List Int} (hs : s.Pairwise (· ≤ ·)) (h : ∀ i, 0 < i → i < s.length → s.getD i 0 ≠ s.getD (i - 1) 0) : s.Nodup := by
  induction s with
  | nil => exact List.nodup_nil
  | cons x l ih =>
    rw [List.pairwise_cons] at hs
    rw [List.nodup_cons]
    refine ⟨fun hm => ?_, ih hs.2 fun i h0 hi => ?_⟩
    · cases l with
      | nil => simp at hm
      | cons y r =>
        have h1 := h 1 (by omega) (by simp)
        simp at h1
        have h2 := hs.1 y List.mem_cons_self
        have h3 : y ≤ x := by
          rcases List.mem_cons.1 hm with e | e
          · omega
          · exact (List.pairwise_cons.1 hs.2).1 x e
        omega
    · have := h (i + 1) (by omega) (by simp; omega)
      simp only [Nat.add_sub_cancel, List.getD_cons_succ] at this
      obtain ⟨j, rfl⟩ : ∃ j, i = j + 1 := ⟨i - 1, by omega⟩
      simpa using this
theorem sorted_pair (l : List Int) : (sortedI l).Pairwise (· ≤ ·) := by
  have := List.pairwise_mergeSort (le := fun x y : Int => decide (x ≤ y)) (fun a b c h1 h2 => by simp at *; omega) (fun a b => by simp; omega) l
  exact this.imp (fun h => by simpa using h)
theorem sorted_perm (l : List Int) : (sortedI l).Perm l := List.mergeSort_perm l _
theorem mayBe_sorted (l : List Int) : mayBeP l ↔ l.length ≤ 512 ∧ ∀ i, i < (sortedI l).length → upTo ((sortedI l).getD i 0) 1000000000 = true ∧ (0 < i → (sortedI l).getD i 0 ≠ (sortedI l).getD (i - 1) 0) := by
  have hp := sorted_perm l
  have hs := sorted_pair l
  generalize sortedI l = s at *
  unfold mayBeP upTo
  refine and_congr Iff.rfl ⟨fun ⟨h1, h2⟩ i hi => ?_, fun h => ⟨fun b hb => ?_, ?_⟩⟩
  · rw [List.getD_eq_getElem?_getD, List.getElem?_eq_getElem hi, Option.getD_some]
    have hm := h1 _ (hp.mem_iff.1 (List.getElem_mem hi))
    refine ⟨by simp; exact hm, fun h0 => ?_⟩
    rw [List.getD_eq_getElem?_getD, List.getElem?_eq_getElem (by omega), Option.getD_some]
    intro e
    have := (List.getElem_inj ((hp.nodup_iff).2 h2)).1 e
    omega
  · obtain ⟨i, hi, e⟩ := List.getElem_of_mem (hp.mem_iff.2 hb)
    have := (h i hi).1
    rw [List.getD_eq_getElem?_getD, List.getElem?_eq_getElem hi, Option.getD_some, e] at this
    simpa using this
  · exact (hp.nodup_iff).1 (pairs_of hs fun i h0 hi => (h i hi).2 h0)

structure GS where
  w : Int
  h : Int
  uses : List Int
  ports : List Cell
def limited (c : Conf) : Bool := upTo c.unit 1000 && upTo c.accel 1000 && upTo c.speed 1000 && upTo c.turn 1000 && upTo c.hoist 1000 && upTo c.resend 1000 &&
  (upTo c.W 16 && upTo c.H 16 && upTo c.height 8 && upTo c.queue 16 && upTo c.budget 1048576)
def newP (c : Conf) : Option GS :=
  if limited c = true then
    (takeAll c.W c.H 1 (List.replicate (c.W * c.H).toNat 0) c.blocked).bind fun u1 =>
    (if c.ports.length ≤ 8 then takeP c.W c.H u1 c.ports else none).bind fun u2 =>
    (if c.robots.length ≤ 8 then takeR c.W c.H u2 c.robots else none).bind fun u3 =>
    (carry c.W c.H (stackUs c.W c.H u3) c.height (List.replicate (c.W * c.H).toNat false) [] c.stacks).bind fun bins =>
    if mayBeP bins then some ⟨c.W, c.H, stackUs c.W c.H u3, c.ports⟩ else none
  else none

/- The chapter's own words. -/
def openR (c : Conf) (x : Cell) : Prop := In c.W c.H x ∧ x ∉ c.blocked
def besideR (c : Conf) (x : Cell) : Prop := openR c (east x) ∨ openR c (south x)
def homes (c : Conf) : List Cell := c.robots.flatMap cellsOf
def stackedR (c : Conf) (x : Cell) : Prop := openR c x ∧ x ∉ c.ports ∧ x ∉ homes c ∧ besideR c x
def fitsR (c : Conf) (p : Pose) : Prop := openR c p.1 ∧ openR c (second p)
instance (c : Conf) (x : Cell) : Decidable (openR c x) := by unfold openR; infer_instance
instance (c : Conf) (x : Cell) : Decidable (besideR c x) := by unfold besideR; infer_instance
instance (c : Conf) (x : Cell) : Decidable (stackedR c x) := by unfold stackedR; infer_instance
instance (c : Conf) (p : Pose) : Decidable (fitsR c p) := by unfold fitsR; infer_instance
def mayR (c : Conf) : Prop :=
  limited c = true ∧ c.ports.length ≤ 8 ∧ c.robots.length ≤ 8 ∧ (∀ b ∈ c.blocked, In c.W c.H b ∧ b ∉ c.ports) ∧ c.blocked.Nodup ∧
  (∀ p ∈ c.ports, In c.W c.H p ∧ p ∉ homes c ∧ besideR c p) ∧ c.ports.Nodup ∧ (∀ r ∈ c.robots, fitsR c r) ∧ (homes c).Nodup ∧
  (∀ s ∈ c.stacks, stackedR c s.1 ∧ (s.2.length : Int) ≤ c.height) ∧ (c.stacks.map Prod.fst).Nodup ∧ mayBeP (c.stacks.flatMap Prod.snd)
def useR (c : Conf) (x : Cell) : Int := if x ∈ homes c then 3 else if x ∈ c.ports then 2 else if x ∈ c.blocked then 1 else if besideR c x then 4 else 0

theorem us_zero (w h : Int) (hw : 0 ≤ w) (hh : 0 ≤ h) : Us w h (List.replicate (w * h).toNat 0) (fun _ => 0) := by
  have := Int.mul_nonneg hw hh
  refine ⟨by rw [List.length_replicate]; omega, fun c hc => ?_⟩
  have := num_lt hc
  rw [List.getD_eq_getElem?_getD, List.getElem?_replicate, if_pos (by omega)]
  rfl
theorem stood_none (w h : Int) (hw : 0 ≤ w) (hh : 0 ≤ h) : Stood w h (List.replicate (w * h).toNat false) (fun _ => False) := by
  have := Int.mul_nonneg hw hh
  refine ⟨by rw [List.length_replicate]; omega, fun c hc => ?_⟩
  have := num_lt hc
  rw [List.getD_eq_getElem?_getD, List.getElem?_replicate, if_pos (by omega)]
  simp
theorem limited_sides {c : Conf} (h : limited c = true) : 1 ≤ c.W ∧ c.W ≤ 16 ∧ 1 ≤ c.H ∧ c.H ≤ 16 ∧ 1 ≤ c.height ∧ c.height ≤ 8 := by
  unfold limited upTo at h
  simp only [Bool.and_eq_true, decide_eq_true_eq] at h
  omega

/- What a config's uses are, once each part was laid. -/
theorem flat_mem {c : Conf} {x : Cell} : x ∈ homes c ↔ ∃ r ∈ c.robots, x = r.1 ∨ x = second r := by
  unfold homes
  rw [List.mem_flatMap]
  simp [cellsOf]
section
variable {c : Conf} (hl : limited c = true)
include hl
theorem lay1 {u1 : List Int} (e1 : takeAll c.W c.H 1 (List.replicate (c.W * c.H).toNat 0) c.blocked = some u1) :
    (∀ b ∈ c.blocked, In c.W c.H b) ∧ c.blocked.Nodup ∧ Us c.W c.H u1 (fun x => if x ∈ c.blocked then 1 else 0) := by
  obtain ⟨s1, s2, s3, s4, _⟩ := limited_sides hl
  obtain ⟨h1, h2, h3, _⟩ := takeAll_some (by decide) _ (us_zero c.W c.H (by omega) (by omega)) e1
  exact ⟨fun b hb => (h1 b hb).1, h2, h3⟩
end
theorem open_blk {c : Conf} {f : Cell → Int} (hf : ∀ x, f x = 1 ↔ x ∈ c.blocked) (x : Cell) : openF c.W c.H f x ↔ openR c x := by
  unfold openF openR
  rw [Ne, hf x]
theorem served_blk {c : Conf} {f : Cell → Int} (hf : ∀ x, f x = 1 ↔ x ∈ c.blocked) (x : Cell) : servedF c.W c.H f x ↔ besideR c x := by
  unfold servedF besideR
  rw [open_blk hf, open_blk hf]

theorem new_some {c : Conf} {G : GS} (e : newP c = some G) : mayR c ∧ G.w = c.W ∧ G.h = c.H ∧ G.ports = c.ports ∧ Us c.W c.H G.uses (useR c) := by
  unfold newP at e
  split at e
  · rename_i hl
    obtain ⟨u1, e1, e⟩ := Option.bind_eq_some_iff.1 e
    obtain ⟨u2, e2, e⟩ := Option.bind_eq_some_iff.1 e
    obtain ⟨u3, e3, e⟩ := Option.bind_eq_some_iff.1 e
    obtain ⟨bins, e4, e⟩ := Option.bind_eq_some_iff.1 e
    split at e2
    · rename_i hp8
      split at e3
      · rename_i hr8
        split at e
        · rename_i hmb
          cases e
          obtain ⟨s1, s2, s3, s4, _⟩ := limited_sides hl
          obtain ⟨a1, a2, U1⟩ := lay1 hl e1
          obtain ⟨e2', sv⟩ := (takeP_eq c.W c.H c.ports U1).1 u2 e2
          obtain ⟨b1, b2, U2, _⟩ := takeAll_some (by decide) _ U1 e2'
          rw [takeR_eq] at e3
          obtain ⟨d1, d2, U3, _⟩ := takeAll_some (by decide) _ U2 e3
          have pb : ∀ x, x ∈ c.ports → x ∉ c.blocked := fun x hx hb => by have := (b1 x hx).2; rw [if_pos hb] at this; cases this
          have hb : ∀ x, x ∈ homes c → x ∉ c.ports ∧ x ∉ c.blocked := fun x hx => by
            have := (d1 x hx).2
            by_cases q1 : x ∈ c.ports
            · rw [if_pos q1] at this; cases this
            · rw [if_neg q1] at this
              refine ⟨q1, fun q2 => ?_⟩
              rw [if_pos q2] at this; cases this
          have f1 : ∀ x, (if x ∈ c.blocked then (1 : Int) else 0) = 1 ↔ x ∈ c.blocked := fun x => by by_cases q : x ∈ c.blocked <;> simp [q]
          have f3 : ∀ x, (if x ∈ List.flatMap cellsOf c.robots then (3 : Int) else if x ∈ c.ports then 2 else if x ∈ c.blocked then 1 else 0) = 1 ↔ x ∈ c.blocked := fun x => by
            by_cases q1 : x ∈ List.flatMap cellsOf c.robots
            · simp [q1, (hb x q1).2]
            · by_cases q2 : x ∈ c.ports
              · simp [q1, q2, pb x q2]
              · by_cases q3 : x ∈ c.blocked <;> simp [q1, q2, q3]
          have U4 := stackUs_us U3
          have sU : ∀ x, servedU c.W c.H u3 x = true ↔ besideR c x := fun x => (servedU_iff U3 x).trans (served_blk f3 x)
          have us4 : Us c.W c.H (stackUs c.W c.H u3) (useR c) := by
            refine ⟨U4.len, fun x hx => (U4.at_ x hx).trans ?_⟩
            unfold useR homes
            simp only [sU]
            by_cases q1 : x ∈ List.flatMap cellsOf c.robots
            · simp [q1]
            · by_cases q2 : x ∈ c.ports
              · simp [q1, q2]
              · by_cases q3 : x ∈ c.blocked <;> simp [q1, q2, q3]
          have st : ∀ x, stackedU c.W c.H (stackUs c.W c.H u3) x = true ↔ stackedR c x := fun x => by
            rw [stackedU_iff us4]
            unfold stackedR openR useR
            by_cases q1 : x ∈ homes c
            · simp [q1]
            · by_cases q2 : x ∈ c.ports
              · simp [q1, q2]
              · by_cases q3 : x ∈ c.blocked
                · simp [q1, q2, q3]
                · by_cases q4 : besideR c x <;> simp [q1, q2, q3, q4]
          obtain ⟨g1, g2, g3⟩ := carry_some _ (stood_none c.W c.H (by omega) (by omega)) e4
          rw [List.nil_append] at g3
          subst g3
          refine ⟨⟨hl, hp8, hr8, fun b hb' => ⟨a1 b hb', fun hp => pb b hp hb'⟩, a2, fun p hp => ⟨(b1 p hp).1, fun hh => (hb p hh).1 hp, (served_blk f1 p).1 (sv p hp)⟩, b2, fun r hr => ?_, d2, fun s hs => ⟨(st _).1 (g1 s hs).1, (g1 s hs).2.2⟩, g2, hmb⟩, rfl, rfl, rfl, us4⟩
          have m1 : r.1 ∈ homes c := flat_mem.2 ⟨r, hr, Or.inl rfl⟩
          have m2 : second r ∈ homes c := flat_mem.2 ⟨r, hr, Or.inr rfl⟩
          exact ⟨⟨(d1 _ m1).1, (hb _ m1).2⟩, (d1 _ m2).1, (hb _ m2).2⟩
        · cases e
      · cases e3
    · cases e2
  · cases e
theorem new_none {c : Conf} (e : newP c = none) : ¬ mayR c := by
  rintro ⟨hl, hp8, hr8, hb, nb, hp, np, hr, nr, hs, ns, hm⟩
  obtain ⟨s1, s2, s3, s4, _⟩ := limited_sides hl
  unfold newP at e
  rw [if_pos hl] at e
  cases e1 : takeAll c.W c.H 1 (List.replicate (c.W * c.H).toNat 0) c.blocked with
  | none => exact takeAll_none (by decide) _ (us_zero c.W c.H (by omega) (by omega)) e1 ⟨fun x hx => ⟨(hb x hx).1, rfl⟩, nb⟩
  | some u1 =>
    rw [e1, Option.bind_some, if_pos hp8] at e
    obtain ⟨a1, a2, U1⟩ := lay1 hl e1
    have f1 : ∀ x, (if x ∈ c.blocked then (1 : Int) else 0) = 1 ↔ x ∈ c.blocked := fun x => by by_cases q : x ∈ c.blocked <;> simp [q]
    have pb : ∀ x, x ∈ c.ports → x ∉ c.blocked := fun x hx hb' => (hb x hb').2 hx
    cases e2 : takeP c.W c.H u1 c.ports with
    | none =>
      rcases (takeP_eq c.W c.H c.ports U1).2 e2 with q | q
      · exact takeAll_none (by decide) _ U1 q ⟨fun x hx => ⟨(hp x hx).1, if_neg (pb x hx)⟩, np⟩
      · exact q fun x hx => (served_blk f1 x).2 (hp x hx).2.2
    | some u2 =>
      rw [e2, Option.bind_some, if_pos hr8] at e
      obtain ⟨e2', sv⟩ := (takeP_eq c.W c.H c.ports U1).1 u2 e2
      obtain ⟨b1, b2, U2, _⟩ := takeAll_some (by decide) _ U1 e2'
      have hm' : ∀ x, x ∈ homes c → In c.W c.H x ∧ x ∉ c.blocked := fun x hx => by
        obtain ⟨r, hr', e3⟩ := flat_mem.1 hx
        rcases e3 with rfl | rfl
        · exact (hr r hr').1
        · exact (hr r hr').2
      have hh : ∀ x, x ∈ homes c → x ∉ c.ports := fun x hx hp' => (hp x hp').2.1 hx
      cases e3 : takeR c.W c.H u2 c.robots with
      | none =>
        rw [takeR_eq] at e3
        exact takeAll_none (by decide) _ U2 e3 ⟨fun x hx => ⟨(hm' x hx).1, by rw [if_neg (hh x hx), if_neg (hm' x hx).2]⟩, nr⟩
      | some u3 =>
        rw [e3, Option.bind_some] at e
        rw [takeR_eq] at e3
        obtain ⟨d1, d2, U3, _⟩ := takeAll_some (by decide) _ U2 e3
        have f3 : ∀ x, (if x ∈ List.flatMap cellsOf c.robots then (3 : Int) else if x ∈ c.ports then 2 else if x ∈ c.blocked then 1 else 0) = 1 ↔ x ∈ c.blocked := fun x => by
          by_cases q1 : x ∈ List.flatMap cellsOf c.robots
          · simp [q1, (hm' x q1).2]
          · by_cases q2 : x ∈ c.ports
            · simp [q1, q2, pb x q2]
            · by_cases q3 : x ∈ c.blocked <;> simp [q1, q2, q3]
        have U4 := stackUs_us U3
        have sU : ∀ x, servedU c.W c.H u3 x = true ↔ besideR c x := fun x => (servedU_iff U3 x).trans (served_blk f3 x)
        have st : ∀ x, stackedR c x → stackedU c.W c.H (stackUs c.W c.H u3) x = true := fun x hx => by
          rw [stackedU_iff U4]
          obtain ⟨⟨q1, q2⟩, q3, q4, q5⟩ := hx
          refine ⟨q1, ?_⟩
          have q4' : x ∉ List.flatMap cellsOf c.robots := q4
          simp only [q2, q3, q4', if_false, true_and, (sU x).2 q5, if_true]
        cases e4 : carry c.W c.H (stackUs c.W c.H u3) c.height (List.replicate (c.W * c.H).toNat false) [] c.stacks with
        | none => exact carry_none _ (stood_none c.W c.H (by omega) (by omega)) e4 ⟨fun s hs' => ⟨st _ (hs s hs').1, fun h => h, (hs s hs').2⟩, ns⟩
        | some bins =>
          rw [e4, Option.bind_some] at e
          obtain ⟨g1, g2, g3⟩ := carry_some _ (stood_none c.W c.H (by omega) (by omega)) e4
          rw [List.nil_append] at g3
          subst g3
          rw [if_pos hm] at e
          cases e
/- Nor can there be more blocked cells, or stacks, than cells. -/
theorem new_few {c : Conf} (h : mayR c) : c.blocked.length ≤ 256 ∧ c.stacks.length ≤ 256 := by
  cases e : newP c with
  | none => exact absurd h (new_none e)
  | some G =>
    unfold newP at e
    obtain ⟨s1, s2, s3, s4, _⟩ := limited_sides h.1
    have hm := Int.mul_nonneg (show 0 ≤ c.W by omega) (show 0 ≤ c.H by omega)
    have hx : c.W * c.H ≤ 16 * c.H := Int.mul_le_mul_of_nonneg_right s2 (by omega)
    rw [if_pos h.1] at e
    obtain ⟨u1, e1, e⟩ := Option.bind_eq_some_iff.1 e
    obtain ⟨u2, e2, e⟩ := Option.bind_eq_some_iff.1 e
    obtain ⟨u3, e3, e⟩ := Option.bind_eq_some_iff.1 e
    obtain ⟨bins, e4, e⟩ := Option.bind_eq_some_iff.1 e
    obtain ⟨_, _, _, k1⟩ := takeAll_some (by decide) _ (us_zero c.W c.H (by omega) (by omega)) e1
    have k2 := carry_len _ (by rw [List.length_replicate]; omega) e4
    rw [List.count_replicate_self] at k1 k2
    omega
end Go.Proofs.Ytabbdclpjghdbaa.Grid
namespace Go.Proofs.Ytabbdclpjghdbaa.Grid
set_option linter.unusedVariables false
set_option linter.unusedSimpArgs false
open Go Go.RowKit

theorem ret_int {k : IntKind} {a b : Int} (h : a = b) : Ending.returned (.int k a) = .returned (.int k b) := by rw [h]
theorem ret_bool {a b : Bool} (h : a = b) : Ending.returned (.bool a) = .returned (.bool b) := by rw [h]
theorem bcat {B : Nat} {w w1 w2 : World} (h : Below B w w1) (h1 : Below w1.heap.size w1 w2) (hB : B ≤ w.heap.size) : Below B w w2 := h.trans (h1.mono (Nat.le_trans hB h.size))
theorem below_new {w w1 : World} (h : Below w.heap.size w w1) (o : Obj) : Below w.heap.size w (w1.alloc o) := h.alloc h.size _
theorem alloc_old (w : World) (o : Obj) (k : Nat) (h : k < w.heap.size) : (w.alloc o).heap[k]? = w.heap[k]? := ((Below.refl _ _).alloc (Nat.le_refl _) o).block k h
theorem block_add (x : Addr) (i : Nat) : (x.add i).block = x.block := by unfold Addr.add; split <;> rfl
theorem cell_same {w w' : World} {p : Addr} (h : w'.heap[p.block]? = w.heap[p.block]?) : w'.cell? p = w.cell? p := by unfold World.cell?; rw [h]
theorem froz_same {w w' : World} {p : Addr} (h : w'.heap[p.block]? = w.heap[p.block]?) : w'.frozen? p = w.frozen? p := by unfold World.frozen?; rw [h]
theorem lt_of_heap {w : World} {g : Nat} {o : Obj} (h : w.heap[g]? = some o) : g < w.heap.size := (Array.getElem?_eq_some_iff.1 h).1
theorem frozen_of {w : World} {N : Nat} {cs : Array Value} {t : TypeId} (h : w.heap[N]? = some (.cells cs t (0, 0))) (j : Nat) : w.frozen? ⟨N, j, none⟩ = false := by unfold World.frozen?; rw [h]; simp
theorem cell_of {w : World} {N : Nat} {cs : Array Value} {t : TypeId} (h : w.heap[N]? = some (.cells cs t (0, 0))) (j : Nat) : w.cell? ⟨N, j, none⟩ = cs[j]? := cell_of_row w N j cs t _ h

/- A grid: its struct in block g, the uses in block u. -/
structure GridAt (w : World) (g u : Nat) (W H : Int) (us : List Int) (vp : Value) : Prop where
  hd : w.heap[g]? = some (.cells #[.int .i64 W, .int .i64 H, .slice (some ⟨u, 0, none⟩) us.length us.length, vp] 87 (0, 0))
  row : w.heap[u]? = some (.cells (us.map (Value.int .u8)).toArray 92 (0, 0))
  w1 : 1 ≤ W
  w2 : W ≤ 16
  h1 : 1 ≤ H
  h2 : H ≤ 16
  len : (us.length : Int) = W * H
  small : ∀ z ∈ us, 0 ≤ z ∧ z < 256
  ne : g ≠ u
section
variable {w : World} {g u : Nat} {W H : Int} {us : List Int} {vp : Value}
theorem GridAt.ltg (h : GridAt w g u W H us vp) : g < w.heap.size := lt_of_heap h.hd
theorem GridAt.ltu (h : GridAt w g u W H us vp) : u < w.heap.size := lt_of_heap h.row
theorem GridAt.c0 (h : GridAt w g u W H us vp) : w.cell? ⟨g, 0, none⟩ = some (.int .i64 W) := by rw [cell_of h.hd]; rfl
theorem GridAt.c1 (h : GridAt w g u W H us vp) : w.cell? ⟨g, 1, none⟩ = some (.int .i64 H) := by rw [cell_of h.hd]; rfl
theorem GridAt.c2 (h : GridAt w g u W H us vp) : w.cell? ⟨g, 2, none⟩ = some (.slice (some ⟨u, 0, none⟩) us.length us.length) := by rw [cell_of h.hd]; rfl
theorem GridAt.c3 (h : GridAt w g u W H us vp) : w.cell? ⟨g, 3, none⟩ = some vp := by rw [cell_of h.hd]; rfl
theorem GridAt.at_ (h : GridAt w g u W H us vp) (k : Nat) (hk : k < us.length) : w.cell? ⟨u, k, none⟩ = some (.int .u8 (us.getD k 0)) := by
  rw [cell_of h.row, List.getElem?_toArray, List.getElem?_map, List.getElem?_eq_getElem hk, List.getD_eq_getElem?_getD, List.getElem?_eq_getElem hk]
  rfl
theorem GridAt.bd (h : GridAt w g u W H us vp) (k : Nat) : 0 ≤ us.getD k 0 ∧ us.getD k 0 < 256 := by
  rw [List.getD_eq_getElem?_getD]
  by_cases hk : k < us.length
  · rw [List.getElem?_eq_getElem hk]; exact h.small _ (List.getElem_mem hk)
  · rw [List.getElem?_eq_none (by omega)]; simp
theorem GridAt.same {w' : World} (h : GridAt w g u W H us vp) (hg : w'.heap[g]? = w.heap[g]?) (hu : w'.heap[u]? = w.heap[u]?) : GridAt w' g u W H us vp :=
  ⟨hg.trans h.hd, hu.trans h.row, h.w1, h.w2, h.h1, h.h2, h.len, h.small, h.ne⟩
theorem GridAt.go {w' : World} (h : GridAt w g u W H us vp) (hb : Below w.heap.size w w') : GridAt w' g u W H us vp :=
  h.same (hb.block g h.ltg) (hb.block u h.ltu)
theorem GridAt.alloc (h : GridAt w g u W H us vp) (o : Obj) : GridAt (w.alloc o) g u W H us vp := h.go ((Below.refl _ _).alloc (Nat.le_refl _) o)
theorem GridAt.le (h : GridAt w g u W H us vp) : us.length ≤ 256 := by
  have h1 := h.len
  have h2 : W * H ≤ 16 * H := Int.mul_le_mul_of_nonneg_right h.w2 (by have := h.h1; omega)
  have := h.h2
  omega
theorem GridAt.num_lt (h : GridAt w g u W H us vp) {c : Cell} (hc : In W H c) : 0 ≤ c.2 * W + c.1 ∧ c.2 * W + c.1 < us.length := by
  have := Grid.num_lt hc
  have := h.len
  omega
theorem GridAt.set (h : GridAt w g u W H us vp) (k : Nat) (x : Int) (hx : 0 ≤ x ∧ x < 256) : GridAt (w.setCell ⟨u, k, none⟩ (.int .u8 x)) g u W H (us.set k x) vp := by
  refine ⟨?_, ?_, h.w1, h.w2, h.h1, h.h2, by rw [List.length_set]; exact h.len, fun z hz => ?_, h.ne⟩
  · rw [heap_setCell_other _ _ _ _ h.ne, List.length_set]; exact h.hd
  · rw [heap_setCell_same _ _ _ _ _ _ h.row, List.map_set]
    simp
  · rcases List.mem_or_eq_of_mem_set hz with hz | rfl
    · exact h.small z hz
    · exact hx
end
end Go.Proofs.Ytabbdclpjghdbaa.Grid
namespace Go.Proofs.Ytabbdclpjghdbaa.Grid
set_option linter.unusedVariables false
set_option linter.unusedSimpArgs false
open Go Go.RowKit

def cellV (c : Cell) : Value := .agg #[.int .i64 c.1, .int .i64 c.2]
def poseV (p : Pose) : Value := .agg #[.int .i64 p.1.1, .int .i64 p.1.2, .bool p.2]
theorem w64_wrap (n : Int) : w64 n = wrap64 n := by unfold w64 wrap64; rfl

theorem below_row {B g : Nat} {w0 w : World} (hb : Below B w0 w) (hBg : B ≤ g) (cs : Array Value) : Below B w0 (w.setRow g cs) :=
  ⟨hb.os, hb.tape, hb.output, by rw [setRow_size]; exact hb.size, fun k hk => by rw [setRow_other _ _ _ _ (by omega)]; exact hb.block k hk⟩
theorem heap_new2 (w : World) (a b : Obj) : ((w.alloc a).alloc b).heap[w.heap.size + 1]? = some b := by
  have := heap_alloc_new (w.alloc a) b
  rwa [show (w.alloc a).heap.size = w.heap.size + 1 by simp] at this
theorem below_two (w : World) (a b : Obj) : Below w.heap.size w ((w.alloc a).alloc b) := below_new (below_new (Below.refl _ _) _) _
theorem info_cell : (Try.prog.info? 39).map (·.size) = some 2 := by kernel_rfl
theorem info_pose : (Try.prog.info? 72).map (·.size) = some 3 := by kernel_rfl
theorem east_any (x y : Int) (w : World) : Calls Try.prog 78 #[.agg #[.int .i64 x, .int .i64 y]] w fun e w' => e = .returned (.agg #[.int .i64 (w64 (x + 1)), .int .i64 y]) ∧ Below w.heap.size w w' := by
  go_enter Try.func78, Try.ntmps78
  go_wp2
  exact bodyPost_ret (results_cell_row rfl _ _ (w.heap.size + 1) 39 _ (0, 0) _ rfl (heap_new2 _ _ _) Try.underlying39 rfl info_cell) rfl ⟨by rw [w64_wrap], below_two _ _ _⟩
theorem south_any (x y : Int) (w : World) : Calls Try.prog 79 #[.agg #[.int .i64 x, .int .i64 y]] w fun e w' => e = .returned (.agg #[.int .i64 x, .int .i64 (w64 (y + 1))]) ∧ Below w.heap.size w w' := by
  go_enter Try.func79, Try.ntmps79
  go_wp2
  exact bodyPost_ret (results_cell_row rfl _ _ (w.heap.size + 1) 39 _ (0, 0) _ rfl (heap_new2 _ _ _) Try.underlying39 rfl info_cell) rfl ⟨by rw [w64_wrap], below_two _ _ _⟩
set_option maxHeartbeats 1000000 in
theorem second_any (x y : Int) (d : Bool) (w : World) : Calls Try.prog 72 #[.agg #[.int .i64 x, .int .i64 y, .bool d]] w fun e w' => e = .returned (.agg #[.int .i64 (second ((x, y), d)).1, .int .i64 (second ((x, y), d)).2]) ∧ Below w.heap.size w w' := by
  cases d
  all_goals
    go_enter Try.func72, Try.ntmps72
    go_wp2_with (first
      | (have X' := b1; refine wpList_store_row rfl 39 (.tmp 2) (.tmp 7) rfl (w.heap.size + 1) #[.int .i64 x, .int .i64 (w64 (y + 1))] rfl rfl 39 #[.int .i64 0, .int .i64 0] ((b1.block _ (by simp)).trans (heap_new2 _ _ _)) info_cell rfl (by simp [Value.oneCell']) ?_)
      | (have X' := b1; refine wpList_store_row rfl 39 (.tmp 2) (.tmp 10) rfl (w.heap.size + 1) #[.int .i64 (w64 (x + 1)), .int .i64 y] rfl rfl 39 #[.int .i64 0, .int .i64 0] ((b1.block _ (by simp)).trans (heap_new2 _ _ _)) info_cell rfl (by simp [Value.oneCell']) ?_)
      | (go_at_call 78; refine (east_any _ _ _).mono ?_; rintro e w1 ⟨rfl, b1⟩)
      | (go_at_call 79; refine (south_any _ _ _).mono ?_; rintro e w1 ⟨rfl, b1⟩))
    exact bodyPost_ret (results_cell_row rfl _ _ (w.heap.size + 1) 39 _ (0, 0) _ rfl (setRow_heap _ _ _ _ _ _ ((b1.block _ (by simp)).trans (heap_new2 _ _ _))) Try.underlying39 rfl info_cell) rfl ⟨rfl, below_row ((below_two _ _ _).trans (b1.mono (by simp; omega))) (by simp) _⟩
theorem upTo_any (v m : Int) (w : World) : Calls Try.prog 68 #[.int .i64 v, .int .i64 m] w fun e w' => e = .returned (.bool (upTo v m)) ∧ w' = w := by
  by_cases h1 : 1 ≤ v
  · by_cases h2 : v ≤ m
    all_goals
      have e : upTo v m = decide (v ≤ m) := by unfold upTo; simp [h1]
      rw [e]
      go_enter Try.func68, Try.ntmps68
      go_wp2
      go_ret
      exact ⟨ret_bool (by simp [h2]), rfl⟩
  · have e : upTo v m = false := by unfold upTo; simp [h1]
    rw [e]
    go_enter Try.func68, Try.ntmps68
    go_wp2
    go_ret
    exact ⟨rfl, rfl⟩
end Go.Proofs.Ytabbdclpjghdbaa.Grid
