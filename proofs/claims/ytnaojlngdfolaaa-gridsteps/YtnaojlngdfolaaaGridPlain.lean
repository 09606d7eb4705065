/-
  Chapter 7 in plain numbers and lists: cells, poses, what each call of package grid reckons, what the chapter's own answer reckons; that both come to the same.
-/
namespace Go.Proofs.Ytnaojlngdfolaaa.Grid
set_option linter.unusedVariables false
set_option linter.unusedSimpArgs false

abbrev Cell := Int × Int
abbrev Pose := Cell × Bool
abbrev Stk := Cell × List Int
structure Conf where
  W : Int
  H : Int
  height : Int
  blocked : List Cell
  ports : List Cell
  robots : List Pose
  stacks : List Stk
  unit : Int
  accel : Int
  speed : Int
  turn : Int
  hoist : Int
  queue : Int
  resend : Int
  budget : Int
  back : Bool

/- modulo 2^64 -/
def w64 (n : Int) : Int := (n + 9223372036854775808) % 18446744073709551616 - 9223372036854775808
theorem w64_id {n : Int} (h : -9223372036854775808 ≤ n) (k : n < 9223372036854775808) : w64 n = n := by unfold w64; omega
theorem w64_bd (n : Int) : -9223372036854775808 ≤ w64 n ∧ w64 n < 9223372036854775808 := by unfold w64; omega
def I64 (n : Int) : Prop := -9223372036854775808 ≤ n ∧ n < 9223372036854775808
def C64 (c : Cell) : Prop := I64 c.1 ∧ I64 c.2

def east (c : Cell) : Cell := (w64 (c.1 + 1), c.2)
def south (c : Cell) : Cell := (c.1, w64 (c.2 + 1))
def second (p : Pose) : Cell := if p.2 then south p.1 else east p.1
def cellsOf (p : Pose) : List Cell := [p.1, second p]

/- A cell of a grid of w by h. -/
def In (w h : Int) (c : Cell) : Prop := 0 ≤ c.1 ∧ c.1 < w ∧ 0 ≤ c.2 ∧ c.2 < h
instance (w h : Int) (c : Cell) : Decidable (In w h c) := by unfold In; infer_instance
def number (w h : Int) (c : Cell) : Int := if In w h c then c.2 * w + c.1 else -1
def cellAt (w : Int) (i : Nat) : Cell := ((i : Int) % w, (i : Int) / w)

theorem num_lt {w h : Int} {c : Cell} (hi : In w h c) : 0 ≤ c.2 * w + c.1 ∧ c.2 * w + c.1 < w * h := by
  obtain ⟨h1, h2, h3, h4⟩ := hi
  have a := Int.mul_nonneg h3 (show 0 ≤ w by omega)
  have b : (c.2 + 1) * w ≤ h * w := Int.mul_le_mul_of_nonneg_right (by omega) (by omega)
  rw [Int.add_mul, Int.one_mul] at b
  rw [Int.mul_comm w h]
  omega
theorem num_inj {w h : Int} {c d : Cell} (hc : In w h c) (hd : In w h d) (e : c.2 * w + c.1 = d.2 * w + d.1) : c = d := by
  obtain ⟨h1, h2, h3, h4⟩ := hc
  obtain ⟨k1, k2, k3, k4⟩ := hd
  have a : c.1 = d.1 := by
    have := congrArg (· % w) e
    simp only [Int.add_comm (_ * w), Int.add_mul_emod_self_right] at this
    rwa [Int.emod_eq_of_lt h1 h2, Int.emod_eq_of_lt k1 k2] at this
  have b : c.2 = d.2 := by
    have e2 : c.2 * w = d.2 * w := by omega
    exact Int.eq_of_mul_eq_mul_right (by omega) e2
  exact Prod.ext a b
theorem cellAt_num {w h : Int} {c : Cell} (hc : In w h c) : cellAt w (c.2 * w + c.1).toNat = c := by
  obtain ⟨h1, h2, h3, h4⟩ := hc
  have hb := (num_lt ⟨h1, h2, h3, h4⟩ : _).1
  unfold cellAt
  rw [Int.toNat_of_nonneg hb]
  refine Prod.ext ?_ ?_
  · simp only [Int.add_comm (_ * w), Int.add_mul_emod_self_right]
    exact Int.emod_eq_of_lt h1 h2
  · simp only [Int.add_comm (_ * w)]
    rw [Int.add_mul_ediv_right _ _ (by omega), Int.ediv_eq_zero_of_lt h1 h2]
    omega
theorem cellAt_in {w h : Int} (hw : 0 < w) {i : Nat} (hi : (i : Int) < w * h) : In w h (cellAt w i) := by
  unfold cellAt In
  have h3 : (0 : Int) ≤ (i : Int) / w := Int.ediv_nonneg (by omega) (by omega)
  refine ⟨Int.emod_nonneg _ (by omega), Int.emod_lt_of_pos _ hw, h3, ?_⟩
  exact Int.ediv_lt_of_lt_mul hw (by rw [Int.mul_comm]; exact hi)
theorem num_cellAt {w : Int} (i : Nat) : (cellAt w i).2 * w + (cellAt w i).1 = i := by
  unfold cellAt
  have := Int.mul_ediv_add_emod (i : Int) w
  rw [Int.mul_comm] at this
  exact this

/- The uses of the cells, by their numbers: what f tells of each. -/
structure Us (w h : Int) (us : List Int) (f : Cell → Int) : Prop where
  len : (us.length : Int) = w * h
  at_ : ∀ c, In w h c → us.getD (c.2 * w + c.1).toNat 0 = f c
def take (w h : Int) (us : List Int) (c : Cell) (u : Int) : Option (List Int) :=
  if In w h c ∧ us.getD (c.2 * w + c.1).toNat 0 = 0 then some (us.set (c.2 * w + c.1).toNat u) else none
theorem getD_set (us : List Int) (i j : Nat) (u : Int) (hi : i < us.length) : (us.set i u).getD j 0 = if j = i then u else us.getD j 0 := by
  rw [List.getD_eq_getElem?_getD, List.getD_eq_getElem?_getD, List.getElem?_set]
  by_cases e : i = j
  · subst e; simp [hi]
  · rw [if_neg e, if_neg (fun h => e h.symm)]
theorem Us.idx {w h : Int} {us : List Int} {f : Cell → Int} (hU : Us w h us f) {c : Cell} (hc : In w h c) : (c.2 * w + c.1).toNat < us.length := by
  have := num_lt hc
  have := hU.len
  omega
theorem Us.set {w h : Int} {us : List Int} {f : Cell → Int} (hU : Us w h us f) {c : Cell} (hc : In w h c) (u : Int) : Us w h (us.set (c.2 * w + c.1).toNat u) (fun x => if x = c then u else f x) := by
  refine ⟨by rw [List.length_set]; exact hU.len, fun x hx => ?_⟩
  rw [getD_set _ _ _ _ (hU.idx hc)]
  by_cases e : x = c
  · subst e; simp
  · rw [if_neg e, if_neg, hU.at_ x hx]
    intro e2
    have h1 := num_lt hc
    have h2 := num_lt hx
    exact e (num_inj hx hc (by omega))
theorem take_some {w h : Int} {us us' : List Int} {f : Cell → Int} (hU : Us w h us f) {c : Cell} {u : Int} (hu : u ≠ 0) (e : take w h us c u = some us') :
    In w h c ∧ f c = 0 ∧ Us w h us' (fun x => if x = c then u else f x) ∧ us'.count 0 + 1 = us.count 0 := by
  unfold take at e
  split at e
  · rename_i hc
    cases e
    refine ⟨hc.1, by rw [← hU.at_ c hc.1]; exact hc.2, hU.set hc.1 u, ?_⟩
    have hi := hU.idx hc.1
    have hz := hc.2
    rw [List.getD_eq_getElem?_getD, List.getElem?_eq_getElem hi, Option.getD_some] at hz
    rw [List.count_set hi, hz]
    have : 0 < us.count 0 := List.count_pos_iff.2 (hz ▸ List.getElem_mem hi)
    simp [hu]
    omega
  · cases e
theorem take_none {w h : Int} {us : List Int} {f : Cell → Int} (hU : Us w h us f) {c : Cell} {u : Int} (e : take w h us c u = none) : ¬ (In w h c ∧ f c = 0) := by
  unfold take at e
  split at e
  · cases e
  · rename_i hn
    exact fun hc => hn ⟨hc.1, by rw [hU.at_ c hc.1]; exact hc.2⟩
def takeAll (w h u : Int) : List Int → List Cell → Option (List Int)
  | us, [] => some us
  | us, c :: l => (take w h us c u).bind fun us' => takeAll w h u us' l
theorem takeAll_some {w h u : Int} (hu : u ≠ 0) : ∀ (l : List Cell) {us us' : List Int} {f : Cell → Int}, Us w h us f → takeAll w h u us l = some us' →
    (∀ c ∈ l, In w h c ∧ f c = 0) ∧ l.Nodup ∧ Us w h us' (fun x => if x ∈ l then u else f x) ∧ us'.count 0 + l.length = us.count 0
  | [], us, us', f, hU, e => by
    cases e
    exact ⟨fun c hc => by simp at hc, List.nodup_nil, by simpa using hU, rfl⟩
  | c :: l, us, us', f, hU, e => by
    unfold takeAll at e
    cases ht : take w h us c u with
    | none => rw [ht] at e; cases e
    | some us1 =>
      rw [ht] at e
      obtain ⟨h1, h2, h3, h4⟩ := take_some hU hu ht
      obtain ⟨k1, k2, k3, k4⟩ := takeAll_some hu l h3 e
      refine ⟨fun x hx => ?_, ?_, ⟨k3.len, fun x hx => ?_⟩, by rw [List.length_cons]; omega⟩
      · rcases List.mem_cons.1 hx with rfl | hx
        · exact ⟨h1, h2⟩
        · have := (k1 x hx).2
          by_cases e1 : x = c
          · subst e1; rw [if_pos rfl] at this; exact absurd this hu
          · rw [if_neg e1] at this
            exact ⟨(k1 x hx).1, this⟩
      · refine List.nodup_cons.2 ⟨fun hm => ?_, k2⟩
        have := (k1 c hm).2
        rw [if_pos rfl] at this
        exact hu this
      · rw [k3.at_ x hx]
        by_cases e1 : x ∈ l
        · rw [if_pos e1, if_pos (List.mem_cons_of_mem _ e1)]
        · rw [if_neg e1]
          by_cases e2 : x = c
          · subst e2; simp
          · rw [if_neg e2, if_neg]
            intro hm
            rcases List.mem_cons.1 hm with e3 | e3
            · exact e2 e3
            · exact e1 e3
theorem takeAll_none {w h u : Int} (hu : u ≠ 0) : ∀ (l : List Cell) {us : List Int} {f : Cell → Int}, Us w h us f → takeAll w h u us l = none → ¬ ((∀ c ∈ l, In w h c ∧ f c = 0) ∧ l.Nodup)
  | [], us, f, hU, e => by cases e
  | c :: l, us, f, hU, e => by
    unfold takeAll at e
    rintro ⟨q1, q2⟩
    cases ht : take w h us c u with
    | none => exact take_none hU ht (q1 c List.mem_cons_self)
    | some us1 =>
      rw [ht] at e
      obtain ⟨h1, h2, h3, h4⟩ := take_some hU hu ht
      have q3 := List.nodup_cons.1 q2
      refine takeAll_none hu l h3 e ⟨fun x hx => ⟨(q1 x (List.mem_cons_of_mem _ hx)).1, ?_⟩, q3.2⟩
      rw [if_neg (fun e1 : x = c => q3.1 (e1 ▸ hx))]
      exact (q1 x (List.mem_cons_of_mem _ hx)).2

/- Open cells, by the uses. -/
def openU (w h : Int) (us : List Int) (c : Cell) : Bool := decide (In w h c) && decide (us.getD (c.2 * w + c.1).toNat 0 ≠ 1)
def servedU (w h : Int) (us : List Int) (c : Cell) : Bool := openU w h us (east c) || openU w h us (south c)
def openF (w h : Int) (f : Cell → Int) (c : Cell) : Prop := In w h c ∧ f c ≠ 1
theorem openU_iff {w h : Int} {us : List Int} {f : Cell → Int} (hU : Us w h us f) (c : Cell) : openU w h us c = true ↔ openF w h f c := by
  unfold openU openF
  rw [Bool.and_eq_true, decide_eq_true_eq, decide_eq_true_eq]
  constructor
  · rintro ⟨a, b⟩; exact ⟨a, by rw [← hU.at_ c a]; exact b⟩
  · rintro ⟨a, b⟩; exact ⟨a, by rw [hU.at_ c a]; exact b⟩
theorem openF_congr {w h : Int} {f g : Cell → Int} (e : ∀ c, f c = 1 ↔ g c = 1) (c : Cell) : openF w h f c ↔ openF w h g c := by
  unfold openF
  rw [Ne, Ne, e c]
def servedF (w h : Int) (f : Cell → Int) (c : Cell) : Prop := openF w h f (east c) ∨ openF w h f (south c)
theorem servedU_iff {w h : Int} {us : List Int} {f : Cell → Int} (hU : Us w h us f) (c : Cell) : servedU w h us c = true ↔ servedF w h f c := by
  unfold servedU servedF
  rw [Bool.or_eq_true, openU_iff hU, openU_iff hU]
theorem servedF_congr {w h : Int} {f g : Cell → Int} (e : ∀ c, f c = 1 ↔ g c = 1) (c : Cell) : servedF w h f c ↔ servedF w h g c := by
  unfold servedF
  rw [openF_congr e, openF_congr e]

/- Ports: each is taken, and served. -/
def takeP (w h : Int) : List Int → List Cell → Option (List Int)
  | us, [] => some us
  | us, c :: l => (take w h us c 2).bind fun us' => if servedU w h us' c then takeP w h us' l else none
theorem takeP_eq (w h : Int) : ∀ (l : List Cell) {us : List Int} {f : Cell → Int}, Us w h us f →
    (∀ us', takeP w h us l = some us' → takeAll w h 2 us l = some us' ∧ ∀ c ∈ l, servedF w h f c) ∧ (takeP w h us l = none → takeAll w h 2 us l = none ∨ ¬ ∀ c ∈ l, servedF w h f c)
  | [], us, f, hU => ⟨fun us' e => ⟨e, fun c hc => by simp at hc⟩, fun e => by cases e⟩
  | c :: l, us, f, hU => by
    unfold takeP takeAll
    cases ht : take w h us c 2 with
    | none => exact ⟨fun us' e => (by cases e), fun _ => Or.inl rfl⟩
    | some us1 =>
      obtain ⟨h1, h2, h3, h4⟩ := take_some hU (by decide) ht
      have hs : ∀ x, servedF w h f x ↔ servedF w h (fun x => if x = c then 2 else f x) x := fun x => servedF_congr (fun y => by
        by_cases e : y = c
        · subst e; simp [h2]
        · simp [e]) x
      simp only [Option.bind_some]
      obtain ⟨k1, k2⟩ := takeP_eq w h l h3
      by_cases hv : servedU w h us1 c = true
      · rw [if_pos hv]
        refine ⟨fun us' e => ?_, fun e => ?_⟩
        · obtain ⟨q1, q2⟩ := k1 us' e
          refine ⟨q1, fun x hx => ?_⟩
          rcases List.mem_cons.1 hx with rfl | hx
          · exact (hs x).2 ((servedU_iff h3 x).1 hv)
          · exact (hs x).2 (q2 x hx)
        · rcases k2 e with q | q
          · exact Or.inl q
          · exact Or.inr fun q' => q fun x hx => (hs x).1 (q' x (List.mem_cons_of_mem _ hx))
      · rw [if_neg hv]
        exact ⟨fun us' e => (by cases e), fun _ => Or.inr fun q => hv ((servedU_iff h3 c).2 ((hs c).1 (q c List.mem_cons_self)))⟩

/- Homes: two cells a robot. -/
def takeR (w h : Int) : List Int → List Pose → Option (List Int)
  | us, [] => some us
  | us, p :: l => (take w h us p.1 3).bind fun us' => (take w h us' (second p) 3).bind fun us'' => takeR w h us'' l
theorem takeR_eq (w h : Int) : ∀ (l : List Pose) (us : List Int), takeR w h us l = takeAll w h 3 us (l.flatMap cellsOf)
  | [], us => rfl
  | p :: l, us => by
    unfold takeR
    rw [List.flatMap_cons, show cellsOf p = [p.1, second p] from rfl]
    show _ = takeAll w h 3 us (p.1 :: second p :: l.flatMap cellsOf)
    unfold takeAll
    cases take w h us p.1 3 with
    | none => rfl
    | some us1 =>
      simp only [Option.bind_some]
      unfold takeAll
      cases take w h us1 (second p) 3 with
      | none => rfl
      | some us2 => simp only [Option.bind_some]; exact takeR_eq w h l us2

/- Stack cells. -/
def stackOf (w h : Int) (us : List Int) (i : Nat) : Int := if us.getD i 0 = 0 ∧ servedU w h us (cellAt w i) = true then 4 else us.getD i 0
def stackUs (w h : Int) (us : List Int) : List Int := (List.range us.length).map (stackOf w h us)
theorem stackUs_us {w h : Int} {us : List Int} {f : Cell → Int} (hU : Us w h us f) : Us w h (stackUs w h us) (fun x => if f x = 0 ∧ (servedU w h us x = true) then 4 else f x) := by
  refine ⟨by unfold stackUs; rw [List.length_map, List.length_range]; exact hU.len, fun c hc => ?_⟩
  have hi := hU.idx hc
  unfold stackUs
  rw [List.getD_eq_getElem?_getD, List.getElem?_map, List.getElem?_range hi]
  simp only [Option.map_some, Option.getD_some]
  unfold stackOf
  rw [hU.at_ c hc, cellAt_num hc]

/- Stacks: each on a stack cell where none stands yet. -/
def stackedU (w h : Int) (us : List Int) (c : Cell) : Bool := decide (In w h c) && decide (us.getD (c.2 * w + c.1).toNat 0 = 4)
theorem stackedU_iff {w h : Int} {us : List Int} {f : Cell → Int} (hU : Us w h us f) (c : Cell) : stackedU w h us c = true ↔ In w h c ∧ f c = 4 := by
  unfold stackedU
  rw [Bool.and_eq_true, decide_eq_true_eq, decide_eq_true_eq]
  constructor
  · rintro ⟨a, b⟩; exact ⟨a, by rw [← hU.at_ c a]; exact b⟩
  · rintro ⟨a, b⟩; exact ⟨a, by rw [hU.at_ c a]; exact b⟩
end Go.Proofs.Ytnaojlngdfolaaa.Grid
