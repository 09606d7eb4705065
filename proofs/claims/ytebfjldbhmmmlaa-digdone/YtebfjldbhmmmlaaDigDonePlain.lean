/-
  Jobs done one after the other, in plain words: each lifts the bin that is highest, and has room; behind all the bin is gone, the others are there, with Back each where it was.
-/
import Derived.Test.YtebfjldbhmmmlaaDigPlain3
import Derived.Test.YtebfjldbhmmmlaaDigPlain4
namespace Go.Proofs.Ytebfjldbhmmmlaa.Dig
set_option linter.unusedVariables false
set_option linter.unusedSimpArgs false
open Go Go.RowKit Go.Shelf Go.Proofs Go.Proofs.Ytebfjldbhmmmlaa.Grid Go.Proofs.Ytebfjldbhmmmlaa.Srt

/- A cell's bins are these. -/
def putP : List Stk → Cell → List Int → List Stk
  | [], c, b => [(c, b)]
  | s :: l, c, b => if s.1 = c then (c, b) :: l else s :: putP l c b
theorem pile_put (l : List Stk) (c : Cell) (b : List Int) (x : Cell) : pileOf (putP l c b) x = if x = c then b else pileOf l x := by
  induction l with
  | nil =>
    rw [putP, pile_cons, pile_nil]
    by_cases h : x = c
    · rw [if_pos h, if_pos h.symm]
    · rw [if_neg h, if_neg (fun e => h e.symm)]
  | cons s l ih =>
    rw [putP]
    by_cases hs : s.1 = c
    · rw [if_pos hs, pile_cons, pile_cons]
      by_cases h : x = c
      · rw [if_pos h, if_pos h.symm]
      · rw [if_neg h, if_neg (fun e => h e.symm), if_neg (fun e => h (by rw [← e, hs]))]
    · rw [if_neg hs, pile_cons, pile_cons, ih]
      by_cases h : x = c
      · rw [if_pos h, if_neg (fun e => hs (by rw [e, h])), if_pos h]
      · rw [if_neg h, if_neg h]
/- How many bins there are. -/
def total (l : List Stk) : Nat := (l.map fun s => s.2.length).sum
theorem total_put (l : List Stk) (c : Cell) (b : List Int) : total (putP l c b) + (pileOf l c).length = total l + b.length := by
  induction l with
  | nil => simp [putP, total, pile_nil]
  | cons s l ih =>
    rw [putP, pile_cons]
    by_cases hs : s.1 = c
    · rw [if_pos hs, if_pos hs]
      simp only [total, List.map_cons, List.sum_cons]
      omega
    · rw [if_neg hs, if_neg hs]
      simp only [total, List.map_cons, List.sum_cons] at ih ⊢
      omega
/- What a job does. -/
def lifted (now : List Stk) (q : Jb) : List Stk := putP now q.2.2.1 (pileOf now q.2.2.1).dropLast
def stepJ (now : List Stk) (q : Jb) : List Stk := if q.1 = 2 then lifted now q else putP (lifted now q) q.2.2.2 (pileOf (lifted now q) q.2.2.2 ++ [q.2.1])
/- That it can be done. -/
structure OkJ (height : Int) (L : List Cell) (bin : Int) (port : Cell) (now : List Stk) (q : Jb) : Prop where
  top : (pileOf now q.2.2.1).getLast? = some q.2.1
  fetch : q.1 = 2 → q.2.1 = bin ∧ q.2.2.2 = port
  room : q.1 ≠ 2 → q.2.2.2 ∈ L ∧ ((pileOf (lifted now q) q.2.2.2).length : Int) < height
theorem pile_lift (now : List Stk) (q : Jb) (y : Cell) : pileOf (lifted now q) y = if y = q.2.2.1 then (pileOf now q.2.2.1).dropLast else pileOf now y := pile_put _ _ _ _
theorem total_lift {now : List Stk} {q : Jb} (h : (pileOf now q.2.2.1).getLast? = some q.2.1) : total (lifted now q) + 1 = total now := by
  have e := total_put now q.2.2.1 (pileOf now q.2.2.1).dropLast
  have hne : pileOf now q.2.2.1 ≠ [] := fun h2 => by rw [h2] at h; simp at h
  have hl : 0 < (pileOf now q.2.2.1).length := List.length_pos_iff.2 hne
  rw [List.length_dropLast] at e
  unfold lifted
  omega
theorem total_step {height : Int} {L : List Cell} {bin : Int} {port : Cell} {now : List Stk} {q : Jb} (h : OkJ height L bin port now q) : total (stepJ now q) + (if q.1 = 2 then 1 else 0) = total now := by
  have e := total_lift h.top
  unfold stepJ
  by_cases hq : q.1 = 2
  · rw [if_pos hq, if_pos hq]; exact e
  · rw [if_neg hq, if_neg hq]
    have e2 := total_put (lifted now q) q.2.2.2 (pileOf (lifted now q) q.2.2.2 ++ [q.2.1])
    rw [List.length_append, List.length_singleton] at e2
    omega
/- A run of jobs from one state to another, each of which can be done. -/
def Runs (height : Int) (L : List Cell) (bin : Int) (port : Cell) : List Stk → List Jb → List Stk → Prop
  | now, [], e => now = e
  | now, q :: l, e => OkJ height L bin port now q ∧ Runs height L bin port (stepJ now q) l e
theorem Runs.app {height : Int} {L : List Cell} {bin : Int} {port : Cell} {b e : List Stk} {m : List Jb} (g : Runs height L bin port b m e) : ∀ {l : List Jb} {a : List Stk}, Runs height L bin port a l b → Runs height L bin port a (l ++ m) e
  | [], a, h => by
    have h2 : a = b := h
    rw [h2]
    exact g
  | q :: l, a, h => ⟨h.1, Runs.app g h.2⟩
theorem Runs.one {height : Int} {L : List Cell} {bin : Int} {port : Cell} {now : List Stk} {q : Jb} (h : OkJ height L bin port now q) : Runs height L bin port now [q] (stepJ now q) := ⟨h, rfl⟩
theorem Runs.total {height : Int} {L : List Cell} {bin : Int} {port : Cell} {b : List Stk} : ∀ {l : List Jb} {a : List Stk}, Runs height L bin port a l b → Dig.total b + (l.filter fun q => decide (q.1 = 2)).length = Dig.total a
  | [], a, h => by
    have h2 : a = b := h
    rw [h2]
    simp
  | q :: l, a, h => by
    have ih := Runs.total h.2
    have := total_step h.1
    by_cases hq : q.1 = 2
    · rw [List.filter_cons, if_pos (by simp [hq]), List.length_cons]
      rw [if_pos hq] at this
      omega
    · rw [List.filter_cons, if_neg (by simp [hq])]
      rw [if_neg hq] at this
      omega
/- What was put at a cell by the first k. -/
def giv (ab : List Int) (P : List Cell) : Nat → Cell → List Int
  | 0, _ => []
  | k + 1, y => giv ab P k y ++ (if P.getD k (0, 0) = y then [ab.getD (ab.length - 1 - k) 0] else [])
theorem giv_len (ab : List Int) (P : List Cell) (y : Cell) : ∀ k, k ≤ P.length → (giv ab P k y).length = cntC y (P.take k)
  | 0, _ => by simp [giv, cntC]
  | k + 1, h => by
    have hk : k < P.length := by omega
    have hg : P.getD k (0, 0) = P[k]'hk := by rw [List.getD_eq_getElem?_getD, List.getElem?_eq_getElem hk]; rfl
    rw [giv, List.length_append, giv_len ab P y k (by omega), List.take_add_one, List.getElem?_eq_getElem hk, hg]
    have : cntC y (P.take k ++ [P[k]'hk]) = cntC y (P.take k) + if P[k]'hk = y then 1 else 0 := cntC_snoc y _ _
    show _ = cntC y (P.take k ++ [P[k]'hk])
    rw [this]
    split <;> simp
section
variable {S : List Stk} {height : Int} {L tl : List Cell} {bin : Int} {port : Cell} {x : Cell} {j : Nat} {P : List Cell}
/- Behind k that put away. -/
def Aw (S : List Stk) (x : Cell) (ab : List Int) (P : List Cell) (k : Nat) (now : List Stk) : Prop := ∀ y, pileOf now y = if y = x then (pileOf S x).take ((pileOf S x).length - k) else pileOf S y ++ giv ab P k y
/- Behind the fetch, when all but m are put back. -/
def Ag (S : List Stk) (x : Cell) (j : Nat) (ab : List Int) (P : List Cell) (m : Nat) (now : List Stk) : Prop := ∀ y, pileOf now y = if y = x then (pileOf S x).take j ++ ab.take (ab.length - m) else pileOf S y ++ giv ab P m y
theorem aw_start (ab : List Int) : Aw S x ab P 0 S := fun y => by
  by_cases h : y = x
  · rw [if_pos h, h, Nat.sub_zero, List.take_length]
  · rw [if_neg h, giv, List.append_nil]
theorem place_at (hn : L.Nodup) (hP : Places S height L tl x P) {k : Nat} (hk : k < P.length) : P.getD k (0, 0) ∈ L ∧ P.getD k (0, 0) ≠ x ∧ (((pileOf S (P.getD k (0, 0))).length + cntC (P.getD k (0, 0)) (P.take k) : Nat) : Int) < height := by
  have hB := (places_best hn hP k).1 hk
  have hg : P.getD k (0, 0) = P[k]'hk := by rw [List.getD_eq_getElem?_getD, List.getElem?_eq_getElem hk]; rfl
  rw [hg]
  refine ⟨hB.mem, hB.ok.1.2.1, ?_⟩
  have h1 := hB.ok.2
  have h2 := hB.ok.1.2.2.2
  unfold roomOf at h1
  omega
theorem aw_step (hn : L.Nodup) (hP : Places S height L tl x P) (hj : j < (pileOf S x).length) {ab : List Int} (hab : (pileOf S x).drop (j + 1) = ab) {k : Nat} (hk : k < ab.length) (hkP : k < P.length) {now : List Stk} (h : Aw S x ab P k now) :
    OkJ height L bin port now (1, ab.getD (ab.length - 1 - k) 0, x, P.getD k (0, 0)) ∧ Aw S x ab P (k + 1) (stepJ now (1, ab.getD (ab.length - 1 - k) 0, x, P.getD k (0, 0))) := by
  obtain ⟨p1, p2, p3⟩ := place_at hn hP hkP
  have hlen : ab.length = (pileOf S x).length - (j + 1) := by rw [← hab, List.length_drop]
  have hx := h x
  rw [if_pos rfl] at hx
  have hgt : ab.getD (ab.length - 1 - k) 0 = (pileOf S x).getD ((pileOf S x).length - k - 1) 0 := by
    rw [← hab, List.getD_eq_getElem?_getD, List.getD_eq_getElem?_getD, List.getElem?_drop, List.length_drop]
    congr 2
    omega
  have hdl : ((pileOf S x).take ((pileOf S x).length - k)).dropLast = (pileOf S x).take ((pileOf S x).length - (k + 1)) := by
    rw [List.dropLast_eq_take, List.take_take, List.length_take]
    congr 1
    omega
  have hl : ∀ y, pileOf (lifted now (1, ab.getD (ab.length - 1 - k) 0, x, P.getD k (0, 0))) y = if y = x then (pileOf S x).take ((pileOf S x).length - (k + 1)) else pileOf S y ++ giv ab P k y := fun y => by
    rw [pile_lift]
    show (if y = x then (pileOf now x).dropLast else pileOf now y) = _
    by_cases q : y = x
    · rw [if_pos q, if_pos q, hx, hdl]
    · rw [if_neg q, if_neg q, h y, if_neg q]
  refine ⟨⟨?_, (fun q => by simp at q), fun _ => ⟨p1, ?_⟩⟩, fun y => ?_⟩
  · show (pileOf now x).getLast? = some (ab.getD (ab.length - 1 - k) 0)
    rw [hx, hgt, List.getLast?_eq_getElem?, List.length_take, List.getElem?_take_of_lt (by omega), List.getD_eq_getElem?_getD]
    rw [show min ((pileOf S x).length - k) (pileOf S x).length - 1 = (pileOf S x).length - k - 1 by omega, List.getElem?_eq_getElem (by omega)]
    rfl
  · show ((pileOf (lifted now _) (P.getD k (0, 0))).length : Int) < height
    rw [hl, if_neg p2, List.length_append, giv_len ab P _ k (by omega)]
    exact p3
  · unfold stepJ
    rw [if_neg (by decide : ¬ (1 : Int) = 2), pile_put]
    show (if y = P.getD k (0, 0) then pileOf (lifted now _) (P.getD k (0, 0)) ++ [_] else pileOf (lifted now _) y) = _
    by_cases q : y = P.getD k (0, 0)
    · rw [if_pos q, hl, if_neg p2, if_neg (by rw [q]; exact p2), q, giv, if_pos rfl, List.append_assoc]
    · rw [if_neg q, hl]
      by_cases q2 : y = x
      · rw [if_pos q2, if_pos q2]
      · rw [if_neg q2, if_neg q2, giv, if_neg (fun e => q e.symm), List.append_nil]
theorem aw_runs (hn : L.Nodup) (hP : Places S height L tl x P) (hj : j < (pileOf S x).length) {ab : List Int} (hab : (pileOf S x).drop (j + 1) = ab) (hlP : ab.length ≤ P.length) : ∀ k, k ≤ ab.length → ∃ now, Runs height L bin port S (awaysP ab x P k) now ∧ Aw S x ab P k now
  | 0, _ => ⟨S, rfl, aw_start ab⟩
  | k + 1, hk => by
    obtain ⟨now, h1, h2⟩ := aw_runs hn hP hj hab hlP k (by omega)
    obtain ⟨h3, h4⟩ := aw_step (bin := bin) (port := port) hn hP hj hab (by omega) (by omega) h2
    rw [awaysP_succ]
    exact ⟨_, Runs.app (.one h3) h1, h4⟩
/- The fetch. -/
theorem fetch_step (hb : (pileOf S x)[j]? = some bin) {ab : List Int} (hab : (pileOf S x).drop (j + 1) = ab) {now : List Stk} (h : Aw S x ab P ab.length now) :
    OkJ height L bin port now (2, bin, x, port) ∧ Ag S x j ab P ab.length (stepJ now (2, bin, x, port)) := by
  have hj : j < (pileOf S x).length := (List.getElem?_eq_some_iff.1 hb).1
  have hlen : ab.length = (pileOf S x).length - (j + 1) := by rw [← hab, List.length_drop]
  have hx := h x
  rw [if_pos rfl, show (pileOf S x).length - ab.length = j + 1 by omega] at hx
  refine ⟨⟨?_, fun _ => ⟨rfl, rfl⟩, fun q => absurd rfl q⟩, fun y => ?_⟩
  · show (pileOf now x).getLast? = some bin
    rw [hx, List.getLast?_eq_getElem?, List.length_take, List.getElem?_take_of_lt (by omega), show min (j + 1) (pileOf S x).length - 1 = j by omega]
    exact hb
  · unfold stepJ
    rw [if_pos rfl, pile_lift]
    show (if y = x then (pileOf now x).dropLast else pileOf now y) = _
    by_cases q : y = x
    · rw [if_pos q, if_pos q, hx, Nat.sub_self, List.take_zero, List.append_nil, List.dropLast_eq_take, List.take_take, List.length_take]
      congr 1
      omega
    · rw [if_neg q, if_neg q, h y, if_neg q]
theorem ag_step (hn : L.Nodup) (hP : Places S height L tl x P) (hxL : x ∈ L) (hb : (pileOf S x)[j]? = some bin) (hh : ((pileOf S x).length : Int) ≤ height) {ab : List Int} (hab : (pileOf S x).drop (j + 1) = ab) {m : Nat} (hm : m < ab.length) (hmP : m < P.length) {now : List Stk} (h : Ag S x j ab P (m + 1) now) :
    OkJ height L bin port now (3, ab.getD (ab.length - 1 - m) 0, P.getD m (0, 0), x) ∧ Ag S x j ab P m (stepJ now (3, ab.getD (ab.length - 1 - m) 0, P.getD m (0, 0), x)) := by
  obtain ⟨p1, p2, p3⟩ := place_at hn hP hmP
  have hj : j < (pileOf S x).length := (List.getElem?_eq_some_iff.1 hb).1
  have hlen : ab.length = (pileOf S x).length - (j + 1) := by rw [← hab, List.length_drop]
  have hf := h (P.getD m (0, 0))
  rw [if_neg p2, giv, if_pos rfl, ← List.append_assoc] at hf
  have hl : ∀ y, pileOf (lifted now (3, ab.getD (ab.length - 1 - m) 0, P.getD m (0, 0), x)) y = if y = x then (pileOf S x).take j ++ ab.take (ab.length - (m + 1)) else pileOf S y ++ giv ab P m y := fun y => by
    rw [pile_lift]
    show (if y = P.getD m (0, 0) then (pileOf now (P.getD m (0, 0))).dropLast else pileOf now y) = _
    by_cases q : y = P.getD m (0, 0)
    · rw [if_pos q, if_neg (by rw [q]; exact p2), hf, List.dropLast_concat, q]
    · rw [if_neg q, h y]
      by_cases q2 : y = x
      · rw [if_pos q2, if_pos q2]
      · rw [if_neg q2, if_neg q2, giv, if_neg (fun e => q e.symm), List.append_nil]
  have hls := hl x
  rw [if_pos rfl] at hls
  refine ⟨⟨?_, (fun q => by simp at q), fun _ => ⟨hxL, ?_⟩⟩, fun y => ?_⟩
  · show (pileOf now (P.getD m (0, 0))).getLast? = some (ab.getD (ab.length - 1 - m) 0)
    rw [hf, List.getLast?_concat]
  · show ((pileOf (lifted now _) x).length : Int) < height
    rw [hls, List.length_append, List.length_take, List.length_take]
    omega
  · unfold stepJ
    rw [if_neg (by decide : ¬ (3 : Int) = 2), pile_put]
    show (if y = x then pileOf (lifted now _) x ++ [ab.getD (ab.length - 1 - m) 0] else pileOf (lifted now _) y) = _
    by_cases q : y = x
    · rw [if_pos q, if_pos q, hls, List.append_assoc]
      congr 1
      rw [show ab.length - m = ab.length - (m + 1) + 1 by omega, List.take_add_one, show ab.length - 1 - m = ab.length - (m + 1) by omega, List.getD_eq_getElem?_getD, List.getElem?_eq_getElem (by omega)]
      rfl
    · rw [if_neg q, if_neg q, hl, if_neg q]
theorem ag_runs (hn : L.Nodup) (hP : Places S height L tl x P) (hxL : x ∈ L) (hb : (pileOf S x)[j]? = some bin) (hh : ((pileOf S x).length : Int) ≤ height) {ab : List Int} (hab : (pileOf S x).drop (j + 1) = ab) (hlP : ab.length ≤ P.length) : ∀ m, m ≤ ab.length → ∀ now, Ag S x j ab P m now → ∃ e, Runs height L bin port now (((awaysP ab x P m).map agP).reverse) e ∧ Ag S x j ab P 0 e
  | 0, _, now, h => ⟨now, rfl, h⟩
  | m + 1, hm, now, h => by
    obtain ⟨h3, h4⟩ := ag_step (port := port) hn hP hxL hb hh hab (show m < ab.length by omega) (by omega) h
    obtain ⟨e, h5, h6⟩ := ag_runs hn hP hxL hb hh hab hlP m (by omega) _ h4
    refine ⟨e, ?_, h6⟩
    rw [awaysP_succ, List.map_append, List.reverse_append]
    exact Runs.app h5 (Runs.one h3)
end
/- All of it. -/
theorem jobs_done {S : List Stk} {height : Int} {L tl : List Cell} {bin : Int} {port : Cell} {x : Cell} {j : Nat} {P : List Cell} {back : Bool} (hn : L.Nodup) (hA : At S L bin x j) (hP : Places S height L tl x P) (hh : ((pileOf S x).length : Int) ≤ height) (hlP : ((pileOf S x).drop (j + 1)).length ≤ P.length) :
    ∃ e, Runs height L bin port S (jobsP ((pileOf S x).drop (j + 1)) x P bin port back) e ∧ (back = true → ∀ y, pileOf e y = if y = x then (pileOf S x).take j ++ (pileOf S x).drop (j + 1) else pileOf S y) := by
  obtain ⟨hxL, _, hj⟩ := at_in hA
  obtain ⟨now, h1, h2⟩ := aw_runs (bin := bin) (port := port) hn hP hj rfl hlP _ (Nat.le_refl _)
  obtain ⟨h3, h4⟩ := fetch_step (height := height) (L := L) (port := port) hA.here rfl h2
  have h5 := Runs.app (.one h3) h1
  unfold jobsP
  cases back with
  | false =>
    exact ⟨_, (by simpa using h5), fun q => by cases q⟩
  | true =>
    obtain ⟨e, h6, h7⟩ := ag_runs (port := port) hn hP hxL hA.here hh rfl hlP _ (Nat.le_refl _) _ h4
    refine ⟨e, by simpa using Runs.app h6 h5, fun _ y => ?_⟩
    have := h7 y
    rw [Nat.sub_zero, List.take_length, giv, List.append_nil] at this
    exact this
/- The bin is fetched once. -/
theorem jobs_fetch (ab : List Int) (x : Cell) (P : List Cell) (bin : Int) (port : Cell) (back : Bool) : ((jobsP ab x P bin port back).filter fun q => decide (q.1 = 2)).length = 1 := by
  have h1 : ((awaysP ab x P ab.length).filter fun q => decide (q.1 = 2)) = [] := by
    rw [List.filter_eq_nil_iff]
    intro q hq
    unfold awaysP at hq
    obtain ⟨i, _, rfl⟩ := List.mem_map.1 hq
    simp
  have h2 : ((((awaysP ab x P ab.length).map agP).reverse).filter fun q => decide (q.1 = 2)) = [] := by
    rw [List.filter_eq_nil_iff]
    intro q hq
    obtain ⟨i, _, rfl⟩ := List.mem_map.1 (List.mem_reverse.1 hq)
    simp [agP]
  unfold jobsP
  rw [List.filter_append, List.filter_append, h1]
  cases back with
  | false => simp
  | true => simp only [if_true, h2]; simp
/- With Back each stack is what it was without the bin. -/
theorem back_same {l : List Int} {j : Nat} {bin : Int} (hn : l.Nodup) (h : l[j]? = some bin) : l.take j ++ l.drop (j + 1) = l.filter fun b => decide (b ≠ bin) := by
  obtain ⟨hj, e⟩ := List.getElem?_eq_some_iff.1 h
  have hs : l = l.take j ++ bin :: l.drop (j + 1) := by
    rw [← e, List.getElem_cons_drop, List.take_append_drop]
  have hn2 := hn
  rw [hs, List.nodup_append, List.nodup_cons] at hn2
  obtain ⟨_, ⟨h2, _⟩, h3⟩ := hn2
  have f1 : (l.take j).filter (fun b => decide (b ≠ bin)) = l.take j := List.filter_eq_self.2 fun b hb => by
    have := h3 b hb bin (by simp)
    simpa using this
  have f2 : (l.drop (j + 1)).filter (fun b => decide (b ≠ bin)) = l.drop (j + 1) := List.filter_eq_self.2 fun b hb => by
    have : b ≠ bin := fun e => h2 (e ▸ hb)
    simpa using this
  conv => rhs; rw [hs, List.filter_append, List.filter_cons, if_neg (by simp), f1, f2]
end Go.Proofs.Ytebfjldbhmmmlaa.Dig
