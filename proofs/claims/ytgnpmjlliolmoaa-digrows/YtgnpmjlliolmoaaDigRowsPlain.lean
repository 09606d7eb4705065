/-
  A row of cells: which config it is, which jobs come of it.
-/
import Derived.Test.YtgnpmjlliolmoaaDigAwake
import Derived.Test.YtgnpmjlliolmoaaDigPlain4
namespace Go.Proofs.Ytgnpmjlliolmoaa.Dig
set_option linter.unusedVariables false
set_option linter.unusedSimpArgs false
open Go Go.RowKit Go.Shelf Go.Proofs Go.Proofs.Ytgnpmjlliolmoaa.Grid Go.Proofs.Ytgnpmjlliolmoaa.Srt

def blkR (n : Nat) : List Cell := (List.range n).map fun (i : Nat) => ((i : Int), (1 : Int))
theorem blkR_succ (n : Nat) : blkR (n + 1) = blkR n ++ [((n : Int), 1)] := by unfold blkR; rw [List.range_succ, List.map_append]; rfl
theorem blkR_len (n : Nat) : (blkR n).length = n := by simp [blkR]
def binsR (n : Nat) : List Int := (List.range n).map fun (i : Nat) => 100 + (i : Int)
theorem binsR_succ (n : Nat) : binsR (n + 1) = binsR n ++ [100 + (n : Int)] := by unfold binsR; rw [List.range_succ, List.map_append]; rfl
theorem binsR_len (n : Nat) : (binsR n).length = n := by simp [binsR]
theorem binsR_get {n j : Nat} (h : j < n) : (binsR n)[j]? = some (100 + (j : Int)) := by unfold binsR; rw [List.getElem?_map, List.getElem?_range h]; rfl
def confR (m h : Nat) : Conf := { W := (m : Int) + 2, H := 2, height := h, blocked := blkR (m + 1), ports := [((m : Int) + 1, 0)], robots := [], stacks := [], unit := 1, accel := 1, speed := 1, turn := 1, hoist := 1, queue := 1, resend := 1, budget := 1, back := false }
def u1R (m : Nat) : List Int := List.replicate (m + 2) 0 ++ List.replicate (m + 1) 1 ++ [0]
def u2R (m : Nat) : List Int := List.replicate (m + 1) 0 ++ [2] ++ List.replicate (m + 1) 1 ++ [0]
def usR (m : Nat) : List Int := List.replicate (m + 1) 4 ++ [2] ++ List.replicate (m + 1) 1 ++ [0]
def rowR (m : Nat) : List Cell := (List.range (m + 1)).map fun (i : Nat) => ((i : Int), (0 : Int))
theorem tA : ∀ m ∈ List.range' 1 8, takeAll ((m : Int) + 2) 2 1 (List.replicate (((m : Int) + 2) * 2).toNat 0) (blkR (m + 1)) = some (u1R m) := by decide +kernel
theorem tB : ∀ m ∈ List.range' 1 8, takeP ((m : Int) + 2) 2 (u1R m) [((m : Int) + 1, 0)] = some (u2R m) := by decide +kernel
theorem tC : ∀ m ∈ List.range' 1 8, stackUs ((m : Int) + 2) 2 (u2R m) = usR m := by decide +kernel
theorem tL : ∀ m ∈ List.range' 1 8, ∀ h ∈ List.range' 1 8, limited (confR m h) = true := by decide +kernel
theorem tS : ∀ m ∈ List.range' 1 8, stkUpTo ((m : Int) + 2) (usR m) (usR m).length = rowR m := by decide +kernel
theorem in8 {m : Nat} (h1 : 1 ≤ m) (h2 : m ≤ 8) : m ∈ List.range' 1 8 := by rw [List.mem_range']; exact ⟨m - 1, by omega, by omega⟩
theorem newR {m h : Nat} (m1 : 1 ≤ m) (m2 : m ≤ 8) (h1 : 1 ≤ h) (h2 : h ≤ 8) : newP (confR m h) = some ⟨(m : Int) + 2, 2, usR m, [((m : Int) + 1, 0)]⟩ := by
  have hm := in8 m1 m2
  have a := tA m hm
  have b := tB m hm
  have c := tC m hm
  have h3 : mayBeP [] := ⟨by simp, by simp, List.nodup_nil⟩
  have h4 := tL m hm h (in8 h1 h2)
  unfold newP
  rw [if_pos h4]
  simp only [confR, a, Option.bind_some, List.length_nil, List.length_cons, Nat.zero_le, if_true, b, takeR, c, carry]
  rw [if_pos (by decide)]
  simp only [Option.bind_some, b, c]
  rw [if_pos h3]
def stksR (h : Nat) : List Stk := [((0, 0), binsR h)]
theorem pileR (h : Nat) (x : Cell) : pileOf (stksR h) x = if x = (0, 0) then binsR h else [] := by
  unfold stksR
  rw [pile_cons, pile_nil]
  by_cases q : x = (0, 0)
  · rw [if_pos q, if_pos q.symm]
  · rw [if_neg q, if_neg (fun e => q e.symm)]
theorem mem_row {m : Nat} {x : Cell} : x ∈ rowR m ↔ x.2 = 0 ∧ 0 ≤ x.1 ∧ x.1 ≤ m := by
  unfold rowR
  rw [List.mem_map]
  constructor
  · rintro ⟨i, hi, rfl⟩
    rw [List.mem_range] at hi
    exact ⟨rfl, by simp, by simp; omega⟩
  · rintro ⟨h1, h2, h3⟩
    refine ⟨x.1.toNat, List.mem_range.2 (by omega), ?_⟩
    obtain ⟨a, b⟩ := x
    simp only at h1 h2 h3 ⊢
    rw [h1, Int.toNat_of_nonneg h2]
theorem away_row {a : Int} (h0 : 0 ≤ a) (h1 : a ≤ 100) : awayP (0, 0) (a, 0) = a := by
  have n1 : near a = true := (near_iff a).2 (by omega)
  have n0 : near 0 = true := (near_iff 0).2 (by omega)
  unfold awayP
  simp only [n0, n1, Bool.and_self, if_true, gapP]
  split <;> split <;> omega
/- The first h places are the cell beside. -/
theorem places_row {m h : Nat} (m1 : 1 ≤ m) (m2 : m ≤ 8) (h1 : 1 ≤ h) {P : List Cell} (hn : (rowR m).Nodup) (hP : Places (stksR h) h (rowR m) [] (0, 0) P) : ∀ i, i ≤ h → P.take i = List.replicate i (1, 0) ∧ i ≤ P.length := by
  have hmay : MayP (stksR h) h (rowR m) [] (0, 0) (1, 0) := by
    refine ⟨mem_row.2 ⟨rfl, by decide, ?_⟩, by decide, by simp, ?_⟩
    · show (1 : Int) ≤ m
      omega
    · rw [pileR, if_neg (by decide)]
      simp
      omega
  have hroom : roomOf (stksR h) h (1, 0) = h := by
    unfold roomOf
    rw [pileR, if_neg (by decide)]
    simp
  intro i
  induction i with
  | zero => intro _; simp
  | succ i ih =>
    intro hi
    obtain ⟨e, hl⟩ := ih (by omega)
    obtain ⟨q1, q2⟩ := places_best hn hP i
    have hc : cntC (1, 0) (P.take i) < roomOf (stksR h) h (1, 0) := by
      rw [e, hroom]
      unfold cntC
      rw [@List.count_replicate_self Cell instBEqOfDecidableEq]
      omega
    have hlt : i < P.length := by
      rcases Nat.lt_or_ge i P.length with q | q
      · exact q
      · exact absurd hc (q2 q _ hmay)
    have hB := q1 hlt
    have hB2 : Best (before (fun x => awayP (0, 0) x) (rowR m)) (fun x => MayP (stksR h) h (rowR m) [] (0, 0) x ∧ cntC x (P.take i) < roomOf (stksR h) h x) (rowR m) (1, 0) := by
      refine ⟨hmay.1, ⟨hmay, hc⟩, fun x hx hm => ?_⟩
      obtain ⟨x1, x2, x3⟩ := mem_row.1 hx
      have hne := hm.1.2.1
      obtain ⟨a, b⟩ := x
      simp only at x1 x2 x3
      subst x1
      have ha : a ≠ 0 := fun q => hne (by rw [q])
      by_cases h1 : a = 1
      · left; rw [h1]
      · right; left
        show awayP (0, 0) (1, 0) < awayP (0, 0) (a, 0)
        rw [away_row (by omega) (by omega), away_row x2 (by omega)]
        omega
    have hp := best_one hB hB2
    refine ⟨?_, hlt⟩
    rw [List.take_add_one, e, List.getElem?_eq_getElem hlt, hp, List.replicate_succ']
    rfl
theorem jobsR {m h k : Nat} (m1 : 1 ≤ m) (m2 : m ≤ 8) (h1 : 1 ≤ h) (hk : k < h) {r : List Jb} {e : Int} (hn : (rowR m).Nodup) (hJ : JobsR [((m : Int) + 1, 0)] (stksR h) h (rowR m) [] false (100 + (h : Int) - 1 - k) ((m : Int) + 1, 0) r e) :
    e = 0 ∧ r.length = k + 1 ∧ (∀ i, i < k → r[i]? = some (1, 100 + (h : Int) - 1 - i, (0, 0), (1, 0))) ∧ r[k]? = some (2, 100 + (h : Int) - 1 - k, (0, 0), ((m : Int) + 1, 0)) := by
  rcases hJ with ⟨q, _⟩ | ⟨_, ⟨q, _⟩ | ⟨x, j, hA, ⟨q, _⟩ | ⟨_, P, hP, q⟩⟩⟩
  · exact absurd q (by simp [portP])
  · refine absurd (List.mem_of_getElem? (binsR_get (show h - 1 - k < h by omega))) ?_
    have := q (0, 0) (mem_row.2 ⟨rfl, by decide, by show (0 : Int) ≤ m; omega⟩)
    rw [pileR, if_pos rfl] at this
    rw [show (100 : Int) + ((h - 1 - k : Nat) : Int) = 100 + (h : Int) - 1 - k by omega]
    exact this
  · simp at q
  · have g1 := hA.here
    have hx : x = (0, 0) := by
      by_cases q : x = (0, 0)
      · exact q
      · rw [pileR, if_neg q] at g1
        simp at g1
    subst hx
    rw [pileR, if_pos rfl] at g1
    have hj : j < h := by have := (List.getElem?_eq_some_iff.1 g1).1; rwa [binsR_len] at this
    rw [binsR_get hj] at g1
    injection g1 with g1
    have hjk : j + 1 + k = h := by omega
    have hd : pileOf (stksR h) (0, 0) = binsR h := by rw [pileR, if_pos rfl]
    rw [hd] at q
    have hab : ((binsR h).drop (j + 1)).length = k := by rw [List.length_drop, binsR_len]; omega
    obtain ⟨e1, e2⟩ := places_row m1 m2 h1 hn hP h (Nat.le_refl _)
    rcases q with ⟨q, _⟩ | ⟨_, _, rfl, rfl⟩
    · rw [hab] at q; omega
    · have el : (awaysP ((binsR h).drop (j + 1)) (0, 0) P k).length = k := awaysP_len _ _ _ _
      refine ⟨rfl, ?_, fun i hi => ?_, ?_⟩
      · unfold jobsP
        rw [hab]
        simp [el]
      · unfold jobsP
        rw [hab]
        simp only [Bool.false_eq_true, if_false, List.append_nil]
        rw [List.getElem?_append_left (by rw [el]; exact hi)]
        unfold awaysP
        rw [List.getElem?_map, List.getElem?_range hi]
        simp only [Option.map_some]
        have ga : ((binsR h).drop (j + 1)).getD (((binsR h).drop (j + 1)).length - 1 - i) 0 = 100 + (h : Int) - 1 - i := by
          rw [hab, List.getD_eq_getElem?_getD, List.getElem?_drop, binsR_get (by omega)]
          show (100 : Int) + _ = _
          omega
        have gp : P.getD i (0, 0) = (1, 0) := by
          have : (P.take h)[i]? = P[i]? := List.getElem?_take_of_lt (by omega)
          rw [List.getD_eq_getElem?_getD, ← this, e1, List.getElem?_replicate, if_pos (by omega)]
          rfl
        rw [ga, gp]
      · unfold jobsP
        rw [hab]
        simp only [Bool.false_eq_true, if_false, List.append_nil]
        rw [List.getElem?_append_right (by rw [el]; exact Nat.le_refl _), el, Nat.sub_self]
        rfl
end Go.Proofs.Ytgnpmjlliolmoaa.Dig
