/-
  Both stacks as they are made.
-/
import Derived.Test.YtabbdclpjghdbaaStkRs11
namespace Go.Proofs.Ytabbdclpjghdbaa.Stk
set_option linter.unusedVariables false
set_option linter.unusedSimpArgs false
open Go Go.RowKit Go.Shelf Go.Proofs Go.Proofs.Ytabbdclpjghdbaa.Grid
attribute [local go_sem] Oper.semAt_some

section
variable {c : Conf} {G : GS} {ps : List Pile} {WN HN : Nat}
theorem placed_some {x : Cell} (h : placed c.stacks x ≠ []) : ∃ s ∈ c.stacks, s.1 = x := by
  unfold placed at h
  cases e : c.stacks.filter (fun s => decide (s.1 = x)) with
  | nil => rw [e] at h; exact absurd rfl h
  | cons s l =>
    have hm : s ∈ c.stacks.filter (fun s => decide (s.1 = x)) := by rw [e]; exact List.mem_cons_self ..
    obtain ⟨h1, h2⟩ := List.mem_filter.1 hm
    exact ⟨s, h1, of_decide_eq_true h2⟩
theorem placed_few (hN : newP c = some G) (x : Cell) : (placed c.stacks x).length ≤ 8 := by
  by_cases h : placed c.stacks x = []
  · rw [h]; exact Nat.zero_le _
  · obtain ⟨s, hs, rfl⟩ := placed_some h
    obtain ⟨e1, _, e3⟩ := placed_one hN hs
    have := (limited_sides (new_some hN).1.1).2.2.2.2.2
    rw [e1]
    omega
theorem placed_closed (hN : newP c = some G) {x : Cell} (ho : openU c.W c.H G.uses x = false) : placed c.stacks x = [] := by
  by_cases h : placed c.stacks x = []
  · exact h
  · obtain ⟨s, hs, rfl⟩ := placed_some h
    have hk := (placed_one hN hs).2.1
    rw [open_same hN, decide_eq_true hk.1] at ho
    cases ho
theorem all_piles (hlen : (ps.length : Int) = c.W * c.H) (hW : c.W = WN) (hH : c.H = HN) (hat : ∀ (i : Nat) (p : Pile), ps[i]? = some p → p.1 = cellAt c.W i) (hpl : ∀ (i : Nat) (p : Pile), ps[i]? = some p → p.2.2 = placed c.stacks p.1) :
    ps.map prS = ((List.range (WN * HN)).map (cellAt c.W)).map (fun x => (x, placed c.stacks x)) := by
  have hl : ps.length = WN * HN := by
    rw [hW, hH, ← Int.natCast_mul] at hlen
    exact Int.ofNat.inj hlen
  apply List.ext_getElem?
  intro j
  rw [List.getElem?_map, List.getElem?_map, List.getElem?_map]
  by_cases hj : j < WN * HN
  · have hp : ps[j]? = some (ps[j]'(by omega)) := List.getElem?_eq_getElem _
    rw [hp, List.getElem?_range hj]
    show some (prS _) = some _
    unfold prS
    rw [hpl j _ hp, hat j _ hp]
  · rw [List.getElem?_eq_none (by omega), List.getElem?_eq_none (by simp; omega)]
    rfl
theorem like_start (hN : newP c = some G) {qs : List Pile} (e : ps.map prS = ((List.range (WN * HN)).map (cellAt c.W)).map (fun x => (x, placed c.stacks x))) (hq : qs.map prS = pilesR c (WN * HN)) : Like c G.uses ps qs := by
  unfold Like
  rw [hq, e, List.filter_map]
  unfold pilesR opens
  congr 2
  funext x
  exact (open_same hN x).symm
theorem piles_nodup (hW : 0 < c.W) (hat : ∀ (i : Nat) (p : Pile), ps[i]? = some p → p.1 = cellAt c.W i) : (ps.map (fun p => p.1)).Nodup := by
  refine List.pairwise_iff_getElem.2 fun i j hi hj hij e => ?_
  rw [List.length_map] at hi hj
  rw [List.getElem_map, List.getElem_map, hat i _ (List.getElem?_eq_getElem hi), hat j _ (List.getElem?_eq_getElem hj)] at e
  have := cellAt_inj hW e
  omega
theorem both_start (hN : newP c = some G) (hW : c.W = WN) (hH : c.H = HN) {KP : Sk} {KR : Rk} {cs : Array Value} {vc : Value} {qs : List Pile} {ls : List Int} {w3 w4 : World} (S : StAt KP c G.uses ps ls w3) (hpl : ∀ (i : Nat) (p : Pile), ps[i]? = some p → p.2.2 = placed c.stacks p.1) (b : Below w3.heap.size w3 w4) (R : RsAt w4 KR cs vc qs ls) (hB : KR.B = w3.heap.size) (hb : ∀ b, RB KR qs b → w3.heap.size ≤ b) (hq : qs.map (fun q => (q.1, q.2.2)) = pilesR c (WN * HN)) : Both KP KR c G.uses cs vc ps qs ls w4 :=
  ⟨S.go b, R, like_start hN (all_piles S.len hW hH S.at_ hpl) hq, piles_nodup (by have := (limited_sides (new_some hN).1.1).1; omega) S.at_, by have := S.big; omega, fun k hf hr => by have := S.foot_lt k hf; have := hb k hr; omega, fun p hp ho => by
    obtain ⟨i, hi, e⟩ := List.getElem_of_mem hp
    rw [hpl i p (by rw [List.getElem?_eq_getElem hi, e])]
    exact placed_closed hN ho⟩
/- What both tell of a bin is the same. -/
theorem find_same {us : List Int} {qs : List Pile} {bin : Int} (hl : Like c us ps qs) (hc : ∀ p ∈ ps, openU c.W c.H us p.1 = false → p.2.2 = []) {x x' : Cell} {up up' : Int} (h : Found ps bin x up) (k : Found qs bin x' up') : x = x' ∧ up = up' := by
  have e1 := first_found ps h
  have e2 := first_found qs k
  rw [hl, firstS_filter bin _ _ (fun s hs ho => by obtain ⟨p, hp, rfl⟩ := List.mem_map.1 hs; exact hc p hp ho), e1] at e2
  injection e2 with e3
  exact ⟨congrArg Prod.fst e3, congrArg Prod.snd e3⟩
theorem find_either {us : List Int} {qs : List Pile} {bin : Int} (hl : Like c us ps qs) (hc : ∀ p ∈ ps, openU c.W c.H us p.1 = false → p.2.2 = []) : ¬ ((∃ x up, Found ps bin x up) ∧ ∀ (i : Nat) (p : Pile), qs[i]? = some p → bin ∉ p.2.2) ∧ ¬ ((∃ x up, Found qs bin x up) ∧ ∀ (i : Nat) (p : Pile), ps[i]? = some p → bin ∉ p.2.2) := by
  have e : firstS bin (qs.map prS) = firstS bin (ps.map prS) := by
    rw [hl]
    exact firstS_filter bin _ _ (fun s hs ho => by obtain ⟨p, hp, rfl⟩ := List.mem_map.1 hs; exact hc p hp ho)
  refine ⟨fun ⟨⟨x, up, h⟩, hn⟩ => ?_, fun ⟨⟨x, up, h⟩, hn⟩ => ?_⟩
  · rw [first_found ps h, first_none qs hn] at e; cases e
  · rw [first_found qs h, first_none ps hn] at e; cases e
theorem both_find {us : List Int} {KP : Sk} {KR : Rk} {cs : Array Value} {vc : Value} {qs : List Pile} {ls : List Int} {w : World} (h : Both KP KR c us cs vc ps qs ls w) (z : Int) : ∃ (x y up : Int) (ok : Bool),
    (∀ u, Below w.heap.size w u → Calls Try.prog 25 #[.pointer (some ⟨KP.s, 0, none⟩), .int .i64 z] u fun e w' => e = .returned (.tuple #[.agg #[.int .i64 x, .int .i64 y], .int .i64 up, .bool ok]) ∧ Below u.heap.size u w') ∧
    (∀ u, Below w.heap.size w u → Calls Try.prog 26 #[.pointer (some ⟨KR.s, 0, none⟩), .int .i64 z] u fun e w' => e = .returned (.tuple #[.agg #[.int .i64 x, .int .i64 y], .int .i64 up, .bool ok]) ∧ Below u.heap.size u w') := by
  have e : firstS z (qs.map prS) = firstS z (ps.map prS) := by
    rw [h.like]
    exact firstS_filter z _ _ (fun s hs ho => by obtain ⟨p, hp, rfl⟩ := List.mem_map.1 hs; exact h.ce p hp ho)
  cases hf : firstS z (ps.map prS) with
  | none =>
    rw [hf] at e
    refine ⟨0, 0, 0, false, fun u b => (find_any (h.go b).st z).mono fun e' w' ⟨b', k⟩ => ?_, fun u b => (rfind_any (h.go b).rs z).mono fun e' w' ⟨b', k⟩ => ?_⟩
    · rcases k with ⟨x, up, _, F⟩ | ⟨e1, _⟩
      · rw [first_found ps F] at hf; cases hf
      · exact ⟨e1, b'⟩
    · rcases k with ⟨x, up, _, F⟩ | ⟨e1, _⟩
      · rw [first_found qs F] at e; cases e
      · exact ⟨e1, b'⟩
  | some r =>
    rw [hf] at e
    refine ⟨r.1.1, r.1.2, r.2, true, fun u b => (find_any (h.go b).st z).mono fun e' w' ⟨b', k⟩ => ?_, fun u b => (rfind_any (h.go b).rs z).mono fun e' w' ⟨b', k⟩ => ?_⟩
    · rcases k with ⟨x, up, e1, F⟩ | ⟨_, Nn⟩
      · rw [first_found ps F] at hf
        injection hf with hf
        rw [← hf]
        exact ⟨e1, b'⟩
      · rw [first_none ps Nn] at hf; cases hf
    · rcases k with ⟨x, up, e1, F⟩ | ⟨_, Nn⟩
      · rw [first_found qs F] at e
        injection e with e
        rw [← e]
        exact ⟨e1, b'⟩
      · rw [first_none qs Nn] at e; cases e
end
end Go.Proofs.Ytabbdclpjghdbaa.Stk
