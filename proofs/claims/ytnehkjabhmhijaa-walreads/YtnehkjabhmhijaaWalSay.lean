/-
  Which of the texts that came in may be appended.
-/
import Derived.Test.YtnehkjabhmhijaaWalTexts
namespace Go.Proofs.Ytnehkjabhmhijaa.Wal
set_option linter.unusedVariables false
set_option linter.unusedSimpArgs false
open Go Go.RowKit Go.Shelf Go.Proofs
open Go.Proofs.Ytnehkjabhmhijaa.Disk (Row getD_in ret_int add_add DiskIs Kept St now setSt owns_row owns_same)

def goodB (p : Piece) : Bool := decide (0 < p.zs.length ∧ p.zs.length < 3000)
def sayOf (ps : List Piece) : List Piece := (ps.take 40).filter goodB
theorem filter_next (ps : List Piece) (k : Nat) (h : k < ps.length) : (ps.take (k + 1)).filter goodB = if goodB ps[k] then (ps.take k).filter goodB ++ [ps[k]] else (ps.take k).filter goodB := by
  rw [List.take_succ_eq_append_getElem h, List.filter_append]
  by_cases g : goodB ps[k] = true
  · rw [if_pos g]; simp [List.filter, g]
  · rw [if_neg g]; simp [List.filter, g]
theorem sayOf_good (ps : List Piece) : ∀ p ∈ sayOf ps, 0 < p.zs.length ∧ p.zs.length < 3000 := by
  intro p hp
  have := (List.mem_filter.1 hp).2
  exact of_decide_eq_true this
theorem sayOf_length (ps : List Piece) : (sayOf ps).length ≤ 40 := by
  unfold sayOf
  have := List.length_filter_le goodB (ps.take 40)
  rw [List.length_take] at this
  omega
theorem sayOf_mem (ps : List Piece) : ∀ p ∈ sayOf ps, p ∈ ps := fun p hp => List.mem_of_mem_take (List.mem_filter.1 hp).1

set_option maxRecDepth 100000 in
set_option maxHeartbeats 4000000 in
theorem say_any (a : Option Addr) (n cap : Nat) (ps : List Piece) (w : World) (hp : Texts w a n ps) (hn : n ≤ 9223372036854775807) :
    Calls Try.prog 13 #[.slice a n cap] w fun e w' => ∃ a' cap', e = .returned (.slice a' (sayOf ps).length cap') ∧ Texts w' a' (sayOf ps).length (sayOf ps) ∧ (a' = none → cap' = 0) ∧ (sayOf ps).length ≤ cap' ∧ Below w.heap.size w w' := by
  have hpl := hp.len
  obtain ⟨i0, hi, hz0, hz1, hz2⟩ := info_parts infoT
  have fin : ∀ k, k ≤ n → k ≤ 40 → (¬ k < n ∨ ¬ k < 40) → (ps.take k).filter goodB = sayOf ps := by
    intro k h1 h2 h3
    unfold sayOf
    by_cases g : k = 40
    · rw [g]
    · rw [List.take_of_length_le (by omega), List.take_of_length_le (by omega)]
  have fini : ∀ (wr : World) (va : Option Addr) (vc : Nat) (qs : List Piece), qs = sayOf ps → wr.ownsRow w.heap.size 22 1 (.slice va qs.length vc) qs.length (qs.map Piece.val) → Below w.heap.size w wr →
      ∃ a' cap', Ending.returned (.slice va qs.length vc) = .returned (.slice a' (sayOf ps).length cap') ∧ Texts wr a' (sayOf ps).length (sayOf ps) ∧ (a' = none → cap' = 0) ∧ (sayOf ps).length ≤ cap' ∧ Below w.heap.size w wr := by
    intro wr va vc qs hq ho hb
    subst hq
    obtain ⟨q1, q2, q3⟩ := Disk.owns_form ho
    refine ⟨va, vc, rfl, ⟨rfl, fun i hi => ?_, fun p hpm => ?_⟩, fun e => (q1 e).2, q3, hb⟩
    · rcases ho.2 with ⟨e, h0⟩ | ⟨g, cap', cur, e, _⟩
      · omega
      · cases e
        refine ⟨_, rfl, ?_⟩
        have hc := ho.cellAt i (by omega)
        rw [Addr.add_lit, Nat.zero_add, hc, List.getElem?_map, List.getElem?_eq_getElem hi]
        rfl
    · exact (hp.after hb).piece p (sayOf_mem ps p hpm)
  go_enter Try.func13, Try.ntmps13
  go_wp2
  go_loopw [3, 4] (fun v i wr => ∃ (k : Nat) (va : Option Addr) (vc : Nat) (qs : List Piece), k ≤ n ∧ k ≤ 40 ∧ i = .int .i64 k ∧ v = .slice va qs.length vc ∧ qs = (ps.take k).filter goodB ∧ qs.length ≤ k ∧ wr.ownsRow w.heap.size 22 1 (.slice va qs.length vc) qs.length (qs.map Piece.val) ∧ Below w.heap.size w wr) (fun _ i _ => 40 - (intOf i).toNat)
  case atStart => exact ⟨0, none, 0, [], by omega, by omega, rfl, rfl, rfl, Nat.le_refl _, World.ownsRow_nil _ _ _ _, Below.refl _ _⟩
  case round =>
    obtain ⟨k, va, vc, qs, hk, hk40, rfl, rfl, hqs0, hql, hown, bel⟩ := hrel
    have hqs : Hid (qs = (ps.take k).filter goodB) := hqs0
    clear hqs0
    by_cases hlt : k < n
    · have t0 : (k : Int) < (n : Int) := by omega
      by_cases h40 : k < 40
      · have t1 : (k : Int) < 40 := by omega
        obtain ⟨x, rfl, hcA, hiA⟩ := (hp.after bel).get k (by omega)
        have hnx := filter_next ps k (by omega)
        rw [← hqs.out] at hnx
        have hsz := bel.size
        by_cases hg : goodB ps[k] = true
        · rw [if_pos hg] at hnx
          have hg' : 0 < (ps[k]).zs.length ∧ (ps[k]).zs.length < 3000 := of_decide_eq_true hg
          have hval : Piece.val ps[k] = .slice (ps[k]).a (ps[k]).zs.length (ps[k]).cap := rfl
          obtain ⟨P, hP⟩ : ∃ P, ps[k] = P := ⟨_, rfl⟩
          rw [hP] at hnx hg' hcA hval
          generalize P.zs.length = lA at *
          generalize P.a = aA at *
          generalize P.cap = cA at *
          have u0 : (0 : Int) < (lA : Int) := by omega
          have u1 : (lA : Int) < 3000 := by omega
          have hmem : Hid ((qs ++ [P]).map Piece.val = qs.map Piece.val ++ [.slice aA lA cA]) := by rw [List.map_append, ← hval]; exact rfl
          generalize hQ : qs.map Piece.val = vs at *
          go_wp2_with (at_builtin; refine wpList_append_own _ rfl _ _ 27 rfl w.heap.size 22 i0 (.slice none 0 0) 1 24 Try.underlying27 hi hz0 hz1 hz2 rfl (by decide) (.slice va qs.length vc) qs.length vs rfl (hown.alloc _) ⟨wr.heap.size, 0, none⟩ 1 1 [.slice aA lA cA] rfl rfl (cell_one_new _ _ _) (by simp [Value.oneCell']) (by unfold maxLen; omega) (by omega) (by simp; omega) ?_; intro v' w1 hown' hgrow hnil; obtain ⟨g', c', rfl⟩ := ownsRow_succ hown')
          go_roundw
          case rel =>
            refine ⟨k + 1, _, c', qs ++ [P], by omega, by omega, by go_num, by rw [List.length_append]; rfl, hnx.symm, by rw [List.length_append]; simp; omega, ?_, ?_⟩
            · rw [hmem.out, List.length_append]
              exact hown'
            · refine (bel.alloc hsz _).grown hgrow (by simp; omega) (fun j hj => ?_)
              rcases hown.2 with ⟨e, _⟩ | ⟨g, cap', cur, e, hb, _⟩
              · rw [e] at hj; cases hj
              · rw [e] at hj; cases hj; exact hb
          case measure => simp [intOf]; omega
        · rw [if_neg hg] at hnx
          have hg' : ¬ (0 < (ps[k]).zs.length ∧ (ps[k]).zs.length < 3000) := fun h => hg (decide_eq_true h)
          generalize (ps[k]).zs.length = lA at *
          generalize (ps[k]).a = aA at *
          generalize (ps[k]).cap = cA at *
          by_cases h0 : 0 < lA
          · have u0 : (0 : Int) < (lA : Int) := by omega
            have u1 : ¬ ((lA : Int) < 3000) := by omega
            go_wp2
            go_roundw
            case rel => exact ⟨k + 1, va, vc, qs, by omega, by omega, by go_num, rfl, hnx.symm, by omega, hown, bel⟩
            case measure => simp [intOf]; omega
          · have u0 : ¬ ((0 : Int) < (lA : Int)) := by omega
            go_wp2
            go_roundw
            case rel => exact ⟨k + 1, va, vc, qs, by omega, by omega, by go_num, rfl, hnx.symm, by omega, hown, bel⟩
            case measure => simp [intOf]; omega
      · have t1 : ¬ ((k : Int) < 40) := by omega
        have hfin : Hid (qs = sayOf ps) := hqs.out.trans (fin k hk hk40 (.inr h40))
        go_wp2
        go_ret
        exact fini wr va vc qs hfin.out hown bel
    · have t0 : ¬ ((k : Int) < (n : Int)) := by omega
      have hfin : Hid (qs = sayOf ps) := hqs.out.trans (fin k hk hk40 (.inl hlt))
      go_wp2
      go_ret
      exact fini wr va vc qs hfin.out hown bel
end Go.Proofs.Ytnehkjabhmhijaa.Wal
