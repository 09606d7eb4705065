/-
  What the document's records say, as texts.
-/
import Derived.Test.YteklmgbfinffdaaWalRefRecs
namespace Go.Proofs.Yteklmgbfinffdaa.Wal
set_option linter.unusedVariables false
set_option linter.unusedSimpArgs false
open Go Go.RowKit Go.Shelf Go.Proofs
open Go.Proofs.Yteklmgbfinffdaa.Disk (Row getD_in ret_int add_add DiskIs Kept St now setSt owns_row owns_same wpList_append_bytes)

theorem cellsR_cons (p : Nat × Piece) (ps : List (Nat × Piece)) : cellsR (p :: ps) = [.int .i64 p.1, p.2.val] ++ cellsR ps := rfl
theorem cellsR_at (ps : List (Nat × Piece)) : ∀ (k : Nat) (h : k < ps.length), (cellsR ps)[k * 2]? = Option.some (.int .i64 (ps[k]).1) ∧ (cellsR ps)[k * 2 + 1]? = Option.some (ps[k]).2.val := by
  induction ps with
  | nil => intro k h; simp at h
  | cons p ps ih =>
    intro k h
    cases k with
    | zero => exact ⟨rfl, rfl⟩
    | succ k =>
      have := ih k (by simpa using h)
      rw [cellsR_cons, List.getElem?_append_right (by simp; omega), List.getElem?_append_right (by simp; omega)]
      simp only [List.length_cons, List.length_nil]
      rw [show (k + 1) * 2 - 2 = k * 2 by omega, show (k + 1) * 2 + 1 - 2 = k * 2 + 1 by omega]
      exact this
theorem cellsR_length (ps : List (Nat × Piece)) : (cellsR ps).length = ps.length * 2 := by
  induction ps with
  | nil => rfl
  | cons p ps ih => rw [cellsR_cons, List.length_append, ih]; simp; omega

set_option maxRecDepth 100000 in
set_option maxHeartbeats 2000000 in
theorem said_any (B : Nat) (zs : List Int) (ns : List Nat) (v : Value) (w : World) (hrec : Recs B zs ns v w) (hn : ns.length ≤ 100000) (hzl : zs.length ≤ 100000) :
    Calls Try.prog 16 #[v] w fun e w' => ∃ a' cap' qs, e = .returned (.slice a' ns.length cap') ∧ Texts w' a' ns.length qs ∧ qs.map Piece.zs = says zs 0 ns ∧ Below w.heap.size w w' := by
  obtain ⟨i0, hi, hz0, hz1, hz2⟩ := info_parts infoT
  obtain ⟨ps, ho, hp1, hp2, hfr⟩ := hrec.ex
  obtain ⟨va, vc, rfl⟩ := owns_slice ho
  have hpl : ps.length = ns.length := by have := congrArg List.length hp2; rw [List.length_map, says_length] at this; exact this
  have hsm : ∀ p ∈ ps, p.2.zs.length ≤ zs.length := by
    intro p hp
    have hz : p.2.zs ∈ says zs 0 ns := by rw [← hp2]; exact List.mem_map.2 ⟨p, hp, rfl⟩
    rw [says_places] at hz
    obtain ⟨r, _, hr⟩ := List.mem_map.1 hz
    rw [← hr, List.length_take, List.length_drop]
    omega
  obtain ⟨N, hN⟩ : ∃ N, ns.length = N := ⟨_, rfl⟩
  rw [hN] at hn hpl ho ⊢
  go_enter Try.func16, Try.ntmps16
  go_wp2
  go_loopw [3, 4] (fun v i wr => ∃ (k : Nat) (a' : Option Addr) (c' : Nat), k ≤ N ∧ i = .int .i64 k ∧ v = .slice a' k c' ∧ wr.ownsRow w.heap.size 22 1 (.slice a' k c') k ((ps.take k).map (fun p => p.2.val)) ∧ Below w.heap.size w wr) (fun _ i _ => N - (intOf i).toNat)
  case atStart => exact ⟨0, none, 0, by omega, rfl, rfl, World.ownsRow_nil _ _ _ _, Below.refl _ _⟩
  case round =>
    obtain ⟨k, a', c', hk, rfl, rfl, hown, bel⟩ := hrel
    by_cases hlt : k < N
    · have t0 : (k : Int) < (N : Int) := by omega
      obtain ⟨g, hg⟩ := Disk.own_at3 ho (by omega)
      subst hg
      have hc1 := (owns_later ho bel).cellAt (k * 2 + 1) (by omega)
      rw [(cellsR_at ps k (by omega)).2] at hc1
      obtain ⟨P, hP⟩ : ∃ P, (ps[k]'(by omega)).2 = P := ⟨_, rfl⟩
      rw [hP] at hc1
      have hnext : (ps.take (k + 1)).map (fun p => p.2.val) = (ps.take k).map (fun p => p.2.val) ++ [P.val] := by
        rw [take_next (fun p : Nat × Piece => p.2.val) ps k (by omega), hP]
      have hval : P.val = .slice P.a P.zs.length P.cap := rfl
      rw [hval] at hc1 hnext
      have hsz := bel.size
      generalize P.zs.length = lA at *
      generalize P.a = aA at *
      generalize P.cap = cA at *
      generalize (ps.take k).map (fun p => p.2.val) = vs at *
      go_wp2_with (at_builtin; refine wpList_append_own _ rfl _ _ 33 rfl w.heap.size 22 i0 (.slice none 0 0) 1 24 Try.underlying33 hi hz0 hz1 hz2 rfl (by decide) (.slice a' k c') k vs rfl (hown.alloc _) ⟨wr.heap.size, 0, none⟩ 1 1 [.slice aA lA cA] rfl rfl (cell_one_new _ _ _) (by simp [Value.oneCell']) (by unfold maxLen; omega) (by omega) (by simp; omega) ?_; intro v' w1 hown' hgrow hnil; obtain ⟨g', d', rfl⟩ := ownsRow_succ hown')
      go_roundw
      case rel => exact ⟨k + 1, _, d', by omega, by go_num, rfl, by rw [hnext]; exact hown', (bel.alloc hsz _).grown hgrow (by simp; omega) (row_from hown)⟩
      case measure => simp [intOf]; omega
    · obtain rfl : k = N := by omega
      have t0 : ¬ ((k : Int) < (k : Int)) := by omega
      rw [List.take_of_length_le (by omega)] at hown
      go_wp2
      go_ret
      refine ⟨a', ⟨c', rfl⟩, ps.map Prod.snd, texts_owned (by rw [List.map_map]; exact hown) (fun p hp => ?_), by rw [List.map_map]; exact hp2, bel⟩
      obtain ⟨q, hq, rfl⟩ := List.mem_map.1 hp
      exact fresh_in (fresh_later (hfr q hq) bel) (Nat.le_trans (hsm q hq) (by omega))
end Go.Proofs.Yteklmgbfinffdaa.Wal
