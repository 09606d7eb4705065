/-
  A loop that appends texts to a log.
-/
import Derived.Test.YtnehkjabhmhijaaWalRef
namespace Go.Proofs.Ytnehkjabhmhijaa.Wal
set_option linter.unusedVariables false
set_option linter.unusedSimpArgs false
open Go Go.RowKit Go.Shelf Go.Proofs
open Go.Proofs.Ytnehkjabhmhijaa.Disk (Row getD_in ret_int add_add DiskIs Kept St now setSt owns_row owns_same)

/- A loop that appends texts to the log: behind k of them. -/
structure Fed (W : World) (A : List Piece) (D L : Nat) (i : Nat) (s m : List Int) (c k : Nat) (wr : World) : Prop where
  live : ∃ own, Live W wr own D (logSt i s (m ++ recsOf ((A.map Piece.zs).take k))) (c + k) ∧ LogIs own wr L D i
theorem fed_next {W wr : World} {A : List Piece} {D L i c k : Nat} {s m : List Int} (h : Fed W A D L i s m c k wr) (hi : i < 2) (hk : k < A.length) (hA : A.length ≤ 40) (hc : c ≤ 4000) (hg : ∀ p ∈ A, 0 < p.zs.length ∧ p.zs.length < 3000) (hs : s.length + m.length ≤ 1000000)
    (a : Option Addr) (n cap : Nat) (zs : List Int) (hz : (A[k]).zs = zs) (hn : zs.length = n) (w5 : World) (h5 : Below wr.heap.size wr w5) (hr : Row w5 a n zs) (h0 : a = none → cap = 0) :
    Calls Try.prog 14 #[.pointer (Option.some ⟨L, 0, none⟩), .slice a n cap] w5 fun e w' => e = .returned (.int .i64 0) ∧ Fed W A D L i s m c (k + 1) w' := by
  obtain ⟨own, hl, hg'⟩ := h.live
  have hgood := hg _ (List.getElem_mem hk)
  rw [hz] at hgood
  have hlen := recs_len ((A.map Piece.zs).take k) (fun x hx => good_len hg x (List.mem_of_mem_take hx))
  rw [List.length_take, List.length_map] at hlen
  have hbd : (recsOf ((A.map Piece.zs).take k)).length ≤ 120320 := Nat.le_trans hlen (by have := Nat.mul_le_mul_right 3008 (show min k A.length ≤ 40 by omega); omega)
  refine (append_any (hl.later h5) (by omega) (hg'.go (Fr.below h5)) hi a n cap zs hr h0 (by omega) (by omega) ?_).mono ?_
  · rw [logSt_now, List.length_append, List.length_append]
    omega
  · rintro e w' ⟨rfl, own', hl', f'⟩
    refine ⟨rfl, ⟨own', ?_, (hg'.go (Fr.below h5)).go f'⟩⟩
    rw [logSt_app, List.append_assoc] at hl'
    have e : recsOf ((A.map Piece.zs).take (k + 1)) = recsOf ((A.map Piece.zs).take k) ++ rec zs := by
      rw [recs_take _ _ (by rw [List.length_map]; exact hk), List.getElem_map, hz]
    rw [e]
    exact hl'
theorem Fed.start {W wr : World} {A : List Piece} {D L i c : Nat} {s m : List Int} {own : Owns} (h : Live W wr own D (logSt i s m) c) (hl : LogIs own wr L D i) : Fed W A D L i s m c 0 wr :=
  ⟨own, by rw [List.take_zero, recsOf_nil, List.append_nil]; exact h, hl⟩
theorem Fed.below {W wr : World} {A : List Piece} {D L i c k : Nat} {s m : List Int} (h : Fed W A D L i s m c k wr) : Below W.heap.size W wr := by
  obtain ⟨own, hl, _⟩ := h.live
  exact hl.below

end Go.Proofs.Ytnehkjabhmhijaa.Wal
