/-
  What the laws of package skeplaw04 share: crashes, pending units, texts behind texts, how long records are.
-/
import Derived.Test.YtnehkjabhmhijaaWalSay
namespace Go.Proofs.Ytnehkjabhmhijaa.Wal
set_option linter.unusedVariables false
set_option linter.unusedSimpArgs false
open Go Go.RowKit Go.Shelf Go.Proofs
open Go.Proofs.Ytnehkjabhmhijaa.Disk (Row getD_in ret_int add_add DiskIs Kept St now setSt owns_row owns_same)

theorem openSt_form (σ : St) (i e : Nat) (zs : List Int) (h : σ i = (zs, [])) (he : e ≤ zs.length) : openSt σ i e i = (zs.take e, []) := by
  have hn : now σ i = zs := by unfold now; rw [h]; rfl
  unfold openSt
  rw [hn]
  split
  · rw [setSt_at]
  · rw [h, List.take_of_length_le (by omega)]
theorem recs_len (xs : List (List Int)) (h : ∀ x ∈ xs, x.length ≤ 3000) : (recsOf xs).length ≤ xs.length * 3008 := by
  induction xs with
  | nil => exact Nat.le_refl _
  | cons x xs ih =>
    have h1 := h x (List.mem_cons_self ..)
    have h2 := ih (fun y hy => h y (List.mem_cons_of_mem _ hy))
    rw [recsOf_cons, List.length_append, rec_len, List.length_cons]
    omega
theorem recs_take (xs : List (List Int)) (k : Nat) (hk : k < xs.length) : recsOf (xs.take (k + 1)) = recsOf (xs.take k) ++ rec xs[k] := by
  rw [List.take_succ_eq_append_getElem hk, recsOf_snoc]
/- A file's state while records are appended to it. -/
def logSt (i : Nat) (sure more : List Int) : St := setSt σ0 i (sure, more.map Sum.inl)
theorem logSt_at (i : Nat) (s m : List Int) : logSt i s m i = (s, m.map Sum.inl) := setSt_at _ _ _
theorem logSt_other (i j : Nat) (s m : List Int) (h : j ≠ i) : logSt i s m j = ([], []) := by unfold logSt setSt; rw [if_neg h]; rfl
theorem logSt_now (i : Nat) (s m : List Int) : now (logSt i s m) i = s ++ m := by unfold now; rw [logSt_at]; exact Disk.run_bytes m s
theorem logSt_app (i : Nat) (s m x : List Int) : appSt (logSt i s m) i x = logSt i s (m ++ x) := by
  unfold appSt
  rw [logSt_at]
  unfold logSt
  rw [setSt_two, List.map_append]
theorem logSt_sync (i : Nat) (s m : List Int) : setSt (logSt i s m) i (now (logSt i s m) i, []) = logSt i (s ++ m) [] := by
  rw [logSt_now]
  unfold logSt
  rw [setSt_two]
  rfl
theorem logSt_nil (i : Nat) : logSt i [] [] = σ0 := by
  funext j
  unfold logSt setSt
  split <;> rfl

theorem wpList_append_texts {w : World} {ops : Array Oper} {rest : List Oper} {o : Oper} {a : Act} {Q : Exit → Act → World → Prop} (hgd : o.guard = none) (s x : Operand)
    (ho : o.op = .call { callee := .builtin .append, args := #[s, x], argTypes := #[27, 27] }) (B : Nat)
    (v : Value) (n : Nat) (vs : List Value) (hs : a.eval s = v) (hown : w.ownsRow B 22 1 v n vs) (hB : B ≤ w.heap.size)
    (ax : Option Addr) (m c : Nat) (ps : List Piece) (hx : a.eval x = .slice ax m c) (hr : Texts w ax m ps) (h0 : ax = none → c = 0) (hb : n + m ≤ 16777216)
    (h : ∀ a' cap' w', w'.ownsRow B 22 1 (.slice a' (n + m) cap') (n + m) (vs ++ ps.map Piece.val) → w.grownBy w' v.ownBlock → wpList Try.prog ops Q rest (a.put o.dst (.slice a' (n + m) cap')) w') : wpList Try.prog ops Q (o :: rest) a w := by
  obtain ⟨i0, hi, hz0, hz1, hz2⟩ := info_parts infoT
  have hlen := hr.len
  cases ax with
  | none =>
    have hm : m = 0 := by
      rcases Nat.eq_zero_or_pos m with g | g
      · exact g
      · obtain ⟨y, hy, _⟩ := hr.cell 0 (by omega); cases hy
    obtain rfl := h0 rfl
    subst hm
    obtain rfl : ps = [] := List.eq_nil_of_length_eq_zero hlen
    obtain ⟨a', c', hv⟩ := owns_slice hown
    refine wpList_append_own_none hgd s x 27 ho B 22 i0 1 Try.underlying27 hi v n vs hs hown hx ?_
    rw [hv]
    have := h a' c' w (by rw [Nat.add_zero, List.map_nil, List.append_nil, ← hv]; exact hown) ⟨rfl, rfl, rfl, Nat.le_refl _, fun _ _ _ => rfl⟩
    rwa [Nat.add_zero] at this
  | some y =>
    refine wpList_append_own w hgd s x 27 ho B 22 i0 (.slice none 0 0) 1 24 Try.underlying27 hi hz0 hz1 hz2 rfl (by decide) v n vs hs hown y m c (ps.map Piece.val) hx (by simp [hlen]) (fun j u hj => ?_) (fun u hu => ?_) (by unfold maxLen; omega) (by omega) hB ?_
    · rw [List.getElem?_map] at hj
      by_cases g : j < ps.length
      · obtain ⟨z, hz, hc⟩ := hr.cell j g
        cases hz
        rw [List.getElem?_eq_getElem g] at hj
        rw [hc]
        simpa using hj
      · rw [List.getElem?_eq_none (by omega)] at hj
        cases hj
    · obtain ⟨p, _, rfl⟩ := List.mem_map.1 hu
      rfl
    · intro v' w' hown' hgrow hnil
      obtain ⟨a', c', rfl⟩ := owns_slice hown'
      exact h a' c' w' hown' hgrow
theorem Texts.part {w : World} {a : Option Addr} {n : Nat} {ps : List Piece} (h : Texts w a n ps) (k : Nat) (hk : k ≤ n) : Texts w a k (ps.take k) := by
  have hl := h.len
  refine ⟨by rw [List.length_take]; omega, fun i hi => ?_, fun p hp => h.piece p (List.mem_of_mem_take hp)⟩
  rw [List.length_take] at hi
  obtain ⟨x, hx, hc⟩ := h.cell i (by omega)
  exact ⟨x, hx, by rw [List.getElem_take]; exact hc⟩
theorem texts_owned {w : World} {B n c : Nat} {a : Option Addr} {ps : List Piece} (hown : w.ownsRow B 22 1 (.slice a n c) n (ps.map Piece.val)) (hp : ∀ p ∈ ps, PieceIn w p) : Texts w a n ps := by
  have hlen : ps.length = n := by have := hown.1; simpa using this
  refine ⟨hlen, fun i hi => ?_, hp⟩
  rcases hown.2 with ⟨e, h0⟩ | ⟨g, cap', cur, e, _⟩
  · omega
  · cases e
    refine ⟨_, rfl, ?_⟩
    have hc := hown.cellAt i (by omega)
    rw [Addr.add_lit, Nat.zero_add, hc, List.getElem?_map, List.getElem?_eq_getElem hi]
    rfl
theorem good_fits {ps : List Piece} (h : ∀ p ∈ ps, 0 < p.zs.length ∧ p.zs.length < 3000) : ∀ x ∈ ps.map Piece.zs, Fits x := by
  intro x hx
  obtain ⟨p, hp, rfl⟩ := List.mem_map.1 hx
  have := h p hp
  exact ⟨by omega, by omega⟩
theorem good_len {ps : List Piece} (h : ∀ p ∈ ps, 0 < p.zs.length ∧ p.zs.length < 3000) : ∀ x ∈ ps.map Piece.zs, x.length ≤ 3000 := by
  intro x hx
  obtain ⟨p, hp, rfl⟩ := List.mem_map.1 hx
  have := h p hp
  omega
end Go.Proofs.Ytnehkjabhmhijaa.Wal
