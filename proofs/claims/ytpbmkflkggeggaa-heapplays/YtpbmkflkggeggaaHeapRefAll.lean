/-
  All that is in the chapter's own heap, in the order in which it is given out.
-/
import Derived.Test.YtpbmkflkggeggaaHeapRefPop
namespace Go.Proofs.Ytpbmkflkggeggaa.Hp
set_option linter.unusedVariables false
set_option linter.unusedSimpArgs false
open Go Go.RowKit Go.Shelf Go.Proofs
attribute [local go_sem] Oper.semAt_some

def lenR (w : World) (r : Nat) : Nat := match w.cell? ⟨r, 0, none⟩ with
  | some (.slice _ n _) => n
  | _ => 0
theorem RAt.left {B r : Nat} {w : World} {x : Value} {L : List (Int × Int)} (h : RAt B w r x L) : lenR w r = L.length := by
  obtain ⟨a, cp, rfl, _⟩ := own_form h.row
  unfold lenR
  rw [h.cell]
theorem copyV {B : Nat} {w : World} {x : Value} {L : List (Int × Int)} (hr : w.ownsRow B 27 2 x L.length (rowL vL L)) (hm : L.length ≤ 100000) (ty : TypeId) : ∃ v' w', (Builtin.append_ #[30, 30] ty #[.slice none 0 0, x]).run Try.prog w = .ok v' w' ∧ w'.ownsRow w.heap.size 27 2 v' L.length (rowL vL L) ∧ Below w.heap.size w w' := by
  rcases hr.2 with ⟨rfl, h0⟩ | ⟨g, cap, cur, rfl, hb, hg, hnc, hcm, hcs, htake⟩
  · obtain rfl : L = [] := List.eq_nil_of_length_eq_zero h0
    obtain ⟨i0, hi, hz0, hz1, hz2⟩ := info_parts infoV
    have := run_append_owned_none (P := Try.prog) (w := w) w.heap.size 30 ty 27 i0 2 Try.underlying30 hi (.slice none 0 0) 0 [] (World.ownsRow_nil _ _ _ _)
    exact ⟨_, _, this, World.ownsRow_nil _ _ _ _, Below.refl _ _⟩
  · obtain ⟨v', w', h1, h2, h3⟩ := run_appV (w := w) (B := w.heap.size) (v := .slice none 0 0) (l := []) (zs := L) (World.ownsRow_nil _ _ _ _) ⟨g, 0, none⟩ cap (fun k u hk => by
      have q := (List.getElem?_eq_some_iff.1 hk).1
      rw [rowL_len vL_len] at q
      rw [Addr.add_lit, Nat.zero_add, hr.cellAt _ q]
      exact hk) (by simp; omega) (Nat.le_refl _) ty
    rw [List.nil_append] at h2
    exact ⟨v', w', h1, h2, ⟨h3.os, h3.tape, h3.output, h3.size, fun k hk => h3.block k hk (by intro e; cases e)⟩⟩
theorem wpList_copyV {w w' : World} {ops : Array Oper} {rest : List Oper} {o : Oper} {a : Act} {Q : Exit → Act → World → Prop} (hgd : o.guard = none) (s y : Operand)
    (ho : o.op = .call { callee := .builtin .append, args := #[s, y], argTypes := #[30, 30] }) (v x v' : Value) (hs : a.eval s = v) (hy : a.eval y = x) (hrun : (Builtin.append_ #[30, 30] o.type #[v, x]).run Try.prog w = .ok v' w')
    (h : wpList Try.prog ops Q rest (a.put o.dst v') w') : wpList Try.prog ops Q (o :: rest) a w :=
  wpList_plain hgd fun _ hK => by
    unfold Oper.wp execOp
    simp only [ho, resolve, invoke, builtin, Sem.run_bind, Sem.run_pure, Result.andThen_ok, List.map_toArray, List.map_cons, List.map_nil, hs, hy, hrun]
    exact hK _ _ h
set_option maxRecDepth 100000 in
set_option maxHeartbeats 4000000 in
theorem rall_any (B r : Nat) (x : Value) (L : List (Int × Int)) (w : World) (h : RAt B w r x L) (hm : L.length ≤ 100000) : Calls Try.prog 22 #[.pointer (some ⟨r, 0, none⟩)] w fun e w' => ∃ y, e = .returned y ∧ w'.ownsRow w.heap.size 27 2 y L.length (rowL vL (sortV L)) ∧ Below w.heap.size w w' := by
  obtain ⟨v1, w1, hrun, o1, b1⟩ := copyV h.row hm 30
  obtain ⟨xa, xc, rfl, _⟩ := own_form h.row
  obtain ⟨va, vc, rfl, _⟩ := own_form o1
  have hc := h.cell
  obtain ⟨W2, hW2⟩ : ∃ W, w1.alloc (.cells #[.slice va L.length vc] 32) = W := ⟨_, rfl⟩
  have b2 : Below w1.heap.size w1 W2 := by rw [← hW2]; exact (Below.refl _ _).alloc (Nat.le_refl _) _
  have h2 : W2.heap[w1.heap.size]? = some (.cells #[.slice va L.length vc] 32 (0, 0)) := by rw [← hW2]; exact World.alloc_heap_new _ _
  have R2 : RAt w.heap.size W2 w1.heap.size (.slice va L.length vc) L := ⟨by simp [World.cell?, h2], fun o => by simp [World.frozen?, h2], owns_go o1 b2, fun e => by have := (own_since o1 _ e).2; omega, b1.size⟩
  have b02 := bcat b1 b2
  obtain ⟨r2, hr2⟩ : ∃ r2, w1.heap.size = r2 := ⟨_, rfl⟩
  rw [hr2] at R2
  have r2w : w.heap.size ≤ r2 := by rw [← hr2]; exact b1.size
  obtain ⟨n, hn⟩ : ∃ n, L.length = n := ⟨_, rfl⟩
  have HN : Hid (L.length = n) := hn
  rw [hn] at hm hc hrun hW2 R2 ⊢
  clear h2 b2 o1 h hn
  go_enter Try.func22, Try.ntmps22
  go_wp2_with (at_builtin; refine wpList_copyV rfl _ (.tmp 10) rfl _ _ _ rfl rfl hrun ?_)
  try rw [hW2, hr2]
  try rw [hr2]
  clear hW2 hrun
  go_loopw [4] (fun lx wr => ∃ (L1 acc : List (Int × Int)) (y x1 : Value), lx = y ∧ Hid (RAt w.heap.size wr r2 x1 L1) ∧ Hid (wr.ownsRow w.heap.size 27 2 y acc.length (rowL vL acc)) ∧ Hid (acc ++ sortV L1 = sortV L) ∧ Hid (y.ownBlock ≠ some r2 ∧ ∀ k, y.ownBlock = some k → x1.ownBlock ≠ some k) ∧ L1.length ≤ n ∧ Below w.heap.size w wr) (fun lx wr => lenR wr r2)
  case atStart => exact ⟨L, [], _, _, rfl, R2, World.ownsRow_nil _ _ _ _, rfl, ⟨(fun e => by cases e), fun k hk => by cases hk⟩, by rw [HN.out]; exact Nat.le_refl _, b02⟩
  case round =>
    clear R2
    obtain ⟨L1, acc, y, x1, rfl, HR, HY, HE, HS, hL1, cr⟩ := hrel
    obtain ⟨ya, yc, rfl, _⟩ := own_form HY.out
    obtain ⟨q, hq⟩ : ∃ q, acc.length = q := ⟨_, rfl⟩
    have HQ : Hid (acc.length = q) := hq
    rw [hq] at HY HS ⊢
    clear hq
    by_cases h0 : L1 = []
    · subst h0
      have cP := rpop_none w.heap.size r2 x1 wr HR.out
      have he := HE.out
      have e0 : sortV ([] : List (Int × Int)) = [] := rfl
      rw [e0, List.append_nil] at he
      have HY2 : Hid (wr.ownsRow w.heap.size 27 2 (.slice ya q yc) L.length (rowL vL (sortV L))) := by
        unfold Hid
        rw [← sortV_len L, ← he, HQ.out]
        exact HY.out
      clear HE HY
      go_wp2_with (go_at_call 17; refine cP.mono ?_; rintro e w3 ⟨rfl, b3⟩)
      go_ret
      refine ⟨.slice ya q yc, rfl, by rw [← HN.out]; exact owns_go HY2.out (b3.alloc b3.size _), (cr.trans (b3.mono cr.size)).alloc (by have := cr.size; have := b3.size; omega) _⟩
    · have hl0 : 0 < L1.length := by
        rcases Nat.eq_zero_or_pos L1.length with e | e
        · exact (h0 (List.eq_nil_of_length_eq_zero e)).elim
        · exact e
      obtain ⟨j, hj, hjl, hs⟩ := best_all hl0
      have cP := rpop_some w.heap.size r2 x1 L1 j wr HR.out (by omega) hj hjl
      have hlen := HR.out.left
      have accl : q ≤ n := by
        have := congrArg List.length HE.out
        rw [List.length_append, sortV_len, sortV_len, HN.out, HQ.out] at this
        omega
      have HE2 : Hid ((acc ++ [L1.getD j (0, 0)]) ++ sortV (L1.eraseIdx j) = sortV L) := by unfold Hid; rw [← HE.out, hs, List.append_assoc]; rfl
      generalize L1.getD j (0, 0) = z at *
      have HL : Hid (lenR wr r2 = L1.length) := hlen
      have lE : (L1.eraseIdx j).length = L1.length - 1 := List.length_eraseIdx_of_lt hjl
      clear hlen hs hj h0
      go_wp2_with (first
        | (at_builtin; refine wpList_pushV rfl (.tmp 22) (.tmp 24) rfl w.heap.size (.slice ya q yc) acc rfl (by rw [HQ.out]; exact o4) (w3.heap.size + 1) z rfl (by simp) (by simp) (by rw [HQ.out]; omega) (by have := cr.size; have := t3.size; simp; omega) ?_; intro v5 w5 o5 g5 a5; rw [show (acc ++ [z]).length = q + 1 by rw [List.length_append, HQ.out]; rfl] at o5; obtain ⟨v5a, v5c, rfl, _⟩ := own_form o5)
        | (go_at_call 17; refine cP.mono ?_; rintro e w3 ⟨rfl, x3, R3, t3⟩; have o3 : w3.ownsRow w.heap.size 27 2 (.slice ya q yc) q (rowL vL acc) := owns_same HY.out (fun k hk => t3.block k (own_since HY.out k hk).2 (fun e => HS.out.1 (by rw [hk, e])) (HS.out.2 k hk)); have o4 := (o3.alloc (.cells #[.int .i64 z.1, .int .i64 z.2] 27)).alloc (.cells #[.int .i64 z.1, .int .i64 z.2] 27)))
      have bA : Below w3.heap.size w3 ((w3.alloc (.cells #[.int .i64 z.1, .int .i64 z.2] 27)).alloc (.cells #[.int .i64 z.1, .int .i64 z.2] 27)) := ((Below.refl _ _).alloc (Nat.le_refl _) _).alloc (by simp) _
      have y3o : ∀ k, (Value.slice ya q yc).ownBlock = some k → x3.ownBlock ≠ some k := fun k hk e => by
        rcases t3.own k e with z | z
        · exact HS.out.2 k hk z
        · have := (own_since HY.out k hk).2; omega
      have RA := R3.go bA
      have R5 : RAt w.heap.size w5 r2 x3 (L1.eraseIdx j) := RA.same (g5.block r2 RA.lt (fun e => HS.out.1 e.symm)) (fun k hk => g5.block k (own_since RA.row k hk).2 (fun e => y3o k e.symm hk))
      have zA := bA.size
      have c3 := cr.trans (RAt.past t3 HR.out cr.size)
      have c5 : Below w.heap.size w w5 := (c3.trans (bA.mono c3.size)).grown g5 (Nat.le_trans c3.size zA) (fun k e => (own_since HY.out k e).1)
      have HS5 : Hid ((Value.slice v5a (q + 1) v5c).ownBlock ≠ some r2 ∧ ∀ k, (Value.slice v5a (q + 1) v5c).ownBlock = some k → x3.ownBlock ≠ some k) := by
        have lt3 := R3.lt
        refine ⟨fun e => ?_, fun k hk e => ?_⟩
        · rcases a5 with z | z
          · exact HS.out.1 (by rw [← z]; exact e)
          · rw [z] at e; have := Option.some.inj e; omega
        · rcases a5 with z | z
          · exact y3o k (by rw [← z]; exact hk) e
          · rw [z] at hk; have := Option.some.inj hk; have := (own_since R3.row k e).2; omega
      have L5 : lenR w5 r2 = (L1.eraseIdx j).length := R5.left
      go_roundw
      case rel => exact ⟨L1.eraseIdx j, acc ++ [z], _, x3, rfl, R5, by rw [show (acc ++ [z]).length = q + 1 by rw [List.length_append, HQ.out]; rfl]; exact o5, HE2.out, HS5.out, by omega, c5⟩
      case measure => rw [L5, HL.out, lE]; omega
end Go.Proofs.Ytpbmkflkggeggaa.Hp
