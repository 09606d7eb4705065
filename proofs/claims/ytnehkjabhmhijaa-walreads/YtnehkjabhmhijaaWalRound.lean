/-
  One round of the law WalRecords: what Records returned tells the law's own function each record, until it says no more.
-/
import Derived.Test.YtnehkjabhmhijaaWalTell
import Derived.Test.YtnehkjabhmhijaaWalBytesWalk
namespace Go.Proofs.Ytnehkjabhmhijaa.Wal
set_option linter.unusedVariables false
set_option linter.unusedSimpArgs false
open Go Go.RowKit Go.Shelf Go.Proofs
open Go.Proofs.Ytnehkjabhmhijaa.Disk (Row getD_in ret_int add_add DiskIs Kept St now setSt owns_row owns_same)

theorem Recs.move {B : Nat} {zs : List Int} {ms : List Nat} {v : Value} {w w' : World} (h : Recs B zs ms v w) (key : ∀ {e : TypeId} {size : Nat} {u : Value} {n : Nat} {xs : List Value}, e = 40 ∨ e = 5 → w.ownsRow B e size u n xs → w'.ownsRow B e size u n xs) : Recs B zs ms v w' := by
  obtain ⟨ps, ho, h1, h2, hf⟩ := h.ex
  exact ⟨ps, key (Or.inl rfl) ho, h1, h2, fun p hp => ⟨key (Or.inr rfl) (hf p hp).own, (hf p hp).small⟩⟩
theorem Recs.turn {B OKB KB : Nat} {zs : List Int} {ms : List Nat} {v u x : Value} {w w' : World} (h : Recs B zs ms v w) (hO : Boxed w OKB 4 u) (hK : Boxed w KB 3 x) (ht : Turn (CK OKB KB) w w') : Recs B zs ms v w' :=
  h.move fun {e size u n xs} he hu => owns_same hu fun k hk => by
    have n1 : k ≠ OKB := own_apart hu hO (by rcases he with rfl | rfl <;> decide) k hk
    have n2 : k ≠ KB := own_apart hu hK (by rcases he with rfl | rfl <;> decide) k hk
    have hlt : k < w.heap.size := by
      rcases hu.2 with ⟨e', _⟩ | ⟨g, cap, cur, e', hb, hg, _⟩
      · rw [e'] at hk; cases hk
      · rw [e'] at hk; cases hk; exact (Array.getElem?_eq_some_iff.1 hg).1
    exact ht.block k hlt (fun c => Or.elim c n1 n2)
theorem Recs.later {B : Nat} {zs : List Int} {ms : List Nat} {v : Value} {w w' : World} (h : Recs B zs ms v w) (hb : Below w.heap.size w w') : Recs B zs ms v w' := h.move fun _ hu => owns_later hu hb
theorem boxed_after {w w' : World} {B : Nat} {t : TypeId} {v : Value} (h : Boxed w B t v) (hb : Below w.heap.size w w') : Boxed w' B t v := (hb.block B h.lt).trans h

/- What lies there while the records are told: those told so far are pre. -/
structure JJ (zs : List Int) (ns : List Nat) (va : Option Addr) (N vc OKB KB WB NB B n : Nat) (pre : List (Rec zs)) (V : World) : Prop where
  ok : ∃ b, Boxed V OKB 4 (.bool b) ∧ (pre.map Subtype.val = (places 0 ns).take pre.length → b = true)
  k : Boxed V KB 3 (.int .i64 pre.length)
  wb : Boxed V WB 31 (.slice va N vc)
  nb : Boxed V NB 3 (.int .i64 n)
  recs : Recs B zs ns (.slice va N vc) V
theorem JJ.kept {zs : List Int} {ns : List Nat} {va : Option Addr} {N vc OKB KB WB NB B n : Nat} {pre : List (Rec zs)} {X Y : World} {row : Option Nat} (h : JJ zs ns va N vc OKB KB WB NB B n pre X) (hg : X.grownBy Y row) (hr : ∀ r, row = Option.some r → ∃ o : Obj, X.heap[r]? = Option.some o ∧ o.isCells = false) : JJ zs ns va N vc OKB KB WB NB B n pre Y := by
  obtain ⟨b, hb, hi⟩ := h.ok
  exact ⟨⟨b, box_kept hb hg hr, hi⟩, box_kept h.k hg hr, box_kept h.wb hg hr, box_kept h.nb hg hr, h.recs.move fun _ hu => row_kept hu hg hr⟩
theorem JJ.after {zs : List Int} {ns : List Nat} {va : Option Addr} {N vc OKB KB WB NB B n : Nat} {pre : List (Rec zs)} {X Y : World} (h : JJ zs ns va N vc OKB KB WB NB B n pre X) (hb : Below X.heap.size X Y) : JJ zs ns va N vc OKB KB WB NB B n pre Y := by
  obtain ⟨b, h1, hi⟩ := h.ok
  exact ⟨⟨b, boxed_after h1 hb, hi⟩, boxed_after h.k hb, boxed_after h.wb hb, boxed_after h.nb hb, h.recs.later hb⟩
theorem take_snoc {α β : Type} (f : α → β) (l : List β) (pre : List α) (r : α) (h : (pre ++ [r]).map f = l.take (pre ++ [r]).length) (hl : pre.length < l.length) : pre.map f = l.take pre.length ∧ l[pre.length]? = Option.some (f r) := by
  rw [List.length_append, List.length_singleton, List.take_add_one, List.map_append, List.map_singleton, List.getElem?_eq_getElem hl, Option.toList_some] at h
  have := List.append_inj' h rfl
  refine ⟨this.1, ?_⟩
  rw [List.getElem?_eq_getElem hl]
  exact congrArg Option.some (List.singleton_inj.1 this.2).symm

set_option maxRecDepth 100000 in
set_option maxHeartbeats 2000000 in
theorem round_any (V : World) (B0 OKB KB WB NB B n N vc len cap : Nat) (va a : Option Addr) (zs : List Int) (ns : List Nat) (hd : Done zs ns) (hns : ns.length = N) (hN : N ≤ 100000) (hn : n ≤ N) (hkn : KB ≠ NB)
    (hB0 : V.cell? ⟨B0, 0, none⟩ = Option.some (.slice a len cap)) (hr : Row V a len zs) (base : Nat) (how : V.ownsRow base 5 1 (.slice a len cap) len (zs.map (Value.int .u8))) (hlen : len ≤ 100000) (hBO : B0 ≠ OKB) (hBK : B0 ≠ KB)
    (hOK : Boxed V OKB 4 (.bool true)) (hKB : Boxed V KB 3 (.int .i64 0)) (hWB : Boxed V WB 31 (.slice va N vc)) (hNB : Boxed V NB 3 (.int .i64 n)) (hrec : Recs B zs ns (.slice va N vc) V) :
    Calls Try.prog 28 #[.func (.func 12) #[] #[.pointer (Option.some ⟨OKB, 0, none⟩), .pointer (Option.some ⟨KB, 0, none⟩), .pointer (Option.some ⟨WB, 0, none⟩), .pointer (Option.some ⟨NB, 0, none⟩)], .pointer (Option.some ⟨B0, 0, none⟩)] V fun e V' =>
      (∃ v, e = .returned v) ∧ Turn (CK OKB KB) V V' ∧ Boxed V' OKB 4 (.bool true) ∧ ∃ k : Nat, Boxed V' KB 3 (.int .i64 k) ∧ (k = n ∨ (n = 0 ∧ k = 1 ∧ 1 ≤ N)) := by
  obtain ⟨f1, f2, f3⟩ := Disk.owns_form how
  have hcap : cap ≤ 9223372036854775807 := by
    rcases how.2 with ⟨e, _⟩ | ⟨g, cap', cur, e, _, _, _, hc2, _⟩
    · rw [Value.slice.injEq] at e; omega
    · rw [Value.slice.injEq] at e; unfold maxLen at hc2; omega
  have hB0l := World.block_lt_of_cell? V _ hB0
  obtain ⟨x, hx, hxb, hxC⟩ : ∃ x : Addr, (∀ y, a = Option.some y → y = x) ∧ x.block < V.heap.size ∧ ∀ k, CK OKB KB k → k ≠ x.block := by
    cases a with
    | none => exact ⟨⟨B0, 0, none⟩, fun y hy => (by cases hy), hB0l, fun k hk e => Or.elim hk (fun h => hBO (e.symm.trans h)) (fun h => hBK (e.symm.trans h))⟩
    | some y =>
      obtain ⟨g, hg, hgl⟩ := f2 y rfl
      refine ⟨y, fun z hz => (Option.some.inj hz).symm, by rw [hg]; exact hgl, fun k hk e => ?_⟩
      have n1 : g ≠ OKB := own_apart how hOK (by decide) g (by rw [hg]; rfl)
      have n2 : g ≠ KB := own_apart how hKB (by decide) g (by rw [hg]; rfl)
      rw [hg] at e
      rcases hk with h | h
      · exact n1 (e.symm.trans h)
      · exact n2 (e.symm.trans h)
  have hpl : (places 0 ns).length = N := by rw [places_length, hns]
  have hJ0 : JJ zs ns va N vc OKB KB WB NB B n [] V := ⟨⟨true, hOK, fun _ => rfl⟩, hKB, hWB, hNB, hrec⟩
  refine (callsIn_wide.1 (iter_any #[.pointer (Option.some ⟨OKB, 0, none⟩), .pointer (Option.some ⟨KB, 0, none⟩), .pointer (Option.some ⟨WB, 0, none⟩), .pointer (Option.some ⟨NB, 0, none⟩)] B0 x len cap zs ns V hd f3 hcap (by omega) (CK OKB KB) a hx f1 hB0 hr hxb
    (fun k hk => ⟨Or.elim hk (fun h => h ▸ hOK.lt) (fun h => h ▸ hKB.lt), hxC k hk⟩)
    (fun pre V => JJ zs ns va N vc OKB KB WB NB B n pre V ∧ (pre = [] ∨ pre.length < n)) (fun pre V => JJ zs ns va N vc OKB KB WB NB B n pre V ∧ pre ≠ [] ∧ n ≤ pre.length ∧ (pre.length = 1 ∨ pre.length ≤ n))
    (fun s X Y row h hg hr => ⟨h.1.kept hg (fun r e => (hr r e).2), h.2⟩) (fun s X Y row h hg hr => ⟨h.1.kept hg (fun r e => (hr r e).2), h.2⟩) ?_ ⟨hJ0, Or.inl rfl⟩)).mono ?_
  · rintro pre r V1 V2 a' c' ⟨hj, hp⟩ hlt ht hb hrow
    have hj2 := hj.after hb
    obtain ⟨b, hb1, hbi⟩ := hj2.ok
    have hr2 := r.2
    refine (tell_any V2 OKB KB WB NB B pre.length N vc r.1.1 r.1.2 c' b n va a' zs (bytesAt zs r) ns hj2.recs hns hb1 hj2.k hj2.wb hj2.nb hkn (by omega) hN hrow (by omega)).mono ?_
    rintro e V3 ⟨rfl, b', hb3, hk3, ht3, himp⟩
    have hj3 : JJ zs ns va N vc OKB KB WB NB B n (pre ++ [r]) V3 := by
      refine ⟨⟨b', hb3, fun hpre => himp ?_⟩, ?_, box_turn hj2.wb ht3 ?_, box_turn hj2.nb ht3 ?_, hj2.recs.turn hb1 hj2.k ht3⟩
      · obtain ⟨q1, q2⟩ := take_snoc Subtype.val (places 0 ns) pre r hpre (by omega)
        refine ⟨hbi q1, by rw [List.getElem?_map, q2]; rfl, ?_⟩
        rw [says_places, List.getElem?_map, q2]
        rfl
      · rw [List.length_append, List.length_singleton]
        exact hk3
      · intro c
        rcases c with c | c
        · exact box_ne hb1 hj2.wb (by decide) c.symm
        · exact box_ne hj2.k hj2.wb (by decide) c.symm
      · intro c
        rcases c with c | c
        · exact box_ne hb1 hj2.nb (by decide) c.symm
        · exact hkn c.symm
    by_cases hlt2 : pre.length + 1 < n
    · left
      refine ⟨by rw [decide_eq_true (by omega)], ⟨hj3, Or.inr (by rw [List.length_append, List.length_singleton]; exact hlt2)⟩, ht3⟩
    · right
      refine ⟨by rw [decide_eq_false (by omega)], ⟨hj3, by simp, by rw [List.length_append, List.length_singleton]; omega, ?_⟩, ht3⟩
      rw [List.length_append, List.length_singleton]
      rcases hp with rfl | hp
      · left; rfl
      · right; omega
  · rintro e V' ⟨hv, ht, ⟨ys, hys, hj, hp⟩ | ⟨pre, ⟨ms, hms, hpre⟩, hj, hne, hge, hle⟩⟩
    · have hyl : ys.length = N := by have := congrArg List.length hys; rw [List.length_map, hpl] at this; exact this
      obtain ⟨b, hb, hbi⟩ := hj.ok
      obtain rfl := hbi (by rw [hys, List.take_of_length_le (by omega)])
      refine ⟨hv, ht, hb, ys.length, hj.k, Or.inl ?_⟩
      rcases hp with rfl | hp
      · simp at hyl; simp; omega
      · omega
    · obtain ⟨b, hb, hbi⟩ := hj.ok
      obtain ⟨rest, hrest⟩ := hms
      have hpl2 : pre.length = ms.length := by have := congrArg List.length hpre; rw [List.length_map, places_length] at this; exact this
      obtain rfl := hbi (by rw [hpre, ← hrest, places_append, hpl2, ← places_length ms 0, List.take_left])
      have hpos : 1 ≤ pre.length := List.length_pos_iff.2 hne
      have hmN : ms.length ≤ N := by rw [← hns, ← hrest, List.length_append]; omega
      refine ⟨hv, ht, hb, pre.length, hj.k, ?_⟩
      rcases hle with h1 | h1
      · by_cases hn0 : n = 0
        · exact Or.inr ⟨hn0, h1, by omega⟩
        · exact Or.inl (by omega)
      · exact Or.inl (by omega)
end Go.Proofs.Ytnehkjabhmhijaa.Wal
