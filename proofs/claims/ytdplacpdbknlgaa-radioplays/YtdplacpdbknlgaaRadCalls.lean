/-
  A radio in memory, and its calls.
-/
import Derived.Test.YtdplacpdbknlgaaRadKit
import Derived.Test.YtdplacpdbknlgaaLinkRef3
namespace Go.Proofs.Ytdplacpdbknlgaa.Lk
set_option linter.unusedVariables false
set_option linter.unusedSimpArgs false
open Go Go.RowKit Go.Shelf Go.Proofs
attribute [local go_sem] Oper.semAt_some

/- What lies in a block, its list in another one, all of it made from B on. -/
structure RdAt (T : TypeId) (B : Nat) (w : World) (p : Nat) (v : Value) (l : List Tl) : Prop where
  at_ : w.heap[p]? = some (.cells #[v] T (0, 0))
  own : Own w B v l
  ne : v.ownBlock ≠ some p
  big : B ≤ p
  len : l.length ≤ 1024
theorem RdAt.lt {T : TypeId} {B : Nat} {w : World} {p : Nat} {v : Value} {l : List Tl} (h : RdAt T B w p v l) : p < w.heap.size := (Array.getElem?_eq_some_iff.1 h.at_).1
theorem RdAt.c0 {T : TypeId} {B : Nat} {w : World} {p : Nat} {v : Value} {l : List Tl} (h : RdAt T B w p v l) : w.cell? ⟨p, 0, none⟩ = some v := by simp [World.cell?, h.at_]
theorem RdAt.go {T : TypeId} {B : Nat} {w w' : World} {p : Nat} {v : Value} {l : List Tl} (h : RdAt T B w p v l) (hb : Below w.heap.size w w') : RdAt T B w' p v l :=
  ⟨(hb.block _ h.lt).trans h.at_, owns_go h.own hb, h.ne, h.big, h.len⟩
theorem cell0 {w : World} {p : Nat} {v : Value} {T : TypeId} (h : w.heap[p]? = some (.cells #[v] T (0, 0))) : w.cell? ⟨p, 0, none⟩ = some v := by simp [World.cell?, h]
theorem set0 {w : World} {p : Nat} {v v' : Value} {T : TypeId} (h : w.heap[p]? = some (.cells #[v] T (0, 0))) : (w.setCell ⟨p, 0, none⟩ v').heap[p]? = some (.cells #[v'] T (0, 0)) := heap_setCell_same w _ _ _ h
/- What a call leaves: all but its own two blocks. -/
structure Tn (w w' : World) (p : Nat) (v v' : Value) : Prop where
  os : w'.os = w.os
  tape : w'.tape = w.tape
  output : w'.output = w.output
  size : w.heap.size ≤ w'.heap.size
  block : ∀ k, k < w.heap.size → k ≠ p → v.ownBlock ≠ some k → w'.heap[k]? = w.heap[k]?
  row : ∀ k, v'.ownBlock = some k → v.ownBlock = some k ∨ w.heap.size ≤ k
theorem Tn.refl (w : World) (p : Nat) (v : Value) : Tn w w p v v := ⟨rfl, rfl, rfl, Nat.le_refl _, fun _ _ _ _ => rfl, fun _ h => Or.inl h⟩
theorem Tn.of_below {w w' : World} (p : Nat) (v : Value) (h : Below w.heap.size w w') : Tn w w' p v v := ⟨h.os, h.tape, h.output, h.size, fun k hk _ _ => h.block k hk, fun _ h => Or.inl h⟩
theorem Tn.trans {a b c : World} {p : Nat} {u v x : Value} (h : Tn a b p u v) (k : Tn b c p v x) : Tn a c p u x :=
  ⟨k.os.trans h.os, k.tape.trans h.tape, k.output.trans h.output, Nat.le_trans h.size k.size, fun i h1 h2 h3 => (k.block i (Nat.lt_of_lt_of_le h1 h.size) h2 fun e => by
    rcases h.row i e with e1 | e1
    · exact h3 e1
    · omega).trans (h.block i h1 h2 h3), fun i e => by
    rcases k.row i e with e1 | e1
    · exact h.row i e1
    · exact Or.inr (Nat.le_trans h.size e1)⟩
theorem Tn.below {T : TypeId} {B : Nat} {W w w' : World} {p : Nat} {v v' : Value} {l : List Tl} (t : Tn w w' p v v') (h : RdAt T B w p v l) (hb : Below B W w) : Below B W w' :=
  ⟨t.os.trans hb.os, t.tape.trans hb.tape, t.output.trans hb.output, Nat.le_trans hb.size t.size, fun k hk => (t.block k (by
    have := h.lt; have := h.big; omega) (by have := h.big; omega) fun e => by have := (h.own.lt k e).1; omega).trans (hb.block k hk)⟩
theorem Tn.fresh {T : TypeId} {w w' : World} {p : Nat} {v v' : Value} {l : List Tl} (t : Tn w w' p v v') {B : Nat} (h : RdAt T B w p v l) {k : Nat} (hk : k < w.heap.size) (h1 : k ≠ p) (h2 : v.ownBlock ≠ some k) : w'.heap[k]? = w.heap[k]? := t.block k hk h1 h2
/- The row is put into its box. -/
theorem rd_put {T : TypeId} {B : Nat} {w w1 : World} {p : Nat} {v v' : Value} {l l' : List Tl} (h : RdAt T B w p v l) (hr : w.grownBy w1 v.ownBlock) (ho : Own w1 B v' l') (hv : ∀ k, v'.ownBlock = some k → v.ownBlock = some k ∨ w.heap.size ≤ k) (hl : l'.length ≤ 1024) :
    w1.heap[p]? = some (.cells #[v] T (0, 0)) ∧ RdAt T B (w1.setCell ⟨p, 0, none⟩ v') p v' l' ∧ Tn w (w1.setCell ⟨p, 0, none⟩ v') p v v' := by
  have h1 : w1.heap[p]? = some (.cells #[v] T (0, 0)) := (hr.block p h.lt fun e => h.ne e.symm).trans h.at_
  have hn : v'.ownBlock ≠ some p := fun e => by
    rcases hv p e with e1 | e1
    · exact h.ne e1
    · have := h.lt; omega
  have e2 : ∀ b, b ≠ p → (w1.setCell ⟨p, 0, none⟩ v').heap[b]? = w1.heap[b]? := fun b hb => RowKit.Below.heap_setCell _ _ _ _ hb
  have ss : (w1.setCell ⟨p, 0, none⟩ v').heap.size = w1.heap.size := by simp [World.setCell]
  refine ⟨h1, ⟨set0 h1, owns_same ho fun k hk => e2 k (fun e => hn (by rw [← e]; exact hk)), hn, h.big, hl⟩, ⟨hr.os, hr.tape, hr.output, by rw [ss]; exact hr.size, fun k hk h2 h3 => (e2 k h2).trans (hr.block k hk fun e => h3 e.symm), hv⟩⟩
set_option maxHeartbeats 1000000 in
theorem radNew_any (w : World) : Calls Try.prog 9 #[] w fun e w' => e = .returned (.pointer (some ⟨w.heap.size, 0, none⟩)) ∧ RdAt 57 w.heap.size w' w.heap.size (.slice none 0 0) [] ∧ Below w.heap.size w w' := by
  obtain ⟨w1, hw1⟩ : ∃ w1, w1 = w.alloc (.cells #[.slice none 0 0] 57) := ⟨_, rfl⟩
  have b1 : Below w.heap.size w w1 := by rw [hw1]; exact (Below.refl _ _).alloc (Nat.le_refl _) _
  have hz1 : w1.heap[w.heap.size]? = some (.cells #[.slice none 0 0] 57 (0, 0)) := by rw [hw1]; exact World.alloc_heap_new _ _
  have HE : Hid (RdAt 57 w.heap.size w1 w.heap.size (.slice none 0 0) [] ∧ Below w.heap.size w w1) := ⟨⟨hz1, World.ownsRow_nil _ _ _ _, by simp [Value.ownBlock], Nat.le_refl _, by simp⟩, b1⟩
  clear b1 hz1
  go_enter Try.func9, Try.ntmps9
  go_wp2
  rw [← hw1]
  go_ret
  exact ⟨rfl, HE.out⟩
set_option maxHeartbeats 1000000 in
theorem radLen_any {T : TypeId} {B : Nat} {w : World} {p : Nat} {v : Value} {l : List Tl} (h : RdAt T B w p v l) : Calls Try.prog 19 #[.pointer (some ⟨p, 0, none⟩)] w fun e w' => e = .returned (.int .i64 l.length) ∧ w' = w := by
  have c0 := h.c0
  obtain ⟨n, hn⟩ : ∃ n, l.length = n := ⟨_, rfl⟩
  obtain ⟨a, cap, rfl⟩ := own_slice h.own hn
  rw [hn]
  clear h hn
  go_enter Try.func19, Try.ntmps19
  go_wp2
  go_ret
  exact ⟨rfl, rfl⟩
theorem place_twice (i n : Int) (h : 0 < n) : (i.tmod n + n).tmod n = place i n := by
  have h2 := Int.tmod_lt_of_pos i h
  have h3 := tmod_low i n h
  unfold place
  split
  · rw [Int.tmod_eq_emod_of_nonneg (by omega), Int.emod_eq_of_lt (by omega) (by omega)]
  · rw [Int.tmod_eq_emod_of_nonneg (by omega), Int.add_emod_right, Int.emod_eq_of_lt (by omega) (by omega)]
/- Which one a number means. -/
def plN (i : Int) (n : Nat) : Nat := (place i n).toNat
theorem plN_lt (i : Int) {n : Nat} (h : 0 < n) : plN i n < n := by
  have := place_bd i n (by omega)
  unfold plN
  omega
theorem plN_eq (i : Int) {n : Nat} (h : 0 < n) : (plN i n : Int) = place i n := by
  have := place_bd i n (by omega)
  unfold plN
  omega
set_option maxHeartbeats 1000000 in
theorem radPlace_any {T : TypeId} {B : Nat} {w : World} {p : Nat} {v : Value} {l : List Tl} (h : RdAt T B w p v l) (i : Int) (h0 : 0 < l.length) : Calls Try.prog 20 #[.pointer (some ⟨p, 0, none⟩), .int .i64 i] w fun e w' => e = .returned (.tuple #[.int .i64 (plN i l.length), .bool true]) ∧ w' = w := by
  have c0 := h.c0
  have hl := h.len
  obtain ⟨n, hn⟩ : ∃ n, l.length = n := ⟨_, rfl⟩
  obtain ⟨a, cap, rfl⟩ := own_slice h.own hn
  rw [hn] at h0 hl ⊢
  have h2 := Int.tmod_lt_of_pos i (show (0 : Int) < n by omega)
  have h3 := tmod_low i n (by omega)
  have H1 : Hid ((i.tmod n + n) % n = (plN i n : Int)) := by
    rw [plN_eq i h0, ← place_twice i n (by omega)]
    exact (Int.tmod_eq_emod_of_nonneg (a := i.tmod n + n) (by omega)).symm
  have e0 : ((n : Int) == 0) = false := by simp; omega
  have e1 : ¬ ((n : Int) = 0) := by omega
  clear h hn
  go_enter Try.func20, Try.ntmps20
  go_wp2
  go_ret2
  exact ⟨congrArg (fun z => Ending.returned (.tuple #[.int .i64 z, .bool true])) H1.out, rfl⟩
set_option maxHeartbeats 1000000 in
theorem radPlace_none {T : TypeId} {B : Nat} {w : World} {p : Nat} {v : Value} (h : RdAt T B w p v []) (i : Int) : Calls Try.prog 20 #[.pointer (some ⟨p, 0, none⟩), .int .i64 i] w fun e w' => e = .returned (.tuple #[.int .i64 0, .bool false]) ∧ w' = w := by
  have c0 := h.c0
  obtain ⟨a, cap, rfl⟩ := own_slice h.own (n := 0) rfl
  clear h
  go_enter Try.func20, Try.ntmps20
  go_wp2
  go_ret2
  exact ⟨rfl, rfl⟩
set_option maxRecDepth 100000 in
set_option maxHeartbeats 1000000 in
theorem radDrop_any {T : TypeId} {B : Nat} {w : World} {p : Nat} {v : Value} {l : List Tl} (h : RdAt T B w p v l) (k : Nat) (hk : k < l.length) : Calls Try.prog 21 #[.pointer (some ⟨p, 0, none⟩), .int .i64 k] w fun e w' => e = .returned (.tuple #[]) ∧ ∃ v', RdAt T B w' p v' (cutP l k) ∧ Tn w w' p v v' := by
  have c0 := h.c0
  have hl := h.len
  have cd := delete_any h.own k hk (by omega)
  have HP : Hid (∀ {w1 : World} {v' : Value}, Own w1 B v' (cutP l k) → v'.ownBlock = v.ownBlock → w.grownBy w1 v.ownBlock → w1.heap[p]? = some (.cells #[v] T (0, 0)) ∧ RdAt T B (w1.setCell ⟨p, 0, none⟩ v') p v' (cutP l k) ∧ Tn w (w1.setCell ⟨p, 0, none⟩ v') p v v') :=
    fun ho hv hr => rd_put h hr ho (fun k e => Or.inl (hv ▸ e)) (by rw [cutP_len l hk]; omega)
  have hk1 : (k : Int) + 1 ≤ 1024 := by omega
  obtain ⟨m, hm⟩ : ∃ m, (cutP l k).length = m := ⟨_, rfl⟩
  have HM : Hid ((cutP l k).length = m) := hm
  clear hm
  clear h hl hk
  go_enter Try.func21, Try.ntmps21
  go_wp2_with (first
    | (go_at_call 25; refine cd.mono ?_; rintro e w1 ⟨v', rfl, O1, e1, g1⟩; obtain ⟨a1, m1, rfl⟩ := own_slice O1 HM.out; obtain ⟨h1, h2, h3⟩ := HP.out O1 e1 g1; have c1 := cell0 h1; have f1 := thaw (j := 0) h1; clear cd g1 O1 e1 h1))
  go_end0
  exact ⟨rfl, _, h2, h3⟩
end Go.Proofs.Ytdplacpdbknlgaa.Lk
