/-
  Lists of three numbers each in memory; a table in memory; what a call of a table turns.
-/
import Derived.Test.YtddkgkafgjdheaaHeapKit
import Derived.Test.YtddkgkafgjdheaaResvPlain
import Derived.Maps.AppendAt
import Derived.Deep.CutRange
namespace Go.Proofs.Ytddkgkafgjdheaa.Rs
set_option linter.unusedVariables false
set_option linter.unusedSimpArgs false
open Go Go.RowKit Go.Shelf Go.Proofs Hp
attribute [local go_sem] Oper.semAt_some

/- What is wanted: a cell, from, to. -/
structure Wn where
  c : Int
  f : Int
  t : Int
def slL (x : Sl) : List Value := [.int .i64 x.f, .int .i64 x.t, .int .i64 x.r]
def wnL (x : Wn) : List Value := [.int .i64 x.c, .int .i64 x.f, .int .i64 x.t]
theorem slL_len (x : Sl) : (slL x).length = 3 := rfl
theorem wnL_len (x : Wn) : (wnL x).length = 3 := rfl
/- The items of a list lie from there on. -/
def Cs {α : Type} (f : α → List Value) (w : World) (g o : Nat) (l : List α) : Prop := ∀ j u, (rowL f l)[j]? = some u → w.cell? ⟨g, o + j, none⟩ = some u
section
variable {α : Type} {f : α → List Value} {w w' : World} {g o : Nat} {l : List α}
theorem Cs.at (hf : ∀ x, (f x).length = 3) (h : Cs f w g o l) (i : Nat) (hi : i < l.length) (j : Nat) (u : Value) (hu : (f l[i])[j]? = some u) : w.cell? ⟨g, o + i * 3 + j, none⟩ = some u := by
  rw [Nat.add_assoc]; exact h _ _ (rowL_at hf l i hi j u hu)
theorem Cs.lt (hf : ∀ x, (f x).length = 3) (h : Cs f w g o l) (h0 : 0 < l.length) : g < w.heap.size := by
  have hl : 0 < (f l[0]).length := by rw [hf]; omega
  have := h.at hf 0 h0 0 (f l[0])[0] (by rw [List.getElem?_eq_getElem hl])
  exact World.block_lt_of_cell? w _ this
theorem Cs.same (h : Cs f w g o l) (hb : w'.heap[g]? = w.heap[g]?) : Cs f w' g o l := fun j u hj => (cell_same hb).trans (h j u hj)
theorem Cs.go (hf : ∀ x, (f x).length = 3) (h : Cs f w g o l) (hb : Below w.heap.size w w') : Cs f w' g o l := by
  by_cases h0 : 0 < l.length
  · exact h.same (hb.block g (h.lt hf h0))
  · obtain rfl : l = [] := List.eq_nil_of_length_eq_zero (by omega)
    intro j u hj; simp [rowL] at hj
theorem rowL_drop (hf : ∀ x, (f x).length = 3) (l : List α) (i : Nat) : rowL f (l.drop i) = (rowL f l).drop (i * 3) := by
  induction l generalizing i with
  | nil => simp [rowL]
  | cons x l ih =>
    cases i with
    | zero => simp
    | succ i =>
      rw [List.drop_succ_cons, ih, show rowL f (x :: l) = f x ++ rowL f l from rfl, List.drop_append, hf, List.drop_eq_nil_of_le (show (f x).length ≤ (i + 1) * 3 by rw [hf]; omega), List.nil_append]
      congr 1
      omega
theorem rowL_take (hf : ∀ x, (f x).length = 3) (l : List α) (i : Nat) : rowL f (l.take i) = (rowL f l).take (i * 3) := by
  induction l generalizing i with
  | nil => simp [rowL]
  | cons x l ih =>
    cases i with
    | zero => simp [rowL]
    | succ i =>
      rw [List.take_succ_cons, show rowL f (x :: l.take i) = f x ++ rowL f (l.take i) from rfl, ih, show rowL f (x :: l) = f x ++ rowL f l from rfl, List.take_append, hf, List.take_of_length_le (l := f x) (by rw [hf]; omega)]
      congr 2
      omega
theorem Cs.drop (hf : ∀ x, (f x).length = 3) (h : Cs f w g o l) (i : Nat) : Cs f w g (o + i * 3) (l.drop i) := fun j u hj => by
  rw [rowL_drop hf, List.getElem?_drop] at hj
  rw [Nat.add_assoc]
  exact h _ _ hj
theorem Cs.take (hf : ∀ x, (f x).length = 3) (h : Cs f w g o l) (i : Nat) : Cs f w g o (l.take i) := fun j u hj => by
  rw [rowL_take hf, List.getElem?_take] at hj
  split at hj
  · exact h _ _ hj
  · cases hj
/- A list, told by its slice. -/
def RowAt (f : α → List Value) (F : Nat → Prop) (w : World) (v : Value) (l : List α) : Prop :=
  (v = .slice none 0 0 ∧ l = []) ∨ ∃ g o cap, v = .slice (some ⟨g, o, none⟩) l.length cap ∧ l.length ≤ cap ∧ cap ≤ maxLen ∧ (0 < l.length → F g) ∧ Cs f w g o l
variable {F G : Nat → Prop} {v : Value}
theorem RowAt.form (h : RowAt f F w v l) : ∃ a cap, v = .slice a l.length cap ∧ l.length ≤ cap ∧ cap ≤ maxLen ∧ (a = none → l = [] ∧ cap = 0) := by
  rcases h with ⟨rfl, rfl⟩ | ⟨g, o, cap, rfl, h1, h2, h3, h4⟩
  · exact ⟨none, 0, rfl, Nat.le_refl _, Nat.zero_le _, fun _ => ⟨rfl, rfl⟩⟩
  · exact ⟨_, cap, rfl, h1, h2, fun e => by cases e⟩
theorem RowAt.has (h : RowAt f F w v l) (h0 : 0 < l.length) : ∃ g o cap, v = .slice (some ⟨g, o, none⟩) l.length cap ∧ l.length ≤ cap ∧ cap ≤ maxLen ∧ F g ∧ Cs f w g o l := by
  rcases h with ⟨rfl, rfl⟩ | ⟨g, o, cap, rfl, h1, h2, h3, h4⟩
  · simp at h0
  · exact ⟨g, o, cap, rfl, h1, h2, h3 h0, h4⟩
theorem RowAt.mono (h : RowAt f F w v l) (hG : ∀ k, F k → G k) : RowAt f G w v l := by
  rcases h with ⟨rfl, rfl⟩ | ⟨g, o, cap, rfl, h1, h2, h3, h4⟩
  · exact Or.inl ⟨rfl, rfl⟩
  · exact Or.inr ⟨g, o, cap, rfl, h1, h2, fun q => hG _ (h3 q), h4⟩
/- A list is where its memory is: the footprint is known to be old. -/
theorem RowAt.old (hf : ∀ x, (f x).length = 3) (h : RowAt f F w v l) : RowAt f (fun k => F k ∧ k < w.heap.size) w v l := by
  rcases h with ⟨rfl, rfl⟩ | ⟨g, o, cap, rfl, h1, h2, h3, h4⟩
  · exact Or.inl ⟨rfl, rfl⟩
  · exact Or.inr ⟨g, o, cap, rfl, h1, h2, fun q => ⟨h3 q, h4.lt hf q⟩, h4⟩
theorem RowAt.same (h : RowAt f F w v l) (hb : ∀ k, F k → w'.heap[k]? = w.heap[k]?) : RowAt f F w' v l := by
  rcases h with ⟨rfl, rfl⟩ | ⟨g, o, cap, rfl, h1, h2, h3, h4⟩
  · exact Or.inl ⟨rfl, rfl⟩
  · refine Or.inr ⟨g, o, cap, rfl, h1, h2, h3, ?_⟩
    by_cases h0 : 0 < l.length
    · exact h4.same (hb g (h3 h0))
    · obtain rfl : l = [] := List.eq_nil_of_length_eq_zero (by omega)
      intro j u hj; simp [rowL] at hj
theorem RowAt.go (hf : ∀ x, (f x).length = 3) (h : RowAt f F w v l) (hb : Below w.heap.size w w') : RowAt f F w' v l :=
  ((h.old hf).same fun k hk => hb.block k hk.2).mono fun k hk => hk.1
theorem row_of_own (hf : ∀ x, (f x).length = 3) {B : Nat} {e : TypeId} (h : w.ownsRow B e 3 v l.length (rowL f l)) : RowAt f (fun k => v.ownBlock = some k ∧ B ≤ k ∧ k < w.heap.size) w v l := by
  rcases h.2 with ⟨rfl, h0⟩ | ⟨g, cap, cur, rfl, hb, hg, hnc, hcm, hcs, htake⟩
  · exact Or.inl ⟨rfl, List.eq_nil_of_length_eq_zero h0⟩
  · refine Or.inr ⟨g, 0, cap, rfl, hnc, hcm, fun _ => ⟨rfl, hb, (Array.getElem?_eq_some_iff.1 hg).1⟩, fun j u hj => ?_⟩
    rw [Nat.zero_add]
    have hk := (List.getElem?_eq_some_iff.1 hj).1
    rw [rowL_len hf] at hk
    rw [h.cellAt _ hk]
    exact hj
theorem RowAt.nil (f : α → List Value) (F : Nat → Prop) (w : World) : RowAt f F w (.slice none 0 0) [] := Or.inl ⟨rfl, rfl⟩
end
/- A type of items of three cells each. -/
structure Kind {α : Type} (f : α → List Value) (t e : TypeId) (S bytes : Nat) : Prop where
  len : ∀ x, (f x).length = S
  one : ∀ x, ∀ u ∈ f x, u.oneCell' = true
  ty : Try.prog.underlying t = some (.slice e)
  pos : 0 < S
  info : ∃ i z, Try.prog.info? e = some i ∧ i.zero = some z ∧ i.size = S ∧ i.bytes = bytes ∧ z.cells.size = S
theorem run_app {α : Type} {f : α → List Value} {t e : TypeId} {S bytes : Nat} (K : Kind f t e S bytes) {w : World} {base : Nat} {v : Value} {xs : List α} (hown : w.ownsRow base e S v xs.length (rowL f xs)) {v2 : Value} {zs : List α} (hl : (v2 = .slice none 0 0 ∧ zs = []) ∨ ∃ p cap, v2 = .slice (some p) zs.length cap ∧ ∀ j u, (rowL f zs)[j]? = some u → w.cell? (p.add j) = some u)
    (hb : (xs.length + zs.length) * bytes ≤ 140737488355328) (h63 : xs.length + zs.length ≤ maxLen) (hbase : base ≤ w.heap.size) (ty : TypeId) :
    ∃ v' w', (Builtin.append_ #[t, t] ty #[v, v2]).run Try.prog w = .ok v' w' ∧ w'.ownsRow base e S v' (xs ++ zs).length (rowL f (xs ++ zs)) ∧ w.grownBy w' v.ownBlock ∧ (v'.ownBlock = v.ownBlock ∨ v'.ownBlock = some w.heap.size) := by
  obtain ⟨i, z, hi, hz, hs, hby, hzs⟩ := K.info
  rcases hl with ⟨rfl, rfl⟩ | ⟨p, cap, rfl, hc⟩
  · have hrun := run_append_owned_none (P := Try.prog) (w := w) base t ty e i S K.ty hi v xs.length _ hown
    exact ⟨v, w, hrun, by simpa using hown, World.grownBy.refl _ _, Or.inl rfl⟩
  · obtain ⟨v', w', hrun, hown', hgrow, _, hat⟩ := run_append_own_at (P := Try.prog) w base t ty e i z S bytes K.ty hi hz hs hby hzs K.pos v xs.length _ hown p zs.length cap (rowL f zs) (rowL_len K.len zs) (fun j u hj => hc j u hj) (fun u hu => by
      obtain ⟨x, _, hx⟩ := List.mem_flatMap.1 hu
      exact K.one x u hx) h63 hb hbase
    exact ⟨v', w', hrun, by rw [List.length_append, rowL_append]; exact hown', hgrow, hat⟩
theorem RowAt.lay {α : Type} {f : α → List Value} {F : Nat → Prop} {w : World} {v : Value} {l : List α} (h : RowAt f F w v l) : (v = .slice none 0 0 ∧ l = []) ∨ ∃ p cap, v = .slice (some p) l.length cap ∧ ∀ j u, (rowL f l)[j]? = some u → w.cell? (p.add j) = some u := by
  rcases h with h | ⟨g, o, cap, e, _, _, _, hc⟩
  · exact Or.inl h
  · exact Or.inr ⟨⟨g, o, none⟩, cap, e, fun j u hj => by rw [Addr.add_lit]; exact hc j u hj⟩
theorem wp_app {α : Type} {f : α → List Value} {t e : TypeId} {S bytes : Nat} (K : Kind f t e S bytes) {w : World} {o : Oper} {a : Act} {Kk : Act → World → Prop} {Q : Exit → Act → World → Prop} (s x : Operand)
    (ho : o.op = .call { callee := .builtin .append, args := #[s, x], argTypes := #[t, t] }) (base : Nat) (v : Value) (xs : List α) (hs : a.eval s = v) (hown : w.ownsRow base e S v xs.length (rowL f xs)) (v2 : Value) (zs : List α) (hx : a.eval x = v2) (hl : (v2 = .slice none 0 0 ∧ zs = []) ∨ ∃ p cap, v2 = .slice (some p) zs.length cap ∧ ∀ j u, (rowL f zs)[j]? = some u → w.cell? (p.add j) = some u)
    (hb : (xs.length + zs.length) * bytes ≤ 140737488355328) (h63 : xs.length + zs.length ≤ maxLen) (hbase : base ≤ w.heap.size)
    (h : ∀ v' w', w'.ownsRow base e S v' (xs ++ zs).length (rowL f (xs ++ zs)) → w.grownBy w' v.ownBlock → (v'.ownBlock = v.ownBlock ∨ v'.ownBlock = some w.heap.size) → Kk (a.put o.dst v') w') : o.wp Try.prog a w Kk Q := by
  obtain ⟨v', w', hrun, h2, h3, h4⟩ := run_app K hown hl hb h63 hbase o.type
  unfold Oper.wp execOp
  simp only [ho, resolve, invoke, builtin, Sem.run_bind, Sem.run_pure, Result.andThen_ok, List.map_toArray, List.map_cons, List.map_nil, hs, hx, hrun]
  exact h v' w' h2 h3 h4
theorem wpList_app {α : Type} {f : α → List Value} {t e : TypeId} {S bytes : Nat} (K : Kind f t e S bytes) {w : World} {ops : Array Oper} {rest : List Oper} {o : Oper} {a : Act} {Q : Exit → Act → World → Prop} (hgd : o.guard = none) (s x : Operand)
    (ho : o.op = .call { callee := .builtin .append, args := #[s, x], argTypes := #[t, t] }) (base : Nat) (v : Value) (xs : List α) (hs : a.eval s = v) (hown : w.ownsRow base e S v xs.length (rowL f xs)) (v2 : Value) (zs : List α) (hx : a.eval x = v2) (hl : (v2 = .slice none 0 0 ∧ zs = []) ∨ ∃ p cap, v2 = .slice (some p) zs.length cap ∧ ∀ j u, (rowL f zs)[j]? = some u → w.cell? (p.add j) = some u)
    (hb : (xs.length + zs.length) * bytes ≤ 140737488355328) (h63 : xs.length + zs.length ≤ maxLen) (hbase : base ≤ w.heap.size)
    (h : ∀ v' w', w'.ownsRow base e S v' (xs ++ zs).length (rowL f (xs ++ zs)) → w.grownBy w' v.ownBlock → (v'.ownBlock = v.ownBlock ∨ v'.ownBlock = some w.heap.size) → wpList Try.prog ops Q rest (a.put o.dst v') w') : wpList Try.prog ops Q (o :: rest) a w :=
  wpList_plain hgd fun _ hK => wp_app K s x ho base v xs hs hown v2 zs hx hl hb h63 hbase fun v' w' h2 h3 h4 => hK _ _ (h v' w' h2 h3 h4)
theorem infoSl : (Try.prog.info? 40).map (fun i => (i.zero, i.size, i.bytes)) = some (some (.agg #[.int .i64 0, .int .i64 0, .int .i64 0]), 3, 24) := by kernel_rfl
theorem infoWn : (Try.prog.info? 46).map (fun i => (i.zero, i.size, i.bytes)) = some (some (.agg #[.int .i64 0, .int .i64 0, .int .i64 0]), 3, 24) := by kernel_rfl
theorem infoRow : (Try.prog.info? 37).map (fun i => (i.zero, i.size, i.bytes)) = some (some (.slice none 0 0), 1, 24) := by kernel_rfl
theorem kindSl : Kind slL 37 40 3 24 :=
  ⟨fun _ => rfl, fun x u hu => by simp [slL] at hu; rcases hu with rfl | rfl | rfl <;> rfl, Try.underlying37, by decide, by obtain ⟨i0, hi, hz0, hz1, hz2⟩ := info_parts infoSl; exact ⟨i0, _, hi, hz0, hz1, hz2, rfl⟩⟩
theorem kindWn : Kind wnL 31 46 3 24 :=
  ⟨fun _ => rfl, fun x u hu => by simp [wnL] at hu; rcases hu with rfl | rfl | rfl <;> rfl, Try.underlying31, by decide, by obtain ⟨i0, hi, hz0, hz1, hz2⟩ := info_parts infoWn; exact ⟨i0, _, hi, hz0, hz1, hz2, rfl⟩⟩
/- One item that was just laid. -/
theorem lone_lay {α : Type} {f : α → List Value} {w : World} {q : Nat} {x : α} {T : TypeId} (e : ∃ z, w.heap[q]? = some (.cells (f x).toArray T z)) (n : Nat) (hn : n = 1) : (Value.slice (some ⟨q, 0, none⟩) n n = .slice none 0 0 ∧ [x] = []) ∨ ∃ p cap, Value.slice (some ⟨q, 0, none⟩) n n = .slice (some p) [x].length cap ∧ ∀ j u, (rowL f [x])[j]? = some u → w.cell? (p.add j) = some u := by
  subst hn
  refine Or.inr ⟨⟨q, 0, none⟩, 1, rfl, fun j u hj => ?_⟩
  obtain ⟨z, e⟩ := e
  rw [Addr.add_lit, Nat.zero_add]
  unfold World.cell?
  simp only [e]
  simpa [rowL] using hj
/- A table: at b a slice of slices. -/
structure TIn (F : Nat → Prop) (w : World) (b : Nat) (v : Value) (vals : List Value) (ls : List (List Sl)) : Prop where
  head : w.cell? ⟨b, 0, none⟩ = some v
  frz : ∀ o, w.frozen? ⟨b, o, none⟩ = false
  row : w.ownsRow 0 37 1 v ls.length vals
  len : vals.length = ls.length
  hb : F b
  hg : ∀ k, v.ownBlock = some k → F k ∧ k ≠ b
  low : ∀ k, F k → k < w.heap.size
  each : ∀ i (h : i < ls.length) (h' : i < vals.length), RowAt slL (fun k => F k ∧ k ≠ b ∧ v.ownBlock ≠ some k) w vals[i] ls[i]
def TAt (F : Nat → Prop) (w : World) (b : Nat) (ls : List (List Sl)) : Prop := ∃ v vals, TIn F w b v vals ls
/- What a call turns: what is the table's own, and new memory. -/
structure Tn (F F' : Nat → Prop) (w w' : World) : Prop where
  os : w'.os = w.os
  tape : w'.tape = w.tape
  output : w'.output = w.output
  size : w.heap.size ≤ w'.heap.size
  block : ∀ k, k < w.heap.size → ¬ F k → w'.heap[k]? = w.heap[k]?
  own : ∀ k, F' k → F k ∨ w.heap.size ≤ k
theorem Tn.trans {F F1 F2 : Nat → Prop} {w w1 w2 : World} (h : Tn F F1 w w1) (k : Tn F1 F2 w1 w2) : Tn F F2 w w2 := by
  refine ⟨k.os.trans h.os, k.tape.trans h.tape, k.output.trans h.output, Nat.le_trans h.size k.size, fun j hj hn => ?_, fun j hj => ?_⟩
  · refine (k.block j (Nat.lt_of_lt_of_le hj h.size) fun e => ?_).trans (h.block j hj hn)
    rcases h.own j e with q | q
    · exact hn q
    · omega
  · rcases k.own j hj with q | q
    · exact h.own j q
    · exact Or.inr (Nat.le_trans h.size q)
theorem Tn.below {F : Nat → Prop} {w w' : World} (h : Below w.heap.size w w') : Tn F F w w' := ⟨h.os, h.tape, h.output, h.size, fun k hk _ => h.block k hk, fun k hk => Or.inl hk⟩
theorem TIn.same {F : Nat → Prop} {w w' : World} {b : Nat} {v : Value} {vals : List Value} {ls : List (List Sl)} (h : TIn F w b v vals ls) (hs : w.heap.size ≤ w'.heap.size) (hb : ∀ k, F k → w'.heap[k]? = w.heap[k]?) : TIn F w' b v vals ls :=
  ⟨(cell_same (hb b h.hb)).trans h.head, fun o => (frozen_same (hb b h.hb)).trans (h.frz o), owns_same h.row fun k hk => hb k (h.hg k hk).1, h.len, h.hb, h.hg, fun k hk => Nat.lt_of_lt_of_le (h.low k hk) hs, fun i h1 h2 => (h.each i h1 h2).same fun k hk => hb k hk.1⟩
theorem TIn.go {F : Nat → Prop} {w w' : World} {b : Nat} {v : Value} {vals : List Value} {ls : List (List Sl)} (h : TIn F w b v vals ls) (hb : Below w.heap.size w w') : TIn F w' b v vals ls :=
  h.same hb.size fun k hk => hb.block k (h.low k hk)
theorem TAt.same {F : Nat → Prop} {w w' : World} {b : Nat} {ls : List (List Sl)} (h : TAt F w b ls) (hs : w.heap.size ≤ w'.heap.size) (hb : ∀ k, F k → w'.heap[k]? = w.heap[k]?) : TAt F w' b ls := by
  obtain ⟨v, vals, h⟩ := h; exact ⟨v, vals, h.same hs hb⟩
theorem TAt.go {F : Nat → Prop} {w w' : World} {b : Nat} {ls : List (List Sl)} (h : TAt F w b ls) (hb : Below w.heap.size w w') : TAt F w' b ls := by
  obtain ⟨v, vals, h⟩ := h; exact ⟨v, vals, h.go hb⟩
theorem TAt.low {F : Nat → Prop} {w : World} {b : Nat} {ls : List (List Sl)} (h : TAt F w b ls) : ∀ k, F k → k < w.heap.size := by
  obtain ⟨v, vals, h⟩ := h; exact h.low
theorem TAt.at {F : Nat → Prop} {w : World} {b : Nat} {ls : List (List Sl)} (h : TAt F w b ls) : F b ∧ b < w.heap.size := by
  obtain ⟨v, vals, h⟩ := h; exact ⟨h.hb, h.low b h.hb⟩
/- A table beside one that is turned. -/
theorem TAt.beside {F F' G : Nat → Prop} {w w' : World} {b : Nat} {ls : List (List Sl)} (h : TAt G w b ls) (t : Tn F F' w w') (hd : ∀ k, G k → ¬ F k) : TAt G w' b ls :=
  h.same t.size fun k hk => t.block k (h.low k hk) (hd k hk)
theorem Tn.apart {F F' G : Nat → Prop} {w w' : World} (t : Tn F F' w w') (hd : ∀ k, G k → ¬ F k) (hl : ∀ k, G k → k < w.heap.size) : ∀ k, G k → ¬ F' k := fun k hk e => by
  rcases t.own k e with q | q
  · exact hd k hk q
  · have := hl k hk; omega
/- The outer slice of a table that has cells. -/
theorem TIn.form {F : Nat → Prop} {w : World} {b : Nat} {v : Value} {vals : List Value} {ls : List (List Sl)} (h : TIn F w b v vals ls) (h0 : 0 < ls.length) : ∃ g cap, v = .slice (some ⟨g, 0, none⟩) ls.length cap ∧ g ≠ b ∧ F g ∧ g < w.heap.size ∧ ls.length ≤ cap ∧ cap ≤ maxLen ∧ (∀ o, w.frozen? ⟨g, o, none⟩ = false) ∧ ∀ i (hi : i < vals.length), w.cell? ⟨g, i, none⟩ = some vals[i] := by
  have hr := h.row
  rcases hr.2 with ⟨_, q⟩ | ⟨g, cap, cur, rfl, hb, hg, hnc, hcm, hcs, htake⟩
  · omega
  · refine ⟨g, cap, rfl, (h.hg g rfl).2, (h.hg g rfl).1, h.low g (h.hg g rfl).1, hnc, hcm, fun o => hr.frozenAt o, fun i hi => ?_⟩
    rw [hr.cellAt _ (by have := h.len; omega), List.getElem?_eq_getElem hi]
end Go.Proofs.Ytddkgkafgjdheaa.Rs
