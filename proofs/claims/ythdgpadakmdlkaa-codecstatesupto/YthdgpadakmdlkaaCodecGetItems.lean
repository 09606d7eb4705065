/-
  Lists that are read, item by item: what the function that reads an item does; what a list comes to.
-/
import Derived.Test.YthdgpadakmdlkaaCodecHeld
namespace Go.Proofs.Ythdgpadakmdlkaa.Codec
set_option linter.unusedVariables false
set_option linter.unusedSimpArgs false
open Go Go.RowKit

/- What the function does that reads an item: it has the reader in a variable of block X. -/
def Item {α : Type} (M : Nat) (c : Cod α) (El : (Nat → Prop) → α → Array Value → World → Prop) (f : FuncId) : Prop :=
  ∀ (u : World) (R X : Nat) (a : Option Addr) (cap : Nat) (zs : List Int) (k : Nat), zs.length ≤ M → Rd u R a cap zs k → u.cell? ⟨X, 0, none⟩ = some (.pointer (some ⟨R, 0, none⟩)) → Calls Try.prog f #[.pointer (some ⟨X, 0, none⟩)] u fun e w' =>
    (∃ x cs k' F, c.get (zs.drop k) = some (x, zs.drop k') ∧ k < k' ∧ c.ok x ∧ e = .returned (.agg cs) ∧ El F x cs w' ∧ New F u.heap.size w' ∧ Rd w' R a cap zs k' ∧ u.grownBy w' (some R)) ∨
    (c.get (zs.drop k) = none ∧ e = .panicked [{ v := .iface 32 (.int .i64 4), recovered := false }] ∧ u.grownBy w' (some R))
def GotList {α : Type} (S : Nat) (c : Cod α) (El : (Nat → Prop) → α → Array Value → World → Prop) (u : World) (R : Nat) (a : Option Addr) (cap : Nat) (zs : List Int) (k : Nat) (e : Ending) (w' : World) : Prop :=
  (∃ xs v k' F, (list c).get (zs.drop k) = some (xs, zs.drop k') ∧ k < k' ∧ (list c).ok xs ∧ e = .returned v ∧ ListAt S El F xs v w' ∧ New F u.heap.size w' ∧ Rd w' R a cap zs k' ∧ u.grownBy w' (some R)) ∨
  ((list c).get (zs.drop k) = none ∧ e = .panicked [{ v := .iface 32 (.int .i64 4), recovered := false }] ∧ u.grownBy w' (some R))
theorem rd_apart {u : World} {R X : Nat} {a : Option Addr} {cap : Nat} {zs : List Int} {k : Nat} (h : Rd u R a cap zs k) (hX : u.cell? ⟨X, 0, none⟩ = some (.pointer (some ⟨R, 0, none⟩))) : X ≠ R := by
  intro e
  subst e
  rw [h.s] at hX
  cases hX
theorem list_num_none {α : Type} {c : Cod α} {zs : List Int} (h : cNum.get zs = none) : (list c).get zs = none := by
  have h' : getNum zs = none := h
  simp [list, h']
theorem list_bad {α : Type} {c : Cod α} {zs r : List Int} {n : Int} (h : cNum.get zs = some (n, r)) (hn : n < 0 ∨ (r.length : Int) < n) : (list c).get zs = none := by
  have h' : getNum zs = some (n, r) := h
  simp only [list, h', Option.bind_some]
  rw [if_pos hn]
theorem list_good {α : Type} {c : Cod α} {zs r : List Int} {n : Nat} (h : cNum.get zs = some ((n : Int), r)) (hn : n ≤ r.length) : (list c).get zs = getN c n r := by
  have h' : getNum zs = some ((n : Int), r) := h
  simp only [list, h', Option.bind_some]
  rw [if_neg (by omega), Int.toNat_natCast]

/- The cells of items, side by side. -/
def rowOf {α : Type} (ys : List (α × Array Value)) : List Value := ys.flatMap fun y => y.2.toList
theorem rowOf_snoc {α : Type} (ys : List (α × Array Value)) (y : α × Array Value) : rowOf (ys ++ [y]) = rowOf ys ++ y.2.toList := by simp [rowOf]
theorem rowOf_at {α : Type} (S : Nat) (ys : List (α × Array Value)) (hs : ∀ y ∈ ys, y.2.size = S) : ∀ (i : Nat) (h : i < ys.length) (j : Nat) (v : Value), ((ys[i]'h).2)[j]? = some v → (rowOf ys)[i * S + j]? = some v := by
  induction ys with
  | nil => intro i h; simp at h
  | cons y ys ih =>
    intro i h j v hv
    have hy := hs y (by simp)
    have e : rowOf (y :: ys) = y.2.toList ++ rowOf ys := rfl
    rw [e]
    cases i with
    | zero =>
      rw [List.getElem_cons_zero] at hv
      have hj := (Array.getElem?_eq_some_iff.1 hv).1
      rw [Nat.zero_mul, Nat.zero_add, List.getElem?_append_left (by simpa using hj)]
      simpa using hv
    | succ i =>
      rw [List.getElem_cons_succ] at hv
      rw [List.getElem?_append_right (by rw [Array.length_toList, hy, Nat.succ_mul]; omega), Array.length_toList, hy, show (i + 1) * S + j - S = i * S + j by rw [Nat.succ_mul]; omega]
      exact ih (fun y hy => hs y (by simp [hy])) i (by simpa using h) j v hv

/- A list under way: i items have been read, the reader stands at ki. -/
structure Midway {α : Type} (S : Nat) (T : TypeId) (c : Cod α) (El : (Nat → Prop) → α → Array Value → World → Prop) (u : World) (R : Nat) (a : Option Addr) (cap : Nat) (zs : List Int) (k1 n : Nat) (v : Value) (i : Nat) (w : World) (ki : Nat) (ys : List (α × Array Value)) (F : Nat → Prop) : Prop where
  len : ys.length = i
  own : w.ownsRow 0 T S v i (rowOf ys)
  el : ∀ y ∈ ys, El F y.1 y.2 w
  ok : ∀ y ∈ ys, c.ok y.1
  new : New F u.heap.size w
  at_ : ∀ g, v.ownBlock = some g → ¬ F g ∧ u.heap.size ≤ g
  rd : Rd w R a cap zs ki
  gr : u.grownBy w (some R)
  eq : getN c n (zs.drop k1) = (getN c (n - i) (zs.drop ki)).map fun q => (ys.map Prod.fst ++ q.1, q.2)
  le : k1 ≤ ki
theorem Midway.start {α : Type} {S : Nat} {T : TypeId} {c : Cod α} {El : (Nat → Prop) → α → Array Value → World → Prop} {u w : World} {R : Nat} {a : Option Addr} {cap : Nat} {zs : List Int} {k1 n : Nat} (r : Rd w R a cap zs k1) (g : u.grownBy w (some R)) :
    Midway S T c El u R a cap zs k1 n (.slice none 0 0) 0 w k1 [] (fun _ => False) := by
  refine ⟨rfl, World.ownsRow_nil _ _ _ _, fun y hy => by simp at hy, fun y hy => by simp at hy, fun g h => h.elim, fun g h => (by cases h), r, g, ?_, Nat.le_refl _⟩
  rw [Nat.sub_zero]
  cases getN c n (zs.drop k1) with
  | none => rfl
  | some q => rfl
theorem Midway.stop {α : Type} {S : Nat} {T : TypeId} {c : Cod α} {El : (Nat → Prop) → α → Array Value → World → Prop} {u w : World} {R : Nat} {a : Option Addr} {cap : Nat} {zs : List Int} {k1 n : Nat} {v : Value} {i ki : Nat} {ys : List (α × Array Value)} {F : Nat → Prop}
    (h : Midway S T c El u R a cap zs k1 n v i w ki ys F) (hi : i < n) (q : c.get (zs.drop ki) = none) : getN c n (zs.drop k1) = none := by
  rw [h.eq, show n - i = n - i - 1 + 1 by omega, getN_stop q]
  rfl
theorem Rd.kept {w w' : World} {R : Nat} {a : Option Addr} {cap : Nat} {zs : List Int} {k : Nat} (h : Rd w R a cap zs k) (hR : w'.heap[R]? = w.heap[R]?) (hx : ∀ x, a = some x → zs.length ≠ 0 → w'.heap[x.block]? = w.heap[x.block]?) : Rd w' R a cap zs k := by
  refine ⟨?_, ?_, ?_, ⟨h.row.len, h.row.small, fun i hi => ?_⟩, h.apart, h.le, h.cap1, h.cap2, h.nil⟩
  · rw [cell_same (w := w) (w' := w') (p := ⟨R, 0, none⟩) hR]; exact h.s
  · rw [cell_same (w := w) (w' := w') (p := ⟨R, 1, none⟩) hR]; exact h.i
  · rw [← h.fz]; unfold World.frozen?; rw [hR]
  · obtain ⟨x, hx', hc⟩ := h.row.cell i hi
    exact ⟨x, hx', by rw [cell_same (w := w) (w' := w') (p := x.add i) (by rw [block_add]; exact hx x hx' (by omega))]; exact hc⟩
/- One item more. -/
theorem Midway.next {α : Type} {S : Nat} {T : TypeId} {c : Cod α} {El : (Nat → Prop) → α → Array Value → World → Prop} (hE : Held El S) {u w w1 w3 : World} {R : Nat} {a : Option Addr} {cap : Nat} {zs : List Int} {k0 k1 n : Nat} (hu : Rd u R a cap zs k0) {v v' : Value} {i ki : Nat} {ys : List (α × Array Value)} {F : Nat → Prop}
    (h : Midway S T c El u R a cap zs k1 n v i w ki ys F) (hi : i < n) {x : α} {cs : Array Value} {k2 : Nat} {F2 : Nat → Prop} {o : Obj} (q : c.get (zs.drop ki) = some (x, zs.drop k2)) (l : ki < k2) (ok : c.ok x) (hx : El F2 x cs w1) (f2 : New F2 w.heap.size w1) (r : Rd w1 R a cap zs k2) (g : w.grownBy w1 (some R))
    (own3 : w3.ownsRow 0 T S v' (i + 1) (rowOf ys ++ cs.toList)) (g3 : (w1.alloc o).grownBy w3 v.ownBlock) (at3 : v'.ownBlock = v.ownBlock ∨ v'.ownBlock = some (w1.alloc o).heap.size) :
    Midway S T c El u R a cap zs k1 n v' (i + 1) w3 k2 (ys ++ [(x, cs)]) (fun g => F g ∨ F2 g) := by
  have hR := hu.lt
  have s0 := h.gr.size
  have s1 := g.size
  have s2 : (w1.alloc o).heap.size = w1.heap.size + 1 := by simp
  have s3 := g3.size
  have vl : ∀ b, v.ownBlock = some b → b < w.heap.size := fun b hb => (h.own.lt b hb).2
  have keep1 : ∀ b, b < w1.heap.size → v.ownBlock ≠ some b → w3.heap[b]? = w1.heap[b]? := fun b hb hv => by
    rw [g3.block b (by omega) (fun e => hv e.symm), alloc_old _ _ _ hb]
  have keep0 : ∀ b, b < w.heap.size → b ≠ R → v.ownBlock ≠ some b → w3.heap[b]? = w.heap[b]? := fun b hb hr hv => by
    rw [keep1 b (by omega) hv, g.block b hb (fun e => hr (Option.some.inj e))]
  have eF : ∀ b, F b → w3.heap[b]? = w.heap[b]? := fun b hb => keep0 b (h.new b hb).2 (by have := (h.new b hb).1; omega) (fun e => (h.at_ b e).1 hb)
  have eF2 : ∀ b, F2 b → w3.heap[b]? = w1.heap[b]? := fun b hb => keep1 b (f2 b hb).2 (fun e => by have := vl b e; have := (f2 b hb).1; omega)
  refine ⟨by rw [List.length_append, h.len]; rfl, by rw [rowOf_snoc]; exact own3, fun y hy => ?_, fun y hy => ?_, fun b hb => ?_, fun b hb => ?_, r.kept ?_ ?_, ?_, ?_, ?_⟩
  · rcases List.mem_append.1 hy with hy | hy
    · exact hE.mono (hE.stable (h.el y hy) eF) fun b hb => Or.inl hb
    · rw [List.mem_singleton.1 hy]
      exact hE.mono (hE.stable hx eF2) fun b hb => Or.inr hb
  · rcases List.mem_append.1 hy with hy | hy
    · exact h.ok y hy
    · rw [List.mem_singleton.1 hy]; exact ok
  · rcases hb with hb | hb
    · have := h.new b hb; exact ⟨this.1, by omega⟩
    · have := f2 b hb; exact ⟨by omega, by omega⟩
  · rcases at3 with e | e
    · rw [e] at hb
      exact ⟨fun hf => hf.elim (h.at_ b hb).1 fun hf => by have := vl b hb; have := (f2 b hf).1; omega, (h.at_ b hb).2⟩
    · rw [e] at hb
      have hb' := Option.some.inj hb
      exact ⟨fun hf => hf.elim (fun hf => by have := (h.new b hf).2; omega) fun hf => by have := (f2 b hf).2; omega, by omega⟩
  · exact keep1 R (by omega) fun e => by have := (h.at_ R e).2; omega
  · intro p hp hn
    have hpl := hu.row.lt p hp hn
    exact keep1 p.block (by omega) fun e => by have := (h.at_ _ e).2; omega
  · refine grown_on ((h.gr.trans g).trans (World.grownBy_alloc _ _ _)) g3 fun b hb => Or.inr (h.at_ b hb).2
  · rw [h.eq, show n - i = n - (i + 1) + 1 by omega, getN_snoc q, Option.map_map]
    congr 1
    funext q
    simp [Function.comp]
  · have := h.le; omega
theorem Midway.own_item {α : Type} {S : Nat} {T : TypeId} {c : Cod α} {El : (Nat → Prop) → α → Array Value → World → Prop} {u w w1 : World} {R : Nat} {a : Option Addr} {cap : Nat} {zs : List Int} {k1 n : Nat} {v : Value} {i ki : Nat} {ys : List (α × Array Value)} {F : Nat → Prop}
    (h : Midway S T c El u R a cap zs k1 n v i w ki ys F) (g : w.grownBy w1 (some R)) (hR : R < u.heap.size) (o : Obj) : (w1.alloc o).ownsRow 0 T S v i (rowOf ys) :=
  owns_same h.own fun b hb => by
    have h1 := (h.own.lt b hb).2
    have h2 := (h.at_ b hb).2
    have h3 := g.size
    rw [alloc_old _ _ _ (by omega), g.block b h1 (fun e => by have := Option.some.inj e; omega)]
theorem fold_list : ∀ (l : List Value) (z : Array Value) (k : Nat), z.size = k + l.length → (List.foldl (fun (cs : Array Value) (x : Value × Nat) => cs.setIfInBounds x.snd x.fst) z (l.zipIdx k)).toList = z.toList.take k ++ l
  | [], z, k, h => by
    rw [List.zipIdx_nil, List.foldl_nil, List.append_nil, List.take_of_length_le (by simp at h ⊢; omega)]
  | x :: l, z, k, h => by
    rw [List.zipIdx_cons, List.foldl_cons, fold_list l _ (k + 1) (by simp at h ⊢; omega)]
    rw [Array.toList_setIfInBounds, List.take_set, List.take_succ_eq_append_getElem (by simp at h ⊢; omega)]
    have hk : (List.take k z.toList).length = k := by simp at h ⊢; omega
    rw [List.set_append_right _ _ (by rw [hk]; exact Nat.le_refl _), hk]
    simp
theorem fold_cells (z cs : Array Value) (h : z.size = cs.size) : Array.foldl (fun (cs : Array Value) (x : Value × Nat) => cs.setIfInBounds x.snd x.fst) z cs.zipIdx 0 cs.size = cs := by
  have e : cs.size = cs.zipIdx.size := by simp
  have h1 := fold_list cs.toList z 0 (by simpa using h)
  rw [List.take_zero, List.nil_append] at h1
  apply Array.ext'
  rw [← h1]
  conv => lhs; rw [e]
  rw [← Array.foldl_toList]
  simp
theorem news_new (w : World) (cs : Array Value) (t : TypeId) : ∀ j v, cs.toList[j]? = some v → (w.alloc (.cells cs t)).cell? ((⟨w.heap.size, 0, none⟩ : Addr).add j) = some v := by
  intro j v hj
  rw [Addr.add_lit, Nat.zero_add, cell_new]
  simpa using hj
theorem one_list {cs : Array Value} (h : (cs.all fun x => x.oneCell') = true) : ∀ u ∈ cs.toList, u.oneCell' = true := fun u hu => (Array.all_eq_true_iff_forall_mem.1 h) u (by simpa using hu)
/- The list, when all items are read. -/
theorem Midway.done {α : Type} {S : Nat} {T : TypeId} {c : Cod α} (hc : Good c) {El : (Nat → Prop) → α → Array Value → World → Prop} (hE : Held El S) {u w : World} {R : Nat} {a : Option Addr} {cap : Nat} {zs : List Int} {k k1 n : Nat} {v : Value} {i ki : Nat} {ys : List (α × Array Value)} {F : Nat → Prop}
    (h : Midway S T c El u R a cap zs k1 n v i w ki ys F) (hi : i = n) (hk : k < k1) (hg : (list c).get (zs.drop k) = getN c n (zs.drop k1)) : GotList S c El u R a cap zs k (.returned v) w := by
  subst hi
  have e := h.eq
  rw [Nat.sub_self] at e
  simp only [getN, Option.map_some, List.append_nil] at e
  rw [e] at hg
  have hok := ((gList hc).iff _ _ _ (h.rd.small.drop k)).1 hg
  refine Or.inl ⟨ys.map Prod.fst, v, ki, fun g => F g ∨ v.ownBlock = some g, hg, by have := h.le; omega, hok.2, rfl, ?_, fun g hg => ?_, h.rd, h.gr⟩
  · have hl := h.len
    rcases h.own.2 with ⟨hv, h0⟩ | ⟨g, cp, cur, hv, _, _, _, _, _, _⟩
    · subst hv
      refine ⟨none, 0, ys, rfl, by rw [hl, h0], fun y hy => hE.mono (h.el y hy) fun b hb => Or.inl hb, fun j hj => by omega, fun _ => rfl⟩
    · refine ⟨some ⟨g, 0, none⟩, cp, ys, rfl, by rw [hv, hl], fun y hy => hE.mono (h.el y hy) fun b hb => Or.inl hb, fun j hj => ⟨_, rfl, Or.inr (by rw [hv]; rfl), fun j' x hx => ?_⟩, fun e => by cases e⟩
      exact h.own.cells (g := g) (by rw [hv]; rfl) _ _ (rowOf_at S ys (fun y hy => hE.size (h.el y hy)) j hj j' x hx)
  · rcases hg with hg | hg
    · exact h.new g hg
    · exact ⟨(h.at_ g hg).2, (h.own.lt g hg).2⟩
end Go.Proofs.Ythdgpadakmdlkaa.Codec
