/-
  The chapter's own answer: a list of a state under way, its slice in the state's own cells.
-/
import Derived.Test.YthdgpadakmdlkaaCodecRefItems
namespace Go.Proofs.Ythdgpadakmdlkaa.Codec
set_option linter.unusedVariables false
set_option linter.unusedSimpArgs false
open Go Go.RowKit

/- Of the blocks of u all stand but R and N. -/
structure Fr2 (u w : World) (R N : Nat) : Prop where
  size : u.heap.size ≤ w.heap.size
  block : ∀ k, k < u.heap.size → k ≠ R → k ≠ N → w.heap[k]? = u.heap[k]?
theorem Fr2.refl (u : World) (R N : Nat) : Fr2 u u R N := ⟨Nat.le_refl _, fun _ _ _ _ => rfl⟩
theorem Fr2.grow {u w w1 : World} {R N : Nat} {row : Option Nat} (h : Fr2 u w R N) (g : w.grownBy w1 row) (hr : ∀ b, row = some b → b = R ∨ u.heap.size ≤ b) : Fr2 u w1 R N :=
  ⟨Nat.le_trans h.size g.size, fun k hk h1 h2 => (g.block k (Nat.lt_of_lt_of_le hk h.size) (fun e => by rcases hr k e.symm with e | e <;> omega)).trans (h.block k hk h1 h2)⟩
theorem Fr2.set {u w : World} {R N : Nat} (h : Fr2 u w R N) (i : Nat) (v : Value) : Fr2 u (w.setCell ⟨N, i, none⟩ v) R N :=
  ⟨by simp; exact h.size, fun k hk h1 h2 => (heap_setCell_other _ _ _ _ (by simp only; omega)).trans (h.block k hk h1 h2)⟩
theorem Lst.fr {α : Type} {S : Nat} {El : (Nat → Prop) → α → Array Value → World → Prop} (hE : Held El S) {B : Nat} {xs : List α} {v : Value} {F : Nat → Prop} {u w : World} {R N : Nat} (h : Lst S El B xs v F u) (f : Fr2 u w R N) (hR : R < B) (hN : N < B) : Lst S El B xs v F w :=
  h.same hE f.size fun b h1 h2 => f.block b h2 (by omega) (by omega)
theorem Lst.drewN {α : Type} {S : Nat} {El : (Nat → Prop) → α → Array Value → World → Prop} (hE : Held El S) {B : Nat} {xs : List α} {v : Value} {F : Nat → Prop} {w : World} (h : Lst S El B xs v F w) (m : Nat) : Lst S El B xs v F (w.drewN m) := h.same hE (Nat.le_refl _) fun _ _ _ => rfl
theorem grown_of_below {w w1 : World} (b : Below w.heap.size w w1) (row : Option Nat) : w.grownBy w1 row := ⟨b.os, b.tape, b.output, b.size, fun k hk _ => b.block k hk⟩
theorem Ob.later {w0 w w1 : World} {R M N : Nat} {T : TypeId} {zero cs : Array Value} {a : Option Addr} {cap : Nat} {zs : List Int} {k : Nat} {bad : Bool} (h : Ob w0 R M N T zero a cap zs w cs k bad) (b : Below w.heap.size w w1) : Ob w0 R M N T zero a cap zs w1 cs k bad :=
  h.kept (grown_of_below b _) (h.rr.same b)
theorem Ob.apart {w0 w w1 : World} {R M N : Nat} {T : TypeId} {zero cs : Array Value} {a : Option Addr} {cap : Nat} {zs : List Int} {k : Nat} {bad : Bool} {row : Option Nat} (h : Ob w0 R M N T zero a cap zs w cs k bad) (g : w.grownBy w1 row) (B : Nat) (hr : ∀ b, row = some b → B ≤ b) (h0 : w0.heap.size ≤ B) (hR : R < B) (hM : M < B) (hN : N < B) : Ob w0 R M N T zero a cap zs w1 cs k bad := by
  have ne : ∀ b, b < B → some b ≠ row := fun b hb e => by have := hr b e.symm; omega
  refine ⟨grown_on h.grow g fun b hb => Or.inr (Nat.le_trans h0 (hr b hb)), h.rr.kept (g.block R h.rr.lt (ne R hR)) (fun x hx hn => g.block _ (h.rr.row.lt x hx hn) (ne _ (Nat.lt_of_lt_of_le (h.old x hx hn) h0))), (g.block M (lt_of_heap h.res) (ne M hM)).trans h.res, (g.block N (lt_of_heap h.so) (ne N hN)).trans h.so, h.m0, h.n0, h.mn, h.mr, h.nr, h.old⟩
theorem Ob.aside {w0 w : World} {R M N : Nat} {T : TypeId} {zero cs : Array Value} {a : Option Addr} {cap : Nat} {zs : List Int} {k : Nat} {bad : Bool} (h : Ob w0 R M N T zero a cap zs w cs k bad) (P i : Nat) (v : Value) (hR : P ≠ R) (hM : M ≠ P) (hN : N ≠ P) (h0 : w0.heap.size ≤ P) : Ob w0 R M N T zero a cap zs (w.setCell ⟨P, i, none⟩ v) cs k bad := by
  refine ⟨grown_set h.grow _ _ _ h0, h.rr.aside _ _ _ hR (fun x hx hn => by have := h.old x hx hn; omega), ?_, ?_, h.m0, h.n0, h.mn, h.mr, h.nr, h.old⟩
  · rw [heap_setCell_other _ _ _ _ (by simp only; exact hM)]
    exact h.res
  · rw [heap_setCell_other _ _ _ _ (by simp only; exact hN)]
    exact h.so
/- A list under way: i items have been read, the reader stands at ki. -/
structure GMid {α : Type} (S : Nat) (T : TypeId) (c : Cod α) (El : (Nat → Prop) → α → Array Value → World → Prop) (u : World) (zs : List Int) (k1 n : Nat) (v : Value) (i : Nat) (w : World) (ki : Nat) (bad : Bool) (ys : List (α × Array Value)) (F : Nat → Prop) : Prop where
  len : ys.length = i
  own : w.ownsRow 0 T S v i (rowOf ys)
  el : ∀ y ∈ ys, El F y.1 y.2 w
  new : New F u.heap.size w
  at_ : ∀ g, v.ownBlock = some g → ¬ F g ∧ u.heap.size ≤ g
  sz : u.heap.size ≤ w.heap.size
  eq : bad = false → (getN c n (zs.drop k1) = (getN c (n - i) (zs.drop ki)).map fun q => (ys.map Prod.fst ++ q.1, q.2)) ∧ k1 ≤ ki
theorem GMid.start {α : Type} {S : Nat} {T : TypeId} {c : Cod α} {El : (Nat → Prop) → α → Array Value → World → Prop} {u : World} {zs : List Int} {k1 n : Nat} {bad : Bool} :
    GMid S T c El u zs k1 n (.slice none 0 0) 0 u k1 bad [] (fun _ => False) := by
  refine ⟨rfl, World.ownsRow_nil _ _ _ _, fun y hy => by simp at hy, fun g h => h.elim, fun g h => (by cases h), Nat.le_refl _, fun _ => ⟨?_, Nat.le_refl _⟩⟩
  rw [Nat.sub_zero]
  cases getN c n (zs.drop k1) with
  | none => rfl
  | some q => rfl
theorem GMid.own_item {α : Type} {S : Nat} {T : TypeId} {c : Cod α} {El : (Nat → Prop) → α → Array Value → World → Prop} {u w w1 w2 : World} {R : Nat} {zs : List Int} {k1 n : Nat} {v : Value} {i ki : Nat} {bad : Bool} {ys : List (α × Array Value)} {F : Nat → Prop}
    (h : GMid S T c El u zs k1 n v i w ki bad ys F) (g : w.grownBy w1 (some R)) (hR : R < u.heap.size) (b2 : Below w1.heap.size w1 w2) : w2.ownsRow 0 T S v i (rowOf ys) :=
  owns_same h.own fun b hb => by
    have h1 := (h.own.lt b hb).2
    have h2 := (h.at_ b hb).2
    have h3 := g.size
    rw [b2.block b (by omega), g.block b h1 (fun e => by have := Option.some.inj e; omega)]
/- One item more, and the slice laid into the state. -/
theorem GMid.next {α : Type} {S : Nat} {T : TypeId} {c : Cod α} {El : (Nat → Prop) → α → Array Value → World → Prop} (hE : Held El S) {u w w1 w2 w3 : World} {R N : Nat} {zs : List Int} {k1 n : Nat} (hR : R < u.heap.size) (hN : N < u.heap.size) {v v' : Value} {i ki : Nat} {ys : List (α × Array Value)} {F : Nat → Prop}
    (h : GMid S T c El u zs k1 n v i w ki false ys F) (hi : i < n) {x : α} {cs : Array Value} {k2 : Nat} {bad' : Bool} {F2 : Nat → Prop} (rd : Rd1 c zs ki false x k2 bad') (hx : El F2 x cs w1) (f2 : New F2 w.heap.size w1) (g : w.grownBy w1 (some R))
    (b2 : Below w1.heap.size w1 w2) (own3 : w3.ownsRow 0 T S v' (i + 1) (rowOf ys ++ cs.toList)) (g3 : w2.grownBy w3 v.ownBlock) (at3 : v'.ownBlock = v.ownBlock ∨ v'.ownBlock = some w2.heap.size) (o : Nat) :
    GMid S T c El u zs k1 n v' (i + 1) (w3.setCell ⟨N, o, none⟩ v') k2 bad' (ys ++ [(x, cs)]) (fun g => F g ∨ F2 g) := by
  have s0 := h.sz
  have s1 := g.size
  have s2 := b2.size
  have s3 := g3.size
  have vl : ∀ b, v.ownBlock = some b → b < w.heap.size := fun b hb => (h.own.lt b hb).2
  have seta : ∀ b, u.heap.size ≤ b → (w3.setCell ⟨N, o, none⟩ v').heap[b]? = w3.heap[b]? := fun b hb => heap_setCell_other _ _ _ _ (by simp only; omega)
  have keep1 : ∀ b, b < w1.heap.size → v.ownBlock ≠ some b → w3.heap[b]? = w1.heap[b]? := fun b hb hv => by
    rw [g3.block b (by omega) (fun e => hv e.symm), b2.block b hb]
  have keep0 : ∀ b, b < w.heap.size → b ≠ R → v.ownBlock ≠ some b → w3.heap[b]? = w.heap[b]? := fun b hb hr hv => by
    rw [keep1 b (by omega) hv, g.block b hb (fun e => hr (Option.some.inj e))]
  have eF : ∀ b, F b → (w3.setCell ⟨N, o, none⟩ v').heap[b]? = w.heap[b]? := fun b hb => (seta b (h.new b hb).1).trans (keep0 b (h.new b hb).2 (by have := (h.new b hb).1; omega) (fun e => (h.at_ b e).1 hb))
  have eF2 : ∀ b, F2 b → (w3.setCell ⟨N, o, none⟩ v').heap[b]? = w1.heap[b]? := fun b hb => (seta b (by have := (f2 b hb).1; omega)).trans (keep1 b (f2 b hb).2 (fun e => by have := vl b e; have := (f2 b hb).1; omega))
  have vn : ∀ b, v'.ownBlock = some b → (¬ (F b ∨ F2 b)) ∧ u.heap.size ≤ b := by
    intro b hb
    rcases at3 with e | e
    · rw [e] at hb
      exact ⟨fun hf => hf.elim (h.at_ b hb).1 fun hf => by have := vl b hb; have := (f2 b hf).1; omega, (h.at_ b hb).2⟩
    · rw [e] at hb
      have hb' := Option.some.inj hb
      exact ⟨fun hf => hf.elim (fun hf => by have := (h.new b hf).2; omega) fun hf => by have := (f2 b hf).2; omega, by omega⟩
  refine ⟨by rw [List.length_append, h.len]; rfl, by rw [rowOf_snoc]; exact owns_same own3 fun b hb => seta b (vn b hb).2, fun y hy => ?_, fun b hb => ?_, vn, by simp; omega, ?_⟩
  · rcases List.mem_append.1 hy with hy | hy
    · exact hE.mono (hE.stable (h.el y hy) eF) fun b hb => Or.inl hb
    · rw [List.mem_singleton.1 hy]
      exact hE.mono (hE.stable hx eF2) fun b hb => Or.inr hb
  · rw [World.size_setCell]
    rcases hb with hb | hb
    · have := h.new b hb; exact ⟨this.1, by omega⟩
    · have := f2 b hb; exact ⟨by omega, by omega⟩
  · intro hb
    subst hb
    rcases rd with ⟨_, _, q, l, _⟩ | ⟨hb, _⟩
    · obtain ⟨e1, e2⟩ := h.eq rfl
      refine ⟨?_, by omega⟩
      rw [e1, show n - i = n - (i + 1) + 1 by omega, getN_snoc q, Option.map_map]
      congr 1
      funext q
      simp [Function.comp]
    · cases hb
theorem GMid.stop {α : Type} {S : Nat} {T : TypeId} {c : Cod α} {El : (Nat → Prop) → α → Array Value → World → Prop} {u w : World} {zs : List Int} {k1 n : Nat} {v : Value} {i ki : Nat} {ys : List (α × Array Value)} {F : Nat → Prop}
    (h : GMid S T c El u zs k1 n v i w ki false ys F) (hi : i < n) {x : α} {k2 : Nat} (rd : Rd1 c zs ki false x k2 true) : getN c n (zs.drop k1) = none := by
  rcases rd with ⟨_, hb, _⟩ | ⟨_, q⟩
  · cases hb
  · rcases q with q | q
    · cases q
    · rw [(h.eq rfl).1, show n - i = n - i - 1 + 1 by omega, getN_stop q]
      rfl
theorem GMid.done {α : Type} {S : Nat} {T : TypeId} {c : Cod α} (hc : Good c) {El : (Nat → Prop) → α → Array Value → World → Prop} (hE : Held El S) {u w : World} {zs : List Int} {k k1 n : Nat} {bad0 bad1 : Bool} {v : Value} {i ki : Nat} {bad : Bool} {ys : List (α × Array Value)} {F : Nat → Prop}
    (h : GMid S T c El u zs k1 n v i w ki bad ys F) (hz : Bytes zs) (hi : bad = false → i = n) (hn : Counted zs k bad0 n k1 bad1) (hb1 : bad1 = true → bad = true) (hb : bad = true → bad1 = false → getN c n (zs.drop k1) = none) (hkz : k1 ≤ zs.length) :
    Lst S El u.heap.size (ys.map Prod.fst) v (fun g => F g ∨ v.ownBlock = some g) w ∧ Rd1 (list c) zs k bad0 (ys.map Prod.fst) ki bad := by
  refine ⟨⟨?_, fun g hg => ?_⟩, ?_⟩
  · have hl := h.len
    rcases h.own.2 with ⟨hv, h0⟩ | ⟨g, cp, cur, hv, _, _, _, _, _, _⟩
    · subst hv
      refine ⟨none, 0, ys, rfl, by rw [hl, h0], fun y hy => hE.mono (h.el y hy) fun b hb => Or.inl hb, fun j hj => by omega, fun _ => rfl⟩
    · refine ⟨some ⟨g, 0, none⟩, cp, ys, rfl, by rw [hv, hl], fun y hy => hE.mono (h.el y hy) fun b hb => Or.inl hb, fun j hj => ⟨_, rfl, Or.inr (by rw [hv]; rfl), fun j' x hx => ?_⟩, fun e => by cases e⟩
      exact h.own.cells (g := g) (by rw [hv]; rfl) _ _ (rowOf_at S ys (fun y hy => hE.size (h.el y hy)) j hj j' x hx)
  · rcases hg with hg | hg
    · exact h.new g hg
    · exact ⟨(h.at_ g hg).2, (h.own.lt g hg).2⟩
  · rcases hn with ⟨rfl, rfl, q, l, m⟩ | ⟨rfl, rfl, q⟩
    · have hg : (list c).get (zs.drop k) = getN c n (zs.drop k1) := list_good q (by rw [List.length_drop]; omega)
      cases bad with
      | false =>
        obtain ⟨e1, e2⟩ := h.eq rfl
        rw [hi rfl, Nat.sub_self] at e1
        simp only [getN, Option.map_some, List.append_nil] at e1
        rw [e1] at hg
        have hok := ((gList hc).iff _ _ _ (Bytes.drop hz k)).1 hg
        exact Or.inl ⟨rfl, rfl, hg, by omega, hok.2⟩
      | true => exact Or.inr ⟨rfl, Or.inr (hg.trans (hb rfl rfl))⟩
    · obtain rfl := hb1 rfl
      refine Or.inr ⟨rfl, ?_⟩
      rcases q with q | q
      · exact Or.inl q
      · exact Or.inr (q _ c)
/- An item that lies in a box of its own, read since wr. -/
structure Itm {α : Type} (T : TypeId) (c : Cod α) (El : (Nat → Prop) → α → Array Value → World → Prop) (wr : World) (R : Nat) (zs : List Int) (ki P : Nat) (cs : Array Value) (x : α) (k' : Nat) (b' : Bool) (F2 : Nat → Prop) (wx : World) : Prop where
  box : wx.heap[P]? = some (.cells cs T (0, 0))
  el : El F2 x cs wx
  new : New F2 wr.heap.size wx
  gr : wr.grownBy wx (some R)
  rd : Rd1 c zs ki false x k' b'
end Go.Proofs.Ythdgpadakmdlkaa.Codec
