/-
  The chapter's own answer: a list that is read item by item.
-/
import Derived.Test.YthdgpadakmdlkaaCodecRefCount
namespace Go.Proofs.Ythdgpadakmdlkaa.Codec
set_option linter.unusedVariables false
set_option linter.unusedSimpArgs false
open Go Go.RowKit

/- What a method of the chapter's reader does that reads a thing. -/
def RItem {α : Type} (M : Nat) (c : Cod α) (El : (Nat → Prop) → α → Array Value → World → Prop) (f : FuncId) : Prop :=
  ∀ (u : World) (R : Nat) (a : Option Addr) (cap : Nat) (zs : List Int) (k : Nat) (bad : Bool), zs.length ≤ M → RR u R a cap zs k bad → Calls Try.prog f #[.pointer (some ⟨R, 0, none⟩)] u fun e w' =>
    u.grownBy w' (some R) ∧ ∃ x cs k' bad' F, e = .returned (.agg cs) ∧ El F x cs w' ∧ New F u.heap.size w' ∧ RR w' R a cap zs k' bad' ∧ Rd1 c zs k bad x k' bad'
theorem RR.kept {w w' : World} {R : Nat} {a : Option Addr} {cap : Nat} {zs : List Int} {k : Nat} {bad : Bool} (h : RR w R a cap zs k bad) (hR : w'.heap[R]? = w.heap[R]?) (hx : ∀ x, a = some x → zs.length ≠ 0 → w'.heap[x.block]? = w.heap[x.block]?) : RR w' R a cap zs k bad := by
  refine ⟨?_, ?_, ?_, ?_, ?_, ⟨h.row.len, h.row.small, fun i hi => ?_⟩, h.apart, h.le, h.cap1, h.cap2, h.nil⟩
  · rw [cell_same (w := w) (w' := w') (p := ⟨R, 0, none⟩) hR]; exact h.s
  · rw [cell_same (w := w) (w' := w') (p := ⟨R, 1, none⟩) hR]; exact h.i
  · rw [cell_same (w := w) (w' := w') (p := ⟨R, 2, none⟩) hR]; exact h.b
  · rw [← h.fz]; unfold World.frozen?; rw [hR]
  · rw [← h.fb]; unfold World.frozen?; rw [hR]
  · obtain ⟨x, hx', hc⟩ := h.row.cell i hi
    exact ⟨x, hx', by rw [cell_same (w := w) (w' := w') (p := x.add i) (by rw [block_add]; exact hx x hx' (by omega))]; exact hc⟩
/- A list under way: i items have been read, the reader stands at ki. -/
structure RMid {α : Type} (S : Nat) (T : TypeId) (c : Cod α) (El : (Nat → Prop) → α → Array Value → World → Prop) (u : World) (R : Nat) (a : Option Addr) (cap : Nat) (zs : List Int) (k1 n : Nat) (v : Value) (i : Nat) (w : World) (ki : Nat) (bad : Bool) (ys : List (α × Array Value)) (F : Nat → Prop) : Prop where
  len : ys.length = i
  own : w.ownsRow 0 T S v i (rowOf ys)
  el : ∀ y ∈ ys, El F y.1 y.2 w
  new : New F u.heap.size w
  at_ : ∀ g, v.ownBlock = some g → ¬ F g ∧ u.heap.size ≤ g
  rr : RR w R a cap zs ki bad
  gr : u.grownBy w (some R)
  eq : bad = false → (getN c n (zs.drop k1) = (getN c (n - i) (zs.drop ki)).map fun q => (ys.map Prod.fst ++ q.1, q.2)) ∧ k1 ≤ ki
theorem RMid.start {α : Type} {S : Nat} {T : TypeId} {c : Cod α} {El : (Nat → Prop) → α → Array Value → World → Prop} {u w : World} {R : Nat} {a : Option Addr} {cap : Nat} {zs : List Int} {k1 n : Nat} {bad : Bool} (r : RR w R a cap zs k1 bad) (g : u.grownBy w (some R)) :
    RMid S T c El u R a cap zs k1 n (.slice none 0 0) 0 w k1 bad [] (fun _ => False) := by
  refine ⟨rfl, World.ownsRow_nil _ _ _ _, fun y hy => by simp at hy, fun g h => h.elim, fun g h => (by cases h), r, g, fun _ => ⟨?_, Nat.le_refl _⟩⟩
  rw [Nat.sub_zero]
  cases getN c n (zs.drop k1) with
  | none => rfl
  | some q => rfl
/- One item more. -/
theorem RMid.next {α : Type} {S : Nat} {T : TypeId} {c : Cod α} {El : (Nat → Prop) → α → Array Value → World → Prop} (hE : Held El S) {u w w1 w2 w3 : World} {R : Nat} {a : Option Addr} {cap : Nat} {zs : List Int} {k0 k1 n : Nat} {bad0 : Bool} (hu : RR u R a cap zs k0 bad0) {v v' : Value} {i ki : Nat} {ys : List (α × Array Value)} {F : Nat → Prop}
    (h : RMid S T c El u R a cap zs k1 n v i w ki false ys F) (hi : i < n) {x : α} {cs : Array Value} {k2 : Nat} {bad' : Bool} {F2 : Nat → Prop} (rd : Rd1 c zs ki false x k2 bad') (hx : El F2 x cs w1) (f2 : New F2 w.heap.size w1) (r : RR w1 R a cap zs k2 bad') (g : w.grownBy w1 (some R))
    (b2 : Below w1.heap.size w1 w2) (own3 : w3.ownsRow 0 T S v' (i + 1) (rowOf ys ++ cs.toList)) (g3 : w2.grownBy w3 v.ownBlock) (at3 : v'.ownBlock = v.ownBlock ∨ v'.ownBlock = some w2.heap.size) :
    RMid S T c El u R a cap zs k1 n v' (i + 1) w3 k2 bad' (ys ++ [(x, cs)]) (fun g => F g ∨ F2 g) := by
  have hR := hu.lt
  have s0 := h.gr.size
  have s1 := g.size
  have s2 := b2.size
  have s3 := g3.size
  have vl : ∀ b, v.ownBlock = some b → b < w.heap.size := fun b hb => (h.own.lt b hb).2
  have keep1 : ∀ b, b < w1.heap.size → v.ownBlock ≠ some b → w3.heap[b]? = w1.heap[b]? := fun b hb hv => by
    rw [g3.block b (by omega) (fun e => hv e.symm), b2.block b hb]
  have keep0 : ∀ b, b < w.heap.size → b ≠ R → v.ownBlock ≠ some b → w3.heap[b]? = w.heap[b]? := fun b hb hr hv => by
    rw [keep1 b (by omega) hv, g.block b hb (fun e => hr (Option.some.inj e))]
  have eF : ∀ b, F b → w3.heap[b]? = w.heap[b]? := fun b hb => keep0 b (h.new b hb).2 (by have := (h.new b hb).1; omega) (fun e => (h.at_ b e).1 hb)
  have eF2 : ∀ b, F2 b → w3.heap[b]? = w1.heap[b]? := fun b hb => keep1 b (f2 b hb).2 (fun e => by have := vl b e; have := (f2 b hb).1; omega)
  refine ⟨by rw [List.length_append, h.len]; rfl, by rw [rowOf_snoc]; exact own3, fun y hy => ?_, fun b hb => ?_, fun b hb => ?_, r.kept ?_ ?_, ?_, ?_⟩
  · rcases List.mem_append.1 hy with hy | hy
    · exact hE.mono (hE.stable (h.el y hy) eF) fun b hb => Or.inl hb
    · rw [List.mem_singleton.1 hy]
      exact hE.mono (hE.stable hx eF2) fun b hb => Or.inr hb
  · rcases hb with hb | hb
    · have := h.new b hb; exact ⟨this.1, by omega⟩
    · have := f2 b hb; exact ⟨by omega, by omega⟩
  · rcases at3 with e | e
    · rw [e] at hb
      exact ⟨fun hf => hf.elim (h.at_ b hb).1 fun hf => by have := vl b hb; have := (f2 b hf).1; omega, (h.at_ b hb).2⟩
    · rw [e] at hb
      have hb' := Option.some.inj hb
      exact ⟨fun hf => hf.elim (fun hf => by have := (h.new b hf).2; omega) fun hf => by have := (f2 b hf).2; omega, by omega⟩
  · exact keep1 R (by omega) fun e => by have := (h.at_ R e).2; omega
  · intro p hp hn
    have hpl := hu.row.lt p hp hn
    exact keep1 p.block (by omega) fun e => by have := (h.at_ _ e).2; omega
  · have g12 : w1.grownBy w2 (some R) := ⟨b2.os, b2.tape, b2.output, b2.size, fun k hk _ => b2.block k hk⟩
    exact grown_on ((h.gr.trans g).trans g12) g3 fun b hb => Or.inr (h.at_ b hb).2
  · intro hb
    subst hb
    rcases rd with ⟨_, _, q, l, _⟩ | ⟨hb, _⟩
    · obtain ⟨e1, e2⟩ := h.eq rfl
      refine ⟨?_, by omega⟩
      rw [e1, show n - i = n - (i + 1) + 1 by omega, getN_snoc q, Option.map_map]
      congr 1
      funext q
      simp [Function.comp]
    · cases hb
theorem RMid.own_item {α : Type} {S : Nat} {T : TypeId} {c : Cod α} {El : (Nat → Prop) → α → Array Value → World → Prop} {u w w1 w2 : World} {R : Nat} {a : Option Addr} {cap : Nat} {zs : List Int} {k1 n : Nat} {v : Value} {i ki : Nat} {bad : Bool} {ys : List (α × Array Value)} {F : Nat → Prop}
    (h : RMid S T c El u R a cap zs k1 n v i w ki bad ys F) (g : w.grownBy w1 (some R)) (hR : R < u.heap.size) (b2 : Below w1.heap.size w1 w2) : w2.ownsRow 0 T S v i (rowOf ys) :=
  owns_same h.own fun b hb => by
    have h1 := (h.own.lt b hb).2
    have h2 := (h.at_ b hb).2
    have h3 := g.size
    rw [b2.block b (by omega), g.block b h1 (fun e => by have := Option.some.inj e; omega)]
/- The list, when it ends: all items are read, or all is bad. -/
theorem RMid.done {α : Type} {S : Nat} {T : TypeId} {c : Cod α} (hc : Good c) {El : (Nat → Prop) → α → Array Value → World → Prop} (hE : Held El S) {u w : World} {R : Nat} {a : Option Addr} {cap : Nat} {zs : List Int} {k k1 n : Nat} {bad0 bad1 : Bool} {v : Value} {i ki : Nat} {bad : Bool} {ys : List (α × Array Value)} {F : Nat → Prop}
    (h : RMid S T c El u R a cap zs k1 n v i w ki bad ys F) (hi : bad = false → i = n) (hn : Counted zs k bad0 n k1 bad1) (hb1 : bad1 = true → bad = true) (hb : bad = true → bad1 = false → getN c n (zs.drop k1) = none) (hkz : k1 ≤ zs.length) :
    ListAt S El (fun g => F g ∨ v.ownBlock = some g) (ys.map Prod.fst) v w ∧ New (fun g => F g ∨ v.ownBlock = some g) u.heap.size w ∧ Rd1 (list c) zs k bad0 (ys.map Prod.fst) ki bad := by
  refine ⟨?_, fun g hg => ?_, ?_⟩
  · have hl := h.len
    rcases h.own.2 with ⟨hv, h0⟩ | ⟨g, cp, cur, hv, _, _, _, _, _, _⟩
    · subst hv
      refine ⟨none, 0, ys, rfl, by rw [hl, h0], fun y hy => hE.mono (h.el y hy) fun b hb => Or.inl hb, fun j hj => by omega, fun _ => rfl⟩
    · refine ⟨some ⟨g, 0, none⟩, cp, ys, rfl, by rw [hv, hl], fun y hy => hE.mono (h.el y hy) fun b hb => Or.inl hb, fun j hj => ⟨_, rfl, Or.inr (by rw [hv]; rfl), fun j' x hx => ?_⟩, fun e => by cases e⟩
      exact h.own.cells (g := g) (by rw [hv]; rfl) _ _ (rowOf_at S ys (fun y hy => hE.size (h.el y hy)) j hj j' x hx)
  · rcases hg with hg | hg
    · exact h.new g hg
    · exact ⟨(h.at_ g hg).2, (h.own.lt g hg).2⟩
  · rcases hn with ⟨rfl, rfl, q, l, m⟩ | ⟨rfl, rfl, q⟩
    · have hg : (list c).get (zs.drop k) = getN c n (zs.drop k1) := list_good q (by rw [List.length_drop]; omega)
      cases bad with
      | false =>
        obtain ⟨e1, e2⟩ := h.eq rfl
        rw [hi rfl, Nat.sub_self] at e1
        simp only [getN, Option.map_some, List.append_nil] at e1
        rw [e1] at hg
        have hok := ((gList hc).iff _ _ _ (Bytes.drop h.rr.row.small k)).1 hg
        exact Or.inl ⟨rfl, rfl, hg, by omega, hok.2⟩
      | true => exact Or.inr ⟨rfl, Or.inr (hg.trans (hb rfl rfl))⟩
    · obtain rfl := hb1 rfl
      refine Or.inr ⟨rfl, ?_⟩
      rcases q with q | q
      · exact Or.inl q
      · exact Or.inr (q _ c)
theorem RMid.stop {α : Type} {S : Nat} {T : TypeId} {c : Cod α} {El : (Nat → Prop) → α → Array Value → World → Prop} {u w : World} {R : Nat} {a : Option Addr} {cap : Nat} {zs : List Int} {k1 n : Nat} {v : Value} {i ki : Nat} {ys : List (α × Array Value)} {F : Nat → Prop}
    (h : RMid S T c El u R a cap zs k1 n v i w ki false ys F) (hi : i < n) {x : α} {k2 : Nat} (rd : Rd1 c zs ki false x k2 true) : getN c n (zs.drop k1) = none := by
  rcases rd with ⟨_, hb, _⟩ | ⟨_, q⟩
  · cases hb
  · rcases q with q | q
    · cases q
    · rw [(h.eq rfl).1, show n - i = n - i - 1 + 1 by omega, getN_stop q]
      rfl
end Go.Proofs.Ythdgpadakmdlkaa.Codec
