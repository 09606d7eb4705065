/-
  An array of eight telegrams in a block of its own.
-/
import Derived.Test.YtdplacpdbknlgaaLinkRow
import Derived.Deep.MidRow
namespace Go.Proofs.Ytdplacpdbknlgaa.Lk
set_option linter.unusedVariables false
set_option linter.unusedSimpArgs false
open Go Go.RowKit Go.Shelf Go.Proofs Go.Proofs.Ytdplacpdbknlgaa.Tick Go.Proofs.Ytdplacpdbknlgaa.Plain
attribute [local go_sem] Oper.semAt_some

structure Ar (w : World) (g : Nat) (f : Nat → Tl) : Prop where
  at_ : ∀ i, i < 8 → w.rangeAt g (i * 19) (tlL (f i))
  there : ∀ i, i < 8 → w.there g (i * 19) 19
  lt : g < w.heap.size
theorem Ar.same {w w' : World} {g : Nat} {f : Nat → Tl} (h : Ar w g f) (e : w'.heap[g]? = w.heap[g]?) : Ar w' g f :=
  ⟨fun i hi j v hv => (cell_same e).trans (h.at_ i hi j v hv), fun i hi j hj => ⟨by rw [cell_same e]; exact (h.there i hi j hj).1, by rw [frozen_same e]; exact (h.there i hi j hj).2⟩, by
    have h1 := Array.getElem?_eq_getElem h.lt
    rw [← e] at h1
    exact (Array.getElem?_eq_some_iff.1 h1).1⟩
theorem setCells_heap (g k : Nat) (hk : k ≠ g) : ∀ (vs : List Value) (o : Nat) (w : World), (w.setCells g o vs).heap[k]? = w.heap[k]?
  | [], _, _ => rfl
  | v :: r, o, w => by
    rw [World.setCells, setCells_heap g k hk r (o + 1)]
    exact RowKit.Below.heap_setCell _ _ _ _ hk
theorem setCells_rest (g : Nat) : ∀ (vs : List Value) (o : Nat) (w : World), (w.setCells g o vs).heap.size = w.heap.size ∧ (w.setCells g o vs).os = w.os ∧ (w.setCells g o vs).tape = w.tape ∧ (w.setCells g o vs).output = w.output
  | [], _, _ => ⟨rfl, rfl, rfl, rfl⟩
  | v :: r, o, w => by
    rw [World.setCells]
    have h := setCells_rest g r (o + 1) (w.setCell ⟨g, o, none⟩ v)
    have hs : (w.setCell ⟨g, o, none⟩ v).heap.size = w.heap.size := by simp [World.setCell]
    exact ⟨h.1.trans hs, h.2.1, h.2.2.1, h.2.2.2⟩
theorem setCells_grown (w : World) (g o : Nat) (vs : List Value) : w.grownBy (w.setCells g o vs) (some g) := by
  obtain ⟨h1, h2, h3, h4⟩ := setCells_rest g vs o w
  exact ⟨h2, h3, h4, by rw [h1]; exact Nat.le_refl _, fun i hi hr => setCells_heap g i (fun e => hr (by rw [e])) vs o w⟩
def setAt (f : Nat → Tl) (i : Nat) (t : Tl) : Nat → Tl := fun j => if j = i then t else f j
theorem Ar.put {w : World} {g : Nat} {f : Nat → Tl} (h : Ar w g f) {i : Nat} (hi : i < 8) (t : Tl) : Ar (w.setCells g (i * 19) (tlL t)) g (setAt f i t) := by
  refine ⟨fun j hj => ?_, fun j hj => World.there_setCells (h.there j hj) _ _ _, by rw [(setCells_rest g _ _ w).1]; exact h.lt⟩
  unfold setAt
  by_cases e : j = i
  · subst e
    rw [if_pos rfl]
    exact World.rangeAt_setCells_same w g _ _ (by rw [tlL_len]; exact h.there j hj)
  · rw [if_neg e]
    exact World.rangeAt_setCells_apart (h.at_ j hj) _ _ _ (by rw [tlL_len, tlL_len]; omega)
theorem Ar.load {w : World} {g : Nat} {f : Nat → Tl} (h : Ar w g f) {i : Nat} (hi : i < 8) : (loadVar 42 ⟨g, i * 19, none⟩).run Try.prog w = .ok (.agg (tlA (f i))) w :=
  run_loadVar_at w _ _ _ (fun j v hv => by rw [add_at]; exact h.at_ i hi j v (by unfold tlA at hv; simpa using hv)) (aggTele _) infoTele
theorem Ar.kd {w : World} {g : Nat} {f : Nat → Tl} (h : Ar w g f) {i : Nat} (hi : i < 8) : w.cell? ⟨g, i * 19, none⟩ = some (.int .i64 (f i).kd) := h.at_ i hi 0 _ rfl
def z152 : Array Value := (rowL tlL (List.replicate 8 tl0)).toArray
theorem ar_new (w : World) (T : TypeId) : Ar (w.alloc (.cells z152 T)) w.heap.size (fun _ => tl0) := by
  have hn : (w.alloc (.cells z152 T)).heap[w.heap.size]? = some (.cells z152 T (0, 0)) := World.alloc_heap_new _ _
  have hl : ∀ i j, i < 8 → ∀ v, (tlL tl0)[j]? = some v → (w.alloc (.cells z152 T)).cell? ⟨w.heap.size, i * 19 + j, none⟩ = some v := fun i j hi v hv => by
    have := rowL_at tlL_len (List.replicate 8 tl0) i (by rw [List.length_replicate]; exact hi) j v (by rw [List.getElem_replicate]; exact hv)
    rw [cell_of_row _ _ _ _ _ _ hn]
    unfold z152
    rw [List.getElem?_toArray]
    exact this
  refine ⟨fun i hi j v hv => hl i j hi v hv, fun i hi j hj => ⟨?_, thaw hn⟩, by simp⟩
  rw [hl i j hi _ (List.getElem?_eq_getElem (by rw [tlL_len]; exact hj))]
  rfl
theorem wpList_putArr {ops : Array Oper} {rest : List Oper} {o : Oper} {a : Act} {w : World} {Q : Exit → Act → World → Prop} (hg : o.guard = none) (x y : Operand) (ho : o.op = .store 42 x y) (g i : Nat) (hi : i < 8) (f : Nat → Tl) (hA : Ar w g f) (t : Tl)
    (hx : a.eval x = .pointer (some ⟨g, i * 19, none⟩)) (hy : a.eval y = .agg (tlA t))
    (h : ∀ w', Ar w' g (setAt f i t) → w.grownBy w' (some g) → wpList Try.prog ops Q rest (a.put o.dst undef) w') : wpList Try.prog ops Q (o :: rest) a w :=
  wpList_store_mid hg 42 x y ho g (i * 19) (tlA t) hx hy (hA.there i hi) infoTele (tlA_one t) (h _ (hA.put hi t) (setCells_grown _ _ _ _))
end Go.Proofs.Ytdplacpdbknlgaa.Lk
