/-
  The face of package codec: what PutEvent, PutState, GetNumber answer; what each Get answers, by how things are held.
-/
import Derived.Test.YthdgpadakmdlkaaCodecItemsOf
import Derived.Test.YthdgpadakmdlkaaCodecPutThings
import Derived.Test.YthdgpadakmdlkaaCodecWholeTele
import Derived.Test.YthdgpadakmdlkaaCodecWholeEvent
import Derived.Test.YthdgpadakmdlkaaCodecWholeState
import Derived.Test.YthdgpadakmdlkaaCodecAwake
namespace Go.Proofs.Ythdgpadakmdlkaa.Codec
set_option linter.unusedVariables false
set_option linter.unusedSimpArgs false
open Go Go.RowKit

theorem own_form {w : World} {base n cc : Nat} {ca : Option Addr} {zs : List Int} (h : w.ownsRow base 5 1 (.slice ca n cc) n (zs.map (Value.int .u8))) : n ≤ cc ∧ cc ≤ 9223372036854775807 ∧ (ca = none → cc = 0) := by
  rcases h.2 with ⟨e, h0⟩ | ⟨g, cap', cur, e, _, _, hc, hm, _⟩
  · rw [Value.slice.injEq] at e
    obtain ⟨rfl, rfl, rfl⟩ := e
    exact ⟨Nat.le_refl _, by omega, fun _ => rfl⟩
  · rw [Value.slice.injEq] at e
    obtain ⟨rfl, _, rfl⟩ := e
    exact ⟨hc, by unfold maxLen at hm; omega, fun h => by cases h⟩
theorem lt_of_heap {w : World} {N : Nat} {o : Obj} (h : w.heap[N]? = some o) : N < w.heap.size := (Array.getElem?_eq_some_iff.1 h).1
theorem fresh_nil (W : World) : Fresh W (.slice none 0 0) := fun g h => by cases h
set_option maxRecDepth 100000 in
set_option maxHeartbeats 1000000 in
theorem putHeldEvent (w : World) (x : TEvent) (cs : Array Value) (F : Nat → Prop) (hx : eventEl F x cs w) (hF : ∀ g, F g → g < w.heap.size) (ho : cEvent.ok x) (hl : (cEvent.put x).length ≤ 140737488355328) :
    Calls Try.prog 6 #[.agg cs] w (Made (cEvent.put x) w) := by
  have hcs := heldEvent.size hx
  have hi : (Try.prog.info? 28).map (·.size) = some cs.size := by rw [hcs]; kernel_rfl
  have c1 := putsEvent w F hF (w.alloc (.cells cs 28)) (.slice none 0 0) [] x cs ((Below.refl _ _).alloc (Nat.le_refl _) _) (fresh_nil w) (Mine.nil _) hx ho (by rw [List.length_nil]; omega)
  rw [List.nil_append] at c1
  generalize cEvent.put x = N at *
  clear hx ho hl
  go_enter Try.func6, Try.ntmps6
  go_wp2_with (first
    | (go_at_call 23; refine c1.mono ?_; rintro e w1 ⟨b1, rfl, m1, g1⟩)
    | (refine wpList_load_row rfl 28 (.tmp 1) rfl w.heap.size rfl 28 cs (0, 0) _ (heap_alloc_new w _) Try.underlying28 rfl hi ?_))
  go_ret
  exact made_of m1 g1
set_option maxRecDepth 100000 in
set_option maxHeartbeats 1000000 in
theorem putHeldState (w : World) (x : TState) (cs : Array Value) (F : Nat → Prop) (hx : stateEl F x cs w) (hF : ∀ g, F g → g < w.heap.size) (ho : cState.ok x) (hl : (cState.put x).length ≤ 140737488355328) :
    Calls Try.prog 18 #[.agg cs] w (Made (cState.put x) w) := by
  have hcs := heldState.size hx
  have hi : (Try.prog.info? 57).map (·.size) = some cs.size := by rw [hcs]; kernel_rfl
  have c1 := putsState w F hF (w.alloc (.cells cs 57)) (.slice none 0 0) [] x cs ((Below.refl _ _).alloc (Nat.le_refl _) _) (fresh_nil w) (Mine.nil _) hx ho (by rw [List.length_nil]; omega)
  rw [List.nil_append] at c1
  generalize cState.put x = N at *
  clear hx ho hl
  go_enter Try.func18, Try.ntmps18
  go_wp2_with (first
    | (go_at_call 44; refine c1.mono ?_; rintro e w1 ⟨b1, rfl, m1, g1⟩)
    | (refine wpList_load_row rfl 57 (.tmp 1) rfl w.heap.size rfl 57 cs (0, 0) _ (heap_alloc_new w _) Try.underlying57 rfl hi ?_))
  go_ret
  exact made_of m1 g1
theorem putHeldTele (w : World) (x : TTele) (cs : Array Value) (F : Nat → Prop) (hx : Plain (fun t : TTele => (tCells t).toArray) F x cs w) (hF : ∀ g, F g → g < w.heap.size) (ho : cTele.ok x) (hl : (cTele.put x).length ≤ 140737488355328) :
    Calls Try.prog 14 #[.agg cs] w (Made (cTele.put x) w) := by
  cases hx
  exact PutTele_any w x ho
theorem putHeldOp (w : World) (x : TOper) (cs : Array Value) (F : Nat → Prop) (hx : Plain opCells F x cs w) (hF : ∀ g, F g → g < w.heap.size) (ho : cOp.ok x) (hl : (cOp.put x).length ≤ 140737488355328) :
    Calls Try.prog 37 #[.agg cs] w (Made (cOp.put x) w) := by
  cases hx
  obtain ⟨p, q, r⟩ := x
  exact PutOp_any w p q r ho

end Go.Proofs.Ythdgpadakmdlkaa.Codec
