/-
  The face of package codec: what PutEvent, PutState, GetNumber answer; what each Get answers, by how things are held.
-/
import Derived.Test.YtgliglealchjjaaCodecItemsOf
import Derived.Test.YtgliglealchjjaaCodecPutThings
import Derived.Test.YtgliglealchjjaaCodecWholeTele
import Derived.Test.YtgliglealchjjaaCodecWholeEvent
import Derived.Test.YtgliglealchjjaaCodecWholeState
import Derived.Test.YtgliglealchjjaaCodecAwake
namespace Go.Proofs.Ytgliglealchjjaa.Codec
set_option linter.unusedVariables false
set_option linter.unusedSimpArgs false
open Go Go.RowKit

theorem own_form {w : World} {base n cc : Nat} {ca : Option Addr} {zs : List Int} (h : w.ownsRow base 5 1 (.slice ca n cc) n (zs.map (Value.int .u8))) : n ≤ cc ∧ cc ≤ 9223372036854775807 ∧ (ca = none → cc = 0) := by
  rcases h.2 with ⟨e, h0⟩ | ⟨g, cap', cur, e, _, _, hc, hm, _⟩
  · rw [Value.slice.injEq] at e
    obtain ⟨rfl, rfl, rfl⟩ := e
    exact ⟨Nat.le_refl _, by omega, fun _ => rfl⟩
  · rw [Value.slice.injEq] at e
    obtain ⟨rfl, _, rfl⟩ := e
    exact ⟨hc, by unfold maxLen at hm; omega, fun h => by cases h⟩
theorem lt_of_heap {w : World} {N : Nat} {o : Obj} (h : w.heap[N]? = some o) : N < w.heap.size := (Array.getElem?_eq_some_iff.1 h).1
theorem fresh_nil (W : World) : Fresh W (.slice none 0 0) := fun g h => by cases h
set_option maxRecDepth 100000 in
set_option maxHeartbeats 1000000 in
theorem putHeldEvent (w : World) (x : TEvent) (cs : Array Value) (F : Nat → Prop) (hx : eventEl F x cs w) (hF : ∀ g, F g → g < w.heap.size) (ho : cEvent.ok x) (hl : (cEvent.put x).length ≤ 140737488355328) :
    Calls Try.prog 15 #[.agg cs] w (Made (cEvent.put x) w) := by
  have hcs := heldEvent.size hx
  have hi : (Try.prog.info? 40).map (·.size) = some cs.size := by rw [hcs]; kernel_rfl
  have c1 := putsEvent w F hF (w.alloc (.cells cs 40)) (.slice none 0 0) [] x cs ((Below.refl _ _).alloc (Nat.le_refl _) _) (fresh_nil w) (Mine.nil _) hx ho (by rw [List.length_nil]; omega)
  rw [List.nil_append] at c1
  generalize cEvent.put x = N at *
  clear hx ho hl
  go_enter Try.func15, Try.ntmps15
  go_wp2_with (first
    | (go_at_call 37; refine c1.mono ?_; rintro e w1 ⟨b1, rfl, m1, g1⟩)
    | (refine wpList_load_row rfl 40 (.tmp 1) rfl w.heap.size rfl 40 cs (0, 0) _ (heap_alloc_new w _) Try.underlying40 rfl hi ?_))
  go_ret
  exact made_of m1 g1
set_option maxRecDepth 100000 in
set_option maxHeartbeats 1000000 in
theorem putHeldState (w : World) (x : TState) (cs : Array Value) (F : Nat → Prop) (hx : stateEl F x cs w) (hF : ∀ g, F g → g < w.heap.size) (ho : cState.ok x) (hl : (cState.put x).length ≤ 140737488355328) :
    Calls Try.prog 29 #[.agg cs] w (Made (cState.put x) w) := by
  have hcs := heldState.size hx
  have hi : (Try.prog.info? 74).map (·.size) = some cs.size := by rw [hcs]; kernel_rfl
  have c1 := putsState w F hF (w.alloc (.cells cs 74)) (.slice none 0 0) [] x cs ((Below.refl _ _).alloc (Nat.le_refl _) _) (fresh_nil w) (Mine.nil _) hx ho (by rw [List.length_nil]; omega)
  rw [List.nil_append] at c1
  generalize cState.put x = N at *
  clear hx ho hl
  go_enter Try.func29, Try.ntmps29
  go_wp2_with (first
    | (go_at_call 58; refine c1.mono ?_; rintro e w1 ⟨b1, rfl, m1, g1⟩)
    | (refine wpList_load_row rfl 74 (.tmp 1) rfl w.heap.size rfl 74 cs (0, 0) _ (heap_alloc_new w _) Try.underlying74 rfl hi ?_))
  go_ret
  exact made_of m1 g1
theorem putHeldTele (w : World) (x : TTele) (cs : Array Value) (F : Nat → Prop) (hx : Plain (fun t : TTele => (tCells t).toArray) F x cs w) (hF : ∀ g, F g → g < w.heap.size) (ho : cTele.ok x) (hl : (cTele.put x).length ≤ 140737488355328) :
    Calls Try.prog 21 #[.agg cs] w (Made (cTele.put x) w) := by
  cases hx
  exact PutTele_any w x ho
theorem putHeldOp (w : World) (x : TOper) (cs : Array Value) (F : Nat → Prop) (hx : Plain opCells F x cs w) (hF : ∀ g, F g → g < w.heap.size) (ho : cOp.ok x) (hl : (cOp.put x).length ≤ 140737488355328) :
    Calls Try.prog 25 #[.agg cs] w (Made (cOp.put x) w) := by
  cases hx
  obtain ⟨p, q, r⟩ := x
  exact PutOp_any w p q r ho

set_option maxRecDepth 100000 in
set_option maxHeartbeats 1000000 in
theorem GetNumber_none (a : Option Addr) (n cap : Nat) (v : Int) (w : World) (h : v < 0 ∨ (n : Int) < v) :
    Calls Try.prog 11 #[.slice a n cap, .int .i64 v] w fun e w' => e = .returned (.tuple #[.int .i64 0, .int .i64 0, .bool false]) ∧ w' = w := by
  rcases Int.lt_or_le v 0 with h0 | h0
  · go_enter Try.func11, Try.ntmps11
    go_wp2
    go_ret3
    exact ⟨rfl, rfl⟩
  · have h1 : (n : Int) < v := by rcases h with h | h <;> omega
    go_enter Try.func11, Try.ntmps11
    go_wp2
    go_ret3
    exact ⟨rfl, rfl⟩
set_option maxRecDepth 100000 in
set_option maxHeartbeats 1000000 in
theorem GetNumber_any (a : Option Addr) (n cap k : Nat) (zs : List Int) (w : World) (hr : Row w a n zs) (hk : k ≤ n) (hc : n ≤ cap) (hc2 : cap ≤ 9223372036854775807) (h0 : a = none → cap = 0) :
    Calls Try.prog 11 #[.slice a n cap, .int .i64 (k : Nat)] w fun e w' => w' = w ∧
      ((∃ v m, getNum (zs.drop k) = some (v, zs.drop (k + m)) ∧ 0 < m ∧ k + m ≤ n ∧ I64 v ∧ e = .returned (.tuple #[.int .i64 v, .int .i64 ((k + m : Nat) : Int), .bool true])) ∨
       (getNum (zs.drop k) = none ∧ e = .returned (.tuple #[.int .i64 0, .int .i64 0, .bool false]))) := by
  have hl := hr.len
  have hki : (k : Int) ≤ (n : Int) := by omega
  have hci : (n : Int) ≤ (cap : Int) := by omega
  have hzero : ∀ (a' : Option Addr), Calls Try.prog 36 #[.slice a' 0 0] w fun e w' => e = .returned (.tuple #[.int .i64 0, .int .i64 0]) ∧ w' = w := fun a' => by
    have := first_len a' 0 0 [] rfl w ⟨rfl, by simp, fun i hi => by omega⟩ (by decide) (by decide) (by decide) (fun _ => rfl)
    have hf0 : fnum [] = (0, 0) := rfl
    rw [hf0] at this
    exact this
  cases a with
  | none =>
    obtain rfl : cap = 0 := h0 rfl
    obtain rfl : n = 0 := by omega
    obtain rfl : k = 0 := by omega
    obtain rfl : zs = [] := List.eq_nil_of_length_eq_zero hl
    have c1 := hzero none
    go_enter Try.func11, Try.ntmps11
    go_wp2_with (go_at_call 36; refine c1.mono ?_; rintro e w ⟨rfl, rfl⟩)
    go_ret3
    exact ⟨rfl, Or.inr ⟨rfl, rfl⟩⟩
  | some x =>
    by_cases hkc : k < cap
    · have hkc' : (k : Int) < (cap : Int) := by omega
      have c1 := first_len (some (x.add k)) (n - k) (cap - k) (zs.drop k) (by rw [List.length_drop, hl]) w (by have := hr.tail k hk hc; rwa [if_neg (by omega)] at this) (by omega) (by omega) (by omega) (fun e => by cases e)
      have hs : Bytes zs := hr.small
      rcases fnum_cases (zs.drop k) (hs.drop k) with ⟨v, m, e1, e2, e3, e4, e5⟩ | ⟨e1, e5⟩
      · rw [e5] at c1
        simp only at c1
        rw [List.length_drop, hl] at e3
        have hn : ((m : Int) == 0) = false := by rw [beq_eq_false_iff_ne]; omega
        have hn2 : (k : Int) + m ≤ (n : Int) := by omega
        have H : Hid (getNum (zs.drop k) = some (v, zs.drop (k + m))) := by rw [← List.drop_drop]; exact e1
        have he : Hid ((k : Int) + m = ((k + m : Nat) : Int)) := by show (k : Int) + m = _; omega
        clear e5 e1 hr
        go_enter Try.func11, Try.ntmps11
        go_wp2_with (go_at_call 36; refine c1.mono ?_; rintro e w ⟨rfl, rfl⟩)
        go_ret3
        exact ⟨rfl, Or.inl ⟨v, m, H.out, e2, by omega, e4, rfl⟩⟩
      · rw [e5] at c1
        have H : Hid (getNum (zs.drop k) = none) := e1
        clear e5 e1 hr
        go_enter Try.func11, Try.ntmps11
        go_wp2_with (go_at_call 36; refine c1.mono ?_; rintro e w ⟨rfl, rfl⟩)
        go_ret3
        exact ⟨rfl, Or.inr ⟨H.out, rfl⟩⟩
    · obtain rfl : cap = k := by omega
      obtain rfl : n = cap := by omega
      have H : Hid (getNum (zs.drop n) = none) := by rw [List.drop_eq_nil_of_le (by omega)]; rfl
      have c1 := hzero (some x)
      clear hr
      go_enter Try.func11, Try.ntmps11
      go_wp2_with (go_at_call 36; refine c1.mono ?_; rintro e w ⟨rfl, rfl⟩)
      go_ret3
      exact ⟨rfl, Or.inr ⟨H.out, rfl⟩⟩
end Go.Proofs.Ytgliglealchjjaa.Codec
