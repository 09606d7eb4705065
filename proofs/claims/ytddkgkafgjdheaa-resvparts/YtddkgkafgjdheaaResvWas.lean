/-
  Six lists that were told, kept in a box of six, beside a table.
-/
import Derived.Test.YtddkgkafgjdheaaResvFacts
namespace Go.Proofs.Ytddkgkafgjdheaa.Rs
set_option linter.unusedVariables false
set_option linter.unusedSimpArgs false
open Go Go.RowKit Go.Shelf Go.Proofs Hp

structure Was (F : Nat → Prop) (w : World) (q n : Nat) (ls : List (List Sl)) : Prop where
  nq : ¬ F q
  lq : q < w.heap.size
  fz : ∀ o, w.frozen? ⟨q, o, none⟩ = false
  each : ∀ i, i < 6 → ∃ v, w.cell? ⟨q, i, none⟩ = some v ∧ (∃ a n c, v = .slice a n c) ∧ (i < n → RowAt slL (fun k => ¬ F k ∧ k ≠ q ∧ k < w.heap.size) w v (rowOf ls (i : Nat)))
theorem Was.turn {F F' : Nat → Prop} {w w' : World} {q n : Nat} {ls : List (List Sl)} (h : Was F w q n ls) (t : Tn F F' w w') : Was F' w' q n ls := by
  have nF : ∀ k, ¬ F k → k < w.heap.size → ¬ F' k := fun k h1 h2 e => (t.own k e).elim h1 fun q => by omega
  refine ⟨nF q h.nq h.lq, Nat.lt_of_lt_of_le h.lq t.size, fun o => (frozen_same (t.block q h.lq h.nq)).trans (h.fz o), fun i hi => ?_⟩
  obtain ⟨v, h1, h2, h3⟩ := h.each i hi
  refine ⟨v, (cell_same (t.block q h.lq h.nq)).trans h1, h2, fun k => ?_⟩
  exact ((h3 k).same fun k hk => t.block k hk.2.2 hk.1).mono fun k hk => ⟨nF k hk.1 hk.2.2, hk.2.1, Nat.lt_of_lt_of_le hk.2.2 t.size⟩
theorem Was.go {F : Nat → Prop} {w w' : World} {q n : Nat} {ls : List (List Sl)} (h : Was F w q n ls) (hb : Below w.heap.size w w') : Was F w' q n ls := h.turn (Tn.below hb)
theorem Was.put {F : Nat → Prop} {w w1 : World} {q n : Nat} {ls : List (List Sl)} (h : Was F w q n ls) (hF : ∀ k, F k → k < w.heap.size) (hn : n < 6) (hb : Below w.heap.size w w1) {v : Value} (o : w1.ownsRow w.heap.size 40 3 v (rowOf ls (n : Nat)).length (rowL slL (rowOf ls (n : Nat)))) : Was F (w1.setCell ⟨q, n, none⟩ v) q (n + 1) ls := by
  have h1 := h.go hb
  have sz : (w1.setCell ⟨q, n, none⟩ v).heap.size = w1.heap.size := by simp [World.setCell]
  refine ⟨h1.nq, by rw [sz]; exact h1.lq, fun o => by simp only [World.frozen?_setCell]; exact h1.fz o, fun i hi => ?_⟩
  obtain ⟨v1, k1, k2, k3⟩ := h1.each i hi
  by_cases e : i = n
  · subst e
    refine ⟨v, World.cell?_setCell_same _ _ _ k1, ?_, fun _ => ?_⟩
    · obtain ⟨a, c, e, _⟩ := own_form o; exact ⟨a, _, c, e⟩
    · have R := row_of_own slL_len o
      refine (R.same fun k hk => Below.heap_setCell _ _ _ k ?_).mono fun k hk => ⟨fun f => ?_, ?_, ?_⟩
      · have := hk.2.1; have := h.lq; simp only; omega
      · have := hF k f; have := hk.2.1; omega
      · have := hk.2.1; have := h.lq; omega
      · rw [sz]; exact hk.2.2
  · refine ⟨v1, (World.cell?_setCell_other _ _ _ _ (by intro x; cases x; exact e rfl)).trans k1, k2, fun k => ?_⟩
    refine ((k3 (by omega)).same fun k hk => Below.heap_setCell _ _ _ k hk.2.1).mono fun k hk => ⟨hk.1, hk.2.1, by rw [sz]; exact hk.2.2⟩
theorem below_box {w0 w1 : World} (h : Below w0.heap.size w0 w1) (q i : Nat) (hq : w0.heap.size ≤ q) (v : Value) : Below w0.heap.size w0 (w1.setCell ⟨q, i, none⟩ v) := h.setCell (p := ⟨q, i, none⟩) hq v
theorem TAt.box {F : Nat → Prop} {w : World} {b : Nat} {ls : List (List Sl)} (h : TAt F w b ls) {q i : Nat} (hq : ¬ F q) (v : Value) : TAt F (w.setCell ⟨q, i, none⟩ v) b ls :=
  h.same (by simp [World.setCell]) fun k hk => Below.heap_setCell _ _ _ k fun e => hq (by have e : k = q := e; rw [e] at hk; exact hk)
theorem was_new {F : Nat → Prop} {w : World} {ls : List (List Sl)} (hF : ∀ k, F k → k < w.heap.size) (T : TypeId) : Was F (w.alloc (.cells #[.slice none 0 0, .slice none 0 0, .slice none 0 0, .slice none 0 0, .slice none 0 0, .slice none 0 0] T)) w.heap.size 0 ls := by
  refine ⟨fun f => by have := hF _ f; omega, by simp, fun o => by simp, fun i hi => ⟨.slice none 0 0, ?_, ⟨_, _, _, rfl⟩, fun k => absurd k (Nat.not_lt_zero _)⟩⟩
  rcases i with _ | _ | _ | _ | _ | _ | i
  all_goals first | (exfalso; omega) | simp
theorem slotsC {F : Nat → Prop} {b : Nat} {ls : List (List Sl)} {c : Int} {L : List Sl} {u : World} (h : TAt F u b ls) (hL : rowOf ls c = L) (hm : L.length ≤ 1000000000) : Calls Try.prog 18 #[.pointer (some ⟨b, 0, none⟩), .int .i64 c] u fun e w' => ∃ v, e = .returned v ∧ ∃ a m cp, v = .slice a m cp ∧ RowAt slL (fun _ => True) w' (.slice a m cp) L ∧ Below u.heap.size u w' := by
  subst hL
  refine (slots_any F b ls c u h hm).mono fun e w' ⟨v, he, o, hb⟩ => ⟨v, he, ?_⟩
  obtain ⟨a, cp, ev, _⟩ := own_form o
  subst ev
  exact ⟨a, _, cp, rfl, (row_of_own slL_len o).mono fun _ _ => trivial, hb⟩
theorem sameC {F G : Nat → Prop} {v1 v2 : Value} {L : List Sl} {u : World} (h1 : RowAt slL F u v1 L) (h2 : RowAt slL G u v2 L) (hm : L.length ≤ 1000000000) : Calls Try.prog 20 #[v1, v2] u fun e w' => ∃ v, e = .returned v ∧ v = .bool true ∧ Below u.heap.size u w' :=
  (sameSlots_any F G v1 v2 L L u h1 h2 hm).mono fun e w' ⟨he, hb⟩ => ⟨_, he, by rw [decide_eq_true (show L = L from rfl)], hb⟩
end Go.Proofs.Ytddkgkafgjdheaa.Rs
