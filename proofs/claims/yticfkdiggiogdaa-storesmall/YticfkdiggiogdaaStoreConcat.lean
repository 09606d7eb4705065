/-
  slices.Concat of two pieces of bytes: new memory with both.
-/
import Derived.Test.YticfkdiggiogdaaStoreNum
import Derived.Test.YticfkdiggiogdaaWalLaw
import Derived.Lib.AppendZerosOnto
import Derived.Lib.SliceRun
namespace Go.Proofs.Yticfkdiggiogdaa.Codec
set_option linter.unusedVariables false
set_option linter.unusedSimpArgs false
open Go Go.RowKit Go.Lib

theorem zeroCells_one (n : Nat) (v : Value) : (Builtin.zeroCells #[v] n).size = n := by
  simp [Builtin.zeroCells]

set_option maxRecDepth 100000 in
set_option maxHeartbeats 1000000 in
theorem grow_any (n : Nat) (w : World) (h0 : 0 < n) (h1 : n ≤ 140737488355328) :
    Calls Try.prog 82 #[.slice none 0 0, .int .i64 n] w fun e w' => ∃ cap, e = .returned (.slice (some ⟨w.heap.size, 0, none⟩) 0 cap) ∧ Mine w' (.slice (some ⟨w.heap.size, 0, none⟩) 0 cap) [] ∧ Below w.heap.size w w' := by
  obtain ⟨i0, hi, hz0, hz1, hz2⟩ := info_parts info5
  have hold : (Builtin.firstCells i0.size 0 (.slice none 0 0)).run Try.prog w.drew = .ok ([] : List Value).toArray w.drew := run_firstCells_none w.drew i0.size 0 0 0
  have hrz := fun ty => Lib.run_append_grow_zeros w 30 3 ty 5 i0 (.int .u8 0) .i64 .i64 Try.underlying30 Try.underlying3 hi hz0 none 0 0 [] hold n h0 (by rw [hz1]; decide) (by omega) (by omega) (by rw [hz2]; omega) (by rw [Nat.zero_add]; exact growslice_fits h0 (by rw [hz2]; omega))
  rw [Nat.zero_add] at hrz
  have hGn : n ≤ grownCap w n 0 5 := grownCap_ge w _ _ _
  have hG63 : grownCap w n 0 5 ≤ maxLen := grownCap_le_maxLen w n 0 5 (by unfold maxLen; omega)
  obtain ⟨G, hG⟩ : ∃ G, G = grownCap w n 0 5 := ⟨_, rfl⟩
  rw [← hG] at hrz hGn hG63
  have hm : Mine (w.drew.alloc (.cells (([] : List Value).toArray ++ Builtin.zeroCells (Value.int .u8 0).cells n ++ Builtin.zeroCells (Value.int .u8 0).cells (G - n)) 5)) (.slice (some ⟨w.heap.size, 0, none⟩) 0 G) [] := by
    refine ⟨World.ownsRow_made w.drew _ G (Nat.zero_le _) hG63 ?_, Bytes.nil⟩
    have hc : (Value.int .u8 0).cells = #[.int .u8 0] := rfl
    rw [hc, Array.size_append, Array.size_append, zeroCells_one, zeroCells_one]
    simp
    omega
  have hb : Below w.heap.size w (w.drew.alloc (.cells (([] : List Value).toArray ++ Builtin.zeroCells (Value.int .u8 0).cells n ++ Builtin.zeroCells (Value.int .u8 0).cells (G - n)) 5)) :=
    Below.alloc (a := w) (w := w.drew) ⟨rfl, rfl, rfl, Nat.le_refl _, fun _ _ => rfl⟩ (Nat.le_refl _) _
  have g1 : ¬ ((n : Int) < 0) := by omega
  have g4 : (n : Int) > 0 := by omega
  have g63 : G ≤ 9223372036854775807 := by unfold maxLen at hG63; omega
  have g63i : (G : Int) ≤ 9223372036854775807 := by omega
  generalize hC : (w.drew.alloc (.cells (([] : List Value).toArray ++ Builtin.zeroCells (Value.int .u8 0).cells n ++ Builtin.zeroCells (Value.int .u8 0).cells (G - n)) 5)) = V at *
  clear hold hG hC
  go_enter Try.func82, Try.ntmps82
  go_wp2_with (at_builtin; refine Lib.wpList_append_run _ rfl _ _ _ _ rfl _ _ rfl rfl _ _ (hrz _) ?_)
  go_ret
  exact ⟨G, rfl, hm, hb⟩

set_option maxRecDepth 100000 in
set_option maxHeartbeats 4000000 in
theorem concat_any (x : Nat) (w : World) (a b : Option Addr) (n m ca cb : Nat) (xs ys : List Int) (hx : Row w a n xs) (hy : Row w b m ys) (na : a = none → ca = 0) (nb : b = none → cb = 0) (hn : 0 < n) (hl : n + m ≤ 140737488355328)
    (h0 : w.cell? ⟨x, 0, none⟩ = some (.slice a n ca)) (h1 : w.cell? ⟨x, 1, none⟩ = some (.slice b m cb)) :
    Calls Try.prog 60 #[.slice (some ⟨x, 0, none⟩) 2 2] w (Made (xs ++ ys) w) := by
  have lx := hx.len
  have ly := hy.len
  have cG := grow_any (n + m) w (by omega) hl
  have g1 : (n : Int) + m ≤ 140737488355328 := by omega
  have g2 : ¬ ((n : Int) < 0) := by omega
  have g3 : ¬ ((n : Int) + m < 0) := by omega
  have hxl := World.block_lt_of_cell? w _ h0
  have hcast : Hid (((n : Int) + (m : Int)) = ((n + m : Nat) : Int)) := by show (n : Int) + m = _; omega
  go_enter Try.func60, Try.ntmps60
  go_wp2_with fail
  go_loopw [3, 11] (fun s j wr => wr = w ∧ ((s = .int .i64 0 ∧ j = .int .i64 0) ∨ (s = .int .i64 n ∧ j = .int .i64 1) ∨ (s = .int .i64 ((n + m : Nat) : Int) ∧ j = .int .i64 2))) (fun _ j _ => 2 - (intOf j).toNat)
  case atStart => exact ⟨rfl, Or.inl ⟨rfl, rfl⟩⟩
  case round =>
    obtain ⟨rfl, ⟨rfl, rfl⟩ | ⟨rfl, rfl⟩ | ⟨rfl, rfl⟩⟩ := hrel
    · go_wp2
      go_roundw
      case rel => first | exact ⟨rfl, Or.inr (Or.inl ⟨rfl, rfl⟩)⟩ | exact ⟨trivial, Or.inr (Or.inl ⟨rfl, rfl⟩)⟩ | (trace_state; simp)
      case measure => decide
    · go_wp2
      go_roundw
      case rel => first | exact ⟨rfl, Or.inr (Or.inr ⟨by rw [← hcast.out], rfl⟩)⟩ | exact ⟨trivial, Or.inr (Or.inr ⟨by rw [← hcast.out], rfl⟩)⟩
      case measure => decide
    · go_wp2_with (go_at_call 82; refine cG.mono ?_; rintro e w1 ⟨cap, rfl, m1, b1⟩)
      have own1 : ∀ g, Value.ownBlock (.slice (some ⟨wr.heap.size, 0, none⟩) 0 cap) = some g → wr.heap.size ≤ g := fun g hg => by cases hg; exact Nat.le_refl _
      generalize hv : (Value.slice (some ⟨wr.heap.size, 0, none⟩) 0 cap) = v0 at *
      clear hv
      go_loopw [6, 27] (fun v j u => Hid (Below wr.heap.size wr u ∧ (∀ g, v.ownBlock = some g → wr.heap.size ≤ g) ∧ ((Mine u v [] ∧ j = .int .i64 0) ∨ (Mine u v xs ∧ j = .int .i64 1) ∨ (Mine u v (xs ++ ys) ∧ j = .int .i64 2)))) (fun _ j _ => 2 - (intOf j).toNat)
      case atStart => exact ⟨b1, own1, Or.inl ⟨m1, rfl⟩⟩
      case round =>
        obtain ⟨b2, own2, h2⟩ := hrel.out
        rcases h2 with ⟨m2, rfl⟩ | ⟨m2, rfl⟩ | ⟨m2, rfl⟩
        · have k0 := (b2.cell (p := ⟨x, 0, none⟩) hxl).trans h0
          clear hrel
          go_wp2_with (at_builtin; refine wpList_append_mine rfl (.tmp 31) (.tmp 32) rfl _ [] rfl m2 a n ca xs rfl (hx.after b2) na (by rw [List.length_nil]; omega) ?_; intro v3 w3 m3 g3)
          rw [List.nil_append] at m3
          go_roundw
          case rel => exact ⟨g3.below_of b2 own2, g3.new_of own2 b2.size, Or.inr (Or.inl ⟨m3, rfl⟩)⟩
          case measure => decide
        · have k0 := (b2.cell (p := ⟨x, 1, none⟩) hxl).trans h1
          clear hrel
          go_wp2_with (at_builtin; refine wpList_append_mine rfl (.tmp 31) (.tmp 32) rfl _ xs rfl m2 b m cb ys rfl (hy.after b2) nb (by omega) ?_; intro v3 w3 m3 g3)
          go_roundw
          case rel => exact ⟨g3.below_of b2 own2, g3.new_of own2 b2.size, Or.inr (Or.inr ⟨m3, rfl⟩)⟩
          case measure => decide
        · clear hrel
          go_wp2
          go_ret
          exact ⟨_, rfl, m2, b2, own2⟩
end Go.Proofs.Yticfkdiggiogdaa.Codec
