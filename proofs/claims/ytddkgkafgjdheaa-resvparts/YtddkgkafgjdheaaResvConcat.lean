/-
  slices.Concat of slots: new memory with all.
-/
import Derived.Test.YtddkgkafgjdheaaResvSearch
import Derived.Lib.AppendZerosOnto
import Derived.Lib.SliceRun
namespace Go.Proofs.Ytddkgkafgjdheaa.Rs
set_option linter.unusedVariables false
set_option linter.unusedSimpArgs false
open Go Go.RowKit Go.Shelf Go.Proofs Hp Go.Lib
attribute [local go_sem] Oper.semAt_some

theorem zeroCells_three (n : Nat) (a b c : Value) : (Builtin.zeroCells #[a, b, c] n).size = n * 3 := by
  simp [Builtin.zeroCells]
set_option maxRecDepth 100000 in
set_option maxHeartbeats 1000000 in
theorem grow_some (n : Nat) (w : World) (h0 : 0 < n) (h1 : n ≤ 1000000000) :
    Calls Try.prog 70 #[.slice none 0 0, .int .i64 n] w fun e w' => ∃ v, e = .returned v ∧ w'.ownsRow w.heap.size 40 3 v 0 [] ∧ Below w.heap.size w w' := by
  obtain ⟨i0, hi, hz0, hz1, hz2⟩ := info_parts infoSl
  have hold : (Builtin.firstCells i0.size 0 (.slice none 0 0)).run Try.prog w.drew = .ok ([] : List Value).toArray w.drew := run_firstCells_none w.drew i0.size 0 0 0
  have hrz := fun ty => Lib.run_append_grow_zeros w 37 3 ty 40 i0 (.agg #[.int .i64 0, .int .i64 0, .int .i64 0]) .i64 .i64 Try.underlying37 Try.underlying3 hi hz0 none 0 0 [] hold n h0 (by rw [hz1]; decide) (by omega) (by omega) (by rw [hz2]; omega) (by rw [Nat.zero_add]; exact growslice_fits h0 (by rw [hz2]; omega))
  rw [Nat.zero_add] at hrz
  have hGn : n ≤ grownCap w n 0 40 := grownCap_ge w _ _ _
  have hG63 : grownCap w n 0 40 ≤ maxLen := grownCap_le_maxLen w n 0 40 (by unfold maxLen; omega)
  obtain ⟨G, hG⟩ : ∃ G, G = grownCap w n 0 40 := ⟨_, rfl⟩
  rw [← hG] at hrz hGn hG63
  have hm : (w.drew.alloc (.cells (([] : List Value).toArray ++ Builtin.zeroCells (Value.agg #[.int .i64 0, .int .i64 0, .int .i64 0]).cells n ++ Builtin.zeroCells (Value.agg #[.int .i64 0, .int .i64 0, .int .i64 0]).cells (G - n)) 40)).ownsRow w.heap.size 40 3 (.slice (some ⟨w.heap.size, 0, none⟩) 0 G) 0 [] := by
    refine World.ownsRow_made w.drew _ G (Nat.le_refl _) hG63 ?_
    have hc : (Value.agg #[.int .i64 0, .int .i64 0, .int .i64 0]).cells = #[.int .i64 0, .int .i64 0, .int .i64 0] := rfl
    rw [hc, Array.size_append, Array.size_append, zeroCells_three, zeroCells_three]
    simp
    omega
  have hb : Below w.heap.size w (w.drew.alloc (.cells (([] : List Value).toArray ++ Builtin.zeroCells (Value.agg #[.int .i64 0, .int .i64 0, .int .i64 0]).cells n ++ Builtin.zeroCells (Value.agg #[.int .i64 0, .int .i64 0, .int .i64 0]).cells (G - n)) 40)) :=
    Below.alloc (a := w) (w := w.drew) ⟨rfl, rfl, rfl, Nat.le_refl _, fun _ _ => rfl⟩ (Nat.le_refl _) _
  have g1 : ¬ ((n : Int) < 0) := by omega
  have g4 : (n : Int) > 0 := by omega
  have g63 : G ≤ 9223372036854775807 := by unfold maxLen at hG63; omega
  have g63i : (G : Int) ≤ 9223372036854775807 := by omega
  generalize hC : (w.drew.alloc (.cells (([] : List Value).toArray ++ Builtin.zeroCells (Value.agg #[.int .i64 0, .int .i64 0, .int .i64 0]).cells n ++ Builtin.zeroCells (Value.agg #[.int .i64 0, .int .i64 0, .int .i64 0]).cells (G - n)) 40)) = V at *
  clear hold hG hC
  go_enter Try.func70, Try.ntmps70
  go_wp2_with (at_builtin; refine Lib.wpList_append_run _ rfl _ _ _ _ rfl _ _ rfl rfl _ _ (hrz _) ?_)
  go_ret
  exact ⟨_, rfl, hm, hb⟩
set_option maxRecDepth 100000 in
theorem grow_none (w : World) :
    Calls Try.prog 70 #[.slice none 0 0, .int .i64 0] w fun e w' => ∃ v, e = .returned v ∧ w'.ownsRow w.heap.size 40 3 v 0 [] ∧ Below w.heap.size w w' := by
  go_enter Try.func70, Try.ntmps70
  go_wp2
  go_ret
  exact ⟨_, rfl, World.ownsRow_nil _ _ _ _, Below.refl _ _⟩
theorem grow_any (n : Nat) (w : World) (h1 : n ≤ 1000000000) :
    Calls Try.prog 70 #[.slice none 0 0, .int .i64 n] w fun e w' => ∃ v, e = .returned v ∧ w'.ownsRow w.heap.size 40 3 v 0 [] ∧ Below w.heap.size w w' := by
  rcases Nat.eq_zero_or_pos n with rfl | h
  · exact grow_none w
  · exact grow_some n w h h1
theorem flat_take (Ls : List (List Sl)) (j : Nat) (hj : j < Ls.length) : (Ls.take (j + 1)).flatten = (Ls.take j).flatten ++ Ls[j] := by
  rw [List.take_succ_eq_append_getElem hj, List.flatten_append]; simp
theorem flat_len_take (Ls : List (List Sl)) (j : Nat) : (Ls.take j).flatten.length ≤ Ls.flatten.length := by
  have e : Ls.flatten = (Ls.take j).flatten ++ (Ls.drop j).flatten := by rw [← List.flatten_append, List.take_append_drop]
  rw [e, List.length_append]; omega
/- How many are in the first ones. -/
def upto (Ls : List (List Sl)) (j : Nat) : Nat := (Ls.take j).flatten.length
set_option maxRecDepth 100000 in
set_option maxHeartbeats 2000000 in
theorem concat_any (F : Nat → Prop) (x m : Nat) (vals : List Value) (Ls : List (List Sl)) (w : World) (hm : Ls.length = m) (hc : ∀ i (hi : i < vals.length), w.cell? ⟨x, i, none⟩ = some vals[i]) (hv : vals.length = m) (hr : ∀ i (hi : i < Ls.length) (hi' : i < vals.length), RowAt slL F w vals[i] Ls[i]) (hl : Ls.flatten.length ≤ 1000000000) (h0 : 0 < m) (hm9 : m ≤ 9) :
    Calls Try.prog 64 #[.slice (some ⟨x, 0, none⟩) m m] w fun e w' => ∃ v, e = .returned v ∧ w'.ownsRow w.heap.size 40 3 v Ls.flatten.length (rowL slL Ls.flatten) ∧ Below w.heap.size w w' := by
  have HC : Hid _ := hc
  have HR : Hid _ := hr
  have HM : Hid _ := hm
  have HV : Hid _ := hv
  have HL : Hid _ := hl
  have cG := grow_any Ls.flatten.length w hl
  have hx : x < w.heap.size := World.block_lt_of_cell? w _ (hc 0 (by omega))
  have HU : Hid (Ls.flatten.length = upto Ls m) := by unfold Hid upto; rw [← hm, List.take_length]
  rw [HU.out] at cG ⊢
  clear hc hr hm hv hl
  go_enter Try.func64, Try.ntmps64
  go_wp2_with fail
  go_loopw [3, 11] (fun s j wr => wr = w ∧ ∃ jj : Nat, jj ≤ m ∧ j = .int .i64 jj ∧ s = .int .i64 (upto Ls jj : Nat)) (fun _ j _ => m - (intOf j).toNat)
  case atStart => exact ⟨rfl, 0, Nat.zero_le _, rfl, by simp [upto]⟩
  case round =>
    obtain ⟨rfl, j, hj, rfl, rfl⟩ := hrel
    by_cases hlt : j < m
    · have hj2 : j < Ls.length := by rw [HM.out]; exact hlt
      have hj3 : j < vals.length := by rw [HV.out]; exact hlt
      have c0 := HC.out j hj3
      obtain ⟨a, cap, ea, _⟩ := (HR.out j hj2 hj3).form
      have ef : Hid (upto Ls (j + 1) = upto Ls j + (Ls[j]).length) := by unfold Hid upto; rw [flat_take Ls j hj2, List.length_append]
      have el : Hid (upto Ls (j + 1) ≤ 1000000000) := Nat.le_trans (flat_len_take Ls (j + 1)) HL.out
      have hlt' : (j : Int) < (m : Int) := by omega
      rw [ea] at c0
      obtain ⟨n, hn⟩ : ∃ n, (Ls[j]).length = n := ⟨_, rfl⟩
      obtain ⟨q, hq⟩ : ∃ q, upto Ls j = q := ⟨_, rfl⟩
      rw [hn] at c0
      have en : Hid (upto Ls (j + 1) = q + n) := by unfold Hid; rw [ef.out, hn, hq]
      have hb9 : (q : Int) + (n : Int) ≤ 1000000000 := by have := en.out; have := el.out; omega
      have hp9 : ¬ ((q : Int) + (n : Int) < 0) := by omega
      rw [hq]
      clear ea hn hq ef
      go_wp2
      go_roundw
      case measure => simp only [intOf]; omega
      case rel => exact ⟨trivial, j + 1, by omega, rfl, by rw [en.out]; rfl⟩
    · obtain rfl : j = m := by omega
      obtain ⟨W0, rfl⟩ : ∃ W0, W0 = wr := ⟨_, rfl⟩
      go_wp2_with (go_at_call 70; refine cG.mono ?_; rintro e w1 ⟨v1, rfl, o1, b1⟩)
      go_loopw [6, 27] (fun v jv u => ∃ jj : Nat, jj ≤ j ∧ jv = .int .i64 jj ∧ Hid (u.ownsRow W0.heap.size 40 3 v (Ls.take jj).flatten.length (rowL slL (Ls.take jj).flatten) ∧ Below W0.heap.size W0 u)) (fun _ jv _ => j - (intOf jv).toNat)
      case atStart =>
        have q0 : w1.ownsRow W0.heap.size 40 3 v1 (Ls.take 0).flatten.length (rowL slL (Ls.take 0).flatten) := by rw [List.take_zero]; exact o1
        exact ⟨0, Nat.zero_le _, rfl, And.intro q0 b1⟩
      case round =>
        obtain ⟨i, hi, rfl, I⟩ := hrel
        by_cases hlt : i < j
        · have hj2 : i < Ls.length := by rw [HM.out]; exact hlt
          have hj3 : i < vals.length := by rw [HV.out]; exact hlt
          have c0 := (I.out.2.cell (p := ⟨x, i, none⟩) hx).trans (HC.out i hj3)
          have R := HR.out i hj2 hj3
          have ef := flat_take Ls i hj2
          have el : Hid ((Ls.take (i + 1)).flatten.length ≤ 1000000000) := Nat.le_trans (flat_len_take Ls (i + 1)) HL.out
          have hlt' : (i : Int) < (j : Int) := by omega
          obtain ⟨a, cap, ea, _⟩ := id R.form
          generalize vals[i] = u0 at *
          generalize Ls[i] = l0 at *
          obtain ⟨T1, hT1⟩ : ∃ T1, Ls.take (i + 1) = T1 := ⟨_, rfl⟩
          rw [hT1] at ef el
          have HT : Hid (Ls.take (i + 1) = T1) := hT1
          clear hT1
          generalize Ls.take i = T0 at *
          have hlay := (R.go slL_len I.out.2).lay
          rw [ea] at c0 hlay
          have EF : Hid _ := ef
          have own := I.out.1
          clear ea ef R
          obtain ⟨n0, hn0⟩ : ∃ n, l0.length = n := ⟨_, rfl⟩
          have HN : Hid (l0.length = n0) := hn0
          rw [hn0] at c0 hlay
          clear hn0
          go_wp2_with (at_builtin; refine wpList_app kindSl rfl (.tmp 31) (.tmp 32) rfl W0.heap.size _ T0.flatten rfl own _ l0 rfl (by rw [HN.out]; exact hlay) (by have := el.out; rw [EF.out, List.length_append] at this; omega) (by have := el.out; rw [EF.out, List.length_append] at this; unfold maxLen; omega) I.out.2.size ?_; intro v3 w3 o3 g3 a3)
          go_roundw
          case measure => simp only [intOf]; omega
          case rel =>
            have q0 : w3.ownsRow W0.heap.size 40 3 v3 T1.flatten.length (rowL slL T1.flatten) := by rw [EF.out]; exact o3
            rw [← HT.out] at q0
            exact ⟨i + 1, by omega, rfl, And.intro q0 (I.out.2.grown g3 I.out.2.size (fun k hk => (own_since own k hk).1))⟩
        · obtain rfl : i = j := by omega
          have I' := I.out
          rw [show (Ls.take i).flatten = Ls.flatten by rw [← HM.out, List.take_length], HU.out] at I'
          have I2 : Hid _ := I'
          clear I I'
          go_wp2
          go_ret
          exact ⟨_, rfl, I2.out.1, I2.out.2⟩
end Go.Proofs.Ytddkgkafgjdheaa.Rs
