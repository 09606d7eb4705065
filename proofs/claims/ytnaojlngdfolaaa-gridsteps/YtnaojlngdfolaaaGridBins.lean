/-
  Stacks, and whether their bins may be.
-/
import Derived.Test.YtnaojlngdfolaaaGridSort
namespace Go.Proofs.Ytnaojlngdfolaaa.Grid
set_option linter.unusedVariables false
set_option linter.unusedSimpArgs false
open Go Go.RowKit

/- The bins, sorted: each within its limits, none like the one ahead; from k on. -/
def fine (s : List Int) (k : Nat) : Prop := upTo (s.getD k 0) 1000000000 = true ∧ (0 < k → s.getD k 0 ≠ s.getD (k - 1) 0)
theorem mayBe_iff (l : List Int) (h : l.length ≤ 512) : mayBeP l ↔ ∀ i, i < l.length → fine (sortedI l) i := by
  rw [mayBe_sorted, (sorted_perm l).length_eq]
  exact ⟨fun h' => h'.2, fun h' => ⟨h, h'⟩⟩
theorem own_ints {w : World} {base n cap : Nat} {a : Option Addr} {s : List Int} (h : w.ownsRow base 3 1 (.slice a n cap) n (rowL intL s)) (hn : 0 < n) (hs : s.length = n) : ∃ g, a = some ⟨g, 0, none⟩ ∧ ∀ i, i < n → w.cell? ⟨g, i, none⟩ = some (.int .i64 (s.getD i 0)) := by
  rcases h.2 with ⟨e, h0⟩ | ⟨g, cap', cur, e, _⟩
  · omega
  · cases e
    refine ⟨g, rfl, fun i hi => ?_⟩
    rw [h.cellAt i (by omega), rowL_int, List.getElem?_map, List.getElem?_eq_getElem (by omega), List.getD_eq_getElem?_getD, List.getElem?_eq_getElem (by omega)]
    rfl
set_option maxRecDepth 100000 in
set_option maxHeartbeats 4000000 in
theorem mayBe_any (base : Nat) (v : Value) (zs : List Int) (w : World) (own : w.ownsRow base 3 1 v zs.length (rowL intL zs)) (hm : zs.length ≤ 9223372036854775807) :
    Calls Try.prog 127 #[v] w fun e w' => e = .returned (.bool (decide (mayBeP zs))) ∧ w.grownBy w' v.ownBlock := by
  obtain ⟨a, cap, rfl, _⟩ := own_form own
  by_cases h5 : zs.length ≤ 512
  · have cS := sort_any base _ zs w own (by omega)
    have HM := mayBe_iff zs h5
    obtain ⟨s, hs⟩ : ∃ s, sortedI zs = s := ⟨_, rfl⟩
    have hsl : s.length = zs.length := by rw [← hs]; exact (sorted_perm zs).length_eq
    rw [hs] at cS HM
    generalize hB : decide (mayBeP zs) = B at *
    have HB : Hid (B = true ↔ ∀ i, i < zs.length → fine s i) := by rw [← hB, decide_eq_true_eq]; exact HM
    clear HM hB hs own
    obtain ⟨n, hN⟩ : ∃ n, zs.length = n := ⟨_, rfl⟩
    have HN : Hid (zs.length = n) := hN
    have HSL : Hid (s.length = n) := hsl.trans hN
    rw [hN] at h5 hm cS ⊢
    clear hN hsl
    have t5 : (n : Int) ≤ 512 := by omega
    go_enter Try.func127, Try.ntmps127
    go_wp2_with (go_at_call 131; refine cS.mono ?_; rintro e w1 ⟨rfl, own1, gr1⟩)
    go_loopw [12] (fun i wr => ∃ (k : Nat), k ≤ n ∧ i = .int .i64 k ∧ wr = w1 ∧ Hid (∀ j, j < k → fine s j)) (fun i _ => n - (intOf i).toNat)
    case atStart => exact ⟨0, Nat.zero_le _, rfl, rfl, fun j hj => by omega⟩
    case round =>
      obtain ⟨k, hk, rfl, rfl, HK⟩ := hrel
      by_cases hlt : k < n
      · obtain ⟨gb, rfl, hcl0⟩ := own_ints own1 (by omega) HSL.out
        have hcl : Hid (∀ i, i < n → wr.cell? ⟨gb, i, none⟩ = some (.int .i64 (s.getD i 0))) := hcl0
        clear hcl0
        have ck := hcl.out k hlt
        have HF : Hid (fine s k ↔ (upTo (s.getD k 0) 1000000000 = true ∧ (0 < k → s.getD k 0 ≠ s.getD (k - 1) 0))) := Iff.rfl
        have cU := fun u => upTo_any (s.getD k 0) 1000000000 u
        have HX : Hid (∀ j, j < n → B = true → fine s j) := fun j hj h => HB.out.1 h j (by rw [HN.out]; exact hj)
        generalize hx : s.getD k 0 = x at *
        clear hx
        cases hu : upTo x 1000000000
        · rw [hu] at cU
          have HT : Hid (B = false) := by
            show B = false
            cases hB : B
            · rfl
            · have := (HF.out.1 (HX.out k hlt hB)).1
              rw [hu] at this; cases this
          go_wp2_with (go_at_call 121; refine (cU _).mono ?_; rintro e w2 ⟨rfl, hw2⟩; rw [hw2]; clear hw2 w2)
          go_ret
          exact ⟨ret_bool HT.out.symm, gr1⟩
        · rw [hu] at cU
          cases k with
          | zero =>
            go_wp2_with (go_at_call 121; refine (cU _).mono ?_; rintro e w2 ⟨rfl, hw2⟩; rw [hw2]; clear hw2 w2)
            go_roundw
            case rel => exact ⟨1, by omega, by go_num, trivial, fun j hj => (show j = 0 by omega) ▸ HF.out.2 ⟨hu, fun h => by omega⟩⟩
            case measure => simp [intOf]; omega
          | succ m =>
            have cm := hcl.out m (by omega)
            have HF2 : Hid (fine s (m + 1) ↔ (upTo x 1000000000 = true ∧ (0 < m + 1 → x ≠ s.getD m 0))) := HF.out
            generalize hy : s.getD m 0 = y at *
            clear hy
            by_cases hxy : x = y
            · have HT : Hid (B = false) := by
                show B = false
                cases hB : B
                · rfl
                · exact absurd hxy ((HF2.out.1 (HX.out (m + 1) hlt hB)).2 (by omega))
              subst hxy
              go_wp2_with (go_at_call 121; refine (cU _).mono ?_; rintro e w2 ⟨rfl, hw2⟩; rw [hw2]; clear hw2 w2)
              go_ret
              exact ⟨ret_bool HT.out.symm, gr1⟩
            · have hxy0 : (x == y) = false := by rw [beq_eq_false_iff_ne]; exact hxy
              go_wp2_with (go_at_call 121; refine (cU _).mono ?_; rintro e w2 ⟨rfl, hw2⟩; rw [hw2]; clear hw2 w2)
              go_roundw
              case rel =>
                refine ⟨m + 1 + 1, by omega, by go_num, trivial, fun j hj => ?_⟩
                by_cases q : j < m + 1
                · exact HK.out j q
                · obtain rfl : j = m + 1 := by omega
                  exact HF2.out.2 ⟨hu, fun _ => hxy⟩
              case measure => simp [intOf]; omega
      · obtain rfl : k = n := by omega
        have HT : Hid (B = true) := HB.out.2 fun i hi => HK.out i (by rw [← HN.out]; exact hi)
        go_wp2
        go_ret
        exact ⟨ret_bool HT.out.symm, gr1⟩
  · have t5 : 512 < (zs.length : Int) := by omega
    have hB : decide (mayBeP zs) = false := by rw [decide_eq_false_iff_not]; exact fun h => h5 h.1
    rw [hB]
    generalize zs.length = n at *
    go_enter Try.func127, Try.ntmps127
    go_wp2
    go_ret
    exact ⟨rfl, World.grownBy.refl _ _⟩
end Go.Proofs.Ytnaojlngdfolaaa.Grid
