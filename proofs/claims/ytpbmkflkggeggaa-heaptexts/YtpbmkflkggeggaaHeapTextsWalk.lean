/-
  Heaps of other things, by other orders: the greatest text first, by its length.
-/
import Derived.Test.YtpbmkflkggeggaaStrCalls
import Derived.Test.YtpbmkflkggeggaaHeapLaw
namespace Go.Proofs.Ytpbmkflkggeggaa.Hs
set_option linter.unusedVariables false
set_option linter.unusedSimpArgs false
open Go Go.RowKit Go.Shelf Go.Proofs
open Go.Proofs.Ytpbmkflkggeggaa.Hp (ins ins_perm Sorted Bf bcat own_form awake_any)
attribute [local go_sem] Oper.semAt_some
def fillS (zs : Nat → ByteArray) : Nat → List Is
  | 0 => []
  | i + 1 => ins ⟨zs i, i⟩ (fillS zs i)
theorem fillS_len (zs : Nat → ByteArray) : ∀ i, (fillS zs i).length = i
  | 0 => rfl
  | i + 1 => by rw [fillS, (ins_perm _ _).length_eq, List.length_cons, fillS_len zs i]
structure Ss (w : World) (a : Option Addr) (n : Nat) (zs : Nat → ByteArray) : Prop where
  cell : ∀ i, i < n → ∃ x, a = some x ∧ w.cell? (x.add i) = some (.string (zs i))
theorem Ss.after {w w' : World} {a : Option Addr} {n : Nat} {zs : Nat → ByteArray} (h : Ss w a n zs) (hb : Below w.heap.size w w') : Ss w' a n zs :=
  ⟨fun i hi => by
    obtain ⟨x, hx, hc⟩ := h.cell i hi
    exact ⟨x, hx, (hb.cell (World.block_lt_of_cell? w _ hc)).trans hc⟩⟩
set_option maxRecDepth 100000 in
set_option maxHeartbeats 4000000 in
theorem texts_big (a : Option Addr) (n cap : Nat) (w : World) (hn : 200 < n) : Calls Try.prog 7 #[.slice a n cap] w fun e w' => e = .returned (.bool true) ∧ Below w.heap.size w w' := by
  have i0 : (200 : Int) < (n : Int) := by omega
  go_enter Try.func7, Try.ntmps7
  go_wp2_with fail
  go_at_call 10
  refine (awake_any _).mono ?_
  rintro e w1 ⟨rfl, b1⟩
  go_wp2_with fail
  go_at_call 10
  refine (awake_any _).mono ?_
  rintro e w2 ⟨rfl, b2⟩
  go_wp2
  go_ret
  exact ⟨rfl, bcat b1 b2⟩
set_option maxRecDepth 100000 in
set_option maxHeartbeats 8000000 in
theorem texts_all (a : Option Addr) (n cap : Nat) (zs : Nat → ByteArray) (w : World) (h : Ss w a n zs) (hn : n ≤ 200) : Calls Try.prog 7 #[.slice a n cap] w fun e w' => e = .returned (.bool true) ∧ Below w.heap.size w w' := by
  have i0 : ¬ (200 : Int) < (n : Int) := by omega
  obtain ⟨B, hB⟩ : ∃ B, w.heap.size = B := ⟨_, rfl⟩
  rw [hB]
  go_enter Try.func7, Try.ntmps7
  go_wp2_with fail
  go_at_call 10
  refine (awake_any _).mono ?_
  rintro e w1 ⟨rfl, b1⟩
  rw [hB] at b1
  go_wp2_with fail
  go_at_call 30
  refine (new_any B _ (by have := b1.size; omega)).mono ?_
  rintro e w2 ⟨rfl, G2, b2⟩
  obtain ⟨b, hb⟩ : ∃ b, w1.heap.size = b := ⟨_, rfl⟩
  rw [hb] at G2 b2 ⊢
  have bB : B ≤ b := by have := b1.size; omega
  have c2 := b1.trans (b2.mono bB)
  have hK : Hid (∀ w', Below B w w' → Ss w' a n zs) := fun w' q => h.after (by rw [hB]; exact q)
  clear b1 b2 h
  go_wp2_with fail
  go_loopw [4] (fun ix wr => ∃ (i : Nat) (v : Value), ix = .int .i64 i ∧ i ≤ n ∧ Hid (HpAt B wr b v (fillS zs i) i) ∧ Below B w wr) (fun ix wr => n - (intOf ix).toNat)
  case atStart => exact ⟨0, _, rfl, Nat.zero_le _, G2, c2⟩
  case round =>
    obtain ⟨i, v, rfl, hi, HG, cr⟩ := hrel
    by_cases hlt : i < n
    · obtain ⟨x, rfl, hx⟩ := (hK.out wr cr).cell i hlt
      have hlt' : (i : Int) < (n : Int) := by omega
      go_wp2_with fail
      go_at_call 32
      refine (push_any B b _ _ _ _ _ HG.out (by rw [fillS_len]; omega) (by omega)).mono ?_
      rintro e w5 ⟨rfl, v5, G5, t5⟩
      have c5 := cr.trans (t5.past HG.out (by have := cr.size; omega))
      clear HG t5
      go_wp2
      go_roundw
      case rel => exact ⟨i + 1, v5, by go_num, by omega, G5, c5⟩
      case measure => simp [intOf]; omega
    · obtain rfl : i = n := by omega
      clear G2
      have hso : Hid (Sorted (fillS zs i)) := by obtain ⟨l, _, hh⟩ := HG.out; exact hh.sorted
      obtain ⟨s, hs⟩ : ∃ s, fillS zs i = s := ⟨_, rfl⟩
      have hsl : s.length = i := by rw [← hs]; exact fillS_len zs i
      have G3 := HG.out
      rw [hs] at G3 hso
      clear hs HG
      go_wp2_with fail
      go_loopw [5, 6] (fun lx ix wq => ∃ (j : Nat) (v : Value) (ls : ByteArray), lx = .string ls ∧ ix = .int .i64 j ∧ j ≤ i ∧ Hid (HpAt B wq b v (s.drop j) i) ∧ Hid (∀ h : 0 < j, ∀ h2 : j - 1 < s.length, ls = (s[j - 1]).s) ∧ Below B w wq) (fun lx ix wq => i + 1 - (intOf ix).toNat)
      case atStart => exact ⟨0, v, _, rfl, rfl, Nat.zero_le _, G3, (fun h => by omega), cr⟩
      case round =>
        clear G3 cr
        obtain ⟨j, v, ls, rfl, rfl, hj, HG, HL, cq⟩ := hrel
        have hji : (j : Int) ≤ (i : Int) := by omega
        by_cases hlt : j < i
        · have hjs : j < s.length := by omega
          obtain ⟨⟨x, t⟩, hx⟩ : ∃ x, s[j] = x := ⟨_, rfl⟩
          have hdrop : s.drop j = ⟨x, t⟩ :: s.drop (j + 1) := by rw [List.drop_eq_getElem_cons hjs, hx]
          have HG2 := HG.out
          rw [hdrop] at HG2
          have fact : 0 < j → ¬ (ls.size : Int) < (x.size : Int) := fun h0 => by
            have e1 := HL.out h0 (by omega)
            have hb := List.pairwise_iff_getElem.1 hso.out (j - 1) j (by omega) hjs (by omega)
            rw [hx] at hb
            rw [e1]
            rcases hb with q | q
            · have q2 : -((s[j - 1]).s.size : Int) < -(x.size : Int) := q
              omega
            · have q2 : -((s[j - 1]).s.size : Int) = -(x.size : Int) := q.1
              omega
          have L2 : Hid (∀ h2 : j + 1 - 1 < s.length, x = (s[j + 1 - 1]).s) := fun h2 => by
            have e : s[j + 1 - 1]'h2 = ⟨x, t⟩ := hx
            rw [e]
          clear hdrop HL hx hso
          by_cases h0 : j = 0
          · subst h0
            go_wp2_with fail
            go_at_call 33
            refine (pop_some B b _ _ _ _ _ HG2 (by rw [List.length_drop]; omega)).mono ?_
            rintro e w7 ⟨rfl, v7, G7, t7⟩
            have c7 := cq.trans (t7.past HG2 (by have := cq.size; omega))
            clear HG HG2 t7 fact
            go_wp2
            go_roundw
            case rel => exact ⟨0 + 1, v7, x, rfl, by first | rfl | go_num, by omega, G7, (fun _ h2 => L2.out h2), c7⟩
            case measure => first | (simp [intOf]; omega) | simp [intOf]
          · have h1 : 0 < j := by omega
            have h1' : (0 : Int) < (j : Int) := by omega
            have f1 := fact h1
            clear fact
            go_wp2_with fail
            go_at_call 33
            refine (pop_some B b _ _ _ _ _ HG2 (by rw [List.length_drop]; omega)).mono ?_
            rintro e w7 ⟨rfl, v7, G7, t7⟩
            have c7 := cq.trans (t7.past HG2 (by have := cq.size; omega))
            clear HG HG2 t7
            go_wp2
            go_roundw
            case rel => exact ⟨j + 1, v7, x, rfl, by go_num, by omega, G7, (fun _ h2 => L2.out h2), c7⟩
            case measure => simp [intOf]; omega
        · obtain rfl : j = i := by omega
          have HG2 := HG.out
          rw [List.drop_eq_nil_of_le (by omega)] at HG2
          clear HG HL
          go_wp2_with fail
          go_at_call 33
          refine (pop_none B b _ _ _ HG2).mono ?_
          rintro e w7 ⟨rfl, b7⟩
          have G7 := HG2.go b7
          go_wp2_with fail
          go_at_call 34
          refine (peek_none B b _ _ _ G7).mono ?_
          rintro e w8 ⟨rfl, b8⟩
          have c8 := (cq.trans (b7.mono (by have := cq.size; omega))).trans (b8.mono (by have := cq.size; have := b7.size; omega))
          go_wp2
          go_ret
          exact ⟨rfl, c8⟩
end Go.Proofs.Ytpbmkflkggeggaa.Hs
