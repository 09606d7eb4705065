/-
  The chapter's Find.
-/
import Derived.Test.YtabbdclpjghdbaaStkRs2
namespace Go.Proofs.Ytabbdclpjghdbaa.Stk
set_option linter.unusedVariables false
set_option linter.unusedSimpArgs false
open Go Go.RowKit Go.Shelf Go.Proofs Go.Proofs.Ytabbdclpjghdbaa.Grid
attribute [local go_sem] Oper.semAt_some

set_option maxRecDepth 100000 in
set_option maxHeartbeats 2000000 in
theorem rfind_any {K : Rk} {cs : Array Value} {vc : Value} {qs : List Pile} {ls : List Int} {w : World} (h : RsAt w K cs vc qs ls) (bin : Int) : Calls Try.prog 26 #[.pointer (some ⟨K.s, 0, none⟩), .int .i64 bin] w fun e w' => Below w.heap.size w w' ∧ ((∃ x up, e = .returned (.tuple #[.agg #[.int .i64 x.1, .int .i64 x.2], .int .i64 up, .bool true]) ∧ Found qs bin x up) ∨
    (e = .returned (.tuple #[.agg #[.int .i64 0, .int .i64 0], .int .i64 0, .bool false]) ∧ ∀ (i : Nat) (p : Pile), qs[i]? = some p → bin ∉ p.2.2)) := by
  obtain ⟨w1, hw1⟩ : ∃ z, w.alloc (.cells #[.int .i64 0, .int .i64 0] 39) = z := ⟨_, rfl⟩
  have HW1 : Hid (w.alloc (.cells #[.int .i64 0, .int .i64 0] 39) = w1) := hw1
  have b1 : Below w.heap.size w w1 := by rw [← hw1]; exact below_new (Below.refl _ _) _
  have HB1 : Hid (Below w.heap.size w w1) := b1
  have HZ1 : Hid (w1.heap[w.heap.size]? = some (.cells #[.int .i64 0, .int .i64 0] 39 (0, 0))) := by show w1.heap[w.heap.size]? = _; rw [← hw1]; exact heap_alloc_new w _
  have R1 := h.go b1
  have HR1 : Hid (RsAt w1 K cs vc qs ls) := R1
  have k16 := R1.c16
  obtain ⟨av, capv, hvc, hav⟩ := h.form
  subst hvc
  have HAV : Hid (∀ i, i < qs.length → av = some ⟨K.rb, 0, none⟩) := hav
  obtain ⟨N, hN⟩ : ∃ N, qs.length = N := ⟨_, rfl⟩
  have HN : Hid (qs.length = N) := hN
  have hmq := h.many
  rw [hN] at k16 hmq
  clear h R1 b1 hav hN hw1
  go_enter Try.func26, Try.ntmps26
  go_wp2
  rw [HW1.out]
  clear HW1
  go_loopw [7] (fun ci wr => ∃ i : Nat, ci = .int .i64 i ∧ i ≤ N ∧ wr = w1 ∧ Hid (∀ (i' : Nat) (q : Pile), i' < i → qs[i']? = some q → bin ∉ q.2.2)) (fun ci _ => N - (intOf ci).toNat)
  case atStart => exact ⟨0, rfl, Nat.zero_le _, rfl, fun i' q h => by omega⟩
  case round =>
    obtain ⟨i, rfl, hi, rfl, HNo⟩ := hrel
    by_cases hlt : i < N
    · obtain ⟨q, hq⟩ : ∃ q, qs[i]? = some q := ⟨_, List.getElem?_eq_getElem (by rw [HN.out]; exact hlt)⟩
      have HQ : Hid (qs[i]? = some q) := hq
      have kv := HR1.out.pv hq
      have HAQ : Hid ((loadVar 39 ⟨K.rb, i * 3, none⟩).run Try.prog wr = .ok (.agg #[.int .i64 q.1.1, .int .i64 q.1.2]) wr) := HR1.out.at_ hq
      obtain rfl := HAV.out i (by rw [HN.out]; exact hlt)
      have hpl := HR1.out.pl i q hq
      have hsm := HR1.out.small i q hq
      obtain ⟨a, cap, ev⟩ := hpl.sl
      have HC : Hid (∀ j (hj : j < q.2.2.length), ∃ x, a = some x ∧ wr.cell? (x.add j) = some (.int .i64 (q.2.2[j]'hj))) := by
        obtain ⟨a', cap', e1, _, _, _, _, e6⟩ := hpl
        rw [ev] at e1
        injection e1 with e2 e3 e4
        rw [e2]
        exact e6
      rw [ev] at kv
      obtain ⟨m, hm⟩ : ∃ m, q.2.2.length = m := ⟨_, rfl⟩
      have HM : Hid (q.2.2.length = m) := hm
      rw [hm] at kv hsm
      clear hpl ev hm hq
      go_wp2_with fail
      go_loopw [9] (fun cj ws => ∃ j : Nat, cj = .int .i64 j ∧ j ≤ m ∧ ws = wr ∧ Hid (∀ j', j' < j → q.2.2[j']? ≠ some bin)) (fun cj _ => m - (intOf cj).toNat)
      case atStart => exact ⟨0, rfl, Nat.zero_le _, rfl, fun j' h => by omega⟩
      case round =>
        obtain ⟨j, rfl, hj, rfl, HJ⟩ := hrel
        by_cases hjm : j < m
        · obtain ⟨ad, rfl, kc⟩ := HC.out j (by rw [HM.out]; exact hjm)
          have HG : Hid (q.2.2[j]? = some (q.2.2[j]'(by rw [HM.out]; exact hjm))) := List.getElem?_eq_getElem _
          generalize q.2.2[j]'(by rw [HM.out]; exact hjm) = z at *
          by_cases hz : z = bin
          · subst hz
            have HFo : Hid (Found qs z q.1 ((m : Int) - 1 - (j : Nat))) := ⟨i, j, q, HQ.out, rfl, HG.out, by rw [HM.out], HNo.out, HJ.out⟩
            go_wp2_with (first
              | (refine loadAt rfl 39 (.tmp 45) rfl ⟨K.rb, i * 3, none⟩ rfl #[.int .i64 q.1.1, .int .i64 q.1.2] HAQ.out ?_)
              | (refine wpList_store_row rfl 39 (.tmp 4) (.tmp 46) rfl w.heap.size #[.int .i64 q.1.1, .int .i64 q.1.2] rfl rfl 39 #[.int .i64 0, .int .i64 0] HZ1.out infoCell2 rfl (by simp [Value.oneCell']) ?_))
            exact bodyPost_ret (results_cell_tmps Try.results26 _ _ w.heap.size _ rfl (load_cell _ _ _ rfl (setRow_heap _ _ _ _ _ _ HZ1.out))) rfl ⟨below_row HB1.out (Nat.le_refl _) _, Or.inl ⟨q.1, _, rfl, HFo.out⟩⟩
          · have hz2 : (z == bin) = false := by rw [beq_eq_false_iff_ne]; exact hz
            have HJ9 : Hid (∀ j', j' < j + 1 → q.2.2[j']? ≠ some bin) := fun j' hj' e => by
              by_cases e2 : j' < j
              · exact HJ.out j' e2 e
              · obtain rfl : j' = j := by omega
                rw [HG.out] at e
                exact hz (Option.some.inj e)
            go_wp2
            go_roundw
            case rel => exact ⟨j + 1, by go_num, by omega, (by first | rfl | trivial), HJ9⟩
            case measure => simp [intOf]; omega
        · obtain rfl : m = j := by omega
          have HNo9 : Hid (∀ (i' : Nat) (p : Pile), i' < i + 1 → qs[i']? = some p → bin ∉ p.2.2) := fun i' p hi hp hmm => by
            by_cases hi2 : i' < i
            · exact HNo.out i' p hi2 hp hmm
            · obtain rfl : i' = i := by omega
              rw [HQ.out] at hp
              cases hp
              obtain ⟨j', hj', e⟩ := List.getElem_of_mem hmm
              exact HJ.out j' (by rw [← HM.out]; exact hj') (by rw [List.getElem?_eq_getElem hj', e])
          go_wp2
          go_roundw
          case rel => exact ⟨i + 1, by go_num, by omega, (by first | rfl | trivial), HNo9⟩
          case measure => simp [intOf]; omega
    · obtain rfl : N = i := by omega
      have HNo9 : Hid (∀ (i' : Nat) (p : Pile), qs[i']? = some p → bin ∉ p.2.2) := fun i' p hp => HNo.out i' p (by rw [← HN.out]; exact (List.getElem?_eq_some_iff.1 hp).1) hp
      go_wp2_with (first
        | (refine wpList_store_row rfl 39 (.tmp 4) (.tmp 52) rfl w.heap.size #[.int .i64 0, .int .i64 0] rfl rfl 39 #[.int .i64 0, .int .i64 0] HZ1.out infoCell2 rfl (by simp [Value.oneCell']) ?_))
      exact bodyPost_ret (results_cell_tmps Try.results26 _ _ w.heap.size _ rfl (load_cell _ _ _ rfl (setRow_heap _ _ _ _ _ _ HZ1.out))) rfl ⟨below_row HB1.out (Nat.le_refl _) _, Or.inr ⟨rfl, HNo9.out⟩⟩
end Go.Proofs.Ytabbdclpjghdbaa.Stk
