/-
  The chapter's own answer: moves that its reader reads.
-/
import Derived.Test.YthdgpadakmdlkaaCodecRefList
import Derived.Test.YthdgpadakmdlkaaCodecRefMove
import Derived.Test.YthdgpadakmdlkaaCodecGetLists
import Derived.Test.YthdgpadakmdlkaaCodecPutLists
namespace Go.Proofs.Ythdgpadakmdlkaa.Codec
set_option linter.unusedVariables false
set_option linter.unusedSimpArgs false
open Go Go.RowKit

theorem ritemMove (M : Nat) : RItem M cMove moveEl 42 := by
  intro u R a cap zs k bad _ h
  refine (move_one u R a cap zs k bad h).mono ?_
  rintro e w' ⟨g, x0, x1, x2, x3, x4, x5, x6, x7, x8, x9, x10, k', b', rfl, rr, s⟩
  exact ⟨g, (x0, x1, x2, ((x3, x4), x5), ((x6, x7), x8), x9, x10), _, k', b', fun _ => False, rfl, rfl, none_new _ _, rr, s⟩
set_option maxRecDepth 100000 in
set_option maxHeartbeats 4000000 in
theorem rmoves_any (M : Nat) (hM24 : M ≤ 16777216) (u : World) (R : Nat) (a : Option Addr) (cap : Nat) (zs : List Int) (k : Nat) (bad : Bool) (hM : zs.length ≤ M) (hu0 : RR u R a cap zs k bad) :
    Calls Try.prog 29 #[.pointer (some ⟨R, 0, none⟩)] u fun e w' => u.grownBy w' (some R) ∧ ∃ xs v k' bad' F, e = .returned v ∧ ListAt 11 moveEl F xs v w' ∧ New F u.heap.size w' ∧ RR w' R a cap zs k' bad' ∧ Rd1 (list cMove) zs k bad xs k' bad' := by
  obtain ⟨i0, hi0, hz0, hz1, hz2⟩ := info_parts infMove
  have hR := hu0.lt
  have cN := count_one u R a cap zs k bad hu0
  have hE := heldMoveEl
  go_enter Try.func29, Try.ntmps29
  go_wp2_with (go_at_call 49; refine cN.mono ?_; rintro e1 w1 ⟨g1, n, k1, b1, rfl, r1, hn⟩)
  have hkz := r1.le
  have hn24 : n ≤ 16777216 := by
    rcases hn with ⟨_, _, _, _, h⟩ | ⟨_, h, _⟩ <;> omega
  have ST : Hid (RMid 11 42 cMove moveEl u R a cap zs k1 n (.slice none 0 0) 0 w1 k1 b1 [] (fun _ => False)) := RMid.start r1 g1
  have HN : Hid (Counted zs k bad n k1 b1) := hn
  have hb10 : b1 = true → b1 = false → getN cMove n (zs.drop k1) = none := fun h1 h2 => by rw [h1] at h2; cases h2
  clear hn cN r1 g1
  go_loopw [3, 5] (fun v i wr => ∃ (j ki : Nat) (b : Bool) (ys : List (TMove × Array Value)) (F : Nat → Prop), i = .int .i64 j ∧ j ≤ n ∧ Hid (RMid 11 42 cMove moveEl u R a cap zs k1 n v j wr ki b ys F) ∧ Hid (b1 = true → b = true) ∧ Hid (b = true → b1 = false → getN cMove n (zs.drop k1) = none)) (fun _ i _ => n - (intOf i).toNat)
  case atStart => exact ⟨0, k1, b1, [], fun _ => False, rfl, Nat.zero_le _, ST, id, hb10⟩
  case round =>
    clear ST hb10
    obtain ⟨j, ki, b, ys, F, rfl, hj, HM, HB, HD⟩ := hrel
    have mid := HM.out
    have h3 := mid.rr.b
    by_cases hlt : j < n
    · have hd : decide ((j : Int) < (n : Int)) = true := decide_eq_true (by omega)
      cases b with
      | false =>
        have cI := ritemMove M wr R a cap zs ki false hM mid.rr
        clear mid
        go_wp2_with (first
          | (go_at_call 42; refine cI.mono ?_; rintro e2 w2 ⟨g2, x, cs, k2, b2, F2, rfl, e2, f2, r2, s2⟩; have hcs := hE.size e2; have hc1 := hE.one e2; (have hfold := fold_cells #[.int .i64 0, .int .i64 0, .int .i64 0, .int .i64 0, .int .i64 0, .bool false, .int .i64 0, .int .i64 0, .bool false, .int .i64 0, .int .i64 0] cs (by rw [hcs]; rfl); rw [hcs] at hfold))
          | (have X' := hcs; refine wpList_store_row rfl 42 (.tmp 6) (.tmp 22) rfl w2.heap.size cs rfl rfl 42 #[.int .i64 0, .int .i64 0, .int .i64 0, .int .i64 0, .int .i64 0, .bool false, .int .i64 0, .int .i64 0, .bool false, .int .i64 0, .int .i64 0] (heap_alloc_new w2 _) (by rw [hcs]; exact iszMove) (by rw [hcs]; rfl) hc1 ?_)
          | (have X' := hcs; refine wpList_load_row rfl 42 (.tmp 6) rfl w2.heap.size rfl 42 cs (0, 0) _ (setRow_heap (w2.alloc (.cells #[.int .i64 0, .int .i64 0, .int .i64 0, .int .i64 0, .int .i64 0, .bool false, .int .i64 0, .int .i64 0, .bool false, .int .i64 0, .int .i64 0] 42)) _ _ cs _ _ (heap_alloc_new w2 _)) Try.underlying42 rfl (by rw [hcs]; exact iszMove) ?_)
          | (at_builtin; have HW := news_new ((w2.alloc (.cells #[.int .i64 0, .int .i64 0, .int .i64 0, .int .i64 0, .int .i64 0, .bool false, .int .i64 0, .int .i64 0, .bool false, .int .i64 0, .int .i64 0] 42)).setRow w2.heap.size cs) cs 42; rw [setRow_size] at HW; simp only [World.size_alloc] at HW; have BB := (below_row ((Below.refl w2.heap.size w2).alloc (Nat.le_refl _) (.cells #[.int .i64 0, .int .i64 0, .int .i64 0, .int .i64 0, .int .i64 0, .bool false, .int .i64 0, .int .i64 0, .bool false, .int .i64 0, .int .i64 0] 42)) (Nat.le_refl _) cs).alloc (by rw [setRow_size]; simp) (.cells cs 42); refine wpList_append_own_at _ rfl (.tmp 23) (.tmp 25) 26 rfl 0 42 i0 (.agg #[.int .i64 0, .int .i64 0, .int .i64 0, .int .i64 0, .int .i64 0, .bool false, .int .i64 0, .int .i64 0, .bool false, .int .i64 0, .int .i64 0]) 11 88 Try.underlying26 hi0 hz0 hz1 hz2 rfl (by decide) u3 j (rowOf ys) rfl (HM.out.own_item g2 hR BB) ⟨w2.heap.size + 1, 0, none⟩ 1 1 cs.toList rfl (by rw [Array.length_toList, hcs]) HW (one_list hc1) (by unfold maxLen; omega) (by omega) (Nat.zero_le _) ?_; intro v3 w3 own3 g3 n3 at3))
        go_roundw
        case rel => exact ⟨j + 1, k2, b2, ys ++ [(x, cs)], _, by go_num, by omega, HM.out.next hE hu0 hlt s2 e2 f2 r2 g2 BB own3 g3 at3, fun h => (by have := HB.out h; cases this), fun h _ => HM.out.stop hlt (by rw [h] at s2; exact s2)⟩
        case measure => simp [intOf]; omega
      | true =>
        have D : Hid _ := HM.out.done gMove hE (fun h => by cases h) HN.out HB.out HD.out hkz
        clear mid HB HD
        go_wp2
        go_ret
        exact ⟨HM.out.gr, _, _, ki, true, _, rfl, D.out.1, D.out.2.1, HM.out.rr, D.out.2.2⟩
    · obtain rfl : j = n := by omega
      have hd : decide ((j : Int) < (j : Int)) = false := decide_eq_false (by omega)
      have D : Hid _ := HM.out.done gMove hE (fun _ => rfl) HN.out HB.out HD.out hkz
      clear mid HB HD
      go_wp2
      go_ret
      exact ⟨HM.out.gr, _, _, ki, b, _, rfl, D.out.1, D.out.2.1, HM.out.rr, D.out.2.2⟩
end Go.Proofs.Ythdgpadakmdlkaa.Codec
