/-
  The chapter's own answer: numbers that its reader reads, numbers laid on bytes of one's own.
-/
import Derived.Test.YthdgpadakmdlkaaCodecRefMoves
import Derived.Test.YthdgpadakmdlkaaCodecRefPutMoves
namespace Go.Proofs.Ythdgpadakmdlkaa.Codec
set_option linter.unusedVariables false
set_option linter.unusedSimpArgs false
open Go Go.RowKit

theorem infIntR : (Try.prog.info? 3).map (fun i => (i.zero, i.size, i.bytes)) = some (some (.int .i64 0), 1, 8) := by kernel_rfl
set_option maxRecDepth 100000 in
set_option maxHeartbeats 4000000 in
theorem rnumbers_any (M : Nat) (hM24 : M ≤ 16777216) (u : World) (R : Nat) (a : Option Addr) (cap : Nat) (zs : List Int) (k : Nat) (bad : Bool) (hM : zs.length ≤ M) (hu0 : RR u R a cap zs k bad) :
    Calls Try.prog 51 #[.pointer (some ⟨R, 0, none⟩)] u fun e w' => u.grownBy w' (some R) ∧ ∃ xs v k' bad' F, e = .returned v ∧ ListAt 1 intEl F xs v w' ∧ New F u.heap.size w' ∧ RR w' R a cap zs k' bad' ∧ Rd1 (list cNum) zs k bad xs k' bad' := by
  obtain ⟨i0, hi0, hz0, hz1, hz2⟩ := info_parts infIntR
  have hR := hu0.lt
  have cN := count_one u R a cap zs k bad hu0
  have hE := heldIntEl
  go_enter Try.func51, Try.ntmps51
  go_wp2_with (go_at_call 49; refine cN.mono ?_; rintro e1 w1 ⟨g1, n, k1, b1, rfl, r1, hn⟩)
  have hkz := r1.le
  have hn24 : n ≤ 16777216 := by
    rcases hn with ⟨_, _, _, _, h⟩ | ⟨_, h, _⟩ <;> omega
  have ST : Hid (RMid 1 3 cNum intEl u R a cap zs k1 n (.slice none 0 0) 0 w1 k1 b1 [] (fun _ => False)) := RMid.start r1 g1
  have HN : Hid (Counted zs k bad n k1 b1) := hn
  have hb10 : b1 = true → b1 = false → getN cNum n (zs.drop k1) = none := fun h1 h2 => by rw [h1] at h2; cases h2
  clear hn cN r1 g1
  go_loopw [3, 5] (fun v i wr => ∃ (j ki : Nat) (b : Bool) (ys : List (Int × Array Value)) (F : Nat → Prop), i = .int .i64 j ∧ j ≤ n ∧ Hid (RMid 1 3 cNum intEl u R a cap zs k1 n v j wr ki b ys F) ∧ Hid (b1 = true → b = true) ∧ Hid (b = true → b1 = false → getN cNum n (zs.drop k1) = none)) (fun _ i _ => n - (intOf i).toNat)
  case atStart => exact ⟨0, k1, b1, [], fun _ => False, rfl, Nat.zero_le _, ST, id, hb10⟩
  case round =>
    clear ST hb10
    obtain ⟨j, ki, b, ys, F, rfl, hj, HM, HB, HD⟩ := hrel
    have mid := HM.out
    have h3 := mid.rr.b
    by_cases hlt : j < n
    · have hd : decide ((j : Int) < (n : Int)) = true := decide_eq_true (by omega)
      cases b with
      | false =>
        have cI := num_one wr R a cap zs ki false mid.rr
        clear mid
        go_wp2_with (first
          | (go_at_call 27; refine cI.mono ?_; rintro e2 w2 ⟨g2, x, k2, b2, rfl, r2, s2⟩)
          | (at_builtin; have BB := (Below.refl w2.heap.size w2).alloc (Nat.le_refl _) (.cells #[.int .i64 x] 3); refine wpList_append_own_at _ rfl (.tmp 23) (.tmp 25) 96 rfl 0 3 i0 (.int .i64 0) 1 8 Try.underlying96 hi0 hz0 hz1 hz2 rfl (by decide) u3 j (rowOf ys) rfl (HM.out.own_item g2 hR BB) ⟨w2.heap.size, 0, none⟩ 1 1 [.int .i64 x] rfl rfl (cell_one_new _ _ _) (by simp [Value.oneCell']) (by unfold maxLen; omega) (by omega) (Nat.zero_le _) ?_; intro v3 w3 own3 g3 n3 at3))
        go_roundw
        case rel => exact ⟨j + 1, k2, b2, ys ++ [(x, #[.int .i64 x])], _, by go_num, by omega, HM.out.next (F2 := fun _ => False) hE hu0 hlt s2 (show intEl (fun _ => False) x #[.int .i64 x] _ from rfl) (none_new _ _) r2 g2 BB own3 g3 at3, fun h => (by have := HB.out h; cases this), fun h _ => HM.out.stop hlt (by rw [h] at s2; exact s2)⟩
        case measure => simp [intOf]; omega
      | true =>
        have D : Hid _ := HM.out.done gNum hE (fun h => by cases h) HN.out HB.out HD.out hkz
        clear mid HB HD
        go_wp2
        go_ret
        exact ⟨HM.out.gr, _, _, ki, true, _, rfl, D.out.1, D.out.2.1, HM.out.rr, D.out.2.2⟩
    · obtain rfl : j = n := by omega
      have hd : decide ((j : Int) < (j : Int)) = false := decide_eq_false (by omega)
      have D : Hid _ := HM.out.done gNum hE (fun _ => rfl) HN.out HB.out HD.out hkz
      clear mid HB HD
      go_wp2
      go_ret
      exact ⟨HM.out.gr, _, _, ki, b, _, rfl, D.out.1, D.out.2.1, HM.out.rr, D.out.2.2⟩
set_option maxRecDepth 100000 in
set_option maxHeartbeats 2000000 in
theorem refnumbers_any (W : World) (F : Nat → Prop) (hF : ∀ g, F g → g < W.heap.size)
    (u : World) (b : Value) (zs : List Int) (xs : List Int) (v : Value) (hB : Below W.heap.size W u) (hb : Fresh W b) (hm : Mine u b zs) (hx : ListAt 1 intEl F xs v W) (ho : (list cNum).ok xs) (hl : zs.length + ((list cNum).put xs).length + 10 ≤ 140737488355328) :
    Calls Try.prog 55 #[b, v] u (Putted b u (zs ++ (list cNum).put xs)) := by
  have hE := heldIntEl
  have hg := gNum
  obtain ⟨a, cap, ys, rfl, rfl, hel, hcell, _⟩ := hx
  obtain ⟨o1, o2⟩ := ho
  have hfl := flat_len hg (ys.map Prod.fst)
  rw [list_put, List.length_append] at hl
  rw [list_put, ← List.append_assoc]
  rw [List.length_map] at *
  have c1 := refnum_any u b zs ys.length hm o1 (by omega)
  have hn : ys.length ≤ 140737488355328 := by omega
  have HL : Hid ((zs ++ num ys.length).length + ((ys.map Prod.fst).flatMap cNum.put).length + 10 ≤ 140737488355328) := by rw [List.length_append]; show _ + _ + _ + _ ≤ _; omega
  have HP := fun k h => flat_part cNum ys k h
  generalize hZ : zs ++ num ys.length = Z at *
  clear hZ o1 hl hfl
  obtain ⟨n, hN⟩ : ∃ n, ys.length = n := ⟨_, rfl⟩
  have HN : Hid (ys.length = n) := hN
  rw [hN] at c1 hn ⊢
  clear hN
  go_enter Try.func55, Try.ntmps55
  go_wp2_with (go_at_call 33; refine c1.mono ?_; rintro e w1 ⟨b1, rfl, m1, g1⟩)
  go_loopw [0, 5] (fun b' i wr => ∃ (k : Nat), k ≤ n ∧ i = .int .i64 k ∧ Mine wr b' (Z ++ ((ys.take k).map Prod.fst).flatMap cNum.put) ∧ Goes b u b' wr) (fun _ i _ => n - (intOf i).toNat)
  case atStart => exact ⟨0, Nat.zero_le _, rfl, by simpa using m1, g1⟩
  case round =>
    obtain ⟨k, hk, rfl, m2, g2⟩ := hrel
    by_cases hlt : k < n
    · have hlt' : k < ys.length := by rw [HN.out]; exact hlt
      obtain ⟨p, rfl, hpF, hpc⟩ := hcell k hlt'
      have hq := HP k hlt'
      have HS : Hid (((ys.take (k + 1)).map Prod.fst).flatMap cNum.put = ((ys.take k).map Prod.fst).flatMap cNum.put ++ cNum.put (ys[k]'hlt').1) := flat_snoc cNum ys k hlt'
      have hy := hel _ (List.getElem_mem hlt')
      have hok := o2 _ (List.mem_map.2 ⟨_, List.getElem_mem hlt', rfl⟩)
      generalize hyk : ys[k]'hlt' = y at *
      obtain ⟨x, cs⟩ := y
      have bW : Below W.heap.size W wr := Goes.below_of hB g2 hb
      have hy' : cs = #[.int .i64 x] := hy
      subst hy'
      have hrd : wr.cell? (p.add k) = some (.int .i64 x) := by
        rw [bW.cell (by rw [block_add]; exact hF _ hpF)]
        have := hpc 0 (.int .i64 x) rfl
        rwa [Nat.mul_one, Nat.add_zero] at this
      have cP := refnum_any wr u0 _ x m2 hok (by rw [List.length_append]; have := HL.out; have e : cNum.put x = num x := rfl; simp only [e] at hq; omega)
      have e : num x = cNum.put x := rfl
      rw [e, List.append_assoc, ← HS.out] at cP
      clear hq hyk HP hel hcell hlt' e
      go_wp2_with (go_at_call 33; refine cP.mono ?_; rintro e w3 ⟨b3, rfl, m3, g3⟩)
      go_roundw
      case rel => exact ⟨k + 1, by omega, by go_num, m3, g2.trans g3⟩
      case measure => simp [intOf]; omega
    · obtain rfl : k = n := by omega
      rw [List.take_of_length_le (by rw [HN.out]; omega)] at m2
      go_wp2
      go_ret
      exact ⟨_, rfl, m2, g2⟩
end Go.Proofs.Ythdgpadakmdlkaa.Codec
