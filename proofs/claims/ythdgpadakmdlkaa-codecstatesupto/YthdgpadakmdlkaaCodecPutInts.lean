/-
  A list of numbers that is put behind bytes of one's own.
-/
import Derived.Test.YthdgpadakmdlkaaCodecPutLists
import Derived.Test.YthdgpadakmdlkaaCodecHeld
namespace Go.Proofs.Ythdgpadakmdlkaa.Codec
set_option linter.unusedVariables false
set_option linter.unusedSimpArgs false
open Go Go.RowKit
set_option maxRecDepth 100000 in
set_option maxHeartbeats 1000000 in
theorem putInts_any (W : World) (F : Nat → Prop) (hF : ∀ g, F g → g < W.heap.size)
    (u : World) (b : Value) (zs : List Int) (xs : List Int) (v : Value) (hB : Below W.heap.size W u) (hb : Fresh W b) (hm : Mine u b zs) (hx : ListAt 1 intEl F xs v W) (ho : (list cNum).ok xs) (hl : zs.length + ((list cNum).put xs).length ≤ 140737488355328) :
    Calls Try.prog 104 #[b, v, .func (.func 75) #[] #[]] u (Putted b u (zs ++ (list cNum).put xs)) := by
  obtain ⟨a, cap, ys, rfl, rfl, hel, hcell, _⟩ := hx
  obtain ⟨o1, o2⟩ := ho
  have hfl := flat_len gNum (ys.map Prod.fst)
  rw [list_put, List.length_append] at hl
  rw [list_put, ← List.append_assoc]
  rw [List.length_map] at *
  have c1 := putNumber_any u b zs ys.length hm o1 (by omega)
  have hn : ys.length ≤ 140737488355328 := by omega
  have HL : Hid ((zs ++ num ys.length).length + ((ys.map Prod.fst).flatMap cNum.put).length ≤ 140737488355328) := by rw [List.length_append]; show _ + _ + _ ≤ _; omega
  have HP := fun k h => flat_part cNum ys k h
  generalize hZ : zs ++ num ys.length = Z at *
  clear hZ o1 hl hfl
  obtain ⟨n, hN⟩ : ∃ n, ys.length = n := ⟨_, rfl⟩
  have HN : Hid (ys.length = n) := hN
  rw [hN] at c1 hn ⊢
  clear hN
  have HD : Hid (∀ w0 : Value, True) := fun _ => trivial
  go_enter Try.func104, Try.ntmps104
  go_wp2_with (go_at_call 75; refine c1.mono ?_; rintro e w1 ⟨b1, rfl, m1, g1⟩)
  go_loopw [0, 15] (fun b' i wr => ∃ (k : Nat), k ≤ n ∧ i = .int .i64 k ∧ Mine wr b' (Z ++ ((ys.take k).map Prod.fst).flatMap cNum.put) ∧ Goes b u b' wr) (fun _ i _ => n - (intOf i).toNat)
  case atStart => exact ⟨0, Nat.zero_le _, rfl, by simpa using m1, g1⟩
  case round =>
    obtain ⟨k, hk, rfl, m2, g2⟩ := hrel
    by_cases hlt : k < n
    · have hlt' : k < ys.length := by rw [HN.out]; exact hlt
      obtain ⟨p, rfl, hpF, hpc⟩ := hcell k hlt'
      have hq := HP k hlt'
      have HS : Hid (((ys.take (k + 1)).map Prod.fst).flatMap cNum.put = ((ys.take k).map Prod.fst).flatMap cNum.put ++ cNum.put (ys[k]'hlt').1) := flat_snoc cNum ys k hlt'
      have hy := hel _ (List.getElem_mem hlt')
      have hok := o2 _ (List.mem_map.2 ⟨_, List.getElem_mem hlt', rfl⟩)
      generalize hyk : ys[k]'hlt' = y at *
      obtain ⟨x, cs⟩ := y
      have bW : Below W.heap.size W wr := Goes.below_of hB g2 hb
      have hy' : cs = #[.int .i64 x] := hy
      subst hy'
      have hrd : wr.cell? (p.add k) = some (.int .i64 x) := by
        rw [bW.cell (by rw [block_add]; exact hF _ hpF)]
        have := hpc 0 (.int .i64 x) rfl
        rwa [Nat.mul_one, Nat.add_zero] at this
      have cP := putNumber_any wr u0 _ x m2 hok (by rw [List.length_append]; have := HL.out; have e : cNum.put x = num x := rfl; simp only [e] at hq; omega)
      have e : num x = cNum.put x := rfl
      rw [e, List.append_assoc, ← HS.out] at cP
      clear hq hyk HP hel hcell hlt' e
      go_wp2_with (go_at_call 75; refine cP.mono ?_; rintro e w3 ⟨b3, rfl, m3, g3⟩)
      go_roundw
      case rel => exact ⟨k + 1, by omega, by go_num, m3, g2.trans g3⟩
      case measure => simp [intOf]; omega
    · obtain rfl : k = n := by omega
      rw [List.take_of_length_le (by rw [HN.out]; omega)] at m2
      go_wp2
      go_ret
      exact ⟨_, rfl, m2, g2⟩
end Go.Proofs.Ythdgpadakmdlkaa.Codec
