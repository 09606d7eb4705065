/-
  The chapter's own answer: moves laid on bytes of one's own.
-/
import Derived.Test.YthdgpadakmdlkaaCodecRefPuts
import Derived.Test.YthdgpadakmdlkaaCodecPutLists
import Derived.Test.YthdgpadakmdlkaaCodecHeld
namespace Go.Proofs.Ythdgpadakmdlkaa.Codec
set_option linter.unusedVariables false
set_option linter.unusedSimpArgs false
open Go Go.RowKit

theorem refmove_all (w : World) (b : Value) (zs : List Int) (m : TMove) (hm : Mine w b zs) (ho : cMove.ok m) (hl : zs.length + (cMove.put m).length + 10 ≤ 140737488355328) :
    Calls Try.prog 43 #[b, .agg (mCells m).toArray] w (Putted b w (zs ++ cMove.put m)) := by
  obtain ⟨k, d, n, ⟨⟨fx, fy⟩, fd⟩, ⟨⟨tx, ty⟩, td⟩, a, e⟩ := m
  exact refmove_any w b zs k d n fx fy fd tx ty td a e hm ho hl
set_option maxRecDepth 100000 in
set_option maxHeartbeats 2000000 in
theorem refmoves_any (W : World) (F : Nat → Prop) (hF : ∀ g, F g → g < W.heap.size)
    (u : World) (b : Value) (zs : List Int) (xs : List TMove) (v : Value) (hB : Below W.heap.size W u) (hb : Fresh W b) (hm : Mine u b zs) (hx : ListAt 11 moveEl F xs v W) (ho : (list cMove).ok xs) (hl : zs.length + ((list cMove).put xs).length + 10 ≤ 140737488355328) :
    Calls Try.prog 31 #[b, v] u (Putted b u (zs ++ (list cMove).put xs)) := by
  have hE := heldMoveEl
  have hg := gMove
  obtain ⟨a, cap, ys, rfl, rfl, hel, hcell, _⟩ := hx
  obtain ⟨o1, o2⟩ := ho
  have hfl := flat_len hg (ys.map Prod.fst)
  rw [list_put, List.length_append] at hl
  rw [list_put, ← List.append_assoc]
  rw [List.length_map] at *
  have c1 := refnum_any u b zs ys.length hm o1 (by omega)
  have hn : ys.length ≤ 140737488355328 := by omega
  have HL : Hid ((zs ++ num ys.length).length + ((ys.map Prod.fst).flatMap cMove.put).length + 10 ≤ 140737488355328) := by rw [List.length_append]; show _ + _ + _ + _ ≤ _; omega
  have HP := fun k h => flat_part cMove ys k h
  generalize hZ : zs ++ num ys.length = Z at *
  clear hZ o1 hl hfl
  obtain ⟨n, hN⟩ : ∃ n, ys.length = n := ⟨_, rfl⟩
  have HN : Hid (ys.length = n) := hN
  rw [hN] at c1 hn ⊢
  clear hN
  go_enter Try.func31, Try.ntmps31
  go_wp2_with (go_at_call 33; refine c1.mono ?_; rintro e w1 ⟨b1, rfl, m1, g1⟩)
  go_loopw [0, 5] (fun b' i wr => ∃ (k : Nat), k ≤ n ∧ i = .int .i64 k ∧ Mine wr b' (Z ++ ((ys.take k).map Prod.fst).flatMap cMove.put) ∧ Goes b u b' wr) (fun _ i _ => n - (intOf i).toNat)
  case atStart => exact ⟨0, Nat.zero_le _, rfl, by simpa using m1, g1⟩
  case round =>
    obtain ⟨k, hk, rfl, m2, g2⟩ := hrel
    by_cases hlt : k < n
    · have hlt' : k < ys.length := by rw [HN.out]; exact hlt
      obtain ⟨p, rfl, hpF, hpc⟩ := hcell k hlt'
      have hq := HP k hlt'
      have HS : Hid (((ys.take (k + 1)).map Prod.fst).flatMap cMove.put = ((ys.take k).map Prod.fst).flatMap cMove.put ++ cMove.put (ys[k]'hlt').1) := flat_snoc cMove ys k hlt'
      have hy := hel _ (List.getElem_mem hlt')
      have hok := o2 _ (List.mem_map.2 ⟨_, List.getElem_mem hlt', rfl⟩)
      generalize hyk : ys[k]'hlt' = y at *
      obtain ⟨x, cs⟩ := y
      have bW : Below W.heap.size W wr := Goes.below_of hB g2 hb
      have hcs := hE.size hy
      have hrd : ∀ j v, cs[j]? = some v → wr.cell? ((p.add (k * 11)).add j) = some v := fun j v hj => by
        rw [add_add, bW.cell (by rw [block_add]; exact hF _ hpF)]; exact hpc j v hj
      have cP := refmove_all wr u0 _ x m2 hok (by rw [List.length_append]; have := HL.out; simp only at hq ⊢; omega)
      rw [List.append_assoc, ← HS.out, ← (show cs = (mCells x).toArray from hy)] at cP
      clear hq hyk HP hel hcell hlt'
      go_wp2_with (first
        | (go_at_call 43; refine cP.mono ?_; rintro e w3 ⟨b3, rfl, m3, g3⟩)
        | (refine wpList_load_at rfl 42 (.tmp 19) rfl (p.add (k * 11)) rfl cs hrd (aggMove _) (by rw [hcs]; exact iszMove) ?_))
      go_roundw
      case rel => exact ⟨k + 1, by omega, by go_num, m3, g2.trans g3⟩
      case measure => simp [intOf]; omega
    · obtain rfl : k = n := by omega
      rw [List.take_of_length_le (by rw [HN.out]; omega)] at m2
      go_wp2
      go_ret
      exact ⟨_, rfl, m2, g2⟩
end Go.Proofs.Ythdgpadakmdlkaa.Codec
