/-
  Lists that are put behind bytes of one's own, item by item.
-/
import Derived.Test.YthdgpadakmdlkaaCodecItems
namespace Go.Proofs.Ythdgpadakmdlkaa.Codec
set_option linter.unusedVariables false
set_option linter.unusedSimpArgs false
open Go Go.RowKit
theorem aggMove (w : World) : (isAgg 42).run Try.prog w = .ok true w := by unfold isAgg; rw [Sem.run_bind, run_underlying Try.underlying42 w]; rfl
theorem iszMove : (Try.prog.info? 42).map (·.size) = some 11 := by kernel_rfl
set_option maxRecDepth 100000 in
set_option maxHeartbeats 1000000 in
theorem putListMove_any {α : Type} (c : Cod α) (El : (Nat → Prop) → α → Array Value → World → Prop) (hE : Held El 11) (W : World) (F : Nat → Prop) (hF : ∀ g, F g → g < W.heap.size) (hp : Puts W c El F 64)
    (u : World) (b : Value) (zs : List Int) (xs : List α) (v : Value) (hB : Below W.heap.size W u) (hb : Fresh W b) (hm : Mine u b zs) (hx : ListAt 11 El F xs v W) (ho : (list c).ok xs) (hg : Good c) (hl : zs.length + ((list c).put xs).length ≤ 140737488355328) :
    Calls Try.prog 63 #[b, v, .func (.func 64) #[] #[]] u (Putted b u (zs ++ (list c).put xs)) := by
  obtain ⟨a, cap, ys, rfl, rfl, hel, hcell, _⟩ := hx
  obtain ⟨o1, o2⟩ := ho
  have hfl := flat_len hg (ys.map Prod.fst)
  rw [list_put, List.length_append] at hl
  rw [list_put, ← List.append_assoc]
  rw [List.length_map] at *
  have c1 := putNumber_any u b zs ys.length hm o1 (by omega)
  have hn : ys.length ≤ 140737488355328 := by omega
  have HL : Hid ((zs ++ num ys.length).length + ((ys.map Prod.fst).flatMap c.put).length ≤ 140737488355328) := by rw [List.length_append]; show _ + _ + _ ≤ _; omega
  have HP := fun k h => flat_part c ys k h
  generalize hZ : zs ++ num ys.length = Z at *
  clear hZ o1 hl hfl
  obtain ⟨n, hN⟩ : ∃ n, ys.length = n := ⟨_, rfl⟩
  have HN : Hid (ys.length = n) := hN
  rw [hN] at c1 hn ⊢
  clear hN
  go_enter Try.func63, Try.ntmps63
  go_wp2_with (go_at_call 75; refine c1.mono ?_; rintro e w1 ⟨b1, rfl, m1, g1⟩)
  go_loopw [0, 15] (fun b' i wr => ∃ (k : Nat), k ≤ n ∧ i = .int .i64 k ∧ Mine wr b' (Z ++ ((ys.take k).map Prod.fst).flatMap c.put) ∧ Goes b u b' wr) (fun _ i _ => n - (intOf i).toNat)
  case atStart => exact ⟨0, Nat.zero_le _, rfl, by simpa using m1, g1⟩
  case round =>
    obtain ⟨k, hk, rfl, m2, g2⟩ := hrel
    by_cases hlt : k < n
    · have hlt' : k < ys.length := by rw [HN.out]; exact hlt
      obtain ⟨p, rfl, hpF, hpc⟩ := hcell k hlt'
      have hq := HP k hlt'
      have HS : Hid (((ys.take (k + 1)).map Prod.fst).flatMap c.put = ((ys.take k).map Prod.fst).flatMap c.put ++ c.put (ys[k]'hlt').1) := flat_snoc c ys k hlt'
      have hy := hel _ (List.getElem_mem hlt')
      have hok := o2 _ (List.mem_map.2 ⟨_, List.getElem_mem hlt', rfl⟩)
      generalize hyk : ys[k]'hlt' = y at *
      obtain ⟨x, cs⟩ := y
      have bW : Below W.heap.size W wr := Goes.below_of hB g2 hb
      have hcs := hE.size hy
      have hc1 := hE.one hy
      have hrd : ∀ j v, cs[j]? = some v → wr.cell? ((p.add (k * 11)).add j) = some v := fun j v hj => by
        rw [add_add, bW.cell (by rw [block_add]; exact hF _ hpF)]; exact hpc j v hj
      have cP := hp ((wr.alloc (.cells #[.int .i64 0, .int .i64 0, .int .i64 0, .int .i64 0, .int .i64 0, .bool false, .int .i64 0, .int .i64 0, .bool false, .int .i64 0, .int .i64 0] 42)).setRow wr.heap.size cs) u0 _ x cs (below_row (bW.alloc bW.size _) bW.size cs) (hb.goes hB g2) (m2.setNew _ cs) hy hok (by rw [List.length_append]; have := HL.out; simp only at hq ⊢; omega)
      rw [List.append_assoc, ← HS.out] at cP
      clear hq hyk HP hel hcell hlt'
      go_wp2_with (first
        | (go_at_call 64; refine cP.mono ?_; rintro e w3 ⟨b3, rfl, m3, g3⟩)
        | (refine wpList_load_at rfl 42 (.tmp 17) rfl (p.add (k * 11)) rfl cs hrd (aggMove _) (by rw [hcs]; exact iszMove) ?_)
        | (refine wpList_store_row rfl 42 (.tmp 8) (.tmp 18) rfl wr.heap.size cs rfl rfl 42 #[.int .i64 0, .int .i64 0, .int .i64 0, .int .i64 0, .int .i64 0, .bool false, .int .i64 0, .int .i64 0, .bool false, .int .i64 0, .int .i64 0] (heap_alloc_new wr _) (by rw [hcs]; exact iszMove) (by rw [hcs]; rfl) hc1 ?_)
        | (refine wpList_load_row rfl 42 (.tmp 8) rfl wr.heap.size rfl 42 cs (0, 0) _ (setRow_heap (wr.alloc (.cells #[.int .i64 0, .int .i64 0, .int .i64 0, .int .i64 0, .int .i64 0, .bool false, .int .i64 0, .int .i64 0, .bool false, .int .i64 0, .int .i64 0] 42)) _ _ cs _ _ (heap_alloc_new wr _)) Try.underlying42 rfl (by rw [hcs]; exact iszMove) ?_))
      go_roundw
      case rel => exact ⟨k + 1, by omega, by go_num, m3, (g2.setNew _ cs).trans g3⟩
      case measure => simp [intOf]; omega
    · obtain rfl : k = n := by omega
      rw [List.take_of_length_le (by rw [HN.out]; omega)] at m2
      go_wp2
      go_ret
      exact ⟨_, rfl, m2, g2⟩
theorem aggStack (w : World) : (isAgg 99).run Try.prog w = .ok true w := by unfold isAgg; rw [Sem.run_bind, run_underlying Try.underlying99 w]; rfl
theorem iszStack : (Try.prog.info? 99).map (·.size) = some 3 := by kernel_rfl
set_option maxRecDepth 100000 in
set_option maxHeartbeats 1000000 in
theorem putListStack_any {α : Type} (c : Cod α) (El : (Nat → Prop) → α → Array Value → World → Prop) (hE : Held El 3) (W : World) (F : Nat → Prop) (hF : ∀ g, F g → g < W.heap.size) (hp : Puts W c El F 81)
    (u : World) (b : Value) (zs : List Int) (xs : List α) (v : Value) (hB : Below W.heap.size W u) (hb : Fresh W b) (hm : Mine u b zs) (hx : ListAt 3 El F xs v W) (ho : (list c).ok xs) (hg : Good c) (hl : zs.length + ((list c).put xs).length ≤ 140737488355328) :
    Calls Try.prog 80 #[b, v, .func (.func 81) #[] #[]] u (Putted b u (zs ++ (list c).put xs)) := by
  obtain ⟨a, cap, ys, rfl, rfl, hel, hcell, _⟩ := hx
  obtain ⟨o1, o2⟩ := ho
  have hfl := flat_len hg (ys.map Prod.fst)
  rw [list_put, List.length_append] at hl
  rw [list_put, ← List.append_assoc]
  rw [List.length_map] at *
  have c1 := putNumber_any u b zs ys.length hm o1 (by omega)
  have hn : ys.length ≤ 140737488355328 := by omega
  have HL : Hid ((zs ++ num ys.length).length + ((ys.map Prod.fst).flatMap c.put).length ≤ 140737488355328) := by rw [List.length_append]; show _ + _ + _ ≤ _; omega
  have HP := fun k h => flat_part c ys k h
  generalize hZ : zs ++ num ys.length = Z at *
  clear hZ o1 hl hfl
  obtain ⟨n, hN⟩ : ∃ n, ys.length = n := ⟨_, rfl⟩
  have HN : Hid (ys.length = n) := hN
  rw [hN] at c1 hn ⊢
  clear hN
  go_enter Try.func80, Try.ntmps80
  go_wp2_with (go_at_call 75; refine c1.mono ?_; rintro e w1 ⟨b1, rfl, m1, g1⟩)
  go_loopw [0, 15] (fun b' i wr => ∃ (k : Nat), k ≤ n ∧ i = .int .i64 k ∧ Mine wr b' (Z ++ ((ys.take k).map Prod.fst).flatMap c.put) ∧ Goes b u b' wr) (fun _ i _ => n - (intOf i).toNat)
  case atStart => exact ⟨0, Nat.zero_le _, rfl, by simpa using m1, g1⟩
  case round =>
    obtain ⟨k, hk, rfl, m2, g2⟩ := hrel
    by_cases hlt : k < n
    · have hlt' : k < ys.length := by rw [HN.out]; exact hlt
      obtain ⟨p, rfl, hpF, hpc⟩ := hcell k hlt'
      have hq := HP k hlt'
      have HS : Hid (((ys.take (k + 1)).map Prod.fst).flatMap c.put = ((ys.take k).map Prod.fst).flatMap c.put ++ c.put (ys[k]'hlt').1) := flat_snoc c ys k hlt'
      have hy := hel _ (List.getElem_mem hlt')
      have hok := o2 _ (List.mem_map.2 ⟨_, List.getElem_mem hlt', rfl⟩)
      generalize hyk : ys[k]'hlt' = y at *
      obtain ⟨x, cs⟩ := y
      have bW : Below W.heap.size W wr := Goes.below_of hB g2 hb
      have hcs := hE.size hy
      have hc1 := hE.one hy
      have hrd : ∀ j v, cs[j]? = some v → wr.cell? ((p.add (k * 3)).add j) = some v := fun j v hj => by
        rw [add_add, bW.cell (by rw [block_add]; exact hF _ hpF)]; exact hpc j v hj
      have cP := hp ((wr.alloc (.cells #[.int .i64 0, .int .i64 0, .slice none 0 0] 99)).setRow wr.heap.size cs) u0 _ x cs (below_row (bW.alloc bW.size _) bW.size cs) (hb.goes hB g2) (m2.setNew _ cs) hy hok (by rw [List.length_append]; have := HL.out; simp only at hq ⊢; omega)
      rw [List.append_assoc, ← HS.out] at cP
      clear hq hyk HP hel hcell hlt'
      go_wp2_with (first
        | (go_at_call 81; refine cP.mono ?_; rintro e w3 ⟨b3, rfl, m3, g3⟩)
        | (refine wpList_load_at rfl 99 (.tmp 17) rfl (p.add (k * 3)) rfl cs hrd (aggStack _) (by rw [hcs]; exact iszStack) ?_)
        | (refine wpList_store_row rfl 99 (.tmp 8) (.tmp 18) rfl wr.heap.size cs rfl rfl 99 #[.int .i64 0, .int .i64 0, .slice none 0 0] (heap_alloc_new wr _) (by rw [hcs]; exact iszStack) (by rw [hcs]; rfl) hc1 ?_)
        | (refine wpList_load_row rfl 99 (.tmp 8) rfl wr.heap.size rfl 99 cs (0, 0) _ (setRow_heap (wr.alloc (.cells #[.int .i64 0, .int .i64 0, .slice none 0 0] 99)) _ _ cs _ _ (heap_alloc_new wr _)) Try.underlying99 rfl (by rw [hcs]; exact iszStack) ?_))
      go_roundw
      case rel => exact ⟨k + 1, by omega, by go_num, m3, (g2.setNew _ cs).trans g3⟩
      case measure => simp [intOf]; omega
    · obtain rfl : k = n := by omega
      rw [List.take_of_length_le (by rw [HN.out]; omega)] at m2
      go_wp2
      go_ret
      exact ⟨_, rfl, m2, g2⟩
theorem aggRobot (w : World) : (isAgg 101).run Try.prog w = .ok true w := by unfold isAgg; rw [Sem.run_bind, run_underlying Try.underlying101 w]; rfl
theorem iszRobot : (Try.prog.info? 101).map (·.size) = some 9 := by kernel_rfl
set_option maxRecDepth 100000 in
set_option maxHeartbeats 1000000 in
theorem putListRobot_any {α : Type} (c : Cod α) (El : (Nat → Prop) → α → Array Value → World → Prop) (hE : Held El 9) (W : World) (F : Nat → Prop) (hF : ∀ g, F g → g < W.heap.size) (hp : Puts W c El F 83)
    (u : World) (b : Value) (zs : List Int) (xs : List α) (v : Value) (hB : Below W.heap.size W u) (hb : Fresh W b) (hm : Mine u b zs) (hx : ListAt 9 El F xs v W) (ho : (list c).ok xs) (hg : Good c) (hl : zs.length + ((list c).put xs).length ≤ 140737488355328) :
    Calls Try.prog 82 #[b, v, .func (.func 83) #[] #[]] u (Putted b u (zs ++ (list c).put xs)) := by
  obtain ⟨a, cap, ys, rfl, rfl, hel, hcell, _⟩ := hx
  obtain ⟨o1, o2⟩ := ho
  have hfl := flat_len hg (ys.map Prod.fst)
  rw [list_put, List.length_append] at hl
  rw [list_put, ← List.append_assoc]
  rw [List.length_map] at *
  have c1 := putNumber_any u b zs ys.length hm o1 (by omega)
  have hn : ys.length ≤ 140737488355328 := by omega
  have HL : Hid ((zs ++ num ys.length).length + ((ys.map Prod.fst).flatMap c.put).length ≤ 140737488355328) := by rw [List.length_append]; show _ + _ + _ ≤ _; omega
  have HP := fun k h => flat_part c ys k h
  generalize hZ : zs ++ num ys.length = Z at *
  clear hZ o1 hl hfl
  obtain ⟨n, hN⟩ : ∃ n, ys.length = n := ⟨_, rfl⟩
  have HN : Hid (ys.length = n) := hN
  rw [hN] at c1 hn ⊢
  clear hN
  go_enter Try.func82, Try.ntmps82
  go_wp2_with (go_at_call 75; refine c1.mono ?_; rintro e w1 ⟨b1, rfl, m1, g1⟩)
  go_loopw [0, 15] (fun b' i wr => ∃ (k : Nat), k ≤ n ∧ i = .int .i64 k ∧ Mine wr b' (Z ++ ((ys.take k).map Prod.fst).flatMap c.put) ∧ Goes b u b' wr) (fun _ i _ => n - (intOf i).toNat)
  case atStart => exact ⟨0, Nat.zero_le _, rfl, by simpa using m1, g1⟩
  case round =>
    obtain ⟨k, hk, rfl, m2, g2⟩ := hrel
    by_cases hlt : k < n
    · have hlt' : k < ys.length := by rw [HN.out]; exact hlt
      obtain ⟨p, rfl, hpF, hpc⟩ := hcell k hlt'
      have hq := HP k hlt'
      have HS : Hid (((ys.take (k + 1)).map Prod.fst).flatMap c.put = ((ys.take k).map Prod.fst).flatMap c.put ++ c.put (ys[k]'hlt').1) := flat_snoc c ys k hlt'
      have hy := hel _ (List.getElem_mem hlt')
      have hok := o2 _ (List.mem_map.2 ⟨_, List.getElem_mem hlt', rfl⟩)
      generalize hyk : ys[k]'hlt' = y at *
      obtain ⟨x, cs⟩ := y
      have bW : Below W.heap.size W wr := Goes.below_of hB g2 hb
      have hcs := hE.size hy
      have hc1 := hE.one hy
      have hrd : ∀ j v, cs[j]? = some v → wr.cell? ((p.add (k * 9)).add j) = some v := fun j v hj => by
        rw [add_add, bW.cell (by rw [block_add]; exact hF _ hpF)]; exact hpc j v hj
      have cP := hp ((wr.alloc (.cells #[.int .i64 0, .int .i64 0, .bool false, .int .i64 0, .int .i64 0, .slice none 0 0, .bool false, .int .i64 0, .bool false] 101)).setRow wr.heap.size cs) u0 _ x cs (below_row (bW.alloc bW.size _) bW.size cs) (hb.goes hB g2) (m2.setNew _ cs) hy hok (by rw [List.length_append]; have := HL.out; simp only at hq ⊢; omega)
      rw [List.append_assoc, ← HS.out] at cP
      clear hq hyk HP hel hcell hlt'
      go_wp2_with (first
        | (go_at_call 83; refine cP.mono ?_; rintro e w3 ⟨b3, rfl, m3, g3⟩)
        | (refine wpList_load_at rfl 101 (.tmp 17) rfl (p.add (k * 9)) rfl cs hrd (aggRobot _) (by rw [hcs]; exact iszRobot) ?_)
        | (refine wpList_store_row rfl 101 (.tmp 8) (.tmp 18) rfl wr.heap.size cs rfl rfl 101 #[.int .i64 0, .int .i64 0, .bool false, .int .i64 0, .int .i64 0, .slice none 0 0, .bool false, .int .i64 0, .bool false] (heap_alloc_new wr _) (by rw [hcs]; exact iszRobot) (by rw [hcs]; rfl) hc1 ?_)
        | (refine wpList_load_row rfl 101 (.tmp 8) rfl wr.heap.size rfl 101 cs (0, 0) _ (setRow_heap (wr.alloc (.cells #[.int .i64 0, .int .i64 0, .bool false, .int .i64 0, .int .i64 0, .slice none 0 0, .bool false, .int .i64 0, .bool false] 101)) _ _ cs _ _ (heap_alloc_new wr _)) Try.underlying101 rfl (by rw [hcs]; exact iszRobot) ?_))
      go_roundw
      case rel => exact ⟨k + 1, by omega, by go_num, m3, (g2.setNew _ cs).trans g3⟩
      case measure => simp [intOf]; omega
    · obtain rfl : k = n := by omega
      rw [List.take_of_length_le (by rw [HN.out]; omega)] at m2
      go_wp2
      go_ret
      exact ⟨_, rfl, m2, g2⟩
theorem aggPort (w : World) : (isAgg 104).run Try.prog w = .ok true w := by unfold isAgg; rw [Sem.run_bind, run_underlying Try.underlying104 w]; rfl
theorem iszPort : (Try.prog.info? 104).map (·.size) = some 3 := by kernel_rfl
set_option maxRecDepth 100000 in
set_option maxHeartbeats 1000000 in
theorem putListPort_any {α : Type} (c : Cod α) (El : (Nat → Prop) → α → Array Value → World → Prop) (hE : Held El 3) (W : World) (F : Nat → Prop) (hF : ∀ g, F g → g < W.heap.size) (hp : Puts W c El F 85)
    (u : World) (b : Value) (zs : List Int) (xs : List α) (v : Value) (hB : Below W.heap.size W u) (hb : Fresh W b) (hm : Mine u b zs) (hx : ListAt 3 El F xs v W) (ho : (list c).ok xs) (hg : Good c) (hl : zs.length + ((list c).put xs).length ≤ 140737488355328) :
    Calls Try.prog 84 #[b, v, .func (.func 85) #[] #[]] u (Putted b u (zs ++ (list c).put xs)) := by
  obtain ⟨a, cap, ys, rfl, rfl, hel, hcell, _⟩ := hx
  obtain ⟨o1, o2⟩ := ho
  have hfl := flat_len hg (ys.map Prod.fst)
  rw [list_put, List.length_append] at hl
  rw [list_put, ← List.append_assoc]
  rw [List.length_map] at *
  have c1 := putNumber_any u b zs ys.length hm o1 (by omega)
  have hn : ys.length ≤ 140737488355328 := by omega
  have HL : Hid ((zs ++ num ys.length).length + ((ys.map Prod.fst).flatMap c.put).length ≤ 140737488355328) := by rw [List.length_append]; show _ + _ + _ ≤ _; omega
  have HP := fun k h => flat_part c ys k h
  generalize hZ : zs ++ num ys.length = Z at *
  clear hZ o1 hl hfl
  obtain ⟨n, hN⟩ : ∃ n, ys.length = n := ⟨_, rfl⟩
  have HN : Hid (ys.length = n) := hN
  rw [hN] at c1 hn ⊢
  clear hN
  go_enter Try.func84, Try.ntmps84
  go_wp2_with (go_at_call 75; refine c1.mono ?_; rintro e w1 ⟨b1, rfl, m1, g1⟩)
  go_loopw [0, 15] (fun b' i wr => ∃ (k : Nat), k ≤ n ∧ i = .int .i64 k ∧ Mine wr b' (Z ++ ((ys.take k).map Prod.fst).flatMap c.put) ∧ Goes b u b' wr) (fun _ i _ => n - (intOf i).toNat)
  case atStart => exact ⟨0, Nat.zero_le _, rfl, by simpa using m1, g1⟩
  case round =>
    obtain ⟨k, hk, rfl, m2, g2⟩ := hrel
    by_cases hlt : k < n
    · have hlt' : k < ys.length := by rw [HN.out]; exact hlt
      obtain ⟨p, rfl, hpF, hpc⟩ := hcell k hlt'
      have hq := HP k hlt'
      have HS : Hid (((ys.take (k + 1)).map Prod.fst).flatMap c.put = ((ys.take k).map Prod.fst).flatMap c.put ++ c.put (ys[k]'hlt').1) := flat_snoc c ys k hlt'
      have hy := hel _ (List.getElem_mem hlt')
      have hok := o2 _ (List.mem_map.2 ⟨_, List.getElem_mem hlt', rfl⟩)
      generalize hyk : ys[k]'hlt' = y at *
      obtain ⟨x, cs⟩ := y
      have bW : Below W.heap.size W wr := Goes.below_of hB g2 hb
      have hcs := hE.size hy
      have hc1 := hE.one hy
      have hrd : ∀ j v, cs[j]? = some v → wr.cell? ((p.add (k * 3)).add j) = some v := fun j v hj => by
        rw [add_add, bW.cell (by rw [block_add]; exact hF _ hpF)]; exact hpc j v hj
      have cP := hp ((wr.alloc (.cells #[.int .i64 0, .int .i64 0, .slice none 0 0] 104)).setRow wr.heap.size cs) u0 _ x cs (below_row (bW.alloc bW.size _) bW.size cs) (hb.goes hB g2) (m2.setNew _ cs) hy hok (by rw [List.length_append]; have := HL.out; simp only at hq ⊢; omega)
      rw [List.append_assoc, ← HS.out] at cP
      clear hq hyk HP hel hcell hlt'
      go_wp2_with (first
        | (go_at_call 85; refine cP.mono ?_; rintro e w3 ⟨b3, rfl, m3, g3⟩)
        | (refine wpList_load_at rfl 104 (.tmp 17) rfl (p.add (k * 3)) rfl cs hrd (aggPort _) (by rw [hcs]; exact iszPort) ?_)
        | (refine wpList_store_row rfl 104 (.tmp 8) (.tmp 18) rfl wr.heap.size cs rfl rfl 104 #[.int .i64 0, .int .i64 0, .slice none 0 0] (heap_alloc_new wr _) (by rw [hcs]; exact iszPort) (by rw [hcs]; rfl) hc1 ?_)
        | (refine wpList_load_row rfl 104 (.tmp 8) rfl wr.heap.size rfl 104 cs (0, 0) _ (setRow_heap (wr.alloc (.cells #[.int .i64 0, .int .i64 0, .slice none 0 0] 104)) _ _ cs _ _ (heap_alloc_new wr _)) Try.underlying104 rfl (by rw [hcs]; exact iszPort) ?_))
      go_roundw
      case rel => exact ⟨k + 1, by omega, by go_num, m3, (g2.setNew _ cs).trans g3⟩
      case measure => simp [intOf]; omega
    · obtain rfl : k = n := by omega
      rw [List.take_of_length_le (by rw [HN.out]; omega)] at m2
      go_wp2
      go_ret
      exact ⟨_, rfl, m2, g2⟩
theorem aggOrder (w : World) : (isAgg 106).run Try.prog w = .ok true w := by unfold isAgg; rw [Sem.run_bind, run_underlying Try.underlying106 w]; rfl
theorem iszOrder : (Try.prog.info? 106).map (·.size) = some 4 := by kernel_rfl
set_option maxRecDepth 100000 in
set_option maxHeartbeats 1000000 in
theorem putListOrder_any {α : Type} (c : Cod α) (El : (Nat → Prop) → α → Array Value → World → Prop) (hE : Held El 4) (W : World) (F : Nat → Prop) (hF : ∀ g, F g → g < W.heap.size) (hp : Puts W c El F 87)
    (u : World) (b : Value) (zs : List Int) (xs : List α) (v : Value) (hB : Below W.heap.size W u) (hb : Fresh W b) (hm : Mine u b zs) (hx : ListAt 4 El F xs v W) (ho : (list c).ok xs) (hg : Good c) (hl : zs.length + ((list c).put xs).length ≤ 140737488355328) :
    Calls Try.prog 86 #[b, v, .func (.func 87) #[] #[]] u (Putted b u (zs ++ (list c).put xs)) := by
  obtain ⟨a, cap, ys, rfl, rfl, hel, hcell, _⟩ := hx
  obtain ⟨o1, o2⟩ := ho
  have hfl := flat_len hg (ys.map Prod.fst)
  rw [list_put, List.length_append] at hl
  rw [list_put, ← List.append_assoc]
  rw [List.length_map] at *
  have c1 := putNumber_any u b zs ys.length hm o1 (by omega)
  have hn : ys.length ≤ 140737488355328 := by omega
  have HL : Hid ((zs ++ num ys.length).length + ((ys.map Prod.fst).flatMap c.put).length ≤ 140737488355328) := by rw [List.length_append]; show _ + _ + _ ≤ _; omega
  have HP := fun k h => flat_part c ys k h
  generalize hZ : zs ++ num ys.length = Z at *
  clear hZ o1 hl hfl
  obtain ⟨n, hN⟩ : ∃ n, ys.length = n := ⟨_, rfl⟩
  have HN : Hid (ys.length = n) := hN
  rw [hN] at c1 hn ⊢
  clear hN
  go_enter Try.func86, Try.ntmps86
  go_wp2_with (go_at_call 75; refine c1.mono ?_; rintro e w1 ⟨b1, rfl, m1, g1⟩)
  go_loopw [0, 15] (fun b' i wr => ∃ (k : Nat), k ≤ n ∧ i = .int .i64 k ∧ Mine wr b' (Z ++ ((ys.take k).map Prod.fst).flatMap c.put) ∧ Goes b u b' wr) (fun _ i _ => n - (intOf i).toNat)
  case atStart => exact ⟨0, Nat.zero_le _, rfl, by simpa using m1, g1⟩
  case round =>
    obtain ⟨k, hk, rfl, m2, g2⟩ := hrel
    by_cases hlt : k < n
    · have hlt' : k < ys.length := by rw [HN.out]; exact hlt
      obtain ⟨p, rfl, hpF, hpc⟩ := hcell k hlt'
      have hq := HP k hlt'
      have HS : Hid (((ys.take (k + 1)).map Prod.fst).flatMap c.put = ((ys.take k).map Prod.fst).flatMap c.put ++ c.put (ys[k]'hlt').1) := flat_snoc c ys k hlt'
      have hy := hel _ (List.getElem_mem hlt')
      have hok := o2 _ (List.mem_map.2 ⟨_, List.getElem_mem hlt', rfl⟩)
      generalize hyk : ys[k]'hlt' = y at *
      obtain ⟨x, cs⟩ := y
      have bW : Below W.heap.size W wr := Goes.below_of hB g2 hb
      have hcs := hE.size hy
      have hc1 := hE.one hy
      have hrd : ∀ j v, cs[j]? = some v → wr.cell? ((p.add (k * 4)).add j) = some v := fun j v hj => by
        rw [add_add, bW.cell (by rw [block_add]; exact hF _ hpF)]; exact hpc j v hj
      have cP := hp ((wr.alloc (.cells #[.int .i64 0, .int .i64 0, .int .i64 0, .int .i64 0] 106)).setRow wr.heap.size cs) u0 _ x cs (below_row (bW.alloc bW.size _) bW.size cs) (hb.goes hB g2) (m2.setNew _ cs) hy hok (by rw [List.length_append]; have := HL.out; simp only at hq ⊢; omega)
      rw [List.append_assoc, ← HS.out] at cP
      clear hq hyk HP hel hcell hlt'
      go_wp2_with (first
        | (go_at_call 87; refine cP.mono ?_; rintro e w3 ⟨b3, rfl, m3, g3⟩)
        | (refine wpList_load_at rfl 106 (.tmp 17) rfl (p.add (k * 4)) rfl cs hrd (aggOrder _) (by rw [hcs]; exact iszOrder) ?_)
        | (refine wpList_store_row rfl 106 (.tmp 8) (.tmp 18) rfl wr.heap.size cs rfl rfl 106 #[.int .i64 0, .int .i64 0, .int .i64 0, .int .i64 0] (heap_alloc_new wr _) (by rw [hcs]; exact iszOrder) (by rw [hcs]; rfl) hc1 ?_)
        | (refine wpList_load_row rfl 106 (.tmp 8) rfl wr.heap.size rfl 106 cs (0, 0) _ (setRow_heap (wr.alloc (.cells #[.int .i64 0, .int .i64 0, .int .i64 0, .int .i64 0] 106)) _ _ cs _ _ (heap_alloc_new wr _)) Try.underlying106 rfl (by rw [hcs]; exact iszOrder) ?_))
      go_roundw
      case rel => exact ⟨k + 1, by omega, by go_num, m3, (g2.setNew _ cs).trans g3⟩
      case measure => simp [intOf]; omega
    · obtain rfl : k = n := by omega
      rw [List.take_of_length_le (by rw [HN.out]; omega)] at m2
      go_wp2
      go_ret
      exact ⟨_, rfl, m2, g2⟩
theorem aggJob (w : World) : (isAgg 108).run Try.prog w = .ok true w := by unfold isAgg; rw [Sem.run_bind, run_underlying Try.underlying108 w]; rfl
theorem iszJob : (Try.prog.info? 108).map (·.size) = some 9 := by kernel_rfl
set_option maxRecDepth 100000 in
set_option maxHeartbeats 1000000 in
theorem putListJob_any {α : Type} (c : Cod α) (El : (Nat → Prop) → α → Array Value → World → Prop) (hE : Held El 9) (W : World) (F : Nat → Prop) (hF : ∀ g, F g → g < W.heap.size) (hp : Puts W c El F 89)
    (u : World) (b : Value) (zs : List Int) (xs : List α) (v : Value) (hB : Below W.heap.size W u) (hb : Fresh W b) (hm : Mine u b zs) (hx : ListAt 9 El F xs v W) (ho : (list c).ok xs) (hg : Good c) (hl : zs.length + ((list c).put xs).length ≤ 140737488355328) :
    Calls Try.prog 88 #[b, v, .func (.func 89) #[] #[]] u (Putted b u (zs ++ (list c).put xs)) := by
  obtain ⟨a, cap, ys, rfl, rfl, hel, hcell, _⟩ := hx
  obtain ⟨o1, o2⟩ := ho
  have hfl := flat_len hg (ys.map Prod.fst)
  rw [list_put, List.length_append] at hl
  rw [list_put, ← List.append_assoc]
  rw [List.length_map] at *
  have c1 := putNumber_any u b zs ys.length hm o1 (by omega)
  have hn : ys.length ≤ 140737488355328 := by omega
  have HL : Hid ((zs ++ num ys.length).length + ((ys.map Prod.fst).flatMap c.put).length ≤ 140737488355328) := by rw [List.length_append]; show _ + _ + _ ≤ _; omega
  have HP := fun k h => flat_part c ys k h
  generalize hZ : zs ++ num ys.length = Z at *
  clear hZ o1 hl hfl
  obtain ⟨n, hN⟩ : ∃ n, ys.length = n := ⟨_, rfl⟩
  have HN : Hid (ys.length = n) := hN
  rw [hN] at c1 hn ⊢
  clear hN
  go_enter Try.func88, Try.ntmps88
  go_wp2_with (go_at_call 75; refine c1.mono ?_; rintro e w1 ⟨b1, rfl, m1, g1⟩)
  go_loopw [0, 15] (fun b' i wr => ∃ (k : Nat), k ≤ n ∧ i = .int .i64 k ∧ Mine wr b' (Z ++ ((ys.take k).map Prod.fst).flatMap c.put) ∧ Goes b u b' wr) (fun _ i _ => n - (intOf i).toNat)
  case atStart => exact ⟨0, Nat.zero_le _, rfl, by simpa using m1, g1⟩
  case round =>
    obtain ⟨k, hk, rfl, m2, g2⟩ := hrel
    by_cases hlt : k < n
    · have hlt' : k < ys.length := by rw [HN.out]; exact hlt
      obtain ⟨p, rfl, hpF, hpc⟩ := hcell k hlt'
      have hq := HP k hlt'
      have HS : Hid (((ys.take (k + 1)).map Prod.fst).flatMap c.put = ((ys.take k).map Prod.fst).flatMap c.put ++ c.put (ys[k]'hlt').1) := flat_snoc c ys k hlt'
      have hy := hel _ (List.getElem_mem hlt')
      have hok := o2 _ (List.mem_map.2 ⟨_, List.getElem_mem hlt', rfl⟩)
      generalize hyk : ys[k]'hlt' = y at *
      obtain ⟨x, cs⟩ := y
      have bW : Below W.heap.size W wr := Goes.below_of hB g2 hb
      have hcs := hE.size hy
      have hc1 := hE.one hy
      have hrd : ∀ j v, cs[j]? = some v → wr.cell? ((p.add (k * 9)).add j) = some v := fun j v hj => by
        rw [add_add, bW.cell (by rw [block_add]; exact hF _ hpF)]; exact hpc j v hj
      have cP := hp ((wr.alloc (.cells #[.int .i64 0, .int .i64 0, .int .i64 0, .int .i64 0, .int .i64 0, .int .i64 0, .int .i64 0, .int .i64 0, .int .i64 0] 108)).setRow wr.heap.size cs) u0 _ x cs (below_row (bW.alloc bW.size _) bW.size cs) (hb.goes hB g2) (m2.setNew _ cs) hy hok (by rw [List.length_append]; have := HL.out; simp only at hq ⊢; omega)
      rw [List.append_assoc, ← HS.out] at cP
      clear hq hyk HP hel hcell hlt'
      go_wp2_with (first
        | (go_at_call 89; refine cP.mono ?_; rintro e w3 ⟨b3, rfl, m3, g3⟩)
        | (refine wpList_load_at rfl 108 (.tmp 17) rfl (p.add (k * 9)) rfl cs hrd (aggJob _) (by rw [hcs]; exact iszJob) ?_)
        | (refine wpList_store_row rfl 108 (.tmp 8) (.tmp 18) rfl wr.heap.size cs rfl rfl 108 #[.int .i64 0, .int .i64 0, .int .i64 0, .int .i64 0, .int .i64 0, .int .i64 0, .int .i64 0, .int .i64 0, .int .i64 0] (heap_alloc_new wr _) (by rw [hcs]; exact iszJob) (by rw [hcs]; rfl) hc1 ?_)
        | (refine wpList_load_row rfl 108 (.tmp 8) rfl wr.heap.size rfl 108 cs (0, 0) _ (setRow_heap (wr.alloc (.cells #[.int .i64 0, .int .i64 0, .int .i64 0, .int .i64 0, .int .i64 0, .int .i64 0, .int .i64 0, .int .i64 0, .int .i64 0] 108)) _ _ cs _ _ (heap_alloc_new wr _)) Try.underlying108 rfl (by rw [hcs]; exact iszJob) ?_))
      go_roundw
      case rel => exact ⟨k + 1, by omega, by go_num, m3, (g2.setNew _ cs).trans g3⟩
      case measure => simp [intOf]; omega
    · obtain rfl : k = n := by omega
      rw [List.take_of_length_le (by rw [HN.out]; omega)] at m2
      go_wp2
      go_ret
      exact ⟨_, rfl, m2, g2⟩
end Go.Proofs.Ythdgpadakmdlkaa.Codec
