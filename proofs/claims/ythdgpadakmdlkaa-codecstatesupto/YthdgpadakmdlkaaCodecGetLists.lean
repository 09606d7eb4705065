/-
  Lists that are read, item by item.
-/
import Derived.Test.YthdgpadakmdlkaaCodecGetItems
namespace Go.Proofs.Ythdgpadakmdlkaa.Codec
set_option linter.unusedVariables false
set_option linter.unusedSimpArgs false
open Go Go.RowKit
theorem infMove : (Try.prog.info? 42).map (fun i => (i.zero, i.size, i.bytes)) = some (some (.agg #[.int .i64 0, .int .i64 0, .int .i64 0, .int .i64 0, .int .i64 0, .bool false, .int .i64 0, .int .i64 0, .bool false, .int .i64 0, .int .i64 0]), 11, 88) := by kernel_rfl
set_option maxRecDepth 100000 in
set_option maxHeartbeats 1000000 in
theorem listMove_any {α : Type} (M : Nat) (hM24 : M ≤ 16777216) (c : Cod α) (hc : Good c) (El : (Nat → Prop) → α → Array Value → World → Prop) (hE : Held El 11) (hi : Item M c El 101)
    (u : World) (R X : Nat) (a : Option Addr) (cap : Nat) (zs : List Int) (k : Nat) (hM : zs.length ≤ M) (hu0 : Rd u R a cap zs k) (hX : u.cell? ⟨X, 0, none⟩ = some (.pointer (some ⟨R, 0, none⟩))) :
    Calls Try.prog 100 #[.pointer (some ⟨R, 0, none⟩), .func (.func 101) #[] #[.pointer (some ⟨X, 0, none⟩)]] u (GotList 11 c El u R a cap zs k) := by
  obtain ⟨i0, hi0, hz0, hz1, hz2⟩ := info_parts infMove
  have gU := giveUp_any
  unfold gaveUp at gU
  have hR := hu0.lt
  have hXR := rd_apart hu0 hX
  have hXl := World.block_lt_of_cell? u _ hX
  simp only at hXl
  have cN := num_flat u R a cap zs k hu0
  go_enter Try.func100, Try.ntmps100
  go_wp2_with (first
    | (go_at_call 68; refine cN.mono ?_; rintro e w1 (⟨n, k1, q1, l1, o1, rfl, r1, g1⟩ | ⟨q1, rfl, g1⟩); rcases Int.lt_or_le n 0 with hneg | hpos; rotate_left; (obtain ⟨N, rfl⟩ := Int.eq_ofNat_of_zero_le hpos))
    | (go_at_call 66; refine (left_any _ R a cap zs k1 r1).mono ?_; rintro e w2 ⟨rfl, m, rfl⟩; generalize hD : zs.length - k1 = D; rcases Nat.lt_or_ge D N with hbig | hfit)
    | (go_at_call 67; refine (gU _).mono ?_; rintro e w3 ⟨rfl, rfl⟩))
  · exact ⟨rfl, Or.inr ⟨list_bad q1 (Or.inr (by rw [List.length_drop]; omega)), rfl, g1.trans (grown_drewN _ _ _)⟩⟩
  · have hfit' : N ≤ (zs.drop k1).length := by rw [List.length_drop]; omega
    have HG : Hid ((list c).get (zs.drop k) = getN c N (zs.drop k1)) := list_good q1 hfit'
    have hN : N ≤ 16777216 := by have := hfit'; rw [List.length_drop] at this; omega
    have ST : Hid (Midway 11 42 c El u R a cap zs k1 N (.slice none 0 0) 0 (w1.drewN m) k1 [] (fun _ => False)) := Midway.start (r1.drewN m) (g1.trans (grown_drewN _ _ _))
    have hd : decide (D < N) = false := decide_eq_false (by omega)
    have hd2 : decide ((N : Int) < 0) = false := decide_eq_false (by omega)
    simp only [hd, hd2, Bool.or_self]
    clear hfit hfit' hD q1 hd hd2
    go_loopw [6, 19] (fun v i wr => ∃ (j ki : Nat) (ys : List (α × Array Value)) (F : Nat → Prop), i = .int .i64 j ∧ j ≤ N ∧ Hid (Midway 11 42 c El u R a cap zs k1 N v j wr ki ys F)) (fun _ i _ => N - (intOf i).toNat)
    case atStart => exact ⟨0, k1, [], fun _ => False, rfl, Nat.zero_le _, ST⟩
    case round =>
      clear ST
      obtain ⟨j, ki, ys, F, rfl, hj, HM⟩ := hrel
      by_cases hlt : j < N
      · have mid := HM.out
        have cI := hi wr R X a cap zs ki hM mid.rd ((mid.gr.cell_far ⟨X, 0, none⟩ hXl (fun e => hXR (Option.some.inj e))).trans hX)
        clear mid
        go_wp2_with (first
          | (go_at_call 101; refine cI.mono ?_; rintro e w2 (⟨x, cs, k2, F2, q2, l2, o2, rfl, e2, f2, r2, g2⟩ | ⟨q2, rfl, g2⟩); (have hfold := fold_cells #[.int .i64 0, .int .i64 0, .int .i64 0, .int .i64 0, .int .i64 0, .bool false, .int .i64 0, .int .i64 0, .bool false, .int .i64 0, .int .i64 0] cs (by rw [hE.size e2]; rfl); have hcs := hE.size e2; rw [hcs] at hfold))
          | (at_builtin; (refine wpList_append_own_at _ rfl (.tmp 21) (.tmp 24) 26 rfl 0 42 i0 (.agg #[.int .i64 0, .int .i64 0, .int .i64 0, .int .i64 0, .int .i64 0, .bool false, .int .i64 0, .int .i64 0, .bool false, .int .i64 0, .int .i64 0]) 11 88 Try.underlying26 hi0 hz0 hz1 hz2 rfl (by decide) u6 j (rowOf ys) rfl (HM.out.own_item g2 hR _) ⟨w2.heap.size, 0, none⟩ 1 1 cs.toList rfl (by rw [Array.length_toList, hE.size e2]) (news_new w2 cs _) (one_list (hE.one e2)) (by unfold maxLen; omega) (by omega) (Nat.zero_le _) ?_; intro v3 w3 own3 g3 n3 at3)))
        · go_roundw
          case rel => exact ⟨j + 1, k2, ys ++ [(x, cs)], _, by go_num, by omega, HM.out.next hE hu0 hlt q2 l2 o2 e2 f2 r2 g2 own3 g3 at3⟩
          case measure => simp [intOf]; omega
        · exact ⟨rfl, Or.inr ⟨HG.out.trans (HM.out.stop hlt q2), rfl, HM.out.gr.trans g2⟩⟩
      · obtain rfl : j = N := by omega
        go_wp2
        go_ret
        exact HM.out.done hc hE rfl l1 HG.out
  · exact ⟨rfl, Or.inr ⟨list_num_none q1, rfl, g1⟩⟩
  · exact ⟨rfl, Or.inr ⟨list_bad q1 (Or.inl hneg), rfl, g1⟩⟩
theorem infStack : (Try.prog.info? 99).map (fun i => (i.zero, i.size, i.bytes)) = some (some (.agg #[.int .i64 0, .int .i64 0, .slice none 0 0]), 3, 40) := by kernel_rfl
set_option maxRecDepth 100000 in
set_option maxHeartbeats 1000000 in
theorem listStack_any {α : Type} (M : Nat) (hM24 : M ≤ 16777216) (c : Cod α) (hc : Good c) (El : (Nat → Prop) → α → Array Value → World → Prop) (hE : Held El 3) (hi : Item M c El 106)
    (u : World) (R X : Nat) (a : Option Addr) (cap : Nat) (zs : List Int) (k : Nat) (hM : zs.length ≤ M) (hu0 : Rd u R a cap zs k) (hX : u.cell? ⟨X, 0, none⟩ = some (.pointer (some ⟨R, 0, none⟩))) :
    Calls Try.prog 105 #[.pointer (some ⟨R, 0, none⟩), .func (.func 106) #[] #[.pointer (some ⟨X, 0, none⟩)]] u (GotList 3 c El u R a cap zs k) := by
  obtain ⟨i0, hi0, hz0, hz1, hz2⟩ := info_parts infStack
  have gU := giveUp_any
  unfold gaveUp at gU
  have hR := hu0.lt
  have hXR := rd_apart hu0 hX
  have hXl := World.block_lt_of_cell? u _ hX
  simp only at hXl
  have cN := num_flat u R a cap zs k hu0
  go_enter Try.func105, Try.ntmps105
  go_wp2_with (first
    | (go_at_call 68; refine cN.mono ?_; rintro e w1 (⟨n, k1, q1, l1, o1, rfl, r1, g1⟩ | ⟨q1, rfl, g1⟩); rcases Int.lt_or_le n 0 with hneg | hpos; rotate_left; (obtain ⟨N, rfl⟩ := Int.eq_ofNat_of_zero_le hpos))
    | (go_at_call 66; refine (left_any _ R a cap zs k1 r1).mono ?_; rintro e w2 ⟨rfl, m, rfl⟩; generalize hD : zs.length - k1 = D; rcases Nat.lt_or_ge D N with hbig | hfit)
    | (go_at_call 67; refine (gU _).mono ?_; rintro e w3 ⟨rfl, rfl⟩))
  · exact ⟨rfl, Or.inr ⟨list_bad q1 (Or.inr (by rw [List.length_drop]; omega)), rfl, g1.trans (grown_drewN _ _ _)⟩⟩
  · have hfit' : N ≤ (zs.drop k1).length := by rw [List.length_drop]; omega
    have HG : Hid ((list c).get (zs.drop k) = getN c N (zs.drop k1)) := list_good q1 hfit'
    have hN : N ≤ 16777216 := by have := hfit'; rw [List.length_drop] at this; omega
    have ST : Hid (Midway 3 99 c El u R a cap zs k1 N (.slice none 0 0) 0 (w1.drewN m) k1 [] (fun _ => False)) := Midway.start (r1.drewN m) (g1.trans (grown_drewN _ _ _))
    have hd : decide (D < N) = false := decide_eq_false (by omega)
    have hd2 : decide ((N : Int) < 0) = false := decide_eq_false (by omega)
    simp only [hd, hd2, Bool.or_self]
    clear hfit hfit' hD q1 hd hd2
    go_loopw [6, 19] (fun v i wr => ∃ (j ki : Nat) (ys : List (α × Array Value)) (F : Nat → Prop), i = .int .i64 j ∧ j ≤ N ∧ Hid (Midway 3 99 c El u R a cap zs k1 N v j wr ki ys F)) (fun _ i _ => N - (intOf i).toNat)
    case atStart => exact ⟨0, k1, [], fun _ => False, rfl, Nat.zero_le _, ST⟩
    case round =>
      clear ST
      obtain ⟨j, ki, ys, F, rfl, hj, HM⟩ := hrel
      by_cases hlt : j < N
      · have mid := HM.out
        have cI := hi wr R X a cap zs ki hM mid.rd ((mid.gr.cell_far ⟨X, 0, none⟩ hXl (fun e => hXR (Option.some.inj e))).trans hX)
        clear mid
        go_wp2_with (first
          | (go_at_call 106; refine cI.mono ?_; rintro e w2 (⟨x, cs, k2, F2, q2, l2, o2, rfl, e2, f2, r2, g2⟩ | ⟨q2, rfl, g2⟩); (have hfold := fold_cells #[.int .i64 0, .int .i64 0, .slice none 0 0] cs (by rw [hE.size e2]; rfl); have hcs := hE.size e2; rw [hcs] at hfold))
          | (at_builtin; (refine wpList_append_own_at _ rfl (.tmp 21) (.tmp 24) 51 rfl 0 99 i0 (.agg #[.int .i64 0, .int .i64 0, .slice none 0 0]) 3 40 Try.underlying51 hi0 hz0 hz1 hz2 rfl (by decide) u6 j (rowOf ys) rfl (HM.out.own_item g2 hR _) ⟨w2.heap.size, 0, none⟩ 1 1 cs.toList rfl (by rw [Array.length_toList, hE.size e2]) (news_new w2 cs _) (one_list (hE.one e2)) (by unfold maxLen; omega) (by omega) (Nat.zero_le _) ?_; intro v3 w3 own3 g3 n3 at3)))
        · go_roundw
          case rel => exact ⟨j + 1, k2, ys ++ [(x, cs)], _, by go_num, by omega, HM.out.next hE hu0 hlt q2 l2 o2 e2 f2 r2 g2 own3 g3 at3⟩
          case measure => simp [intOf]; omega
        · exact ⟨rfl, Or.inr ⟨HG.out.trans (HM.out.stop hlt q2), rfl, HM.out.gr.trans g2⟩⟩
      · obtain rfl : j = N := by omega
        go_wp2
        go_ret
        exact HM.out.done hc hE rfl l1 HG.out
  · exact ⟨rfl, Or.inr ⟨list_num_none q1, rfl, g1⟩⟩
  · exact ⟨rfl, Or.inr ⟨list_bad q1 (Or.inl hneg), rfl, g1⟩⟩
theorem infRobot : (Try.prog.info? 101).map (fun i => (i.zero, i.size, i.bytes)) = some (some (.agg #[.int .i64 0, .int .i64 0, .bool false, .int .i64 0, .int .i64 0, .slice none 0 0, .bool false, .int .i64 0, .bool false]), 9, 88) := by kernel_rfl
set_option maxRecDepth 100000 in
set_option maxHeartbeats 1000000 in
theorem listRobot_any {α : Type} (M : Nat) (hM24 : M ≤ 16777216) (c : Cod α) (hc : Good c) (El : (Nat → Prop) → α → Array Value → World → Prop) (hE : Held El 9) (hi : Item M c El 109)
    (u : World) (R X : Nat) (a : Option Addr) (cap : Nat) (zs : List Int) (k : Nat) (hM : zs.length ≤ M) (hu0 : Rd u R a cap zs k) (hX : u.cell? ⟨X, 0, none⟩ = some (.pointer (some ⟨R, 0, none⟩))) :
    Calls Try.prog 108 #[.pointer (some ⟨R, 0, none⟩), .func (.func 109) #[] #[.pointer (some ⟨X, 0, none⟩)]] u (GotList 9 c El u R a cap zs k) := by
  obtain ⟨i0, hi0, hz0, hz1, hz2⟩ := info_parts infRobot
  have gU := giveUp_any
  unfold gaveUp at gU
  have hR := hu0.lt
  have hXR := rd_apart hu0 hX
  have hXl := World.block_lt_of_cell? u _ hX
  simp only at hXl
  have cN := num_flat u R a cap zs k hu0
  go_enter Try.func108, Try.ntmps108
  go_wp2_with (first
    | (go_at_call 68; refine cN.mono ?_; rintro e w1 (⟨n, k1, q1, l1, o1, rfl, r1, g1⟩ | ⟨q1, rfl, g1⟩); rcases Int.lt_or_le n 0 with hneg | hpos; rotate_left; (obtain ⟨N, rfl⟩ := Int.eq_ofNat_of_zero_le hpos))
    | (go_at_call 66; refine (left_any _ R a cap zs k1 r1).mono ?_; rintro e w2 ⟨rfl, m, rfl⟩; generalize hD : zs.length - k1 = D; rcases Nat.lt_or_ge D N with hbig | hfit)
    | (go_at_call 67; refine (gU _).mono ?_; rintro e w3 ⟨rfl, rfl⟩))
  · exact ⟨rfl, Or.inr ⟨list_bad q1 (Or.inr (by rw [List.length_drop]; omega)), rfl, g1.trans (grown_drewN _ _ _)⟩⟩
  · have hfit' : N ≤ (zs.drop k1).length := by rw [List.length_drop]; omega
    have HG : Hid ((list c).get (zs.drop k) = getN c N (zs.drop k1)) := list_good q1 hfit'
    have hN : N ≤ 16777216 := by have := hfit'; rw [List.length_drop] at this; omega
    have ST : Hid (Midway 9 101 c El u R a cap zs k1 N (.slice none 0 0) 0 (w1.drewN m) k1 [] (fun _ => False)) := Midway.start (r1.drewN m) (g1.trans (grown_drewN _ _ _))
    have hd : decide (D < N) = false := decide_eq_false (by omega)
    have hd2 : decide ((N : Int) < 0) = false := decide_eq_false (by omega)
    simp only [hd, hd2, Bool.or_self]
    clear hfit hfit' hD q1 hd hd2
    go_loopw [6, 19] (fun v i wr => ∃ (j ki : Nat) (ys : List (α × Array Value)) (F : Nat → Prop), i = .int .i64 j ∧ j ≤ N ∧ Hid (Midway 9 101 c El u R a cap zs k1 N v j wr ki ys F)) (fun _ i _ => N - (intOf i).toNat)
    case atStart => exact ⟨0, k1, [], fun _ => False, rfl, Nat.zero_le _, ST⟩
    case round =>
      clear ST
      obtain ⟨j, ki, ys, F, rfl, hj, HM⟩ := hrel
      by_cases hlt : j < N
      · have mid := HM.out
        have cI := hi wr R X a cap zs ki hM mid.rd ((mid.gr.cell_far ⟨X, 0, none⟩ hXl (fun e => hXR (Option.some.inj e))).trans hX)
        clear mid
        go_wp2_with (first
          | (go_at_call 109; refine cI.mono ?_; rintro e w2 (⟨x, cs, k2, F2, q2, l2, o2, rfl, e2, f2, r2, g2⟩ | ⟨q2, rfl, g2⟩); (have hfold := fold_cells #[.int .i64 0, .int .i64 0, .bool false, .int .i64 0, .int .i64 0, .slice none 0 0, .bool false, .int .i64 0, .bool false] cs (by rw [hE.size e2]; rfl); have hcs := hE.size e2; rw [hcs] at hfold))
          | (at_builtin; (refine wpList_append_own_at _ rfl (.tmp 21) (.tmp 24) 52 rfl 0 101 i0 (.agg #[.int .i64 0, .int .i64 0, .bool false, .int .i64 0, .int .i64 0, .slice none 0 0, .bool false, .int .i64 0, .bool false]) 9 88 Try.underlying52 hi0 hz0 hz1 hz2 rfl (by decide) u6 j (rowOf ys) rfl (HM.out.own_item g2 hR _) ⟨w2.heap.size, 0, none⟩ 1 1 cs.toList rfl (by rw [Array.length_toList, hE.size e2]) (news_new w2 cs _) (one_list (hE.one e2)) (by unfold maxLen; omega) (by omega) (Nat.zero_le _) ?_; intro v3 w3 own3 g3 n3 at3)))
        · go_roundw
          case rel => exact ⟨j + 1, k2, ys ++ [(x, cs)], _, by go_num, by omega, HM.out.next hE hu0 hlt q2 l2 o2 e2 f2 r2 g2 own3 g3 at3⟩
          case measure => simp [intOf]; omega
        · exact ⟨rfl, Or.inr ⟨HG.out.trans (HM.out.stop hlt q2), rfl, HM.out.gr.trans g2⟩⟩
      · obtain rfl : j = N := by omega
        go_wp2
        go_ret
        exact HM.out.done hc hE rfl l1 HG.out
  · exact ⟨rfl, Or.inr ⟨list_num_none q1, rfl, g1⟩⟩
  · exact ⟨rfl, Or.inr ⟨list_bad q1 (Or.inl hneg), rfl, g1⟩⟩
theorem infPort : (Try.prog.info? 104).map (fun i => (i.zero, i.size, i.bytes)) = some (some (.agg #[.int .i64 0, .int .i64 0, .slice none 0 0]), 3, 40) := by kernel_rfl
set_option maxRecDepth 100000 in
set_option maxHeartbeats 1000000 in
theorem listPort_any {α : Type} (M : Nat) (hM24 : M ≤ 16777216) (c : Cod α) (hc : Good c) (El : (Nat → Prop) → α → Array Value → World → Prop) (hE : Held El 3) (hi : Item M c El 111)
    (u : World) (R X : Nat) (a : Option Addr) (cap : Nat) (zs : List Int) (k : Nat) (hM : zs.length ≤ M) (hu0 : Rd u R a cap zs k) (hX : u.cell? ⟨X, 0, none⟩ = some (.pointer (some ⟨R, 0, none⟩))) :
    Calls Try.prog 110 #[.pointer (some ⟨R, 0, none⟩), .func (.func 111) #[] #[.pointer (some ⟨X, 0, none⟩)]] u (GotList 3 c El u R a cap zs k) := by
  obtain ⟨i0, hi0, hz0, hz1, hz2⟩ := info_parts infPort
  have gU := giveUp_any
  unfold gaveUp at gU
  have hR := hu0.lt
  have hXR := rd_apart hu0 hX
  have hXl := World.block_lt_of_cell? u _ hX
  simp only at hXl
  have cN := num_flat u R a cap zs k hu0
  go_enter Try.func110, Try.ntmps110
  go_wp2_with (first
    | (go_at_call 68; refine cN.mono ?_; rintro e w1 (⟨n, k1, q1, l1, o1, rfl, r1, g1⟩ | ⟨q1, rfl, g1⟩); rcases Int.lt_or_le n 0 with hneg | hpos; rotate_left; (obtain ⟨N, rfl⟩ := Int.eq_ofNat_of_zero_le hpos))
    | (go_at_call 66; refine (left_any _ R a cap zs k1 r1).mono ?_; rintro e w2 ⟨rfl, m, rfl⟩; generalize hD : zs.length - k1 = D; rcases Nat.lt_or_ge D N with hbig | hfit)
    | (go_at_call 67; refine (gU _).mono ?_; rintro e w3 ⟨rfl, rfl⟩))
  · exact ⟨rfl, Or.inr ⟨list_bad q1 (Or.inr (by rw [List.length_drop]; omega)), rfl, g1.trans (grown_drewN _ _ _)⟩⟩
  · have hfit' : N ≤ (zs.drop k1).length := by rw [List.length_drop]; omega
    have HG : Hid ((list c).get (zs.drop k) = getN c N (zs.drop k1)) := list_good q1 hfit'
    have hN : N ≤ 16777216 := by have := hfit'; rw [List.length_drop] at this; omega
    have ST : Hid (Midway 3 104 c El u R a cap zs k1 N (.slice none 0 0) 0 (w1.drewN m) k1 [] (fun _ => False)) := Midway.start (r1.drewN m) (g1.trans (grown_drewN _ _ _))
    have hd : decide (D < N) = false := decide_eq_false (by omega)
    have hd2 : decide ((N : Int) < 0) = false := decide_eq_false (by omega)
    simp only [hd, hd2, Bool.or_self]
    clear hfit hfit' hD q1 hd hd2
    go_loopw [6, 19] (fun v i wr => ∃ (j ki : Nat) (ys : List (α × Array Value)) (F : Nat → Prop), i = .int .i64 j ∧ j ≤ N ∧ Hid (Midway 3 104 c El u R a cap zs k1 N v j wr ki ys F)) (fun _ i _ => N - (intOf i).toNat)
    case atStart => exact ⟨0, k1, [], fun _ => False, rfl, Nat.zero_le _, ST⟩
    case round =>
      clear ST
      obtain ⟨j, ki, ys, F, rfl, hj, HM⟩ := hrel
      by_cases hlt : j < N
      · have mid := HM.out
        have cI := hi wr R X a cap zs ki hM mid.rd ((mid.gr.cell_far ⟨X, 0, none⟩ hXl (fun e => hXR (Option.some.inj e))).trans hX)
        clear mid
        go_wp2_with (first
          | (go_at_call 111; refine cI.mono ?_; rintro e w2 (⟨x, cs, k2, F2, q2, l2, o2, rfl, e2, f2, r2, g2⟩ | ⟨q2, rfl, g2⟩); (have hfold := fold_cells #[.int .i64 0, .int .i64 0, .slice none 0 0] cs (by rw [hE.size e2]; rfl); have hcs := hE.size e2; rw [hcs] at hfold))
          | (at_builtin; (refine wpList_append_own_at _ rfl (.tmp 21) (.tmp 24) 53 rfl 0 104 i0 (.agg #[.int .i64 0, .int .i64 0, .slice none 0 0]) 3 40 Try.underlying53 hi0 hz0 hz1 hz2 rfl (by decide) u6 j (rowOf ys) rfl (HM.out.own_item g2 hR _) ⟨w2.heap.size, 0, none⟩ 1 1 cs.toList rfl (by rw [Array.length_toList, hE.size e2]) (news_new w2 cs _) (one_list (hE.one e2)) (by unfold maxLen; omega) (by omega) (Nat.zero_le _) ?_; intro v3 w3 own3 g3 n3 at3)))
        · go_roundw
          case rel => exact ⟨j + 1, k2, ys ++ [(x, cs)], _, by go_num, by omega, HM.out.next hE hu0 hlt q2 l2 o2 e2 f2 r2 g2 own3 g3 at3⟩
          case measure => simp [intOf]; omega
        · exact ⟨rfl, Or.inr ⟨HG.out.trans (HM.out.stop hlt q2), rfl, HM.out.gr.trans g2⟩⟩
      · obtain rfl : j = N := by omega
        go_wp2
        go_ret
        exact HM.out.done hc hE rfl l1 HG.out
  · exact ⟨rfl, Or.inr ⟨list_num_none q1, rfl, g1⟩⟩
  · exact ⟨rfl, Or.inr ⟨list_bad q1 (Or.inl hneg), rfl, g1⟩⟩
theorem infOrder : (Try.prog.info? 106).map (fun i => (i.zero, i.size, i.bytes)) = some (some (.agg #[.int .i64 0, .int .i64 0, .int .i64 0, .int .i64 0]), 4, 32) := by kernel_rfl
set_option maxRecDepth 100000 in
set_option maxHeartbeats 1000000 in
theorem listOrder_any {α : Type} (M : Nat) (hM24 : M ≤ 16777216) (c : Cod α) (hc : Good c) (El : (Nat → Prop) → α → Array Value → World → Prop) (hE : Held El 4) (hi : Item M c El 113)
    (u : World) (R X : Nat) (a : Option Addr) (cap : Nat) (zs : List Int) (k : Nat) (hM : zs.length ≤ M) (hu0 : Rd u R a cap zs k) (hX : u.cell? ⟨X, 0, none⟩ = some (.pointer (some ⟨R, 0, none⟩))) :
    Calls Try.prog 112 #[.pointer (some ⟨R, 0, none⟩), .func (.func 113) #[] #[.pointer (some ⟨X, 0, none⟩)]] u (GotList 4 c El u R a cap zs k) := by
  obtain ⟨i0, hi0, hz0, hz1, hz2⟩ := info_parts infOrder
  have gU := giveUp_any
  unfold gaveUp at gU
  have hR := hu0.lt
  have hXR := rd_apart hu0 hX
  have hXl := World.block_lt_of_cell? u _ hX
  simp only at hXl
  have cN := num_flat u R a cap zs k hu0
  go_enter Try.func112, Try.ntmps112
  go_wp2_with (first
    | (go_at_call 68; refine cN.mono ?_; rintro e w1 (⟨n, k1, q1, l1, o1, rfl, r1, g1⟩ | ⟨q1, rfl, g1⟩); rcases Int.lt_or_le n 0 with hneg | hpos; rotate_left; (obtain ⟨N, rfl⟩ := Int.eq_ofNat_of_zero_le hpos))
    | (go_at_call 66; refine (left_any _ R a cap zs k1 r1).mono ?_; rintro e w2 ⟨rfl, m, rfl⟩; generalize hD : zs.length - k1 = D; rcases Nat.lt_or_ge D N with hbig | hfit)
    | (go_at_call 67; refine (gU _).mono ?_; rintro e w3 ⟨rfl, rfl⟩))
  · exact ⟨rfl, Or.inr ⟨list_bad q1 (Or.inr (by rw [List.length_drop]; omega)), rfl, g1.trans (grown_drewN _ _ _)⟩⟩
  · have hfit' : N ≤ (zs.drop k1).length := by rw [List.length_drop]; omega
    have HG : Hid ((list c).get (zs.drop k) = getN c N (zs.drop k1)) := list_good q1 hfit'
    have hN : N ≤ 16777216 := by have := hfit'; rw [List.length_drop] at this; omega
    have ST : Hid (Midway 4 106 c El u R a cap zs k1 N (.slice none 0 0) 0 (w1.drewN m) k1 [] (fun _ => False)) := Midway.start (r1.drewN m) (g1.trans (grown_drewN _ _ _))
    have hd : decide (D < N) = false := decide_eq_false (by omega)
    have hd2 : decide ((N : Int) < 0) = false := decide_eq_false (by omega)
    simp only [hd, hd2, Bool.or_self]
    clear hfit hfit' hD q1 hd hd2
    go_loopw [6, 19] (fun v i wr => ∃ (j ki : Nat) (ys : List (α × Array Value)) (F : Nat → Prop), i = .int .i64 j ∧ j ≤ N ∧ Hid (Midway 4 106 c El u R a cap zs k1 N v j wr ki ys F)) (fun _ i _ => N - (intOf i).toNat)
    case atStart => exact ⟨0, k1, [], fun _ => False, rfl, Nat.zero_le _, ST⟩
    case round =>
      clear ST
      obtain ⟨j, ki, ys, F, rfl, hj, HM⟩ := hrel
      by_cases hlt : j < N
      · have mid := HM.out
        have cI := hi wr R X a cap zs ki hM mid.rd ((mid.gr.cell_far ⟨X, 0, none⟩ hXl (fun e => hXR (Option.some.inj e))).trans hX)
        clear mid
        go_wp2_with (first
          | (go_at_call 113; refine cI.mono ?_; rintro e w2 (⟨x, cs, k2, F2, q2, l2, o2, rfl, e2, f2, r2, g2⟩ | ⟨q2, rfl, g2⟩); (have hfold := fold_cells #[.int .i64 0, .int .i64 0, .int .i64 0, .int .i64 0] cs (by rw [hE.size e2]; rfl); have hcs := hE.size e2; rw [hcs] at hfold))
          | (at_builtin; (refine wpList_append_own_at _ rfl (.tmp 21) (.tmp 24) 54 rfl 0 106 i0 (.agg #[.int .i64 0, .int .i64 0, .int .i64 0, .int .i64 0]) 4 32 Try.underlying54 hi0 hz0 hz1 hz2 rfl (by decide) u6 j (rowOf ys) rfl (HM.out.own_item g2 hR _) ⟨w2.heap.size, 0, none⟩ 1 1 cs.toList rfl (by rw [Array.length_toList, hE.size e2]) (news_new w2 cs _) (one_list (hE.one e2)) (by unfold maxLen; omega) (by omega) (Nat.zero_le _) ?_; intro v3 w3 own3 g3 n3 at3)))
        · go_roundw
          case rel => exact ⟨j + 1, k2, ys ++ [(x, cs)], _, by go_num, by omega, HM.out.next hE hu0 hlt q2 l2 o2 e2 f2 r2 g2 own3 g3 at3⟩
          case measure => simp [intOf]; omega
        · exact ⟨rfl, Or.inr ⟨HG.out.trans (HM.out.stop hlt q2), rfl, HM.out.gr.trans g2⟩⟩
      · obtain rfl : j = N := by omega
        go_wp2
        go_ret
        exact HM.out.done hc hE rfl l1 HG.out
  · exact ⟨rfl, Or.inr ⟨list_num_none q1, rfl, g1⟩⟩
  · exact ⟨rfl, Or.inr ⟨list_bad q1 (Or.inl hneg), rfl, g1⟩⟩
theorem infJob : (Try.prog.info? 108).map (fun i => (i.zero, i.size, i.bytes)) = some (some (.agg #[.int .i64 0, .int .i64 0, .int .i64 0, .int .i64 0, .int .i64 0, .int .i64 0, .int .i64 0, .int .i64 0, .int .i64 0]), 9, 72) := by kernel_rfl
set_option maxRecDepth 100000 in
set_option maxHeartbeats 1000000 in
theorem listJob_any {α : Type} (M : Nat) (hM24 : M ≤ 16777216) (c : Cod α) (hc : Good c) (El : (Nat → Prop) → α → Array Value → World → Prop) (hE : Held El 9) (hi : Item M c El 115)
    (u : World) (R X : Nat) (a : Option Addr) (cap : Nat) (zs : List Int) (k : Nat) (hM : zs.length ≤ M) (hu0 : Rd u R a cap zs k) (hX : u.cell? ⟨X, 0, none⟩ = some (.pointer (some ⟨R, 0, none⟩))) :
    Calls Try.prog 114 #[.pointer (some ⟨R, 0, none⟩), .func (.func 115) #[] #[.pointer (some ⟨X, 0, none⟩)]] u (GotList 9 c El u R a cap zs k) := by
  obtain ⟨i0, hi0, hz0, hz1, hz2⟩ := info_parts infJob
  have gU := giveUp_any
  unfold gaveUp at gU
  have hR := hu0.lt
  have hXR := rd_apart hu0 hX
  have hXl := World.block_lt_of_cell? u _ hX
  simp only at hXl
  have cN := num_flat u R a cap zs k hu0
  go_enter Try.func114, Try.ntmps114
  go_wp2_with (first
    | (go_at_call 68; refine cN.mono ?_; rintro e w1 (⟨n, k1, q1, l1, o1, rfl, r1, g1⟩ | ⟨q1, rfl, g1⟩); rcases Int.lt_or_le n 0 with hneg | hpos; rotate_left; (obtain ⟨N, rfl⟩ := Int.eq_ofNat_of_zero_le hpos))
    | (go_at_call 66; refine (left_any _ R a cap zs k1 r1).mono ?_; rintro e w2 ⟨rfl, m, rfl⟩; generalize hD : zs.length - k1 = D; rcases Nat.lt_or_ge D N with hbig | hfit)
    | (go_at_call 67; refine (gU _).mono ?_; rintro e w3 ⟨rfl, rfl⟩))
  · exact ⟨rfl, Or.inr ⟨list_bad q1 (Or.inr (by rw [List.length_drop]; omega)), rfl, g1.trans (grown_drewN _ _ _)⟩⟩
  · have hfit' : N ≤ (zs.drop k1).length := by rw [List.length_drop]; omega
    have HG : Hid ((list c).get (zs.drop k) = getN c N (zs.drop k1)) := list_good q1 hfit'
    have hN : N ≤ 16777216 := by have := hfit'; rw [List.length_drop] at this; omega
    have ST : Hid (Midway 9 108 c El u R a cap zs k1 N (.slice none 0 0) 0 (w1.drewN m) k1 [] (fun _ => False)) := Midway.start (r1.drewN m) (g1.trans (grown_drewN _ _ _))
    have hd : decide (D < N) = false := decide_eq_false (by omega)
    have hd2 : decide ((N : Int) < 0) = false := decide_eq_false (by omega)
    simp only [hd, hd2, Bool.or_self]
    clear hfit hfit' hD q1 hd hd2
    go_loopw [6, 19] (fun v i wr => ∃ (j ki : Nat) (ys : List (α × Array Value)) (F : Nat → Prop), i = .int .i64 j ∧ j ≤ N ∧ Hid (Midway 9 108 c El u R a cap zs k1 N v j wr ki ys F)) (fun _ i _ => N - (intOf i).toNat)
    case atStart => exact ⟨0, k1, [], fun _ => False, rfl, Nat.zero_le _, ST⟩
    case round =>
      clear ST
      obtain ⟨j, ki, ys, F, rfl, hj, HM⟩ := hrel
      by_cases hlt : j < N
      · have mid := HM.out
        have cI := hi wr R X a cap zs ki hM mid.rd ((mid.gr.cell_far ⟨X, 0, none⟩ hXl (fun e => hXR (Option.some.inj e))).trans hX)
        clear mid
        go_wp2_with (first
          | (go_at_call 115; refine cI.mono ?_; rintro e w2 (⟨x, cs, k2, F2, q2, l2, o2, rfl, e2, f2, r2, g2⟩ | ⟨q2, rfl, g2⟩); (have hfold := fold_cells #[.int .i64 0, .int .i64 0, .int .i64 0, .int .i64 0, .int .i64 0, .int .i64 0, .int .i64 0, .int .i64 0, .int .i64 0] cs (by rw [hE.size e2]; rfl); have hcs := hE.size e2; rw [hcs] at hfold))
          | (at_builtin; (refine wpList_append_own_at _ rfl (.tmp 21) (.tmp 24) 55 rfl 0 108 i0 (.agg #[.int .i64 0, .int .i64 0, .int .i64 0, .int .i64 0, .int .i64 0, .int .i64 0, .int .i64 0, .int .i64 0, .int .i64 0]) 9 72 Try.underlying55 hi0 hz0 hz1 hz2 rfl (by decide) u6 j (rowOf ys) rfl (HM.out.own_item g2 hR _) ⟨w2.heap.size, 0, none⟩ 1 1 cs.toList rfl (by rw [Array.length_toList, hE.size e2]) (news_new w2 cs _) (one_list (hE.one e2)) (by unfold maxLen; omega) (by omega) (Nat.zero_le _) ?_; intro v3 w3 own3 g3 n3 at3)))
        · go_roundw
          case rel => exact ⟨j + 1, k2, ys ++ [(x, cs)], _, by go_num, by omega, HM.out.next hE hu0 hlt q2 l2 o2 e2 f2 r2 g2 own3 g3 at3⟩
          case measure => simp [intOf]; omega
        · exact ⟨rfl, Or.inr ⟨HG.out.trans (HM.out.stop hlt q2), rfl, HM.out.gr.trans g2⟩⟩
      · obtain rfl : j = N := by omega
        go_wp2
        go_ret
        exact HM.out.done hc hE rfl l1 HG.out
  · exact ⟨rfl, Or.inr ⟨list_num_none q1, rfl, g1⟩⟩
  · exact ⟨rfl, Or.inr ⟨list_bad q1 (Or.inl hneg), rfl, g1⟩⟩
set_option maxHeartbeats 1000000 in
theorem intItem_any (u : World) (R X : Nat) (a : Option Addr) (cap : Nat) (zs : List Int) (k : Nat) (h : Rd u R a cap zs k) (hX : u.cell? ⟨X, 0, none⟩ = some (.pointer (some ⟨R, 0, none⟩))) :
    Calls Try.prog 118 #[.pointer (some ⟨X, 0, none⟩)] u fun e w' =>
      (∃ x k', cNum.get (zs.drop k) = some (x, zs.drop k') ∧ k < k' ∧ cNum.ok x ∧ e = .returned (.int .i64 x) ∧ Rd w' R a cap zs k' ∧ u.grownBy w' (some R)) ∨
      (cNum.get (zs.drop k) = none ∧ e = .panicked [{ v := .iface 32 (.int .i64 4), recovered := false }] ∧ u.grownBy w' (some R)) := by
  have cN := num_flat u R a cap zs k h
  go_enter Try.func118, Try.ntmps118
  go_wp2_with (go_at_call 68; refine cN.mono ?_; rintro e w1 (⟨n, k1, q1, l1, o1, rfl, r1, g1⟩ | ⟨q1, rfl, g1⟩))
  · go_ret
    exact Or.inl ⟨n, k1, q1, l1, o1, rfl, r1, g1⟩
  · exact ⟨rfl, Or.inr ⟨q1, rfl, g1⟩⟩
theorem infInt : (Try.prog.info? 3).map (fun i => (i.zero, i.size, i.bytes)) = some (some (.int .i64 0), 1, 8) := by kernel_rfl
set_option maxRecDepth 100000 in
set_option maxHeartbeats 1000000 in
theorem listInt_any (M : Nat) (hM24 : M ≤ 16777216)
    (u : World) (R X : Nat) (a : Option Addr) (cap : Nat) (zs : List Int) (k : Nat) (hM : zs.length ≤ M) (hu0 : Rd u R a cap zs k) (hX : u.cell? ⟨X, 0, none⟩ = some (.pointer (some ⟨R, 0, none⟩))) :
    Calls Try.prog 117 #[.pointer (some ⟨R, 0, none⟩), .func (.func 118) #[] #[.pointer (some ⟨X, 0, none⟩)]] u (GotList 1 cNum intEl u R a cap zs k) := by
  obtain ⟨i0, hi0, hz0, hz1, hz2⟩ := info_parts infInt
  have gU := giveUp_any
  unfold gaveUp at gU
  have hR := hu0.lt
  have hXR := rd_apart hu0 hX
  have hXl := World.block_lt_of_cell? u _ hX
  simp only at hXl
  have cN := num_flat u R a cap zs k hu0
  go_enter Try.func117, Try.ntmps117
  go_wp2_with (first
    | (go_at_call 68; refine cN.mono ?_; rintro e w1 (⟨n, k1, q1, l1, o1, rfl, r1, g1⟩ | ⟨q1, rfl, g1⟩); rcases Int.lt_or_le n 0 with hneg | hpos; rotate_left; (obtain ⟨N, rfl⟩ := Int.eq_ofNat_of_zero_le hpos))
    | (go_at_call 66; refine (left_any _ R a cap zs k1 r1).mono ?_; rintro e w2 ⟨rfl, m, rfl⟩; generalize hD : zs.length - k1 = D; rcases Nat.lt_or_ge D N with hbig | hfit)
    | (go_at_call 67; refine (gU _).mono ?_; rintro e w3 ⟨rfl, rfl⟩))
  · exact ⟨rfl, Or.inr ⟨list_bad q1 (Or.inr (by rw [List.length_drop]; omega)), rfl, g1.trans (grown_drewN _ _ _)⟩⟩
  · have hfit' : N ≤ (zs.drop k1).length := by rw [List.length_drop]; omega
    have HG : Hid ((list cNum).get (zs.drop k) = getN cNum N (zs.drop k1)) := list_good q1 hfit'
    have hN : N ≤ 16777216 := by have := hfit'; rw [List.length_drop] at this; omega
    have ST : Hid (Midway 1 3 cNum intEl u R a cap zs k1 N (.slice none 0 0) 0 (w1.drewN m) k1 [] (fun _ => False)) := Midway.start (r1.drewN m) (g1.trans (grown_drewN _ _ _))
    have hd : decide (D < N) = false := decide_eq_false (by omega)
    have hd2 : decide ((N : Int) < 0) = false := decide_eq_false (by omega)
    simp only [hd, hd2, Bool.or_self]
    clear hfit hfit' hD q1 hd hd2
    go_loopw [6, 19] (fun v i wr => ∃ (j ki : Nat) (ys : List (Int × Array Value)) (F : Nat → Prop), i = .int .i64 j ∧ j ≤ N ∧ Hid (Midway 1 3 cNum intEl u R a cap zs k1 N v j wr ki ys F)) (fun _ i _ => N - (intOf i).toNat)
    case atStart => exact ⟨0, k1, [], fun _ => False, rfl, Nat.zero_le _, ST⟩
    case round =>
      clear ST
      obtain ⟨j, ki, ys, F, rfl, hj, HM⟩ := hrel
      by_cases hlt : j < N
      · have mid := HM.out
        have cI := intItem_any wr R X a cap zs ki mid.rd ((mid.gr.cell_far ⟨X, 0, none⟩ hXl (fun e => hXR (Option.some.inj e))).trans hX)
        clear mid
        go_wp2_with (first
          | (go_at_call 118; refine cI.mono ?_; rintro e w2 (⟨x, k2, q2, l2, o2, rfl, r2, g2⟩ | ⟨q2, rfl, g2⟩))
          | (at_builtin; (refine wpList_append_own_at _ rfl (.tmp 21) (.tmp 24) 96 rfl 0 3 i0 (.int .i64 0) 1 8 Try.underlying96 hi0 hz0 hz1 hz2 rfl (by decide) u6 j (rowOf ys) rfl (HM.out.own_item g2 hR _) ⟨w2.heap.size, 0, none⟩ 1 1 [.int .i64 x] rfl rfl (news_new w2 #[.int .i64 x] _) (by intro u hu; rw [List.mem_singleton.1 hu]; rfl) (by unfold maxLen; omega) (by omega) (Nat.zero_le _) ?_; intro v3 w3 own3 g3 n3 at3)))
        · go_roundw
          case rel => exact ⟨j + 1, k2, ys ++ [(x, #[.int .i64 x])], _, by go_num, by omega, HM.out.next heldIntEl hu0 hlt q2 l2 o2 (show intEl (fun _ => False) x #[.int .i64 x] w2 from rfl) (none_new _ _) r2 g2 own3 g3 at3⟩
          case measure => simp [intOf]; omega
        · exact ⟨rfl, Or.inr ⟨HG.out.trans (HM.out.stop hlt q2), rfl, HM.out.gr.trans g2⟩⟩
      · obtain rfl : j = N := by omega
        go_wp2
        go_ret
        exact HM.out.done gNum heldIntEl rfl l1 HG.out
  · exact ⟨rfl, Or.inr ⟨list_num_none q1, rfl, g1⟩⟩
  · exact ⟨rfl, Or.inr ⟨list_bad q1 (Or.inl hneg), rfl, g1⟩⟩
end Go.Proofs.Ythdgpadakmdlkaa.Codec
