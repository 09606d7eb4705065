/-
  The law's SameState, over like states.
-/
import Derived.Test.YthdgpadakmdlkaaCodecSameStacks
import Derived.Test.YthdgpadakmdlkaaCodecTeleEq
namespace Go.Proofs.Ythdgpadakmdlkaa.Codec
set_option linter.unusedVariables false
set_option linter.unusedSimpArgs false
open Go Go.RowKit

/- Two lists of the same things, item by item. -/
theorem two_lists {α : Type} {S : Nat} {El : (Nat → Prop) → α → Array Value → World → Prop} {F G : Nat → Prop} {xs : List α} {v1 v2 : Value} {w : World} (h1 : ListAt S El F xs v1 w) (h2 : ListAt S El G xs v2 w) :
    ∃ a1 c1 a2 c2, v1 = .slice a1 xs.length c1 ∧ v2 = .slice a2 xs.length c2 ∧ ∀ i, i < xs.length → ∃ x cs ds p1 p2, a1 = some p1 ∧ a2 = some p2 ∧ x ∈ xs ∧ El F x cs w ∧ El G x ds w ∧ F p1.block ∧ G p2.block ∧ (∀ j u, cs[j]? = some u → w.cell? (p1.add (i * S + j)) = some u) ∧ (∀ j u, ds[j]? = some u → w.cell? (p2.add (i * S + j)) = some u) := by
  obtain ⟨a1, c1, ys1, rfl, rfl, el1, ce1, _⟩ := h1
  obtain ⟨a2, c2, ys2, hxs, rfl, el2, ce2, _⟩ := h2
  have hll : ys2.length = ys1.length := by have := congrArg List.length hxs; simpa using this.symm
  refine ⟨a1, c1, a2, c2, by rw [List.length_map], by rw [List.length_map, hll], fun i hi => ?_⟩
  rw [List.length_map] at hi
  obtain ⟨p1, e1, f1, q1⟩ := ce1 i hi
  obtain ⟨p2, e2, f2, q2⟩ := ce2 i (by omega)
  have s1 := el1 _ (List.getElem_mem hi)
  have s2 := el2 _ (List.getElem_mem (show i < ys2.length by omega))
  have hx : (ys1[i]'hi).1 = (ys2[i]'(by omega)).1 := by
    have := congrArg (fun l => l[i]?) hxs
    simp only [List.getElem?_map, List.getElem?_eq_getElem hi, List.getElem?_eq_getElem (show i < ys2.length by omega), Option.map_some, Option.some.injEq] at this
    exact this
  rw [← hx] at s2
  exact ⟨_, _, _, p1, p2, e1, e2, List.mem_map.2 ⟨_, List.getElem_mem hi, rfl⟩, s1, s2, f1, f2, q1, q2⟩
/- No list of a state is too long. -/
structure Sz (x : TState) (B : Nat) : Prop where
  s : x.2.2.2.1.length ≤ B
  sb : ∀ y ∈ x.2.2.2.1, y.2.length ≤ B
  r : x.2.2.2.2.1.length ≤ B
  rm : ∀ y ∈ x.2.2.2.2.1, y.2.2.2.1.length ≤ B
  p : x.2.2.2.2.2.1.length ≤ B
  pq : ∀ y ∈ x.2.2.2.2.2.1, y.2.2.length ≤ B
  o : x.2.2.2.2.2.2.1.length ≤ B
  j : x.2.2.2.2.2.2.2.1.length ≤ B
theorem list_len {α : Type} {c : Cod α} (g : Good c) (xs : List α) : xs.length ≤ ((list c).put xs).length := by
  have := flat_len g xs
  rw [list_put, List.length_append]
  omega
theorem list_mem {α : Type} {c : Cod α} {xs : List α} {x : α} (h : x ∈ xs) : (c.put x).length ≤ ((list c).put xs).length := by
  obtain ⟨l, r, rfl⟩ := List.append_of_mem h
  rw [list_put]
  simp only [List.flatMap_append, List.flatMap_cons, List.length_append]
  omega
theorem sz_of_put (x : TState) (B : Nat) (h : (cState.put x).length ≤ B) : Sz x B := by
  obtain ⟨sq, ep, he, ss, rs, ps, os, js, no, nj⟩ := x
  have e : cState.put (sq, ep, he, ss, rs, ps, os, js, no, nj) = num sq ++ (num ep ++ (cFlag.put he ++ ((list cStack).put ss ++ ((list cRobot).put rs ++ ((list cPort).put ps ++ ((list cOrder).put os ++ ((list cJob).put js ++ (num no ++ num nj)))))))) := rfl
  rw [e] at h
  simp only [List.length_append] at h
  refine ⟨?_, fun y hy => ?_, ?_, fun y hy => ?_, ?_, fun y hy => ?_, ?_, ?_⟩
  · have := list_len gStack ss; show ss.length ≤ B; omega
  · have m1 := list_mem (c := cStack) hy
    have e2 : cStack.put y = cCell.put y.1 ++ (list cNum).put y.2 := rfl
    have m2 := list_len gNum y.2
    rw [e2] at m1
    simp only [List.length_append] at m1
    omega
  · have := list_len gRobot rs; show rs.length ≤ B; omega
  · have m1 := list_mem (c := cRobot) hy
    have e2 : cRobot.put y = cPose.put y.1 ++ (num y.2.1 ++ (num y.2.2.1 ++ ((list cMove).put y.2.2.2.1 ++ (cFlag.put y.2.2.2.2.1 ++ (num y.2.2.2.2.2.1 ++ cFlag.put y.2.2.2.2.2.2))))) := rfl
    have m2 := list_len gMove y.2.2.2.1
    rw [e2] at m1
    simp only [List.length_append] at m1
    omega
  · have := list_len gPort ps; show ps.length ≤ B; omega
  · have m1 := list_mem (c := cPort) hy
    have e2 : cPort.put y = num y.1 ++ (num y.2.1 ++ (list cNum).put y.2.2) := rfl
    have m2 := list_len gNum y.2.2
    rw [e2] at m1
    simp only [List.length_append] at m1
    omega
  · have := list_len gOrder os; show os.length ≤ B; omega
  · have := list_len gJob js; show js.length ≤ B; omega
theorem zRobot4 : (Try.prog.info? 101).map (·.size) = some 9 := by kernel_rfl
theorem zOrder4 : (Try.prog.info? 106).map (·.size) = some 4 := by kernel_rfl
theorem eqOrder_self (a b c d : Int) (w : World) : (Op.equalIn 10000 106 (.agg #[.int .i64 a, .int .i64 b, .int .i64 c, .int .i64 d]) (.agg #[.int .i64 a, .int .i64 b, .int .i64 c, .int .i64 d])).run Try.prog w = .ok true w := by
  go_simp
theorem gOrderT3 : Try.prog.eqGuardType Try.prog.depth 106 = false := by kernel_rfl
set_option maxRecDepth 100000 in
set_option maxHeartbeats 8000000 in
theorem sameState_same (w : World) (x : TState) (cs ds : Array Value) (F G : Nat → Prop) (hx : stateEl F x cs w) (hy : stateEl G x ds w) (hF : ∀ g, F g → g < w.heap.size) (hG : ∀ g, G g → g < w.heap.size) (hz : Sz x 140737488355328) :
    Calls Try.prog 22 #[.agg cs, .agg ds] w fun e w' => e = .returned (.bool true) ∧ Below w.heap.size w w' := by
  obtain ⟨sq, ep, he, ss, rs, ps, os, js, no, nj⟩ := x
  obtain ⟨v0, v1, v2, v3, v4, rfl, A0, A1, A2, A3, A4⟩ := hx
  obtain ⟨u0, u1, u2, u3, u4, rfl, D0, D1, D2, D3, D4⟩ := hy
  obtain ⟨z0, zb, z10, z1, z20, z2, z3, z4⟩ := hz
  dsimp only at A0 A1 A2 A3 A4 D0 D1 D2 D3 D4 z0 zb z10 z1 z20 z2 z3 z4 ⊢
  have cS := fun (u : World) (hu : Below w.heap.size w u) => sameStacks_same F G v0 u0 ss u (A0.stable heldStack fun g hg => hu.block g (hF g hg)) (D0.stable heldStack fun g hg => hu.block g (hG g hg)) (fun g hg => Nat.lt_of_lt_of_le (hF g hg) hu.size) (fun g hg => Nat.lt_of_lt_of_le (hG g hg) hu.size) z0 zb
  have cJ := fun (u : World) (hu : Below w.heap.size w u) => sameJobs_same F G v4 u4 js u (A4.stable heldJob fun g hg => hu.block g (hF g hg)) (D4.stable heldJob fun g hg => hu.block g (hG g hg)) z4
  obtain ⟨a0, c0, rfl, _⟩ := A0.form
  obtain ⟨b0, d0, rfl, _⟩ := D0.form
  obtain ⟨a4, c4, rfl, _⟩ := A4.form
  obtain ⟨b4, d4, rfl, _⟩ := D4.form
  obtain ⟨a1, c1, b1, d1, rfl, rfl, M1⟩ := two_lists A1 D1
  obtain ⟨a2, c2, b2, d2, rfl, rfl, M2⟩ := two_lists A2 D2
  obtain ⟨a3, c3, b3, d3, rfl, rfl, M3⟩ := two_lists A3 D3
  clear A0 A1 A2 A3 A4 D0 D1 D2 D3 D4
  have L1 : Hid (True ∧ _) := ⟨trivial, M1⟩
  have L2 : Hid (True ∧ _) := ⟨trivial, M2⟩
  have L3 : Hid (True ∧ _) := ⟨trivial, M3⟩
  clear M1 M2 M3
  generalize ss.length = n0 at *
  generalize rs.length = n1 at *
  generalize ps.length = n2 at *
  generalize os.length = n3 at *
  generalize js.length = n4 at *
  obtain ⟨wc, hwc⟩ : ∃ wc, wc = (w.alloc (.cells #[.int .i64 sq, .int .i64 ep, .bool he, .slice a0 n0 c0, .slice a1 n1 c1, .slice a2 n2 c2, .slice a3 n3 c3, .slice a4 n4 c4, .int .i64 no, .int .i64 nj] 57)).alloc (.cells #[.int .i64 sq, .int .i64 ep, .bool he, .slice b0 n0 d0, .slice b1 n1 d1, .slice b2 n2 d2, .slice b3 n3 d3, .slice b4 n4 d4, .int .i64 no, .int .i64 nj] 57) := ⟨_, rfl⟩
  have BC : Below w.heap.size w wc := by rw [hwc]; exact ((Below.refl _ _).alloc (Nat.le_refl _) _).alloc (by simp) _
  have h1 : wc.heap[w.heap.size]? = some (.cells #[.int .i64 sq, .int .i64 ep, .bool he, .slice a0 n0 c0, .slice a1 n1 c1, .slice a2 n2 c2, .slice a3 n3 c3, .slice a4 n4 c4, .int .i64 no, .int .i64 nj] 57 (0, 0)) := by
    rw [hwc, alloc_old _ _ _ (by simp)]
    exact heap_alloc_new _ _
  have h2 : wc.heap[w.heap.size + 1]? = some (.cells #[.int .i64 sq, .int .i64 ep, .bool he, .slice b0 n0 d0, .slice b1 n1 d1, .slice b2 n2 d2, .slice b3 n3 d3, .slice b4 n4 d4, .int .i64 no, .int .i64 nj] 57 (0, 0)) := by
    rw [hwc]
    have := heap_alloc_new (w.alloc (.cells #[.int .i64 sq, .int .i64 ep, .bool he, .slice a0 n0 c0, .slice a1 n1 c1, .slice a2 n2 c2, .slice a3 n3 c3, .slice a4 n4 c4, .int .i64 no, .int .i64 nj] 57)) (.cells #[.int .i64 sq, .int .i64 ep, .bool he, .slice b0 n0 d0, .slice b1 n1 d1, .slice b2 n2 d2, .slice b3 n3 d3, .slice b4 n4 d4, .int .i64 no, .int .i64 nj] 57)
    simp only [World.size_alloc] at this
    exact this
  have hq1 : ((sq : Int) != sq) = false := by simp
  have cS0 := cS wc BC
  have cJ0 : Hid _ := cJ
  clear cS cJ
  go_enter Try.func22, Try.ntmps22
  go_upto_region 1 with fail
  rw [← hwc]
  clear hwc
  have p0 : wc.cell? ⟨w.heap.size, 0, none⟩ = some (.int .i64 sq) := (cell_of h1 0).trans rfl
  have q0 : wc.cell? ⟨w.heap.size + 1, 0, none⟩ = some (.int .i64 sq) := (cell_of h2 0).trans rfl
  have p1 : wc.cell? ⟨w.heap.size, 1, none⟩ = some (.int .i64 ep) := (cell_of h1 1).trans rfl
  have q1 : wc.cell? ⟨w.heap.size + 1, 1, none⟩ = some (.int .i64 ep) := (cell_of h2 1).trans rfl
  have p2 : wc.cell? ⟨w.heap.size, 2, none⟩ = some (.bool he) := (cell_of h1 2).trans rfl
  have q2 : wc.cell? ⟨w.heap.size + 1, 2, none⟩ = some (.bool he) := (cell_of h2 2).trans rfl
  have p3 : wc.cell? ⟨w.heap.size, 3, none⟩ = some (.slice a0 n0 c0) := (cell_of h1 3).trans rfl
  have q3 : wc.cell? ⟨w.heap.size + 1, 3, none⟩ = some (.slice b0 n0 d0) := (cell_of h2 3).trans rfl
  have p4 : wc.cell? ⟨w.heap.size, 4, none⟩ = some (.slice a1 n1 c1) := (cell_of h1 4).trans rfl
  have q4 : wc.cell? ⟨w.heap.size + 1, 4, none⟩ = some (.slice b1 n1 d1) := (cell_of h2 4).trans rfl
  have p5 : wc.cell? ⟨w.heap.size, 5, none⟩ = some (.slice a2 n2 c2) := (cell_of h1 5).trans rfl
  have q5 : wc.cell? ⟨w.heap.size + 1, 5, none⟩ = some (.slice b2 n2 d2) := (cell_of h2 5).trans rfl
  have p6 : wc.cell? ⟨w.heap.size, 6, none⟩ = some (.slice a3 n3 c3) := (cell_of h1 6).trans rfl
  have q6 : wc.cell? ⟨w.heap.size + 1, 6, none⟩ = some (.slice b3 n3 d3) := (cell_of h2 6).trans rfl
  have p7 : wc.cell? ⟨w.heap.size, 7, none⟩ = some (.slice a4 n4 c4) := (cell_of h1 7).trans rfl
  have q7 : wc.cell? ⟨w.heap.size + 1, 7, none⟩ = some (.slice b4 n4 d4) := (cell_of h2 7).trans rfl
  have p8 : wc.cell? ⟨w.heap.size, 8, none⟩ = some (.int .i64 no) := (cell_of h1 8).trans rfl
  have q8 : wc.cell? ⟨w.heap.size + 1, 8, none⟩ = some (.int .i64 no) := (cell_of h2 8).trans rfl
  have p9 : wc.cell? ⟨w.heap.size, 9, none⟩ = some (.int .i64 nj) := (cell_of h1 9).trans rfl
  have q9 : wc.cell? ⟨w.heap.size + 1, 9, none⟩ = some (.int .i64 nj) := (cell_of h2 9).trans rfl
  go_upto_region 5 with (first
    | ((try refine wpIn_wide.2 ?_); go_at_call 57; refine cS0.mono ?_; rintro e1 w1 ⟨rfl, g1⟩; have k1 := (g1.block _ (lt_of_heap h1)).trans h1; have k2 := (g1.block _ (lt_of_heap h2)).trans h2; have pp7 : w1.cell? ⟨w.heap.size, 7, none⟩ = some (.slice a4 n4 c4) := (cell_of k1 7).trans rfl; have qq7 : w1.cell? ⟨w.heap.size + 1, 7, none⟩ = some (.slice b4 n4 d4) := (cell_of k2 7).trans rfl; have cJ1 := cJ0.out _ (bcat BC g1 (Nat.le_refl _)))
    | (have X' := cJ1; (try refine wpIn_wide.2 ?_); go_at_call 58; refine cJ1.mono ?_; rintro e2 w2 ⟨rfl, g2⟩; have g12 := bcat g1 g2 (Nat.le_refl _); have kk1 := (g12.block _ (lt_of_heap h1)).trans h1; have kk2 := (g12.block _ (lt_of_heap h2)).trans h2; have pr4 : w2.cell? ⟨w.heap.size, 4, none⟩ = some (.slice a1 n1 c1) := (cell_of kk1 4).trans rfl; have qr4 : w2.cell? ⟨w.heap.size + 1, 4, none⟩ = some (.slice b1 n1 d1) := (cell_of kk2 4).trans rfl; have pr5 : w2.cell? ⟨w.heap.size, 5, none⟩ = some (.slice a2 n2 c2) := (cell_of kk1 5).trans rfl; have qr5 : w2.cell? ⟨w.heap.size + 1, 5, none⟩ = some (.slice b2 n2 d2) := (cell_of kk2 5).trans rfl; have pr6 : w2.cell? ⟨w.heap.size, 6, none⟩ = some (.slice a3 n3 c3) := (cell_of kk1 6).trans rfl; have qr6 : w2.cell? ⟨w.heap.size + 1, 6, none⟩ = some (.slice b3 n3 d3) := (cell_of kk2 6).trans rfl))
  have BW : Hid (Below wc.heap.size wc w2) := g12
  clear p0 p1 p2 p3 p4 p5 p6 p7 p8 p9 q0 q1 q2 q3 q4 q5 q6 q7 q8 q9 g1 g2 g12 pp7 qq7 k1 k2 kk1 kk2 pr4 qr4 pr5 qr5 pr6 qr6 cS0 cJ0 cJ1 hq1
  go_wp2_with fail
  go_loopw [5] (fun s5 wr => ∃ i : Nat, s5 = .int .i64 i ∧ i ≤ n1 ∧ Hid (Below wc.heap.size wc wr)) (fun s5 _ => n1 - (intOf s5).toNat)
  case atStart => exact ⟨0, rfl, Nat.zero_le _, BW⟩
  case round =>
    obtain ⟨i, rfl, hi, bw⟩ := hrel
    have X1 : Hid (∀ u, Below wr.heap.size wr u → u.cell? ⟨w.heap.size, 4, none⟩ = some (.slice a1 n1 c1)) := fun u hu => by
      rw [hu.cell (p := ⟨w.heap.size, 4, none⟩) (Nat.lt_of_lt_of_le (lt_of_heap h1) bw.out.size), bw.out.cell (p := ⟨w.heap.size, 4, none⟩) (lt_of_heap h1)]
      exact (cell_of h1 4).trans rfl
    have Y1 : Hid (∀ u, Below wr.heap.size wr u → u.cell? ⟨w.heap.size + 1, 4, none⟩ = some (.slice b1 n1 d1)) := fun u hu => by
      rw [hu.cell (p := ⟨w.heap.size + 1, 4, none⟩) (Nat.lt_of_lt_of_le (lt_of_heap h2) bw.out.size), bw.out.cell (p := ⟨w.heap.size + 1, 4, none⟩) (lt_of_heap h2)]
      exact (cell_of h2 4).trans rfl
    have x0 := X1.out wr (Below.refl _ _)
    rcases Nat.lt_or_ge i n1 with hlt | hge
    · obtain ⟨x, cs, ds, p1, p2, e1, e2, hx, E1, E2, f1, f2, q1, q2⟩ := (L1.out).2 i hlt
      have kF : p1.block < w.heap.size := hF _ f1
      have kG : p2.block < w.heap.size := hG _ f2
      subst e1
      subst e2
      have K1 : ∀ u, Below wr.heap.size wr u → ∀ j z, cs[j]? = some z → u.cell? ((p1.add (i * 9)).add j) = some z := fun u hu j z hj => by
        rw [add_add, hu.cell (by rw [block_add]; exact Nat.lt_of_lt_of_le kF (Nat.le_trans BC.size bw.out.size)), bw.out.cell (by rw [block_add]; exact Nat.lt_of_lt_of_le kF BC.size), BC.cell (by rw [block_add]; exact kF)]
        exact q1 j z hj
      have K2 : ∀ u, Below wr.heap.size wr u → ∀ j z, ds[j]? = some z → u.cell? ((p2.add (i * 9)).add j) = some z := fun u hu j z hj => by
        rw [add_add, hu.cell (by rw [block_add]; exact Nat.lt_of_lt_of_le kG (Nat.le_trans BC.size bw.out.size)), bw.out.cell (by rw [block_add]; exact Nat.lt_of_lt_of_le kG BC.size), BC.cell (by rw [block_add]; exact kG)]
        exact q2 j z hj
      have BU : ∀ u, Below wr.heap.size wr u → Below w.heap.size w u := fun u hu => bcat (bcat BC bw.out (Nat.le_refl _)) hu (Nat.le_refl _)
      have cI : Hid _ := fun (u : World) (hu : Below wr.heap.size wr u) => sameRobot_same u x cs ds F G (heldRobot.stable E1 fun g hg => (BU u hu).block g (hF g hg)) (heldRobot.stable E2 fun g hg => (BU u hu).block g (hG g hg)) (fun g hg => Nat.lt_of_lt_of_le (hF g hg) (BU u hu).size) (fun g hg => Nat.lt_of_lt_of_le (hG g hg) (BU u hu).size) (z1 x hx)
      have hz1 : (Try.prog.info? 101).map (·.size) = some cs.size := by rw [heldRobot.size E1]; exact zRobot4
      have hz2 : (Try.prog.info? 101).map (·.size) = some ds.size := by rw [heldRobot.size E2]; exact zRobot4
      have H1 : Hid _ := K1
      have H2 : Hid _ := K2
      clear K1 K2 q1 q2 E1 E2 hx
      have i1 : (i : Int) < (n1 : Int) := by omega
      have hd : decide ((i : Int) < (n1 : Int)) = true := decide_eq_true i1
      go_upto_region 8 with fail
      go_cut [100] from 89 to 100 (fun rr wx => rr = .bool false ∧ Below wr.heap.size wr wx)
      case first =>
        have S0 : Below wr.heap.size wr wr.drew := below_drewN wr 1
        refine start_held (S := fun u => Below wr.heap.size wr u) 12 rfl (by kernel_rfl) (S0) ?_
        simp only [Array.replicate_succ, Array.replicate_zero, List.push_toArray, List.nil_append, List.cons_append]
        refine take_held 0 S0 rfl (by kernel_rfl) (by kernel_rfl) (by kernel_rfl) (fun _ _ _ h => h) (by kernel_rfl) (v := ?v0) ?y0 ?r0
        case y0 => (intro u hu; go_simp; try rfl)
        simp only [Act.put, List.setIfInBounds_toArray, List.set_cons_zero, List.set_cons_succ]
        refine take_held 1 S0 rfl (by kernel_rfl) (by kernel_rfl) (by kernel_rfl) (fun _ _ _ h => h) (by kernel_rfl) (v := ?v1) ?y1 ?r1
        case y1 => (intro u hu; have zz0 := X1.out u hu; go_simp; try rfl)
        simp only [Act.put, List.setIfInBounds_toArray, List.set_cons_zero, List.set_cons_succ]
        refine take_held 2 S0 rfl (by kernel_rfl) (by kernel_rfl) (by kernel_rfl) (fun _ _ _ h => h) (by kernel_rfl) (v := ?v2) ?y2 ?r2
        case y2 => (intro u hu; go_simp; try rfl)
        simp only [Act.put, List.setIfInBounds_toArray, List.set_cons_zero, List.set_cons_succ]
        refine take_held 3 S0 rfl (by kernel_rfl) (by kernel_rfl) (by kernel_rfl) (fun _ _ _ h => h) (by kernel_rfl) (v := ?v3) ?y3 ?r3
        case y3 => (intro u hu; go_simp; try rfl)
        simp only [Act.put, List.setIfInBounds_toArray, List.set_cons_zero, List.set_cons_succ]
        refine take_held 4 S0 rfl (by kernel_rfl) (by kernel_rfl) (by kernel_rfl) (fun _ _ _ h => h) (by kernel_rfl) (v := .agg cs) ?y4 ?r4
        case y4 => (intro u hu; exact run_load_at 101 _ rfl (p1.add (i * 9)) cs rfl (run_loadVar_at _ _ _ cs (H1.out u hu) (aggRobot _) hz1))
        simp only [Act.put, List.setIfInBounds_toArray, List.set_cons_zero, List.set_cons_succ]
        refine take_held 5 S0 rfl (by kernel_rfl) (by kernel_rfl) (by kernel_rfl) (fun _ _ _ h => h) (by kernel_rfl) (v := ?v5) ?y5 ?r5
        case y5 => (intro u hu; go_simp; try rfl)
        simp only [Act.put, List.setIfInBounds_toArray, List.set_cons_zero, List.set_cons_succ]
        refine take_held 6 S0 rfl (by kernel_rfl) (by kernel_rfl) (by kernel_rfl) (fun _ _ _ h => h) (by kernel_rfl) (v := ?v6) ?y6 ?r6
        case y6 => (intro u hu; have zz0 := Y1.out u hu; go_simp; try rfl)
        simp only [Act.put, List.setIfInBounds_toArray, List.set_cons_zero, List.set_cons_succ]
        refine take_held 7 S0 rfl (by kernel_rfl) (by kernel_rfl) (by kernel_rfl) (fun _ _ _ h => h) (by kernel_rfl) (v := ?v7) ?y7 ?r7
        case y7 => (intro u hu; go_simp; try rfl)
        simp only [Act.put, List.setIfInBounds_toArray, List.set_cons_zero, List.set_cons_succ]
        refine take_held 8 S0 rfl (by kernel_rfl) (by kernel_rfl) (by kernel_rfl) (fun _ _ _ h => h) (by kernel_rfl) (v := ?v8) ?y8 ?r8
        case y8 => (intro u hu; go_simp; try rfl)
        simp only [Act.put, List.setIfInBounds_toArray, List.set_cons_zero, List.set_cons_succ]
        refine take_held 9 S0 rfl (by kernel_rfl) (by kernel_rfl) (by kernel_rfl) (fun _ _ _ h => h) (by kernel_rfl) (v := .agg ds) ?y9 ?r9
        case y9 => (intro u hu; exact run_load_at 101 _ rfl (p2.add (i * 9)) ds rfl (run_loadVar_at _ _ _ ds (H2.out u hu) (aggRobot _) hz2))
        simp only [Act.put, List.setIfInBounds_toArray, List.set_cons_zero, List.set_cons_succ]
        refine call_held 10 rfl (by kernel_rfl) (by kernel_rfl) 59 #[.agg cs, .agg ds] (by go_simp) _ (cI.out _ S0) ?_
        rintro e6 x6 ⟨rfl, l6⟩
        have S6 : Below wr.heap.size wr x6 := bcat S0 l6 (Nat.le_refl _)
        refine Or.inl ⟨_, rfl, S6, ?_⟩
        simp only [Act.put, List.setIfInBounds_toArray, List.set_cons_zero, List.set_cons_succ]
        refine take_held 11 S6 rfl (by kernel_rfl) (by kernel_rfl) (by kernel_rfl) (fun _ _ _ h => h) (by kernel_rfl) (v := ?v10) ?y10 ?r10
        case y10 => (intro u hu; go_simp; try rfl)
        simp only [Act.put, List.setIfInBounds_toArray, List.set_cons_zero, List.set_cons_succ]
        refine done_held (by kernel_rfl) ?_ _
        go_wp2_with fail
        go_meet
        exact ⟨rfl, S6⟩
      case rest =>
      obtain ⟨rfl, B6⟩ := hcut
      go_wp2_with fail
      go_roundw
      case measure => simp only [intOf]; omega
      case rel => exact ⟨i + 1, by go_num, hlt, bcat bw.out B6 (Nat.le_refl _)⟩
    · obtain rfl : i = n1 := by omega
      have hd : decide ((i : Int) < (i : Int)) = false := decide_eq_false (by omega)
      go_wp2_with fail
      have BW : Hid (Below wc.heap.size wc wr) := bw
      clear bw X1 Y1 x0
      go_loopw [6] (fun s5 wr => ∃ i : Nat, s5 = .int .i64 i ∧ i ≤ n2 ∧ Hid (Below wc.heap.size wc wr)) (fun s5 _ => n2 - (intOf s5).toNat)
      case atStart => exact ⟨0, rfl, Nat.zero_le _, BW⟩
      case round =>
        obtain ⟨i, rfl, hi, bw⟩ := hrel
        have X2 : Hid (∀ u, Below wr.heap.size wr u → u.cell? ⟨w.heap.size, 5, none⟩ = some (.slice a2 n2 c2)) := fun u hu => by
          rw [hu.cell (p := ⟨w.heap.size, 5, none⟩) (Nat.lt_of_lt_of_le (lt_of_heap h1) bw.out.size), bw.out.cell (p := ⟨w.heap.size, 5, none⟩) (lt_of_heap h1)]
          exact (cell_of h1 5).trans rfl
        have Y2 : Hid (∀ u, Below wr.heap.size wr u → u.cell? ⟨w.heap.size + 1, 5, none⟩ = some (.slice b2 n2 d2)) := fun u hu => by
          rw [hu.cell (p := ⟨w.heap.size + 1, 5, none⟩) (Nat.lt_of_lt_of_le (lt_of_heap h2) bw.out.size), bw.out.cell (p := ⟨w.heap.size + 1, 5, none⟩) (lt_of_heap h2)]
          exact (cell_of h2 5).trans rfl
        have x0 := X2.out wr (Below.refl _ _)
        rcases Nat.lt_or_ge i n2 with hlt | hge
        · obtain ⟨x, cs, ds, p1, p2, e1, e2, hx, E1, E2, f1, f2, q1, q2⟩ := (L2.out).2 i hlt
          have kF : p1.block < w.heap.size := hF _ f1
          have kG : p2.block < w.heap.size := hG _ f2
          subst e1
          subst e2
          have K1 : ∀ u, Below wr.heap.size wr u → ∀ j z, cs[j]? = some z → u.cell? ((p1.add (i * 3)).add j) = some z := fun u hu j z hj => by
            rw [add_add, hu.cell (by rw [block_add]; exact Nat.lt_of_lt_of_le kF (Nat.le_trans BC.size bw.out.size)), bw.out.cell (by rw [block_add]; exact Nat.lt_of_lt_of_le kF BC.size), BC.cell (by rw [block_add]; exact kF)]
            exact q1 j z hj
          have K2 : ∀ u, Below wr.heap.size wr u → ∀ j z, ds[j]? = some z → u.cell? ((p2.add (i * 3)).add j) = some z := fun u hu j z hj => by
            rw [add_add, hu.cell (by rw [block_add]; exact Nat.lt_of_lt_of_le kG (Nat.le_trans BC.size bw.out.size)), bw.out.cell (by rw [block_add]; exact Nat.lt_of_lt_of_le kG BC.size), BC.cell (by rw [block_add]; exact kG)]
            exact q2 j z hj
          have BU : ∀ u, Below wr.heap.size wr u → Below w.heap.size w u := fun u hu => bcat (bcat BC bw.out (Nat.le_refl _)) hu (Nat.le_refl _)
          obtain ⟨pb, pa, pq⟩ := x
          obtain ⟨u1, rfl, l1⟩ := E1
          obtain ⟨u2, rfl, l2⟩ := E2
          dsimp only at l1 l2
          have cI : Hid _ := fun (u : World) (hu : Below wr.heap.size wr u) => sameInts_same F G u1 u2 pq u (l1.stable heldIntEl fun g hg => (BU u hu).block g (hF g hg)) (l2.stable heldIntEl fun g hg => (BU u hu).block g (hG g hg)) (z2 _ hx)
          obtain ⟨va, vc, rfl, _⟩ := l1.form
          obtain ⟨ua, uc, rfl, _⟩ := l2.form
          have H10 : Hid _ := fun (u : World) (hu : Below wr.heap.size wr u) => (show u.cell? (p1.add (i * 3)) = some (.int .i64 pb) from K1 u hu 0 _ rfl)
          have H11 : Hid _ := fun (u : World) (hu : Below wr.heap.size wr u) => (show u.cell? ⟨(p1.add (i * 3)).block, (p1.add (i * 3)).off + 1, none⟩ = some (.int .i64 pa) from K1 u hu 1 _ rfl)
          have H12 : Hid _ := fun (u : World) (hu : Below wr.heap.size wr u) => (show u.cell? ⟨(p1.add (i * 3)).block, (p1.add (i * 3)).off + 2, none⟩ = some (.slice va pq.length vc) from K1 u hu 2 _ rfl)
          have H20 : Hid _ := fun (u : World) (hu : Below wr.heap.size wr u) => (show u.cell? (p2.add (i * 3)) = some (.int .i64 pb) from K2 u hu 0 _ rfl)
          have H21 : Hid _ := fun (u : World) (hu : Below wr.heap.size wr u) => (show u.cell? ⟨(p2.add (i * 3)).block, (p2.add (i * 3)).off + 1, none⟩ = some (.int .i64 pa) from K2 u hu 1 _ rfl)
          have H22 : Hid _ := fun (u : World) (hu : Below wr.heap.size wr u) => (show u.cell? ⟨(p2.add (i * 3)).block, (p2.add (i * 3)).off + 2, none⟩ = some (.slice ua pq.length uc) from K2 u hu 2 _ rfl)
          clear K1 K2 q1 q2 l1 l2 hx
          generalize pq.length = nb at *
          have i1 : (i : Int) < (n2 : Int) := by omega
          have hd : decide ((i : Int) < (n2 : Int)) = true := decide_eq_true i1
          go_upto_region 13 with fail
          go_cut [151] from 108 to 151 (fun rr wx => rr = .bool false ∧ Below wr.heap.size wr wx)
          case first =>
            have S0 : Below wr.heap.size wr wr.drew := below_drewN wr 1
            refine start_held (S := fun u => Below wr.heap.size wr u) 44 rfl (by kernel_rfl) (S0) ?_
            simp only [Array.replicate_succ, Array.replicate_zero, List.push_toArray, List.nil_append, List.cons_append]
            refine take_held 0 S0 rfl (by kernel_rfl) (by kernel_rfl) (by kernel_rfl) (fun _ _ _ h => h) (by kernel_rfl) (v := ?v11) ?y11 ?r11
            case y11 => (intro u hu; go_simp; try rfl)
            simp only [Act.put, List.setIfInBounds_toArray, List.set_cons_zero, List.set_cons_succ]
            refine take_held 1 S0 rfl (by kernel_rfl) (by kernel_rfl) (by kernel_rfl) (fun _ _ _ h => h) (by kernel_rfl) (v := ?v12) ?y12 ?r12
            case y12 => (intro u hu; have zz0 := X2.out u hu; go_simp; try rfl)
            simp only [Act.put, List.setIfInBounds_toArray, List.set_cons_zero, List.set_cons_succ]
            refine take_held 2 S0 rfl (by kernel_rfl) (by kernel_rfl) (by kernel_rfl) (fun _ _ _ h => h) (by kernel_rfl) (v := ?v13) ?y13 ?r13
            case y13 => (intro u hu; go_simp; try rfl)
            simp only [Act.put, List.setIfInBounds_toArray, List.set_cons_zero, List.set_cons_succ]
            refine take_held 3 S0 rfl (by kernel_rfl) (by kernel_rfl) (by kernel_rfl) (fun _ _ _ h => h) (by kernel_rfl) (v := ?v14) ?y14 ?r14
            case y14 => (intro u hu; go_simp; try rfl)
            simp only [Act.put, List.setIfInBounds_toArray, List.set_cons_zero, List.set_cons_succ]
            refine take_held 4 S0 rfl (by kernel_rfl) (by kernel_rfl) (by kernel_rfl) (fun _ _ _ h => h) (by kernel_rfl) (v := ?v15) ?y15 ?r15
            case y15 => (intro u hu; go_simp; try rfl)
            simp only [Act.put, List.setIfInBounds_toArray, List.set_cons_zero, List.set_cons_succ]
            refine take_held 5 S0 rfl (by kernel_rfl) (by kernel_rfl) (by kernel_rfl) (fun _ _ _ h => h) (by kernel_rfl) (v := ?v16) ?y16 ?r16
            case y16 => (intro u hu; have zz0 := H10.out u hu; go_simp; try rfl)
            simp only [Act.put, List.setIfInBounds_toArray, List.set_cons_zero, List.set_cons_succ]
            refine take_held 6 S0 rfl (by kernel_rfl) (by kernel_rfl) (by kernel_rfl) (fun _ _ _ h => h) (by kernel_rfl) (v := ?v17) ?y17 ?r17
            case y17 => (intro u hu; go_simp; try rfl)
            simp only [Act.put, List.setIfInBounds_toArray, List.set_cons_zero, List.set_cons_succ]
            refine take_held 7 S0 rfl (by kernel_rfl) (by kernel_rfl) (by kernel_rfl) (fun _ _ _ h => h) (by kernel_rfl) (v := ?v18) ?y18 ?r18
            case y18 => (intro u hu; have zz0 := Y2.out u hu; go_simp; try rfl)
            simp only [Act.put, List.setIfInBounds_toArray, List.set_cons_zero, List.set_cons_succ]
            refine take_held 8 S0 rfl (by kernel_rfl) (by kernel_rfl) (by kernel_rfl) (fun _ _ _ h => h) (by kernel_rfl) (v := ?v19) ?y19 ?r19
            case y19 => (intro u hu; go_simp; try rfl)
            simp only [Act.put, List.setIfInBounds_toArray, List.set_cons_zero, List.set_cons_succ]
            refine take_held 9 S0 rfl (by kernel_rfl) (by kernel_rfl) (by kernel_rfl) (fun _ _ _ h => h) (by kernel_rfl) (v := ?v20) ?y20 ?r20
            case y20 => (intro u hu; go_simp; try rfl)
            simp only [Act.put, List.setIfInBounds_toArray, List.set_cons_zero, List.set_cons_succ]
            refine take_held 10 S0 rfl (by kernel_rfl) (by kernel_rfl) (by kernel_rfl) (fun _ _ _ h => h) (by kernel_rfl) (v := ?v21) ?y21 ?r21
            case y21 => (intro u hu; go_simp; try rfl)
            simp only [Act.put, List.setIfInBounds_toArray, List.set_cons_zero, List.set_cons_succ]
            refine take_held 11 S0 rfl (by kernel_rfl) (by kernel_rfl) (by kernel_rfl) (fun _ _ _ h => h) (by kernel_rfl) (v := ?v22) ?y22 ?r22
            case y22 => (intro u hu; have zz0 := H20.out u hu; go_simp; try rfl)
            simp only [Act.put, List.setIfInBounds_toArray, List.set_cons_zero, List.set_cons_succ]
            refine take_held 12 S0 rfl (by kernel_rfl) (by kernel_rfl) (by kernel_rfl) (fun _ _ _ h => h) (by kernel_rfl) (v := ?v23) ?y23 ?r23
            case y23 => (intro u hu; go_simp; try rfl)
            simp only [Act.put, List.setIfInBounds_toArray, List.set_cons_zero, List.set_cons_succ]
            refine take_held 13 S0 rfl (by kernel_rfl) (by kernel_rfl) (by kernel_rfl) (fun _ _ _ h => h) (by kernel_rfl) (v := ?v24) ?y24 ?r24
            case y24 => (intro u hu; go_simp; try rfl)
            simp only [Act.put, List.setIfInBounds_toArray, List.set_cons_zero, List.set_cons_succ]
            refine take_held 14 S0 rfl (by kernel_rfl) (by kernel_rfl) (by kernel_rfl) (fun _ _ _ h => h) (by kernel_rfl) (v := ?v25) ?y25 ?r25
            case y25 => (intro u hu; go_simp; try rfl)
            simp only [Act.put, List.setIfInBounds_toArray, List.set_cons_zero, List.set_cons_succ]
            refine take_held 15 S0 rfl (by kernel_rfl) (by kernel_rfl) (by kernel_rfl) (fun _ _ _ h => h) (by kernel_rfl) (v := ?v26) ?y26 ?r26
            case y26 => (intro u hu; have zz0 := X2.out u hu; go_simp; try rfl)
            simp only [Act.put, List.setIfInBounds_toArray, List.set_cons_zero, List.set_cons_succ]
            refine take_held 16 S0 rfl (by kernel_rfl) (by kernel_rfl) (by kernel_rfl) (fun _ _ _ h => h) (by kernel_rfl) (v := ?v27) ?y27 ?r27
            case y27 => (intro u hu; go_simp; try rfl)
            simp only [Act.put, List.setIfInBounds_toArray, List.set_cons_zero, List.set_cons_succ]
            refine take_held 17 S0 rfl (by kernel_rfl) (by kernel_rfl) (by kernel_rfl) (fun _ _ _ h => h) (by kernel_rfl) (v := ?v28) ?y28 ?r28
            case y28 => (intro u hu; go_simp; try rfl)
            simp only [Act.put, List.setIfInBounds_toArray, List.set_cons_zero, List.set_cons_succ]
            refine take_held 18 S0 rfl (by kernel_rfl) (by kernel_rfl) (by kernel_rfl) (fun _ _ _ h => h) (by kernel_rfl) (v := ?v29) ?y29 ?r29
            case y29 => (intro u hu; go_simp; try rfl)
            simp only [Act.put, List.setIfInBounds_toArray, List.set_cons_zero, List.set_cons_succ]
            refine take_held 19 S0 rfl (by kernel_rfl) (by kernel_rfl) (by kernel_rfl) (fun _ _ _ h => h) (by kernel_rfl) (v := ?v30) ?y30 ?r30
            case y30 => (intro u hu; have zz0 := H11.out u hu; go_simp; try rfl)
            simp only [Act.put, List.setIfInBounds_toArray, List.set_cons_zero, List.set_cons_succ]
            refine take_held 20 S0 rfl (by kernel_rfl) (by kernel_rfl) (by kernel_rfl) (fun _ _ _ h => h) (by kernel_rfl) (v := ?v31) ?y31 ?r31
            case y31 => (intro u hu; go_simp; try rfl)
            simp only [Act.put, List.setIfInBounds_toArray, List.set_cons_zero, List.set_cons_succ]
            refine take_held 21 S0 rfl (by kernel_rfl) (by kernel_rfl) (by kernel_rfl) (fun _ _ _ h => h) (by kernel_rfl) (v := ?v32) ?y32 ?r32
            case y32 => (intro u hu; have zz0 := Y2.out u hu; go_simp; try rfl)
            simp only [Act.put, List.setIfInBounds_toArray, List.set_cons_zero, List.set_cons_succ]
            refine take_held 22 S0 rfl (by kernel_rfl) (by kernel_rfl) (by kernel_rfl) (fun _ _ _ h => h) (by kernel_rfl) (v := ?v33) ?y33 ?r33
            case y33 => (intro u hu; go_simp; try rfl)
            simp only [Act.put, List.setIfInBounds_toArray, List.set_cons_zero, List.set_cons_succ]
            refine take_held 23 S0 rfl (by kernel_rfl) (by kernel_rfl) (by kernel_rfl) (fun _ _ _ h => h) (by kernel_rfl) (v := ?v34) ?y34 ?r34
            case y34 => (intro u hu; go_simp; try rfl)
            simp only [Act.put, List.setIfInBounds_toArray, List.set_cons_zero, List.set_cons_succ]
            refine take_held 24 S0 rfl (by kernel_rfl) (by kernel_rfl) (by kernel_rfl) (fun _ _ _ h => h) (by kernel_rfl) (v := ?v35) ?y35 ?r35
            case y35 => (intro u hu; go_simp; try rfl)
            simp only [Act.put, List.setIfInBounds_toArray, List.set_cons_zero, List.set_cons_succ]
            refine take_held 25 S0 rfl (by kernel_rfl) (by kernel_rfl) (by kernel_rfl) (fun _ _ _ h => h) (by kernel_rfl) (v := ?v36) ?y36 ?r36
            case y36 => (intro u hu; have zz0 := H21.out u hu; go_simp; try rfl)
            simp only [Act.put, List.setIfInBounds_toArray, List.set_cons_zero, List.set_cons_succ]
            refine take_held 26 S0 rfl (by kernel_rfl) (by kernel_rfl) (by kernel_rfl) (fun _ _ _ h => h) (by kernel_rfl) (v := ?v37) ?y37 ?r37
            case y37 => (intro u hu; go_simp; try rfl)
            simp only [Act.put, List.setIfInBounds_toArray, List.set_cons_zero, List.set_cons_succ]
            refine take_held 27 S0 rfl (by kernel_rfl) (by kernel_rfl) (by kernel_rfl) (fun _ _ _ h => h) (by kernel_rfl) (v := ?v38) ?y38 ?r38
            case y38 => (intro u hu; go_simp; try rfl)
            simp only [Act.put, List.setIfInBounds_toArray, List.set_cons_zero, List.set_cons_succ]
            refine take_held 28 S0 rfl (by kernel_rfl) (by kernel_rfl) (by kernel_rfl) (fun _ _ _ h => h) (by kernel_rfl) (v := ?v39) ?y39 ?r39
            case y39 => (intro u hu; go_simp; try rfl)
            simp only [Act.put, List.setIfInBounds_toArray, List.set_cons_zero, List.set_cons_succ]
            refine take_held 29 S0 rfl (by kernel_rfl) (by kernel_rfl) (by kernel_rfl) (fun _ _ _ h => h) (by kernel_rfl) (v := ?v40) ?y40 ?r40
            case y40 => (intro u hu; go_simp; try rfl)
            simp only [Act.put, List.setIfInBounds_toArray, List.set_cons_zero, List.set_cons_succ]
            refine take_held 30 S0 rfl (by kernel_rfl) (by kernel_rfl) (by kernel_rfl) (fun _ _ _ h => h) (by kernel_rfl) (v := ?v41) ?y41 ?r41
            case y41 => (intro u hu; have zz0 := X2.out u hu; go_simp; try rfl)
            simp only [Act.put, List.setIfInBounds_toArray, List.set_cons_zero, List.set_cons_succ]
            refine take_held 31 S0 rfl (by kernel_rfl) (by kernel_rfl) (by kernel_rfl) (fun _ _ _ h => h) (by kernel_rfl) (v := ?v42) ?y42 ?r42
            case y42 => (intro u hu; go_simp; try rfl)
            simp only [Act.put, List.setIfInBounds_toArray, List.set_cons_zero, List.set_cons_succ]
            refine take_held 32 S0 rfl (by kernel_rfl) (by kernel_rfl) (by kernel_rfl) (fun _ _ _ h => h) (by kernel_rfl) (v := ?v43) ?y43 ?r43
            case y43 => (intro u hu; go_simp; try rfl)
            simp only [Act.put, List.setIfInBounds_toArray, List.set_cons_zero, List.set_cons_succ]
            refine take_held 33 S0 rfl (by kernel_rfl) (by kernel_rfl) (by kernel_rfl) (fun _ _ _ h => h) (by kernel_rfl) (v := ?v44) ?y44 ?r44
            case y44 => (intro u hu; go_simp; try rfl)
            simp only [Act.put, List.setIfInBounds_toArray, List.set_cons_zero, List.set_cons_succ]
            refine take_held 34 S0 rfl (by kernel_rfl) (by kernel_rfl) (by kernel_rfl) (fun _ _ _ h => h) (by kernel_rfl) (v := ?v45) ?y45 ?r45
            case y45 => (intro u hu; have zz0 := H12.out u hu; go_simp; try rfl)
            simp only [Act.put, List.setIfInBounds_toArray, List.set_cons_zero, List.set_cons_succ]
            refine take_held 35 S0 rfl (by kernel_rfl) (by kernel_rfl) (by kernel_rfl) (fun _ _ _ h => h) (by kernel_rfl) (v := ?v46) ?y46 ?r46
            case y46 => (intro u hu; go_simp; try rfl)
            simp only [Act.put, List.setIfInBounds_toArray, List.set_cons_zero, List.set_cons_succ]
            refine take_held 36 S0 rfl (by kernel_rfl) (by kernel_rfl) (by kernel_rfl) (fun _ _ _ h => h) (by kernel_rfl) (v := ?v47) ?y47 ?r47
            case y47 => (intro u hu; have zz0 := Y2.out u hu; go_simp; try rfl)
            simp only [Act.put, List.setIfInBounds_toArray, List.set_cons_zero, List.set_cons_succ]
            refine take_held 37 S0 rfl (by kernel_rfl) (by kernel_rfl) (by kernel_rfl) (fun _ _ _ h => h) (by kernel_rfl) (v := ?v48) ?y48 ?r48
            case y48 => (intro u hu; go_simp; try rfl)
            simp only [Act.put, List.setIfInBounds_toArray, List.set_cons_zero, List.set_cons_succ]
            refine take_held 38 S0 rfl (by kernel_rfl) (by kernel_rfl) (by kernel_rfl) (fun _ _ _ h => h) (by kernel_rfl) (v := ?v49) ?y49 ?r49
            case y49 => (intro u hu; go_simp; try rfl)
            simp only [Act.put, List.setIfInBounds_toArray, List.set_cons_zero, List.set_cons_succ]
            refine take_held 39 S0 rfl (by kernel_rfl) (by kernel_rfl) (by kernel_rfl) (fun _ _ _ h => h) (by kernel_rfl) (v := ?v50) ?y50 ?r50
            case y50 => (intro u hu; go_simp; try rfl)
            simp only [Act.put, List.setIfInBounds_toArray, List.set_cons_zero, List.set_cons_succ]
            refine take_held 40 S0 rfl (by kernel_rfl) (by kernel_rfl) (by kernel_rfl) (fun _ _ _ h => h) (by kernel_rfl) (v := ?v51) ?y51 ?r51
            case y51 => (intro u hu; have zz0 := H22.out u hu; go_simp; try rfl)
            simp only [Act.put, List.setIfInBounds_toArray, List.set_cons_zero, List.set_cons_succ]
            refine call_held 41 rfl (by kernel_rfl) (by kernel_rfl) 60 #[.slice va nb vc, .slice ua nb uc] (by go_simp) _ (cI.out _ S0) ?_
            rintro e6 x6 ⟨rfl, l6⟩
            have S6 : Below wr.heap.size wr x6 := bcat S0 l6 (Nat.le_refl _)
            refine Or.inl ⟨_, rfl, S6, ?_⟩
            simp only [Act.put, List.setIfInBounds_toArray, List.set_cons_zero, List.set_cons_succ]
            refine take_held 42 S6 rfl (by kernel_rfl) (by kernel_rfl) (by kernel_rfl) (fun _ _ _ h => h) (by kernel_rfl) (v := ?v52) ?y52 ?r52
            case y52 => (intro u hu; go_simp; try rfl)
            simp only [Act.put, List.setIfInBounds_toArray, List.set_cons_zero, List.set_cons_succ]
            refine take_held 43 S6 rfl (by kernel_rfl) (by kernel_rfl) (by kernel_rfl) (fun _ _ _ h => h) (by kernel_rfl) (v := ?v53) ?y53 ?r53
            case y53 => (intro u hu; go_simp; try rfl)
            simp only [Act.put, List.setIfInBounds_toArray, List.set_cons_zero, List.set_cons_succ]
            refine done_held (by kernel_rfl) ?_ _
            go_wp2_with fail
            go_meet
            exact ⟨rfl, S6⟩
          case rest =>
          obtain ⟨rfl, B6⟩ := hcut
          go_wp2_with fail
          go_roundw
          case measure => simp only [intOf]; omega
          case rel => exact ⟨i + 1, by go_num, hlt, bcat bw.out B6 (Nat.le_refl _)⟩
        · obtain rfl : i = n2 := by omega
          have hd : decide ((i : Int) < (i : Int)) = false := decide_eq_false (by omega)
          go_wp2_with fail
          have BW : Hid (Below wc.heap.size wc wr) := bw
          clear bw X2 Y2 x0
          go_loopw [7] (fun s5 wr => ∃ i : Nat, s5 = .int .i64 i ∧ i ≤ n3 ∧ Hid (Below wc.heap.size wc wr)) (fun s5 _ => n3 - (intOf s5).toNat)
          case atStart => exact ⟨0, rfl, Nat.zero_le _, BW⟩
          case round =>
            obtain ⟨i, rfl, hi, bw⟩ := hrel
            have X3 : Hid (∀ u, Below wr.heap.size wr u → u.cell? ⟨w.heap.size, 6, none⟩ = some (.slice a3 n3 c3)) := fun u hu => by
              rw [hu.cell (p := ⟨w.heap.size, 6, none⟩) (Nat.lt_of_lt_of_le (lt_of_heap h1) bw.out.size), bw.out.cell (p := ⟨w.heap.size, 6, none⟩) (lt_of_heap h1)]
              exact (cell_of h1 6).trans rfl
            have Y3 : Hid (∀ u, Below wr.heap.size wr u → u.cell? ⟨w.heap.size + 1, 6, none⟩ = some (.slice b3 n3 d3)) := fun u hu => by
              rw [hu.cell (p := ⟨w.heap.size + 1, 6, none⟩) (Nat.lt_of_lt_of_le (lt_of_heap h2) bw.out.size), bw.out.cell (p := ⟨w.heap.size + 1, 6, none⟩) (lt_of_heap h2)]
              exact (cell_of h2 6).trans rfl
            have x0 := X3.out wr (Below.refl _ _)
            rcases Nat.lt_or_ge i n3 with hlt | hge
            · obtain ⟨x, cs, ds, p1, p2, e1, e2, hx, E1, E2, f1, f2, q1, q2⟩ := (L3.out).2 i hlt
              have kF : p1.block < w.heap.size := hF _ f1
              have kG : p2.block < w.heap.size := hG _ f2
              subst e1
              subst e2
              have K1 : ∀ u, Below wr.heap.size wr u → ∀ j z, cs[j]? = some z → u.cell? ((p1.add (i * 4)).add j) = some z := fun u hu j z hj => by
                rw [add_add, hu.cell (by rw [block_add]; exact Nat.lt_of_lt_of_le kF (Nat.le_trans BC.size bw.out.size)), bw.out.cell (by rw [block_add]; exact Nat.lt_of_lt_of_le kF BC.size), BC.cell (by rw [block_add]; exact kF)]
                exact q1 j z hj
              have K2 : ∀ u, Below wr.heap.size wr u → ∀ j z, ds[j]? = some z → u.cell? ((p2.add (i * 4)).add j) = some z := fun u hu j z hj => by
                rw [add_add, hu.cell (by rw [block_add]; exact Nat.lt_of_lt_of_le kG (Nat.le_trans BC.size bw.out.size)), bw.out.cell (by rw [block_add]; exact Nat.lt_of_lt_of_le kG BC.size), BC.cell (by rw [block_add]; exact kG)]
                exact q2 j z hj
              have BU : ∀ u, Below wr.heap.size wr u → Below w.heap.size w u := fun u hu => bcat (bcat BC bw.out (Nat.le_refl _)) hu (Nat.le_refl _)
              obtain ⟨oa, ob, oc, od⟩ := x
              obtain rfl : cs = #[.int .i64 oa, .int .i64 ob, .int .i64 oc, .int .i64 od] := E1
              obtain rfl : ds = #[.int .i64 oa, .int .i64 ob, .int .i64 oc, .int .i64 od] := E2
              have H1 : Hid _ := K1
              have H2 : Hid _ := K2
              clear K1 K2 q1 q2 hx
              have i1 : (i : Int) < (n3 : Int) := by omega
              have hd : decide ((i : Int) < (n3 : Int)) = true := decide_eq_true i1
              go_upto_region 18 with fail
              go_cut [169] from 159 to 169 (fun rr wx => rr = .bool false ∧ Below wr.heap.size wr wx)
              case first =>
                have S0 : Below wr.heap.size wr wr.drew := below_drewN wr 1
                refine start_held (S := fun u => Below wr.heap.size wr u) 11 rfl (by kernel_rfl) (S0) ?_
                simp only [Array.replicate_succ, Array.replicate_zero, List.push_toArray, List.nil_append, List.cons_append]
                refine take_held 0 S0 rfl (by kernel_rfl) (by kernel_rfl) (by kernel_rfl) (fun _ _ _ h => h) (by kernel_rfl) (v := ?v54) ?y54 ?r54
                case y54 => (intro u hu; go_simp; try rfl)
                simp only [Act.put, List.setIfInBounds_toArray, List.set_cons_zero, List.set_cons_succ]
                refine take_held 1 S0 rfl (by kernel_rfl) (by kernel_rfl) (by kernel_rfl) (fun _ _ _ h => h) (by kernel_rfl) (v := ?v55) ?y55 ?r55
                case y55 => (intro u hu; have zz0 := X3.out u hu; go_simp; try rfl)
                simp only [Act.put, List.setIfInBounds_toArray, List.set_cons_zero, List.set_cons_succ]
                refine take_held 2 S0 rfl (by kernel_rfl) (by kernel_rfl) (by kernel_rfl) (fun _ _ _ h => h) (by kernel_rfl) (v := ?v56) ?y56 ?r56
                case y56 => (intro u hu; go_simp; try rfl)
                simp only [Act.put, List.setIfInBounds_toArray, List.set_cons_zero, List.set_cons_succ]
                refine take_held 3 S0 rfl (by kernel_rfl) (by kernel_rfl) (by kernel_rfl) (fun _ _ _ h => h) (by kernel_rfl) (v := ?v57) ?y57 ?r57
                case y57 => (intro u hu; go_simp; try rfl)
                simp only [Act.put, List.setIfInBounds_toArray, List.set_cons_zero, List.set_cons_succ]
                refine take_held 4 S0 rfl (by kernel_rfl) (by kernel_rfl) (by kernel_rfl) (fun _ _ _ h => h) (by kernel_rfl) (v := .agg #[.int .i64 oa, .int .i64 ob, .int .i64 oc, .int .i64 od]) ?y58 ?r58
                case y58 => (intro u hu; exact run_load_at 106 _ rfl (p1.add (i * 4)) #[.int .i64 oa, .int .i64 ob, .int .i64 oc, .int .i64 od] rfl (run_loadVar_at _ _ _ _ (H1.out u hu) (aggOrder _) zOrder4))
                simp only [Act.put, List.setIfInBounds_toArray, List.set_cons_zero, List.set_cons_succ]
                refine take_held 5 S0 rfl (by kernel_rfl) (by kernel_rfl) (by kernel_rfl) (fun _ _ _ h => h) (by kernel_rfl) (v := ?v59) ?y59 ?r59
                case y59 => (intro u hu; go_simp; try rfl)
                simp only [Act.put, List.setIfInBounds_toArray, List.set_cons_zero, List.set_cons_succ]
                refine take_held 6 S0 rfl (by kernel_rfl) (by kernel_rfl) (by kernel_rfl) (fun _ _ _ h => h) (by kernel_rfl) (v := ?v60) ?y60 ?r60
                case y60 => (intro u hu; have zz0 := Y3.out u hu; go_simp; try rfl)
                simp only [Act.put, List.setIfInBounds_toArray, List.set_cons_zero, List.set_cons_succ]
                refine take_held 7 S0 rfl (by kernel_rfl) (by kernel_rfl) (by kernel_rfl) (fun _ _ _ h => h) (by kernel_rfl) (v := ?v61) ?y61 ?r61
                case y61 => (intro u hu; go_simp; try rfl)
                simp only [Act.put, List.setIfInBounds_toArray, List.set_cons_zero, List.set_cons_succ]
                refine take_held 8 S0 rfl (by kernel_rfl) (by kernel_rfl) (by kernel_rfl) (fun _ _ _ h => h) (by kernel_rfl) (v := ?v62) ?y62 ?r62
                case y62 => (intro u hu; go_simp; try rfl)
                simp only [Act.put, List.setIfInBounds_toArray, List.set_cons_zero, List.set_cons_succ]
                refine take_held 9 S0 rfl (by kernel_rfl) (by kernel_rfl) (by kernel_rfl) (fun _ _ _ h => h) (by kernel_rfl) (v := .agg #[.int .i64 oa, .int .i64 ob, .int .i64 oc, .int .i64 od]) ?y63 ?r63
                case y63 => (intro u hu; exact run_load_at 106 _ rfl (p2.add (i * 4)) #[.int .i64 oa, .int .i64 ob, .int .i64 oc, .int .i64 od] rfl (run_loadVar_at _ _ _ _ (H2.out u hu) (aggOrder _) zOrder4))
                simp only [Act.put, List.setIfInBounds_toArray, List.set_cons_zero, List.set_cons_succ]
                refine take_held 10 S0 rfl (by kernel_rfl) (by kernel_rfl) (by kernel_rfl) (fun _ _ _ h => h) (by kernel_rfl) (v := .bool false) ?y64 ?r64
                case y64 => (intro u hu; exact run_neq_op3 106 106 _ _ rfl #[.int .i64 oa, .int .i64 ob, .int .i64 oc, .int .i64 od] #[.int .i64 oa, .int .i64 ob, .int .i64 oc, .int .i64 od] rfl rfl true (eqOrder_self oa ob oc od u) gOrderT3)
                simp only [Act.put, List.setIfInBounds_toArray, List.set_cons_zero, List.set_cons_succ]
                refine done_held (by kernel_rfl) ?_ _
                go_wp2_with fail
                go_meet
                exact ⟨rfl, S0⟩
              case rest =>
              obtain ⟨rfl, B6⟩ := hcut
              go_wp2_with fail
              go_roundw
              case measure => simp only [intOf]; omega
              case rel => exact ⟨i + 1, by go_num, hlt, bcat bw.out B6 (Nat.le_refl _)⟩
            · obtain rfl : i = n3 := by omega
              have hd : decide ((i : Int) < (i : Int)) = false := decide_eq_false (by omega)
              go_wp2
              go_ret
              exact ⟨rfl, bcat BC bw.out (Nat.le_refl _)⟩
end Go.Proofs.Ythdgpadakmdlkaa.Codec
