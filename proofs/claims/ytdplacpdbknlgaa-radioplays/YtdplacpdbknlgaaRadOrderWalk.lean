/-
  What is heard was sent; the others keep their order; broken off anywhere they are told so.
-/
import Derived.Test.YtdplacpdbknlgaaRadIn
namespace Go.Proofs.Ytdplacpdbknlgaa.Lk
set_option linter.unusedVariables false
set_option linter.unusedSimpArgs false
open Go Go.RowKit Go.Shelf Go.Proofs
attribute [local go_sem] Oper.semAt_some

theorem own_takeS {w : World} {B : Nat} {v : Value} {l : List Tl} (h : Own w B v l) (k : Nat) (hk : k ≤ l.length) : ∃ v2, (∀ u : World, (Instr.sliceAt 27 v none (some (.int .i64 k)) none).run Try.prog u = .ok v2 u) ∧ Own w B v2 (l.take k) := by
  have h' := h
  obtain ⟨h1, ⟨hv, h0⟩ | ⟨g, cap, cur, e, hb, hg, hnc, hcm, hcs, ht⟩⟩ := h'
  · obtain rfl : l = [] := List.eq_nil_of_length_eq_zero h0
    obtain rfl : k = 0 := by simpa using hk
    refine ⟨.slice none 0 0, fun u => ?_, by simpa using own_none w B⟩
    rw [hv]
    clear h h1 hv h0
    go_simp
  · subst e
    have o2 := own_first h k hk
    have a2 : (k : Int) ≤ (cap : Int) := by omega
    refine ⟨.slice (some ⟨g, 0, none⟩) k cap, fun u => ?_, o2⟩
    clear h h1 hb hg hnc hcm hcs ht o2 hk
    generalize l.length = n at *
    go_simp
theorem push_below {x0 x1 : World} {v : Value} {l : List Tl} (h : x0.grownBy x1 (Value.slice none 0 0).ownBlock) : Below x0.heap.size x0 x1 :=
  ⟨h.os, h.tape, h.output, h.size, fun k hk => h.block k hk (by simp [Value.ownBlock])⟩
theorem push_below2 {x0 x1 x2 : World} {v : Value} {l : List Tl} (b : Below x0.heap.size x0 x1) (O : Own x1 x0.heap.size v l) (h : x1.grownBy x2 v.ownBlock) : Below x0.heap.size x0 x2 :=
  ⟨h.os.trans b.os, h.tape.trans b.tape, h.output.trans b.output, Nat.le_trans b.size h.size, fun k hk => (h.block k (Nat.lt_of_lt_of_le hk b.size) fun e => by have := (O.lt k e.symm).1; omega).trans (b.block k hk)⟩
theorem take_min {l : List Tl} (n : Nat) : l.take (min n l.length) = l.take n := by
  by_cases h : n ≤ l.length
  · rw [Nat.min_eq_left h]
  · rw [Nat.min_eq_right (by omega), List.take_of_length_le (Nat.le_refl _), List.take_of_length_le (by omega)]
theorem own_slice' {w : World} {B : Nat} {v : Value} {l : List Tl} (h : Own w B v l) {n : Nat} (hn : l.length = n) : ∃ a cap, v = .slice a n cap := own_slice h hn
set_option maxRecDepth 100000 in
set_option maxHeartbeats 4000000 in
theorem order_cut (v0 : Value) (l : List Tl) (i0 m0 : Int) (w : World) (hL : Lies w v0 l) (hn0 : 0 < l.length) (hn1 : l.length ≤ 200) : Calls Try.prog 5 #[v0, .int .i64 i0, .bool false, .int .i64 m0] w fun e w' => e = .returned (.bool true) ∧ Below w.heap.size w w' := by
  obtain ⟨N, hN⟩ : ∃ N, l.length = N := ⟨_, rfl⟩
  rw [hN] at hn0 hn1
  have cP := fun w => place_any i0 N w (by omega) (by omega)
  have pP := place_bd i0 N (by omega)
  obtain ⟨k, hk⟩ : ∃ k : Nat, place i0 N = (k : Int) := ⟨(place i0 N).toNat, by omega⟩
  have HPI : Hid (plN i0 N = k) := by show (place i0 N).toNat = k; omega
  rw [hk] at cP pP
  have cT := fun w => place_any m0 20 w (by decide) (by decide)
  have pT := place_bd m0 20 (by decide)
  obtain ⟨pt, hpt⟩ : ∃ pt : Nat, place m0 20 = (pt : Int) := ⟨(place m0 20).toNat, by omega⟩
  rw [hpt] at cT pT
  clear hk hpt
  have hkN : k < N := by omega
  have hkl : k < l.length := by omega
  obtain ⟨x, cap, e0, hld0⟩ := hL.item hkl
  obtain ⟨t, ht⟩ : ∃ t, l[k]'hkl = t := ⟨_, rfl⟩
  rw [ht] at hld0
  rw [hN] at e0
  subst e0
  obtain ⟨B, hB⟩ : ∃ B, w.heap.size = B := ⟨_, rfl⟩
  have HLD : Hid (∀ u, Below B w u → (loadVar 42 (x.add (k * 19))).run Try.prog u = .ok (.agg (tlA t)) u) := fun u hu => by
    obtain ⟨x', cap', e1, h1⟩ := (hL.go (w' := u) (by rw [hB]; exact hu)).item hkl
    rw [hN] at e1
    cases e1
    rw [ht] at h1
    exact h1
  have HLI : Hid (∀ u, Below B w u → Lies u (.slice (some x) N cap) l) := fun u hu => hL.go (by rw [hB]; exact hu)
  have HT : Hid (l[k]? = some t) := by rw [← ht]; exact List.getElem?_eq_getElem hkl
  have HN : Hid (l.length = N) := hN
  have n1 := radNew_any w
  rw [hB] at n1 ⊢
  have HX : Hid (w.heap.size = B) := hB
  have HKN : Hid (k < N ∧ N ≤ 200) := ⟨hkN, hn1⟩
  have hni : ((N : Int) == 0) = false := by simp; omega
  have hn2 : (N : Int) ≤ 200 := by omega
  have hk2 : (k : Int) < (N : Int) := by omega
  have hk3 : (k : Int) ≤ (N : Int) := by omega
  have hkc : Hid (l.length ≤ 200 ∧ k ≤ l.length ∧ k + 1 ≤ l.length) := ⟨by omega, by omega, by omega⟩
  obtain ⟨vF, hSF, hLF⟩ := run_first hL k (by omega)
  obtain ⟨vD, hSD, hLD, _⟩ := run_from hL (k + 1) (by omega)
  have HSF : Hid (∀ u : World, (Instr.sliceAt 27 (.slice (some x) N cap) none (some (.int .i64 k)) none).run Try.prog u = .ok vF u) := hSF
  have HSD : Hid (∀ u : World, (Instr.sliceAt 27 (.slice (some x) N cap) (some (.int .i64 ((k : Int) + 1))) none none).run Try.prog u = .ok vD u) := fun u => hSD u
  have HLF0 : Hid (∀ u, Below B w u → Lies u vF (l.take k)) := fun u hu => hLF.go (by rw [hB]; exact hu)
  have HLD0 : Hid (∀ u, Below B w u → Lies u vD (l.drop (k + 1))) := fun u hu => hLD.go (by rw [hB]; exact hu)
  clear hSF hLF hSD hLD
  clear hB hN hL hkl ht hld0 hn0
  go_enter Try.func5, Try.ntmps5
  go_upto_region 10 with (first
    | (go_at_call 9; refine n1.mono ?_; rintro e x1 ⟨rfl, G1, b1⟩; clear n1; obtain ⟨v2, y2, hrun2, O2', g2, at2⟩ := run_push_any (own_none x1 x1.heap.size) (HLI.out x1 b1) (by rw [HN.out]; simp; omega) (Nat.le_refl _) 27; have O2 : Own y2 x1.heap.size v2 l := (by simpa using O2'); have bb2 : Below x1.heap.size x1 y2 := push_below (v := v2) (l := l) g2; have G2 := G1.go bb2; have b2 : Below B w y2 := b1.trans (bb2.mono (by have := b1.size; have := HX.out; omega)); clear G1 b1 bb2 O2' g2 at2)
    | (have X' := hrun2; at_builtin; go_loud (refine wpList_valW (by kernel_rfl) v2 y2 (run_push_op (.const (.slice none 0 0)) (.tmp 28) rfl (.slice none 0 0) (.slice (some x) N cap) v2 rfl rfl hrun2) ?_; clear hrun2))
    | (go_at_call 11; refine (send_case G2 (Lies.of_own O2) (by rw [HN.out]; omega) N (by rw [HN.out]; simp; omega)).mono ?_; rintro e x3 ⟨rfl, v3, G3', t3⟩; have b3 := t3.below G2 b2; have G3 : RdAt 57 B x3 B v3 l := (by rw [List.nil_append, List.take_of_length_le (by rw [HN.out]; exact Nat.le_refl _)] at G3'; exact G3'); clear G2 b2 O2 t3 G3' ; have cH := radHear_any G3 i0 false t (by rw [HN.out, HPI.out]; exact HT.out); rw [HN.out, HPI.out] at cH; have HG3 : Hid (RdAt 57 B x3 B v3 l) := G3; have HB3 : Hid (Below B w x3) := b3; clear G3 b3)
    | (go_at_call 13; refine cH.mono ?_; rintro e u1 ⟨rfl, v', G1', t1⟩; have G1 : RdAt 57 B u1 B v' (cutP l k) := G1'; obtain ⟨x2, hx2⟩ : ∃ zz, u1.alloc (.cells (tlA t) 42) = zz := ⟨_, rfl⟩; have bbx2 : Below u1.heap.size u1 x2 := (by rw [← hx2]; exact (Below.refl _ _).alloc (Nat.le_refl _) _); have zx2 : x2.heap[u1.heap.size]? = some (.cells (tlA t) 42 (0, 0)) := (by rw [← hx2]; exact World.alloc_heap_new _ _); have HG2 : Hid (RdAt 57 B x2 B v' (cutP l k)) := G1.go bbx2; have HBW : Hid (Below B w x2) := (t1.below HG3.out HB3.out).trans (bbx2.mono (by have := (t1.below HG3.out HB3.out).size; have := HX.out; omega)); have HH2 : Hid (u1.alloc (.cells (tlA t) 42) = x2) := hx2; obtain ⟨bx, hbx⟩ : ∃ bx, u1.heap.size = bx := ⟨_, rfl⟩; have HZ2 : Hid (x2.heap[bx]? = some (.cells (tlA t) 42 (0, 0))) := hbx ▸ zx2; clear cH G1 G1' t1 bbx2 hx2 zx2)
    | (refine wpList_new rfl rfl 42 10 (.tmp 40) rfl rfl rfl rfl (tlA tl0) (tlA t) (zeroTele _) rfl rfl infoTele rfl (tlA_one _) ?_; rw [HH2.out, hbx])
    | (have X' := cP; go_at_call 10; refine (cP _).mono ?_; rintro e yw ⟨rfl, hyw⟩; rw [hyw]; clear hyw cP))
  have HLF : Hid (∀ u, Below x2.heap.size x2 u → Lies u vF (l.take k)) := fun u hu => HLF0.out u (HBW.out.trans (hu.mono (by have := HBW.out.size; have := HX.out; omega)))
  have HLD2 : Hid (∀ u, Below x2.heap.size x2 u → Lies u vD (l.drop (k + 1))) := fun u hu => HLD0.out u (HBW.out.trans (hu.mono (by have := HBW.out.size; have := HX.out; omega)))
  refine start_held (S := fun _ => True) 10 rfl (by kernel_rfl) trivial ?_
  simp only [Array.replicate_succ, Array.replicate_zero, List.push_toArray, List.nil_append, List.cons_append]
  have B0 : Below x2.heap.size x2 x2.drew := (Below.refl _ _).drew
  have LF0 : Lies x2.drew vF (l.take k) := HLF.out x2.drew B0
  have LD0 : ∀ u, Below x2.drew.heap.size x2.drew u → Lies u vD (l.drop (k + 1)) := fun u hu => HLD2.out u (B0.trans hu)
  have sz : x2.drew.heap.size = x2.heap.size := rfl
  generalize x2.drew = x0 at *
  refine take_held 0 trivial rfl (by kernel_rfl) (by kernel_rfl) (by kernel_rfl) (fun _ _ _ h => h) (by kernel_rfl) (v := ?v124) ?y124 ?r124
  case y124 => (intro u hu; go_simp; try rfl)
  simp only [Act.put, List.setIfInBounds_toArray, List.set_cons_zero, List.set_cons_succ]
  refine take_held 1 trivial rfl (by kernel_rfl) (by kernel_rfl) (by kernel_rfl) (fun _ _ _ h => h) (by kernel_rfl) (v := ?v125) ?y125 ?r125
  case y125 => (intro u hu; go_simp; try rfl)
  simp only [Act.put, List.setIfInBounds_toArray, List.set_cons_zero, List.set_cons_succ]
  refine take_held 2 trivial rfl (by kernel_rfl) (by kernel_rfl) (by kernel_rfl) (fun _ _ _ h => h) (by kernel_rfl) (v := vF) ?y126 ?r126
  case y126 => (intro u hu; exact run_slice_op 27 (.tmp 65) none (some (.tmp 66)) rfl _ _ rfl (HSF.out u))
  simp only [Act.put, List.setIfInBounds_toArray, List.set_cons_zero, List.set_cons_succ]
  refine take_held 4 trivial rfl (by kernel_rfl) (by kernel_rfl) (by kernel_rfl) (fun _ _ _ h => h) (by kernel_rfl) (v := ?v127) ?y127 ?r127
  case y127 => (intro u hu; go_simp; try rfl)
  simp only [Act.put, List.setIfInBounds_toArray, List.set_cons_zero, List.set_cons_succ]
  refine take_held 5 trivial rfl (by kernel_rfl) (by kernel_rfl) (by kernel_rfl) (fun _ _ _ h => h) (by kernel_rfl) (v := ?v128) ?y128 ?r128
  case y128 => (intro u hu; go_simp; try rfl)
  simp only [Act.put, List.setIfInBounds_toArray, List.set_cons_zero, List.set_cons_succ]
  refine take_held 6 trivial rfl (by kernel_rfl) (by kernel_rfl) (by kernel_rfl) (fun _ _ _ h => h) (by kernel_rfl) (v := .int .i64 ((k : Int) + 1)) ?y129 ?r129
  case y129 => (intro u hu; have hw : IntKind.i64.wrap ((k : Int) + 1) = (k : Int) + 1 := (by rw [IntKind.wrap_i64]; omega); go_simp; try rfl)
  simp only [Act.put, List.setIfInBounds_toArray, List.set_cons_zero, List.set_cons_succ]
  refine take_held 7 trivial rfl (by kernel_rfl) (by kernel_rfl) (by kernel_rfl) (fun _ _ _ h => h) (by kernel_rfl) (v := vD) ?y130 ?r130
  case y130 => (intro u hu; exact run_slice_op 27 (.tmp 69) (some (.tmp 71)) none rfl _ _ rfl (HSD.out u))
  simp only [Act.put, List.setIfInBounds_toArray, List.set_cons_zero, List.set_cons_succ]
  obtain ⟨vA, y1, hrunA, O1', g1, at1⟩ := run_push_any (own_none x0 x0.heap.size) LF0 (by have := HN.out; simp [List.length_take]; omega) (Nat.le_refl _) 27
  have O1 : Own y1 x0.heap.size vA (l.take k) := (by simpa using O1')
  have b1' : Below x0.heap.size x0 y1 := push_below (v := vA) (l := l) g1
  obtain ⟨vB, y2, hrunB, O2', g2', at2'⟩ := run_push_any O1 (LD0 y1 b1') (by have := HN.out; simp [List.length_take]; omega) b1'.size 27
  have O2 : Own y2 x0.heap.size vB (cutP l k) := O2'
  have b2' : Below x0.heap.size x0 y2 := push_below2 b1' O1 g2'
  refine wpAnyH_ready (rs := [3]) (by kernel_rfl) (by simp) (AllReadyH.cons ((nth_eq _ 3).trans rfl) ?_ AllReadyH.nil)
  intro K131 hK131
  refine value_in hK131 (by kernel_rfl) vA y1 (run_push_op (.const (.slice none 0 0)) (.tmp 67) rfl _ _ _ rfl rfl hrunA) trivial ?_
  simp only [Act.put, List.setIfInBounds_toArray, List.set_cons_zero, List.set_cons_succ]
  refine wpAnyH_ready (rs := [8]) (by kernel_rfl) (by simp) (AllReadyH.cons ((nth_eq _ 8).trans rfl) ?_ AllReadyH.nil)
  intro K132 hK132
  refine value_in hK132 (by kernel_rfl) vB y2 (run_push_op (.tmp 68) (.tmp 72) rfl _ _ _ rfl rfl hrunB) trivial ?_
  simp only [Act.put, List.setIfInBounds_toArray, List.set_cons_zero, List.set_cons_succ]
  refine take_held 9 trivial rfl (by kernel_rfl) (by kernel_rfl) (by kernel_rfl) (fun _ _ _ h => h) (by kernel_rfl) (v := ?v133) ?y133 ?r133
  case y133 => (intro u hu; go_simp; try rfl)
  simp only [Act.put, List.setIfInBounds_toArray, List.set_cons_zero, List.set_cons_succ]
  refine done_held (by kernel_rfl) ?_ _
  obtain ⟨WB, hWB⟩ : ∃ WB, x0.heap.size = WB := ⟨_, rfl⟩
  obtain ⟨vW, hvW⟩ : ∃ vW, vW = vB := ⟨_, rfl⟩
  obtain ⟨y3, hy3⟩ : ∃ y3, y3 = y2 := ⟨_, rfl⟩
  rw [← hvW, ← hy3]
  rw [← hvW, ← hy3, hWB] at O2
  rw [← hy3] at b2'
  have HBx : Hid (Below x2.heap.size x2 y3) := B0.trans (b2'.mono (by rw [sz]; exact Nat.le_refl _))
  have HWv : Hid (Own y3 WB vW (cutP l k)) := O2
  have G4 : Hid (RdAt 57 B y3 B v' (cutP l k)) := HG2.out.go HBx.out
  have HZy : Hid (y3.heap[bx]? = some (.cells (tlA t) 42 (0, 0))) := (HBx.out.block _ (Array.getElem?_eq_some_iff.1 HZ2.out).1).trans HZ2.out
  have HBy : Hid (Below B w y3) := HBW.out.trans (HBx.out.mono (by have := HBW.out.size; have := HX.out; omega))
  have cA : Calls Try.prog 17 #[.pointer (some ⟨B, 0, none⟩), .int .i64 1000] y3 fun e w' => ∃ m, e = .returned (.tuple #[m, .bool true]) ∧ Own w' y3.heap.size m ((cutP l k).take 1000) ∧ Below y3.heap.size y3 w' := allT_any G4.out 1000 (by decide) (by decide)
  have HC : Hid (∀ u, Below y3.heap.size y3 u → Calls Try.prog 17 #[.pointer (some ⟨B, 0, none⟩), .int .i64 (1 + (pt : Int))] u fun e w' => ∃ m, e = .returned (.tuple #[m, .bool true]) ∧ Own w' u.heap.size m ((cutP l k).take (1 + pt)) ∧ Below u.heap.size u w') := fun u hu => by
    have q := allT_any (G4.out.go hu) (1 + pt) (by omega) (by omega)
    rw [show ((1 + pt : Nat) : Int) = 1 + (pt : Int) by omega] at q
    exact q
  obtain ⟨M, hM⟩ : ∃ M, (cutP l k).length = M := ⟨_, rfl⟩
  have hM2 : M ≤ 200 := by have := HN.out; rw [← hM]; rw [cutP_len l (by omega)]; omega
  have HLM : Hid ((cutP l k).length = M) := hM
  obtain ⟨aW, cW, eW⟩ := own_slice' HWv.out hM
  have HLL : Hid ((cutP l k).length ≤ 1000000) := by show _ ≤ _; omega
  have HLT : Hid (((cutP l k).take (1 + pt)).length ≤ 1000000) := by show _ ≤ _; rw [List.length_take]; omega
  have HZ3 : Hid (y3.heap[bx]? = some (.cells (tlA t) 42 (0, 0))) := HZy.out
  clear hrunA hrunB O1' O1 O2' O2 g1 at1 g2' at2' b1' b2' B0 LF0 LD0 sz hWB hvW hy3
  subst eW
  clear hM
  go_upto_region 16 with (first
    | (have X' := Oa; have X2' := cB; go_at_call 17; refine cB.mono ?_; rintro e x6 ⟨m2, rfl, Ob, bb⟩; clear cB)
    | (have X' := Oa; go_at_call 10; refine (cT _).mono ?_; rintro e yw ⟨rfl, hyw⟩; rw [hyw]; clear hyw cT)
    | (have X' := cA; go_at_call 17; refine cA.mono ?_; rintro e x5 ⟨m1, rfl, Oa', ba⟩; have Oa : Own x5 y3.heap.size m1 (cutP l k) := (by rw [List.take_of_length_le (by have := HLM.out; omega)] at Oa'; exact Oa'); have cB := HC.out x5 ba; clear cA Oa'))
  have by6 : Below y3.heap.size y3 x6 := ba.trans (bb.mono ba.size)
  have HA : Hid (Own x6 y3.heap.size m1 (cutP l k)) := owns_go Oa bb
  have HB : Hid (Own x6 x5.heap.size m2 ((cutP l k).take (1 + pt))) := Ob
  have HW : Hid (Own x6 WB (.slice aW M cW) (cutP l k)) := owns_go HWv.out by6
  obtain ⟨vT, hST, hT2'⟩ := own_takeS HW.out (min (1 + pt) M) (by have := HLM.out; omega)
  have HT2 : Hid (Own x6 WB vT ((cutP l k).take (1 + pt))) := by
    have q := hT2'
    rw [← HLM.out, take_min] at q
    exact q
  have hmin : (((min (1 + pt) M : Nat)) : Int) = min (1 + (pt : Int)) (M : Int) := by omega
  have HST : Hid (∀ u : World, (Instr.sliceAt 27 (.slice aW M cW) none (some (.int .i64 (min (1 + (pt : Int)) (M : Int)))) none).run Try.prog u = .ok vT u) := fun u => by rw [← hmin]; exact hST u
  have HZ : Hid (x6.heap[bx]? = some (.cells (tlA t) 42 (0, 0))) := (by6.block _ (Array.getElem?_eq_some_iff.1 HZ3.out).1).trans HZ3.out
  have HBW6 : Hid (Below B w x6) := HBy.out.trans (by6.mono (by have := HBy.out.size; have := HX.out; omega))
  have HLX : Hid (∀ u, Below x6.heap.size x6 u → (loadVar 42 (x.add (k * 19))).run Try.prog u = .ok (.agg (tlA t)) u) := fun u hu => HLD.out u (HBW6.out.trans (hu.mono (by have := HBW6.out.size; have := HX.out; omega)))
  clear hT2' hST hmin
  refine start_held (S := fun u => u.heap[bx]? = some (.cells (tlA t) 42 (0, 0)) ∧ Below x6.heap.size x6 u) 34 rfl (by kernel_rfl) (⟨HZ.out, (Below.refl _ _).drew⟩) ?_
  simp only [Array.replicate_succ, Array.replicate_zero, List.push_toArray, List.nil_append, List.cons_append]
  have hS0 : x6.drew.heap[bx]? = some (.cells (tlA t) 42 (0, 0)) ∧ Below x6.heap.size x6 x6.drew := ⟨HZ.out, (Below.refl _ _).drew⟩
  generalize x6.drew = x0 at *
  refine take_held 0 hS0 rfl (by kernel_rfl) (by kernel_rfl) (by kernel_rfl) (fun _ _ _ h => h) (by kernel_rfl) (v := ?v5042) ?y5042 ?r5042
  case y5042 => (intro u hu; go_simp; try rfl)
  simp only [Act.put, List.setIfInBounds_toArray, List.set_cons_zero, List.set_cons_succ]
  refine take_held 1 hS0 rfl (by kernel_rfl) (by kernel_rfl) (by kernel_rfl) (fun _ _ _ h => h) (by kernel_rfl) (v := ?v5043) ?y5043 ?r5043
  case y5043 => (intro u hu; go_simp; try rfl)
  simp only [Act.put, List.setIfInBounds_toArray, List.set_cons_zero, List.set_cons_succ]
  refine take_held 2 hS0 rfl (by kernel_rfl) (by kernel_rfl) (by kernel_rfl) (fun _ _ _ h => h) (by kernel_rfl) (v := .agg (tlA t)) ?y5044 ?r5044
  case y5044 => (intro u hu; exact run_load_at 42 _ rfl ⟨bx, 0, none⟩ rfl _ (load_tele hu.1))
  simp only [Act.put, List.setIfInBounds_toArray, List.set_cons_zero, List.set_cons_succ]
  refine take_held 3 hS0 rfl (by kernel_rfl) (by kernel_rfl) (by kernel_rfl) (fun _ _ _ h => h) (by kernel_rfl) (v := ?v5045) ?y5045 ?r5045
  case y5045 => (intro u hu; go_simp; try rfl)
  simp only [Act.put, List.setIfInBounds_toArray, List.set_cons_zero, List.set_cons_succ]
  refine take_held 4 hS0 rfl (by kernel_rfl) (by kernel_rfl) (by kernel_rfl) (fun _ _ _ h => h) (by kernel_rfl) (v := ?v5046) ?y5046 ?r5046
  case y5046 => (intro u hu; go_simp; try rfl)
  simp only [Act.put, List.setIfInBounds_toArray, List.set_cons_zero, List.set_cons_succ]
  refine take_held 5 hS0 rfl (by kernel_rfl) (by kernel_rfl) (by kernel_rfl) (fun _ _ _ h => h) (by kernel_rfl) (v := ?v5047) ?y5047 ?r5047
  case y5047 => (intro u hu; go_simp; try rfl)
  simp only [Act.put, List.setIfInBounds_toArray, List.set_cons_zero, List.set_cons_succ]
  refine take_held 6 hS0 rfl (by kernel_rfl) (by kernel_rfl) (by kernel_rfl) (fun _ _ _ h => h) (by kernel_rfl) (v := .agg (tlA t)) ?y5048 ?r5048
  case y5048 => (intro u hu; exact run_load_at 42 _ rfl (x.add (k * 19)) rfl _ (HLX.out u hu.2))
  simp only [Act.put, List.setIfInBounds_toArray, List.set_cons_zero, List.set_cons_succ]
  refine take_held 7 hS0 rfl (by kernel_rfl) (by kernel_rfl) (by kernel_rfl) (fun _ _ _ h => h) (by kernel_rfl) (v := .bool true) ?y5049 ?r5049
  case y5049 => (intro u hu; exact run_eql_tele _ _ _ rfl t rfl rfl)
  simp only [Act.put, List.setIfInBounds_toArray, List.set_cons_zero, List.set_cons_succ]
  refine take_held 8 hS0 rfl (by kernel_rfl) (by kernel_rfl) (by kernel_rfl) (fun _ _ _ h => h) (by kernel_rfl) (v := ?v5050) ?y5050 ?r5050
  case y5050 => (intro u hu; go_simp; try rfl)
  simp only [Act.put, List.setIfInBounds_toArray, List.set_cons_zero, List.set_cons_succ]
  refine take_held 9 hS0 rfl (by kernel_rfl) (by kernel_rfl) (by kernel_rfl) (fun _ _ _ h => h) (by kernel_rfl) (v := ?v5051) ?y5051 ?r5051
  case y5051 => (intro u hu; go_simp; try rfl)
  simp only [Act.put, List.setIfInBounds_toArray, List.set_cons_zero, List.set_cons_succ]
  refine take_held 10 hS0 rfl (by kernel_rfl) (by kernel_rfl) (by kernel_rfl) (fun _ _ _ h => h) (by kernel_rfl) (v := ?v5052) ?y5052 ?r5052
  case y5052 => (intro u hu; go_simp; try rfl)
  simp only [Act.put, List.setIfInBounds_toArray, List.set_cons_zero, List.set_cons_succ]
  refine take_held 11 hS0 rfl (by kernel_rfl) (by kernel_rfl) (by kernel_rfl) (fun _ _ _ h => h) (by kernel_rfl) (v := ?v5053) ?y5053 ?r5053
  case y5053 => (intro u hu; go_simp; try rfl)
  simp only [Act.put, List.setIfInBounds_toArray, List.set_cons_zero, List.set_cons_succ]
  refine take_held 12 hS0 rfl (by kernel_rfl) (by kernel_rfl) (by kernel_rfl) (fun _ _ _ h => h) (by kernel_rfl) (v := ?v5054) ?y5054 ?r5054
  case y5054 => (intro u hu; go_simp; try rfl)
  simp only [Act.put, List.setIfInBounds_toArray, List.set_cons_zero, List.set_cons_succ]
  refine take_held 13 hS0 rfl (by kernel_rfl) (by kernel_rfl) (by kernel_rfl) (fun _ _ _ h => h) (by kernel_rfl) (v := ?v5055) ?y5055 ?r5055
  case y5055 => (intro u hu; go_simp; try rfl)
  simp only [Act.put, List.setIfInBounds_toArray, List.set_cons_zero, List.set_cons_succ]
  refine take_held 14 hS0 rfl (by kernel_rfl) (by kernel_rfl) (by kernel_rfl) (fun _ _ _ h => h) (by kernel_rfl) (v := ?v5056) ?y5056 ?r5056
  case y5056 => (intro u hu; go_simp; try rfl)
  simp only [Act.put, List.setIfInBounds_toArray, List.set_cons_zero, List.set_cons_succ]
  refine take_held 15 hS0 rfl (by kernel_rfl) (by kernel_rfl) (by kernel_rfl) (fun _ _ _ h => h) (by kernel_rfl) (v := ?v5057) ?y5057 ?r5057
  case y5057 => (intro u hu; go_simp; try rfl)
  simp only [Act.put, List.setIfInBounds_toArray, List.set_cons_zero, List.set_cons_succ]
  refine take_held 16 hS0 rfl (by kernel_rfl) (by kernel_rfl) (by kernel_rfl) (fun _ _ _ h => h) (by kernel_rfl) (v := ?v5058) ?y5058 ?r5058
  case y5058 => (intro u hu; go_simp; try rfl)
  simp only [Act.put, List.setIfInBounds_toArray, List.set_cons_zero, List.set_cons_succ]
  refine take_held 17 hS0 rfl (by kernel_rfl) (by kernel_rfl) (by kernel_rfl) (fun _ _ _ h => h) (by kernel_rfl) (v := ?v5059) ?y5059 ?r5059
  case y5059 => (intro u hu; go_simp; try rfl)
  simp only [Act.put, List.setIfInBounds_toArray, List.set_cons_zero, List.set_cons_succ]
  refine wpAnyH_ready (rs := [18]) (by kernel_rfl) (by simp) (AllReadyH.cons ((nth_eq _ 18).trans rfl) ?_ AllReadyH.nil)
  intro K1 hK1
  refine call_in hK1 (by kernel_rfl) 18 #[m1, .slice aW M cW] (by go_simp) _ (as_ret (sameTeles_any (owns_go HA.out hS0.2) (owns_go HW.out hS0.2) HLL.out)) ?_
  rintro v1 x1 ⟨rfl, b1⟩
  have hS1 := And.intro ((b1.block _ (Array.getElem?_eq_some_iff.1 hS0.1).1).trans hS0.1) (hS0.2.trans (b1.mono hS0.2.size))
  refine ⟨hS1, ?_⟩
  simp only [Act.put, List.setIfInBounds_toArray, List.set_cons_zero, List.set_cons_succ]
  refine take_held 19 hS1 rfl (by kernel_rfl) (by kernel_rfl) (by kernel_rfl) (fun _ _ _ h => h) (by kernel_rfl) (v := ?v5060) ?y5060 ?r5060
  case y5060 => (intro u hu; go_simp; try rfl)
  simp only [Act.put, List.setIfInBounds_toArray, List.set_cons_zero, List.set_cons_succ]
  refine take_held 20 hS1 rfl (by kernel_rfl) (by kernel_rfl) (by kernel_rfl) (fun _ _ _ h => h) (by kernel_rfl) (v := ?v5061) ?y5061 ?r5061
  case y5061 => (intro u hu; go_simp; try rfl)
  simp only [Act.put, List.setIfInBounds_toArray, List.set_cons_zero, List.set_cons_succ]
  refine take_held 21 hS1 rfl (by kernel_rfl) (by kernel_rfl) (by kernel_rfl) (fun _ _ _ h => h) (by kernel_rfl) (v := ?v5062) ?y5062 ?r5062
  case y5062 => (intro u hu; go_simp; try rfl)
  simp only [Act.put, List.setIfInBounds_toArray, List.set_cons_zero, List.set_cons_succ]
  refine take_held 22 hS1 rfl (by kernel_rfl) (by kernel_rfl) (by kernel_rfl) (fun _ _ _ h => h) (by kernel_rfl) (v := ?v5063) ?y5063 ?r5063
  case y5063 => (intro u hu; go_simp; try rfl)
  simp only [Act.put, List.setIfInBounds_toArray, List.set_cons_zero, List.set_cons_succ]
  refine take_held 23 hS1 rfl (by kernel_rfl) (by kernel_rfl) (by kernel_rfl) (fun _ _ _ h => h) (by kernel_rfl) (v := ?v5064) ?y5064 ?r5064
  case y5064 => (intro u hu; go_simp; try rfl)
  simp only [Act.put, List.setIfInBounds_toArray, List.set_cons_zero, List.set_cons_succ]
  refine take_held 24 hS1 rfl (by kernel_rfl) (by kernel_rfl) (by kernel_rfl) (fun _ _ _ h => h) (by kernel_rfl) (v := ?v5065) ?y5065 ?r5065
  case y5065 => (intro u hu; go_simp; try rfl)
  simp only [Act.put, List.setIfInBounds_toArray, List.set_cons_zero, List.set_cons_succ]
  refine take_held 25 hS1 rfl (by kernel_rfl) (by kernel_rfl) (by kernel_rfl) (fun _ _ _ h => h) (by kernel_rfl) (v := ?v5066) ?y5066 ?r5066
  case y5066 => (intro u hu; go_simp; try rfl)
  simp only [Act.put, List.setIfInBounds_toArray, List.set_cons_zero, List.set_cons_succ]
  refine take_held 26 hS1 rfl (by kernel_rfl) (by kernel_rfl) (by kernel_rfl) (fun _ _ _ h => h) (by kernel_rfl) (v := .int .i64 (min (1 + (pt : Int)) (M : Int))) ?y5067 ?r5067
  case y5067 => (intro u hu; by_cases hq : (M : Int) < 1 + (pt : Int); (case pos => have e1 : min (1 + (pt : Int)) (M : Int) = (M : Int) := (by omega); rw [e1]; have hq2 : ¬ 1 + (pt : Int) < (M : Int) := (by omega); have hq3 : ¬ 1 + (pt : Int) ≤ (M : Int) := (by omega); go_simp; try rfl); (case neg => have e1 : min (1 + (pt : Int)) (M : Int) = 1 + (pt : Int) := (by omega); rw [e1]; have hq3 : 1 + (pt : Int) ≤ (M : Int) := (by omega); go_simp; try rfl))
  simp only [Act.put, List.setIfInBounds_toArray, List.set_cons_zero, List.set_cons_succ]
  refine take_held 27 hS1 rfl (by kernel_rfl) (by kernel_rfl) (by kernel_rfl) (fun _ _ _ h => h) (by kernel_rfl) (v := vT) ?y5068 ?r5068
  case y5068 => (intro u hu; exact run_slice_op 27 (.tmp 113) none (some (.tmp 117)) rfl _ _ rfl (HST.out u))
  simp only [Act.put, List.setIfInBounds_toArray, List.set_cons_zero, List.set_cons_succ]
  refine wpAnyH_ready (rs := [28]) (by kernel_rfl) (by simp) (AllReadyH.cons ((nth_eq _ 28).trans rfl) ?_ AllReadyH.nil)
  intro K2 hK2
  refine call_in hK2 (by kernel_rfl) 18 #[m2, vT] (by go_simp) _ (as_ret (sameTeles_any (owns_go HB.out hS1.2) (owns_go HT2.out hS1.2) HLT.out)) ?_
  rintro v2 x2 ⟨rfl, b2⟩
  have hS2 := And.intro ((b2.block _ (Array.getElem?_eq_some_iff.1 hS1.1).1).trans hS1.1) (hS1.2.trans (b2.mono hS1.2.size))
  refine ⟨hS2, ?_⟩
  simp only [Act.put, List.setIfInBounds_toArray, List.set_cons_zero, List.set_cons_succ]
  refine take_held 29 hS2 rfl (by kernel_rfl) (by kernel_rfl) (by kernel_rfl) (fun _ _ _ h => h) (by kernel_rfl) (v := ?v5069) ?y5069 ?r5069
  case y5069 => (intro u hu; go_simp; try rfl)
  simp only [Act.put, List.setIfInBounds_toArray, List.set_cons_zero, List.set_cons_succ]
  refine take_held 30 hS2 rfl (by kernel_rfl) (by kernel_rfl) (by kernel_rfl) (fun _ _ _ h => h) (by kernel_rfl) (v := ?v5070) ?y5070 ?r5070
  case y5070 => (intro u hu; go_simp; try rfl)
  simp only [Act.put, List.setIfInBounds_toArray, List.set_cons_zero, List.set_cons_succ]
  refine wpAnyH_ready (rs := [31]) (by kernel_rfl) (by simp) (AllReadyH.cons ((nth_eq _ 31).trans rfl) ?_ AllReadyH.nil)
  intro K3 hK3
  refine call_in hK3 (by kernel_rfl) 8 #[] (by go_simp) _ (as_ret (awake20_any _)) ?_
  rintro v3 x3 ⟨rfl, b3⟩
  have hS3 := And.intro ((b3.block _ (Array.getElem?_eq_some_iff.1 hS2.1).1).trans hS2.1) (hS2.2.trans (b3.mono hS2.2.size))
  refine ⟨hS3, ?_⟩
  simp only [Act.put, List.setIfInBounds_toArray, List.set_cons_zero, List.set_cons_succ]
  refine take_held 32 hS3 rfl (by kernel_rfl) (by kernel_rfl) (by kernel_rfl) (fun _ _ _ h => h) (by kernel_rfl) (v := ?v5071) ?y5071 ?r5071
  case y5071 => (intro u hu; go_simp; try rfl)
  simp only [Act.put, List.setIfInBounds_toArray, List.set_cons_zero, List.set_cons_succ]
  refine take_held 33 hS3 rfl (by kernel_rfl) (by kernel_rfl) (by kernel_rfl) (fun _ _ _ h => h) (by kernel_rfl) (v := ?v5072) ?y5072 ?r5072
  case y5072 => (intro u hu; go_simp; try rfl)
  simp only [Act.put, List.setIfInBounds_toArray, List.set_cons_zero, List.set_cons_succ]
  refine done_held (by kernel_rfl) ?_ _
  have HE : Hid (Below B w x3) := HBW6.out.trans (hS3.2.mono (by have := HBW6.out.size; have := HX.out; omega))
  clear hS0
  go_wp2
  go_ret
  exact ⟨rfl, HE.out⟩
set_option maxRecDepth 100000 in
set_option maxHeartbeats 4000000 in
theorem order_keep (v0 : Value) (l : List Tl) (i0 m0 : Int) (w : World) (hL : Lies w v0 l) (hn0 : 0 < l.length) (hn1 : l.length ≤ 200) : Calls Try.prog 5 #[v0, .int .i64 i0, .bool true, .int .i64 m0] w fun e w' => e = .returned (.bool true) ∧ Below w.heap.size w w' := by
  obtain ⟨N, hN⟩ : ∃ N, l.length = N := ⟨_, rfl⟩
  rw [hN] at hn0 hn1
  have cP := fun w => place_any i0 N w (by omega) (by omega)
  have pP := place_bd i0 N (by omega)
  obtain ⟨k, hk⟩ : ∃ k : Nat, place i0 N = (k : Int) := ⟨(place i0 N).toNat, by omega⟩
  have HPI : Hid (plN i0 N = k) := by show (place i0 N).toNat = k; omega
  rw [hk] at cP pP
  have cT := fun w => place_any m0 20 w (by decide) (by decide)
  have pT := place_bd m0 20 (by decide)
  obtain ⟨pt, hpt⟩ : ∃ pt : Nat, place m0 20 = (pt : Int) := ⟨(place m0 20).toNat, by omega⟩
  rw [hpt] at cT pT
  clear hk hpt
  have hkN : k < N := by omega
  have hkl : k < l.length := by omega
  obtain ⟨x, cap, e0, hld0⟩ := hL.item hkl
  obtain ⟨t, ht⟩ : ∃ t, l[k]'hkl = t := ⟨_, rfl⟩
  rw [ht] at hld0
  rw [hN] at e0
  subst e0
  obtain ⟨B, hB⟩ : ∃ B, w.heap.size = B := ⟨_, rfl⟩
  have HLD : Hid (∀ u, Below B w u → (loadVar 42 (x.add (k * 19))).run Try.prog u = .ok (.agg (tlA t)) u) := fun u hu => by
    obtain ⟨x', cap', e1, h1⟩ := (hL.go (w' := u) (by rw [hB]; exact hu)).item hkl
    rw [hN] at e1
    cases e1
    rw [ht] at h1
    exact h1
  have HLI : Hid (∀ u, Below B w u → Lies u (.slice (some x) N cap) l) := fun u hu => hL.go (by rw [hB]; exact hu)
  have HT : Hid (l[k]? = some t) := by rw [← ht]; exact List.getElem?_eq_getElem hkl
  have HN : Hid (l.length = N) := hN
  have n1 := radNew_any w
  rw [hB] at n1 ⊢
  have HX : Hid (w.heap.size = B) := hB
  have HKN : Hid (k < N ∧ N ≤ 200) := ⟨hkN, hn1⟩
  have hni : ((N : Int) == 0) = false := by simp; omega
  have hn2 : (N : Int) ≤ 200 := by omega
  have hk2 : (k : Int) < (N : Int) := by omega
  have hk3 : (k : Int) ≤ (N : Int) := by omega
  have hkc : Hid (l.length ≤ 200 ∧ k ≤ l.length ∧ k + 1 ≤ l.length) := ⟨by omega, by omega, by omega⟩
  obtain ⟨vF, hSF, hLF⟩ := run_first hL k (by omega)
  obtain ⟨vD, hSD, hLD, _⟩ := run_from hL (k + 1) (by omega)
  have HSF : Hid (∀ u : World, (Instr.sliceAt 27 (.slice (some x) N cap) none (some (.int .i64 k)) none).run Try.prog u = .ok vF u) := hSF
  have HSD : Hid (∀ u : World, (Instr.sliceAt 27 (.slice (some x) N cap) (some (.int .i64 ((k : Int) + 1))) none none).run Try.prog u = .ok vD u) := fun u => hSD u
  have HLF0 : Hid (∀ u, Below B w u → Lies u vF (l.take k)) := fun u hu => hLF.go (by rw [hB]; exact hu)
  have HLD0 : Hid (∀ u, Below B w u → Lies u vD (l.drop (k + 1))) := fun u hu => hLD.go (by rw [hB]; exact hu)
  clear hSF hLF hSD hLD
  clear hB hN hL hkl ht hld0 hn0
  go_enter Try.func5, Try.ntmps5
  go_upto_region 10 with (first
    | (go_at_call 9; refine n1.mono ?_; rintro e x1 ⟨rfl, G1, b1⟩; clear n1; obtain ⟨v2, y2, hrun2, O2', g2, at2⟩ := run_push_any (own_none x1 x1.heap.size) (HLI.out x1 b1) (by rw [HN.out]; simp; omega) (Nat.le_refl _) 27; have O2 : Own y2 x1.heap.size v2 l := (by simpa using O2'); have bb2 : Below x1.heap.size x1 y2 := push_below (v := v2) (l := l) g2; have G2 := G1.go bb2; have b2 : Below B w y2 := b1.trans (bb2.mono (by have := b1.size; have := HX.out; omega)); clear G1 b1 bb2 O2' g2 at2)
    | (have X' := hrun2; at_builtin; go_loud (refine wpList_valW (by kernel_rfl) v2 y2 (run_push_op (.const (.slice none 0 0)) (.tmp 28) rfl (.slice none 0 0) (.slice (some x) N cap) v2 rfl rfl hrun2) ?_; clear hrun2))
    | (go_at_call 11; refine (send_case G2 (Lies.of_own O2) (by rw [HN.out]; omega) N (by rw [HN.out]; simp; omega)).mono ?_; rintro e x3 ⟨rfl, v3, G3', t3⟩; have b3 := t3.below G2 b2; have G3 : RdAt 57 B x3 B v3 l := (by rw [List.nil_append, List.take_of_length_le (by rw [HN.out]; exact Nat.le_refl _)] at G3'; exact G3'); clear G2 b2 O2 t3 G3' ; have cH := radHear_any G3 i0 true t (by rw [HN.out, HPI.out]; exact HT.out); rw [HN.out, HPI.out] at cH; have HG3 : Hid (RdAt 57 B x3 B v3 l) := G3; have HB3 : Hid (Below B w x3) := b3; clear G3 b3)
    | (go_at_call 13; refine cH.mono ?_; rintro e u1 ⟨rfl, v', G1', t1⟩; have G1 : RdAt 57 B u1 B v' l := G1'; obtain ⟨x2, hx2⟩ : ∃ zz, u1.alloc (.cells (tlA t) 42) = zz := ⟨_, rfl⟩; have bbx2 : Below u1.heap.size u1 x2 := (by rw [← hx2]; exact (Below.refl _ _).alloc (Nat.le_refl _) _); have zx2 : x2.heap[u1.heap.size]? = some (.cells (tlA t) 42 (0, 0)) := (by rw [← hx2]; exact World.alloc_heap_new _ _); have HG2 : Hid (RdAt 57 B x2 B v' l) := G1.go bbx2; have HBW : Hid (Below B w x2) := (t1.below HG3.out HB3.out).trans (bbx2.mono (by have := (t1.below HG3.out HB3.out).size; have := HX.out; omega)); have HH2 : Hid (u1.alloc (.cells (tlA t) 42) = x2) := hx2; obtain ⟨bx, hbx⟩ : ∃ bx, u1.heap.size = bx := ⟨_, rfl⟩; have HZ2 : Hid (x2.heap[bx]? = some (.cells (tlA t) 42 (0, 0))) := hbx ▸ zx2; clear cH G1 G1' t1 bbx2 hx2 zx2)
    | (refine wpList_new rfl rfl 42 10 (.tmp 40) rfl rfl rfl rfl (tlA tl0) (tlA t) (zeroTele _) rfl rfl infoTele rfl (tlA_one _) ?_; rw [HH2.out, hbx])
    | (have X' := cP; go_at_call 10; refine (cP _).mono ?_; rintro e yw ⟨rfl, hyw⟩; rw [hyw]; clear hyw cP))
  have HLF : Hid (∀ u, Below x2.heap.size x2 u → Lies u vF (l.take k)) := fun u hu => HLF0.out u (HBW.out.trans (hu.mono (by have := HBW.out.size; have := HX.out; omega)))
  have HLD2 : Hid (∀ u, Below x2.heap.size x2 u → Lies u vD (l.drop (k + 1))) := fun u hu => HLD0.out u (HBW.out.trans (hu.mono (by have := HBW.out.size; have := HX.out; omega)))
  refine start_held (S := fun _ => True) 10 rfl (by kernel_rfl) trivial ?_
  simp only [Array.replicate_succ, Array.replicate_zero, List.push_toArray, List.nil_append, List.cons_append]
  have B0 : Below x2.heap.size x2 x2.drew := (Below.refl _ _).drew
  have LF0 : Lies x2.drew vF (l.take k) := HLF.out x2.drew B0
  have LD0 : ∀ u, Below x2.drew.heap.size x2.drew u → Lies u vD (l.drop (k + 1)) := fun u hu => HLD2.out u (B0.trans hu)
  have sz : x2.drew.heap.size = x2.heap.size := rfl
  generalize x2.drew = x0 at *
  refine take_held 0 trivial rfl (by kernel_rfl) (by kernel_rfl) (by kernel_rfl) (fun _ _ _ h => h) (by kernel_rfl) (v := ?v134) ?y134 ?r134
  case y134 => (intro u hu; go_simp; try rfl)
  simp only [Act.put, List.setIfInBounds_toArray, List.set_cons_zero, List.set_cons_succ]
  refine take_held 1 trivial rfl (by kernel_rfl) (by kernel_rfl) (by kernel_rfl) (fun _ _ _ h => h) (by kernel_rfl) (v := ?v135) ?y135 ?r135
  case y135 => (intro u hu; go_simp; try rfl)
  simp only [Act.put, List.setIfInBounds_toArray, List.set_cons_zero, List.set_cons_succ]
  refine take_held 2 trivial rfl (by kernel_rfl) (by kernel_rfl) (by kernel_rfl) (fun _ _ _ h => h) (by kernel_rfl) (v := vF) ?y136 ?r136
  case y136 => (intro u hu; exact run_slice_op 27 (.tmp 65) none (some (.tmp 66)) rfl _ _ rfl (HSF.out u))
  simp only [Act.put, List.setIfInBounds_toArray, List.set_cons_zero, List.set_cons_succ]
  refine take_held 4 trivial rfl (by kernel_rfl) (by kernel_rfl) (by kernel_rfl) (fun _ _ _ h => h) (by kernel_rfl) (v := ?v137) ?y137 ?r137
  case y137 => (intro u hu; go_simp; try rfl)
  simp only [Act.put, List.setIfInBounds_toArray, List.set_cons_zero, List.set_cons_succ]
  refine take_held 5 trivial rfl (by kernel_rfl) (by kernel_rfl) (by kernel_rfl) (fun _ _ _ h => h) (by kernel_rfl) (v := ?v138) ?y138 ?r138
  case y138 => (intro u hu; go_simp; try rfl)
  simp only [Act.put, List.setIfInBounds_toArray, List.set_cons_zero, List.set_cons_succ]
  refine take_held 6 trivial rfl (by kernel_rfl) (by kernel_rfl) (by kernel_rfl) (fun _ _ _ h => h) (by kernel_rfl) (v := .int .i64 ((k : Int) + 1)) ?y139 ?r139
  case y139 => (intro u hu; have hw : IntKind.i64.wrap ((k : Int) + 1) = (k : Int) + 1 := (by rw [IntKind.wrap_i64]; omega); go_simp; try rfl)
  simp only [Act.put, List.setIfInBounds_toArray, List.set_cons_zero, List.set_cons_succ]
  refine take_held 7 trivial rfl (by kernel_rfl) (by kernel_rfl) (by kernel_rfl) (fun _ _ _ h => h) (by kernel_rfl) (v := vD) ?y140 ?r140
  case y140 => (intro u hu; exact run_slice_op 27 (.tmp 69) (some (.tmp 71)) none rfl _ _ rfl (HSD.out u))
  simp only [Act.put, List.setIfInBounds_toArray, List.set_cons_zero, List.set_cons_succ]
  obtain ⟨vA, y1, hrunA, O1', g1, at1⟩ := run_push_any (own_none x0 x0.heap.size) LF0 (by have := HN.out; simp [List.length_take]; omega) (Nat.le_refl _) 27
  have O1 : Own y1 x0.heap.size vA (l.take k) := (by simpa using O1')
  have b1' : Below x0.heap.size x0 y1 := push_below (v := vA) (l := l) g1
  obtain ⟨vB, y2, hrunB, O2', g2', at2'⟩ := run_push_any O1 (LD0 y1 b1') (by have := HN.out; simp [List.length_take]; omega) b1'.size 27
  have O2 : Own y2 x0.heap.size vB (cutP l k) := O2'
  have b2' : Below x0.heap.size x0 y2 := push_below2 b1' O1 g2'
  refine wpAnyH_ready (rs := [3]) (by kernel_rfl) (by simp) (AllReadyH.cons ((nth_eq _ 3).trans rfl) ?_ AllReadyH.nil)
  intro K141 hK141
  refine value_in hK141 (by kernel_rfl) vA y1 (run_push_op (.const (.slice none 0 0)) (.tmp 67) rfl _ _ _ rfl rfl hrunA) trivial ?_
  simp only [Act.put, List.setIfInBounds_toArray, List.set_cons_zero, List.set_cons_succ]
  refine wpAnyH_ready (rs := [8]) (by kernel_rfl) (by simp) (AllReadyH.cons ((nth_eq _ 8).trans rfl) ?_ AllReadyH.nil)
  intro K142 hK142
  refine value_in hK142 (by kernel_rfl) vB y2 (run_push_op (.tmp 68) (.tmp 72) rfl _ _ _ rfl rfl hrunB) trivial ?_
  simp only [Act.put, List.setIfInBounds_toArray, List.set_cons_zero, List.set_cons_succ]
  refine take_held 9 trivial rfl (by kernel_rfl) (by kernel_rfl) (by kernel_rfl) (fun _ _ _ h => h) (by kernel_rfl) (v := ?v143) ?y143 ?r143
  case y143 => (intro u hu; go_simp; try rfl)
  simp only [Act.put, List.setIfInBounds_toArray, List.set_cons_zero, List.set_cons_succ]
  refine done_held (by kernel_rfl) ?_ _
  have HB2y : Hid (Below x2.heap.size x2 y2) := B0.trans (b2'.mono (by rw [sz]; exact Nat.le_refl _))
  have HBy2 : Below B w y2 := HBW.out.trans (HB2y.out.mono (by have := HBW.out.size; have := HX.out; omega))
  obtain ⟨vW, y3, hrun3, O3', g3, at3⟩ := run_push_any (own_none y2 y2.heap.size) (HLI.out y2 HBy2) (by rw [HN.out]; simp; omega) (Nat.le_refl _) 27
  obtain ⟨WB, hWB⟩ : ∃ WB, y2.heap.size = WB := ⟨_, rfl⟩
  have HWv : Hid (Own y3 WB vW l) := (by show Own y3 WB vW l; rw [← hWB]; simpa using O3')
  have HBx : Hid (Below x2.heap.size x2 y3) := HB2y.out.trans ((push_below (v := vW) (l := l) g3).mono HB2y.out.size)
  clear HBy2 O3' g3 at3
  have G4 : Hid (RdAt 57 B y3 B v' l) := HG2.out.go HBx.out
  have HZy : Hid (y3.heap[bx]? = some (.cells (tlA t) 42 (0, 0))) := (HBx.out.block _ (Array.getElem?_eq_some_iff.1 HZ2.out).1).trans HZ2.out
  have HBy : Hid (Below B w y3) := HBW.out.trans (HBx.out.mono (by have := HBW.out.size; have := HX.out; omega))
  have cA : Calls Try.prog 17 #[.pointer (some ⟨B, 0, none⟩), .int .i64 1000] y3 fun e w' => ∃ m, e = .returned (.tuple #[m, .bool true]) ∧ Own w' y3.heap.size m (l.take 1000) ∧ Below y3.heap.size y3 w' := allT_any G4.out 1000 (by decide) (by decide)
  have HC : Hid (∀ u, Below y3.heap.size y3 u → Calls Try.prog 17 #[.pointer (some ⟨B, 0, none⟩), .int .i64 (1 + (pt : Int))] u fun e w' => ∃ m, e = .returned (.tuple #[m, .bool true]) ∧ Own w' u.heap.size m (l.take (1 + pt)) ∧ Below u.heap.size u w') := fun u hu => by
    have q := allT_any (G4.out.go hu) (1 + pt) (by omega) (by omega)
    rw [show ((1 + pt : Nat) : Int) = 1 + (pt : Int) by omega] at q
    exact q
  obtain ⟨M, hM⟩ : ∃ M, l.length = M := ⟨_, rfl⟩
  have hM2 : M ≤ 200 := by have := HN.out; rw [← hM]; omega
  have HLM : Hid (l.length = M) := hM
  obtain ⟨aW, cW, eW⟩ := own_slice' HWv.out hM
  have HLL : Hid (l.length ≤ 1000000) := by show _ ≤ _; omega
  have HLT : Hid ((l.take (1 + pt)).length ≤ 1000000) := by show _ ≤ _; rw [List.length_take]; omega
  have HZ3 : Hid (y3.heap[bx]? = some (.cells (tlA t) 42 (0, 0))) := HZy.out
  clear hrunA hrunB O1' O1 O2' O2 g1 at1 g2' at2' b1' b2' B0 LF0 LD0 sz hWB
  subst eW
  clear hM
  go_upto_region 16 with (first
    | (have X' := hrun3; at_builtin; refine wpList_valW (by kernel_rfl) (.slice aW M cW) y3 (run_push_op (.const (.slice none 0 0)) (.tmp 75) rfl (.slice none 0 0) (.slice (some x) N cap) (.slice aW M cW) rfl rfl hrun3) ?_; clear hrun3)
    | (have X' := Oa; have X2' := cB; go_at_call 17; refine cB.mono ?_; rintro e x6 ⟨m2, rfl, Ob, bb⟩; clear cB)
    | (have X' := Oa; go_at_call 10; refine (cT _).mono ?_; rintro e yw ⟨rfl, hyw⟩; rw [hyw]; clear hyw cT)
    | (have X' := cA; go_at_call 17; refine cA.mono ?_; rintro e x5 ⟨m1, rfl, Oa', ba⟩; have Oa : Own x5 y3.heap.size m1 l := (by rw [List.take_of_length_le (by have := HLM.out; omega)] at Oa'; exact Oa'); have cB := HC.out x5 ba; clear cA Oa'))
  have by6 : Below y3.heap.size y3 x6 := ba.trans (bb.mono ba.size)
  have HA : Hid (Own x6 y3.heap.size m1 l) := owns_go Oa bb
  have HB : Hid (Own x6 x5.heap.size m2 (l.take (1 + pt))) := Ob
  have HW : Hid (Own x6 WB (.slice aW M cW) l) := owns_go HWv.out by6
  obtain ⟨vT, hST, hT2'⟩ := own_takeS HW.out (min (1 + pt) M) (by have := HLM.out; omega)
  have HT2 : Hid (Own x6 WB vT (l.take (1 + pt))) := by
    have q := hT2'
    rw [← HLM.out, take_min] at q
    exact q
  have hmin : (((min (1 + pt) M : Nat)) : Int) = min (1 + (pt : Int)) (M : Int) := by omega
  have HST : Hid (∀ u : World, (Instr.sliceAt 27 (.slice aW M cW) none (some (.int .i64 (min (1 + (pt : Int)) (M : Int)))) none).run Try.prog u = .ok vT u) := fun u => by rw [← hmin]; exact hST u
  have HZ : Hid (x6.heap[bx]? = some (.cells (tlA t) 42 (0, 0))) := (by6.block _ (Array.getElem?_eq_some_iff.1 HZ3.out).1).trans HZ3.out
  have HBW6 : Hid (Below B w x6) := HBy.out.trans (by6.mono (by have := HBy.out.size; have := HX.out; omega))
  have HLX : Hid (∀ u, Below x6.heap.size x6 u → (loadVar 42 (x.add (k * 19))).run Try.prog u = .ok (.agg (tlA t)) u) := fun u hu => HLD.out u (HBW6.out.trans (hu.mono (by have := HBW6.out.size; have := HX.out; omega)))
  clear hT2' hST hmin
  refine start_held (S := fun u => u.heap[bx]? = some (.cells (tlA t) 42 (0, 0)) ∧ Below x6.heap.size x6 u) 34 rfl (by kernel_rfl) (⟨HZ.out, (Below.refl _ _).drew⟩) ?_
  simp only [Array.replicate_succ, Array.replicate_zero, List.push_toArray, List.nil_append, List.cons_append]
  have hS0 : x6.drew.heap[bx]? = some (.cells (tlA t) 42 (0, 0)) ∧ Below x6.heap.size x6 x6.drew := ⟨HZ.out, (Below.refl _ _).drew⟩
  generalize x6.drew = x0 at *
  refine take_held 0 hS0 rfl (by kernel_rfl) (by kernel_rfl) (by kernel_rfl) (fun _ _ _ h => h) (by kernel_rfl) (v := ?v5042) ?y5042 ?r5042
  case y5042 => (intro u hu; go_simp; try rfl)
  simp only [Act.put, List.setIfInBounds_toArray, List.set_cons_zero, List.set_cons_succ]
  refine take_held 1 hS0 rfl (by kernel_rfl) (by kernel_rfl) (by kernel_rfl) (fun _ _ _ h => h) (by kernel_rfl) (v := ?v5043) ?y5043 ?r5043
  case y5043 => (intro u hu; go_simp; try rfl)
  simp only [Act.put, List.setIfInBounds_toArray, List.set_cons_zero, List.set_cons_succ]
  refine take_held 2 hS0 rfl (by kernel_rfl) (by kernel_rfl) (by kernel_rfl) (fun _ _ _ h => h) (by kernel_rfl) (v := .agg (tlA t)) ?y5044 ?r5044
  case y5044 => (intro u hu; exact run_load_at 42 _ rfl ⟨bx, 0, none⟩ rfl _ (load_tele hu.1))
  simp only [Act.put, List.setIfInBounds_toArray, List.set_cons_zero, List.set_cons_succ]
  refine take_held 3 hS0 rfl (by kernel_rfl) (by kernel_rfl) (by kernel_rfl) (fun _ _ _ h => h) (by kernel_rfl) (v := ?v5045) ?y5045 ?r5045
  case y5045 => (intro u hu; go_simp; try rfl)
  simp only [Act.put, List.setIfInBounds_toArray, List.set_cons_zero, List.set_cons_succ]
  refine take_held 4 hS0 rfl (by kernel_rfl) (by kernel_rfl) (by kernel_rfl) (fun _ _ _ h => h) (by kernel_rfl) (v := ?v5046) ?y5046 ?r5046
  case y5046 => (intro u hu; go_simp; try rfl)
  simp only [Act.put, List.setIfInBounds_toArray, List.set_cons_zero, List.set_cons_succ]
  refine take_held 5 hS0 rfl (by kernel_rfl) (by kernel_rfl) (by kernel_rfl) (fun _ _ _ h => h) (by kernel_rfl) (v := ?v5047) ?y5047 ?r5047
  case y5047 => (intro u hu; go_simp; try rfl)
  simp only [Act.put, List.setIfInBounds_toArray, List.set_cons_zero, List.set_cons_succ]
  refine take_held 6 hS0 rfl (by kernel_rfl) (by kernel_rfl) (by kernel_rfl) (fun _ _ _ h => h) (by kernel_rfl) (v := .agg (tlA t)) ?y5048 ?r5048
  case y5048 => (intro u hu; exact run_load_at 42 _ rfl (x.add (k * 19)) rfl _ (HLX.out u hu.2))
  simp only [Act.put, List.setIfInBounds_toArray, List.set_cons_zero, List.set_cons_succ]
  refine take_held 7 hS0 rfl (by kernel_rfl) (by kernel_rfl) (by kernel_rfl) (fun _ _ _ h => h) (by kernel_rfl) (v := .bool true) ?y5049 ?r5049
  case y5049 => (intro u hu; exact run_eql_tele _ _ _ rfl t rfl rfl)
  simp only [Act.put, List.setIfInBounds_toArray, List.set_cons_zero, List.set_cons_succ]
  refine take_held 8 hS0 rfl (by kernel_rfl) (by kernel_rfl) (by kernel_rfl) (fun _ _ _ h => h) (by kernel_rfl) (v := ?v5050) ?y5050 ?r5050
  case y5050 => (intro u hu; go_simp; try rfl)
  simp only [Act.put, List.setIfInBounds_toArray, List.set_cons_zero, List.set_cons_succ]
  refine take_held 9 hS0 rfl (by kernel_rfl) (by kernel_rfl) (by kernel_rfl) (fun _ _ _ h => h) (by kernel_rfl) (v := ?v5051) ?y5051 ?r5051
  case y5051 => (intro u hu; go_simp; try rfl)
  simp only [Act.put, List.setIfInBounds_toArray, List.set_cons_zero, List.set_cons_succ]
  refine take_held 10 hS0 rfl (by kernel_rfl) (by kernel_rfl) (by kernel_rfl) (fun _ _ _ h => h) (by kernel_rfl) (v := ?v5052) ?y5052 ?r5052
  case y5052 => (intro u hu; go_simp; try rfl)
  simp only [Act.put, List.setIfInBounds_toArray, List.set_cons_zero, List.set_cons_succ]
  refine take_held 11 hS0 rfl (by kernel_rfl) (by kernel_rfl) (by kernel_rfl) (fun _ _ _ h => h) (by kernel_rfl) (v := ?v5053) ?y5053 ?r5053
  case y5053 => (intro u hu; go_simp; try rfl)
  simp only [Act.put, List.setIfInBounds_toArray, List.set_cons_zero, List.set_cons_succ]
  refine take_held 12 hS0 rfl (by kernel_rfl) (by kernel_rfl) (by kernel_rfl) (fun _ _ _ h => h) (by kernel_rfl) (v := ?v5054) ?y5054 ?r5054
  case y5054 => (intro u hu; go_simp; try rfl)
  simp only [Act.put, List.setIfInBounds_toArray, List.set_cons_zero, List.set_cons_succ]
  refine take_held 13 hS0 rfl (by kernel_rfl) (by kernel_rfl) (by kernel_rfl) (fun _ _ _ h => h) (by kernel_rfl) (v := ?v5055) ?y5055 ?r5055
  case y5055 => (intro u hu; go_simp; try rfl)
  simp only [Act.put, List.setIfInBounds_toArray, List.set_cons_zero, List.set_cons_succ]
  refine take_held 14 hS0 rfl (by kernel_rfl) (by kernel_rfl) (by kernel_rfl) (fun _ _ _ h => h) (by kernel_rfl) (v := ?v5056) ?y5056 ?r5056
  case y5056 => (intro u hu; go_simp; try rfl)
  simp only [Act.put, List.setIfInBounds_toArray, List.set_cons_zero, List.set_cons_succ]
  refine take_held 15 hS0 rfl (by kernel_rfl) (by kernel_rfl) (by kernel_rfl) (fun _ _ _ h => h) (by kernel_rfl) (v := ?v5057) ?y5057 ?r5057
  case y5057 => (intro u hu; go_simp; try rfl)
  simp only [Act.put, List.setIfInBounds_toArray, List.set_cons_zero, List.set_cons_succ]
  refine take_held 16 hS0 rfl (by kernel_rfl) (by kernel_rfl) (by kernel_rfl) (fun _ _ _ h => h) (by kernel_rfl) (v := ?v5058) ?y5058 ?r5058
  case y5058 => (intro u hu; go_simp; try rfl)
  simp only [Act.put, List.setIfInBounds_toArray, List.set_cons_zero, List.set_cons_succ]
  refine take_held 17 hS0 rfl (by kernel_rfl) (by kernel_rfl) (by kernel_rfl) (fun _ _ _ h => h) (by kernel_rfl) (v := ?v5059) ?y5059 ?r5059
  case y5059 => (intro u hu; go_simp; try rfl)
  simp only [Act.put, List.setIfInBounds_toArray, List.set_cons_zero, List.set_cons_succ]
  refine wpAnyH_ready (rs := [18]) (by kernel_rfl) (by simp) (AllReadyH.cons ((nth_eq _ 18).trans rfl) ?_ AllReadyH.nil)
  intro K1 hK1
  refine call_in hK1 (by kernel_rfl) 18 #[m1, .slice aW M cW] (by go_simp) _ (as_ret (sameTeles_any (owns_go HA.out hS0.2) (owns_go HW.out hS0.2) HLL.out)) ?_
  rintro v1 x1 ⟨rfl, b1⟩
  have hS1 := And.intro ((b1.block _ (Array.getElem?_eq_some_iff.1 hS0.1).1).trans hS0.1) (hS0.2.trans (b1.mono hS0.2.size))
  refine ⟨hS1, ?_⟩
  simp only [Act.put, List.setIfInBounds_toArray, List.set_cons_zero, List.set_cons_succ]
  refine take_held 19 hS1 rfl (by kernel_rfl) (by kernel_rfl) (by kernel_rfl) (fun _ _ _ h => h) (by kernel_rfl) (v := ?v5060) ?y5060 ?r5060
  case y5060 => (intro u hu; go_simp; try rfl)
  simp only [Act.put, List.setIfInBounds_toArray, List.set_cons_zero, List.set_cons_succ]
  refine take_held 20 hS1 rfl (by kernel_rfl) (by kernel_rfl) (by kernel_rfl) (fun _ _ _ h => h) (by kernel_rfl) (v := ?v5061) ?y5061 ?r5061
  case y5061 => (intro u hu; go_simp; try rfl)
  simp only [Act.put, List.setIfInBounds_toArray, List.set_cons_zero, List.set_cons_succ]
  refine take_held 21 hS1 rfl (by kernel_rfl) (by kernel_rfl) (by kernel_rfl) (fun _ _ _ h => h) (by kernel_rfl) (v := ?v5062) ?y5062 ?r5062
  case y5062 => (intro u hu; go_simp; try rfl)
  simp only [Act.put, List.setIfInBounds_toArray, List.set_cons_zero, List.set_cons_succ]
  refine take_held 22 hS1 rfl (by kernel_rfl) (by kernel_rfl) (by kernel_rfl) (fun _ _ _ h => h) (by kernel_rfl) (v := ?v5063) ?y5063 ?r5063
  case y5063 => (intro u hu; go_simp; try rfl)
  simp only [Act.put, List.setIfInBounds_toArray, List.set_cons_zero, List.set_cons_succ]
  refine take_held 23 hS1 rfl (by kernel_rfl) (by kernel_rfl) (by kernel_rfl) (fun _ _ _ h => h) (by kernel_rfl) (v := ?v5064) ?y5064 ?r5064
  case y5064 => (intro u hu; go_simp; try rfl)
  simp only [Act.put, List.setIfInBounds_toArray, List.set_cons_zero, List.set_cons_succ]
  refine take_held 24 hS1 rfl (by kernel_rfl) (by kernel_rfl) (by kernel_rfl) (fun _ _ _ h => h) (by kernel_rfl) (v := ?v5065) ?y5065 ?r5065
  case y5065 => (intro u hu; go_simp; try rfl)
  simp only [Act.put, List.setIfInBounds_toArray, List.set_cons_zero, List.set_cons_succ]
  refine take_held 25 hS1 rfl (by kernel_rfl) (by kernel_rfl) (by kernel_rfl) (fun _ _ _ h => h) (by kernel_rfl) (v := ?v5066) ?y5066 ?r5066
  case y5066 => (intro u hu; go_simp; try rfl)
  simp only [Act.put, List.setIfInBounds_toArray, List.set_cons_zero, List.set_cons_succ]
  refine take_held 26 hS1 rfl (by kernel_rfl) (by kernel_rfl) (by kernel_rfl) (fun _ _ _ h => h) (by kernel_rfl) (v := .int .i64 (min (1 + (pt : Int)) (M : Int))) ?y5067 ?r5067
  case y5067 => (intro u hu; by_cases hq : (M : Int) < 1 + (pt : Int); (case pos => have e1 : min (1 + (pt : Int)) (M : Int) = (M : Int) := (by omega); rw [e1]; have hq2 : ¬ 1 + (pt : Int) < (M : Int) := (by omega); have hq3 : ¬ 1 + (pt : Int) ≤ (M : Int) := (by omega); go_simp; try rfl); (case neg => have e1 : min (1 + (pt : Int)) (M : Int) = 1 + (pt : Int) := (by omega); rw [e1]; have hq3 : 1 + (pt : Int) ≤ (M : Int) := (by omega); go_simp; try rfl))
  simp only [Act.put, List.setIfInBounds_toArray, List.set_cons_zero, List.set_cons_succ]
  refine take_held 27 hS1 rfl (by kernel_rfl) (by kernel_rfl) (by kernel_rfl) (fun _ _ _ h => h) (by kernel_rfl) (v := vT) ?y5068 ?r5068
  case y5068 => (intro u hu; exact run_slice_op 27 (.tmp 113) none (some (.tmp 117)) rfl _ _ rfl (HST.out u))
  simp only [Act.put, List.setIfInBounds_toArray, List.set_cons_zero, List.set_cons_succ]
  refine wpAnyH_ready (rs := [28]) (by kernel_rfl) (by simp) (AllReadyH.cons ((nth_eq _ 28).trans rfl) ?_ AllReadyH.nil)
  intro K2 hK2
  refine call_in hK2 (by kernel_rfl) 18 #[m2, vT] (by go_simp) _ (as_ret (sameTeles_any (owns_go HB.out hS1.2) (owns_go HT2.out hS1.2) HLT.out)) ?_
  rintro v2 x2 ⟨rfl, b2⟩
  have hS2 := And.intro ((b2.block _ (Array.getElem?_eq_some_iff.1 hS1.1).1).trans hS1.1) (hS1.2.trans (b2.mono hS1.2.size))
  refine ⟨hS2, ?_⟩
  simp only [Act.put, List.setIfInBounds_toArray, List.set_cons_zero, List.set_cons_succ]
  refine take_held 29 hS2 rfl (by kernel_rfl) (by kernel_rfl) (by kernel_rfl) (fun _ _ _ h => h) (by kernel_rfl) (v := ?v5069) ?y5069 ?r5069
  case y5069 => (intro u hu; go_simp; try rfl)
  simp only [Act.put, List.setIfInBounds_toArray, List.set_cons_zero, List.set_cons_succ]
  refine take_held 30 hS2 rfl (by kernel_rfl) (by kernel_rfl) (by kernel_rfl) (fun _ _ _ h => h) (by kernel_rfl) (v := ?v5070) ?y5070 ?r5070
  case y5070 => (intro u hu; go_simp; try rfl)
  simp only [Act.put, List.setIfInBounds_toArray, List.set_cons_zero, List.set_cons_succ]
  refine wpAnyH_ready (rs := [31]) (by kernel_rfl) (by simp) (AllReadyH.cons ((nth_eq _ 31).trans rfl) ?_ AllReadyH.nil)
  intro K3 hK3
  refine call_in hK3 (by kernel_rfl) 8 #[] (by go_simp) _ (as_ret (awake20_any _)) ?_
  rintro v3 x3 ⟨rfl, b3⟩
  have hS3 := And.intro ((b3.block _ (Array.getElem?_eq_some_iff.1 hS2.1).1).trans hS2.1) (hS2.2.trans (b3.mono hS2.2.size))
  refine ⟨hS3, ?_⟩
  simp only [Act.put, List.setIfInBounds_toArray, List.set_cons_zero, List.set_cons_succ]
  refine take_held 32 hS3 rfl (by kernel_rfl) (by kernel_rfl) (by kernel_rfl) (fun _ _ _ h => h) (by kernel_rfl) (v := ?v5071) ?y5071 ?r5071
  case y5071 => (intro u hu; go_simp; try rfl)
  simp only [Act.put, List.setIfInBounds_toArray, List.set_cons_zero, List.set_cons_succ]
  refine take_held 33 hS3 rfl (by kernel_rfl) (by kernel_rfl) (by kernel_rfl) (fun _ _ _ h => h) (by kernel_rfl) (v := ?v5072) ?y5072 ?r5072
  case y5072 => (intro u hu; go_simp; try rfl)
  simp only [Act.put, List.setIfInBounds_toArray, List.set_cons_zero, List.set_cons_succ]
  refine done_held (by kernel_rfl) ?_ _
  have HE : Hid (Below B w x3) := HBW6.out.trans (hS3.2.mono (by have := HBW6.out.size; have := HX.out; omega))
  clear hS0
  go_wp2
  go_ret
  exact ⟨rfl, HE.out⟩
set_option maxRecDepth 100000 in
set_option maxHeartbeats 2000000 in
theorem order_none (a0 : Option Addr) (cap : Nat) (i0 m0 : Int) (keep : Bool) (w : World) (hL : Lies w (.slice a0 0 cap) []) : Calls Try.prog 5 #[.slice a0 0 cap, .int .i64 i0, .bool keep, .int .i64 m0] w fun e w' => e = .returned (.bool true) ∧ Below w.heap.size w w' := by
  obtain ⟨B, hB⟩ : ∃ B, w.heap.size = B := ⟨_, rfl⟩
  obtain ⟨l, hl⟩ : ∃ l : List Tl, l = [] := ⟨_, rfl⟩
  obtain ⟨N, hN0⟩ : ∃ N : Nat, N = 0 := ⟨_, rfl⟩
  have HN : Hid (l.length = N) := by show _ = _; rw [hl, hN0]; rfl
  have HLI : Hid (∀ u, Below B w u → Lies u (.slice a0 0 cap) l) := fun u hu => by rw [hl]; exact hL.go (by rw [hB]; exact hu)
  have n1 := radNew_any w
  rw [hB] at n1 ⊢
  have HX : Hid (w.heap.size = B) := hB
  have HL0 : Hid (l = []) := hl
  have HN0 : Hid (N = 0) := hN0
  have hn1 : N ≤ 200 := by omega
  clear hB hL hl
  go_enter Try.func5, Try.ntmps5
  go_wp2_with (first
    | (go_at_call 9; refine n1.mono ?_; rintro e x1 ⟨rfl, G1, b1⟩; clear n1; obtain ⟨v2, y2, hrun2, O2', g2, at2⟩ := run_push_any (own_none x1 x1.heap.size) (HLI.out x1 b1) (by rw [HN.out]; simp; omega) (Nat.le_refl _) 27; have O2 : Own y2 x1.heap.size v2 l := (by simpa using O2'); have bb2 : Below x1.heap.size x1 y2 := push_below (v := v2) (l := l) g2; have G2 := G1.go bb2; have b2 : Below B w y2 := b1.trans (bb2.mono (by have := b1.size; have := HX.out; omega)); clear G1 b1 bb2 O2' g2 at2)
    | (have X' := hrun2; at_builtin; go_loud (refine wpList_valW (by kernel_rfl) v2 y2 (run_push_op (.const (.slice none 0 0)) (.tmp 28) rfl (.slice none 0 0) (.slice a0 0 cap) v2 rfl rfl hrun2) ?_; clear hrun2))
    | (go_at_call 11; refine (send_case G2 (Lies.of_own O2) (by rw [HN.out]; omega) N (by rw [HN.out]; simp; omega)).mono ?_; rintro e x3 ⟨rfl, v3, G3', t3⟩; have b3 := t3.below G2 b2; have G3 : RdAt 57 B x3 B v3 l := (by rw [List.nil_append, List.take_of_length_le (by rw [HN.out]; exact Nat.le_refl _)] at G3'; exact G3'); clear G2 b2 O2 t3 G3' ; have cH := radHear_none (HL0.out ▸ G3) i0 keep; have cL := fun u (G : RdAt 57 B u B v3 []) => radLose_none G i0; have HB3 : Hid (Below B w x3) := b3; have HG3 : Hid (RdAt 57 B x3 B v3 l) := G3; rw [HN0.out]; clear G3 b3)
    | (go_at_call 13; refine cH.mono ?_; rintro e u1 ⟨rfl, G1, t1⟩; obtain ⟨x2, hx2⟩ : ∃ zz, u1.alloc (.cells (tlA tl0) 42) = zz := ⟨_, rfl⟩; have bbx2 : Below u1.heap.size u1 x2 := (by rw [← hx2]; exact (Below.refl _ _).alloc (Nat.le_refl _) _); have zx2 : x2.heap[u1.heap.size]? = some (.cells (tlA tl0) 42 (0, 0)) := (by rw [← hx2]; exact World.alloc_heap_new _ _); have G2' := G1.go bbx2; have HBW : Hid (Below B w x2) := (t1.below HG3.out HB3.out).trans (bbx2.mono (by have := (t1.below HG3.out HB3.out).size; have := HX.out; omega)); have HH2 : Hid (u1.alloc (.cells (tlA tl0) 42) = x2) := hx2; obtain ⟨bx, hbx⟩ : ∃ bx, u1.heap.size = bx := ⟨_, rfl⟩; have HZ2 : Hid (x2.heap[bx]? = some (.cells (tlA tl0) 42 (0, 0))) := hbx ▸ zx2; clear cH G1 t1 bbx2 hx2 zx2)
    | (refine wpList_new rfl rfl 42 10 (.tmp 40) rfl rfl rfl rfl (tlA tl0) (tlA tl0) (zeroTele _) rfl rfl infoTele rfl (tlA_one _) ?_; rw [HH2.out, hbx])
    | (refine wpList_load_w (by kernel_rfl) 42 (.tmp 10) rfl ⟨bx, 0, none⟩ rfl (tlA tl0) (load_tele HZ2.out) ?_)
    | (refine wpList_valW (by kernel_rfl) (.agg (tlA tl0)) _ (run_buildT #[] rfl (tlA tl0) [] rfl (by kernel_rfl)) ?_)
    | (refine wpList_valW (by kernel_rfl) (.bool true) _ (run_eql_tele 42 _ _ rfl tl0 rfl rfl) ?_)
    | (go_at_call 15; refine (cL _ G2').mono ?_; rintro e yw ⟨rfl, hyw⟩; rw [hyw]; clear hyw)
    | (go_at_call 8; refine (awake20_any _).mono ?_; rintro e w9 ⟨rfl, b9⟩))
  go_ret
  exact ⟨rfl, HBW.out.trans (b9.mono (by have := HBW.out.size; have := HX.out; omega))⟩
set_option maxHeartbeats 1000000 in
theorem order_long (a0 : Option Addr) (N cap : Nat) (i0 m0 : Int) (keep : Bool) (w : World) (h : 200 < N) : Calls Try.prog 5 #[.slice a0 N cap, .int .i64 i0, .bool keep, .int .i64 m0] w fun e w' => e = .returned (.bool true) ∧ Below w.heap.size w w' := by
  have hn2 : (200 : Int) < (N : Int) := by omega
  clear h
  go_enter Try.func5, Try.ntmps5
  go_wp2_with (go_at_call 8; refine (awake20_any _).mono ?_; rintro e w9 ⟨rfl, b9⟩)
  go_ret
  exact ⟨rfl, b9⟩
theorem order_all (v0 : Value) (l : List Tl) (i0 m0 : Int) (keep : Bool) (w : World) (hL : Lies w v0 l) : Calls Try.prog 5 #[v0, .int .i64 i0, .bool keep, .int .i64 m0] w fun e w' => e = .returned (.bool true) ∧ Below w.heap.size w w' := by
  by_cases h1 : 200 < l.length
  · obtain ⟨a, cap, rfl⟩ := hL.form rfl
    exact order_long a _ cap i0 m0 keep w h1
  · by_cases h0 : 0 < l.length
    · cases keep with
      | true => exact order_keep v0 l i0 m0 w hL h0 (by omega)
      | false => exact order_cut v0 l i0 m0 w hL h0 (by omega)
    · obtain rfl : l = [] := List.eq_nil_of_length_eq_zero (by omega)
      obtain ⟨a, cap, rfl⟩ := hL.form (n := 0) rfl
      exact order_none a cap i0 m0 keep w hL
end Go.Proofs.Ytdplacpdbknlgaa.Lk
