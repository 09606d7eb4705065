/-
  Any calls: what a radio answers, and what is under way, is what the chapter says.
-/
import Derived.Test.YtdplacpdbknlgaaRadPlaysIn
namespace Go.Proofs.Ytdplacpdbknlgaa.Lk
set_option linter.unusedVariables false
set_option linter.unusedSimpArgs false
open Go Go.RowKit Go.Shelf Go.Proofs
attribute [local go_sem] Oper.semAt_some

set_option maxRecDepth 100000 in
set_option maxHeartbeats 8000000 in
theorem plays_all (a : Option Addr) (c cap : Nat) (os : Nat → Rop) (w : World) (hI : InO w a c os) : Calls Try.prog 3 #[.slice a c cap] w fun e w' => e = .returned (.bool true) ∧ Below w.heap.size w w' := by
  have HIn0 : Hid (InO w a c os) := hI
  clear hI
  go_enter Try.func3, Try.ntmps3
  go_upto_region 4 with (first
    | (go_at_call 8; refine (awake20_any _).mono ?_; rintro e W0 ⟨rfl, b9⟩; have n1 := radNew_any W0; obtain ⟨B, hB⟩ : ∃ B, W0.heap.size = B := ⟨_, rfl⟩; rw [hB] at n1; have HW0 : Hid (W0.heap.size = B) := hB; clear hB)
    | (go_at_call 9; refine n1.mono ?_; rintro e x1 ⟨rfl, G1, b1⟩; clear n1))
  obtain ⟨x2, hx2⟩ : ∃ x2, x1.alloc (.cells #[.slice none 0 0] 29) = x2 := ⟨_, rfl⟩
  have b2 : Below x1.heap.size x1 x2 := by rw [← hx2]; exact (Below.refl _ _).alloc (Nat.le_refl _) _
  have z2 : x2.heap[x1.heap.size]? = some (.cells #[.slice none 0 0] 29 (0, 0)) := by rw [← hx2]; exact World.alloc_heap_new _ _
  obtain ⟨p, hp⟩ : ∃ p, p = B := ⟨_, rfl⟩
  obtain ⟨q, hq⟩ : ∃ q, x1.heap.size = q := ⟨_, rfl⟩
  have G1p : RdAt 57 B x1 p (.slice none 0 0) [] := by rw [hp]; exact G1
  have T2 : Two B W0 x2 p q (.slice none 0 0) (.slice none 0 0) [] [] := ⟨G1p.go b2, ⟨hq ▸ z2, own_none _ _, by simp [Value.ownBlock], by have := b1.size; have := HW0.out; omega, by simp⟩, by have := G1p.lt; omega, by simp [Value.ownBlock], by simp [Value.ownBlock], fun k e => by simp [Value.ownBlock] at e, b1.trans (b2.mono (by have := b1.size; have := HW0.out; omega))⟩
  have HT2 : Hid (Two B W0 x2 p q (.slice none 0 0) (.slice none 0 0) [] []) := T2
  have HB9 : Hid (Below w.heap.size w W0) := b9
  have HIn : Hid (∀ u, Below B W0 u → InO u a c os) := fun u hu => (HIn0.out.go b9).go (by rw [HW0.out]; exact hu)
  rw [← hp]
  clear G1 G1p T2 z2 b2 b1 b9 hp
  go_wp2_with fail
  try rw [hx2]
  try rw [hq]
  clear hx2 hq
  go_loopw [5] (fun ci wr => ∃ (i : Nat) (v v' : Value) (l : List Tl), ci = .int .i64 i ∧ i ≤ 60 ∧ Two B W0 wr p q v v' l l) (fun ci _ => 60 - (intOf ci).toNat)
  case atStart => exact ⟨0, _, _, [], rfl, Nat.zero_le _, HT2.out⟩
  case round =>
    clear HT2
    obtain ⟨i, v, v', l, rfl, hi, tw⟩ := hrel
    by_cases hmore : i < c ∧ i < 60
    · obtain ⟨hc1, hc2⟩ := hmore
      have g1 : (i : Int) < (c : Int) := by omega
      have g2 : (i : Int) < 60 := by omega
      obtain ⟨xs, rfl, hld⟩ := (HIn.out _ tw.bel).load hc1
      have HLI0 : Hid (∀ u, Below B W0 u → Lies u (.slice (os i).a (os i).zs.length (os i).cap) (os i).zs) := fun u hu => by
        obtain ⟨_, _, _, h3⟩ := HIn.out u hu i hc1
        exact h3
      obtain ⟨op, hop⟩ : ∃ op, os i = op := ⟨_, rfl⟩
      rw [hop] at hld HLI0
      clear hop
      obtain ⟨zl, hzl⟩ : ∃ zl, op.zs.length = zl := ⟨_, rfl⟩
      rw [hzl] at HLI0
      have HLI : Hid (∀ u, Below B W0 u → Lies u (.slice op.a zl op.cap) op.zs) := HLI0.out
      clear HLI0
      obtain ⟨w1, hw1⟩ : ∃ w1, wr.alloc (.cells (opA op) 31) = w1 := ⟨_, rfl⟩
      obtain ⟨bw1, X1⟩ := Box.new (cs := opA op) (T := 31) tw hw1
      have HTW : Hid (Two B W0 w1 p q v v' l l) := tw.go bw1
      obtain ⟨bx, hbx⟩ : ∃ bx, wr.heap.size = bx := ⟨_, rfl⟩
      rw [hbx] at X1
      have HBX : Hid (Box w1 p q v v' bx (opA op) 31) := X1
      have hw1' : wr.alloc (.cells (opA op) 31) = w1 := hw1
      have HW1 : Hid (wr.alloc (.cells (opA op) 31) = w1 ∧ wr.heap.size = bx) := ⟨hw1, hbx⟩
      have w1a := op_c0 X1.at_
      have w1b := op_c2 X1.at_
      rw [hzl] at w1b
      have w1c := op_c1 X1.at_
      clear tw bw1 X1 hw1 hbx hw1'
      by_cases hz : 60 < zl
      · have g3 : (60 : Int) < (zl : Int) := by omega
        have HE : Hid (Below B W0 w1) := HTW.out.bel
        go_wp2_with (first
    | (have X' := hld; refine wpList_load_at rfl 31 (.tmp 31) rfl (xs.add (i * 3)) rfl (opA op) hld ?_; clear hld)
    | (have X' := HW1; refine wpList_new rfl rfl 31 6 (.tmp 32) rfl rfl rfl rfl (opA op0) (opA op) (zeroOp _) rfl rfl infoOp rfl (opA_one _) ?_; rw [HW1.out.1, HW1.out.2]; clear HW1))
        go_ret
        exact ⟨rfl, HB9.out.trans (HE.out.mono (by have := HB9.out.size; have := HW0.out; omega))⟩
      · have g3 : ¬ (60 : Int) < (zl : Int) := by omega
        have g4 : (zl : Int) ≤ 60 := by omega
        have HZ60 : Hid (op.zs.length ≤ 60) := by show _ ≤ _; omega
        obtain ⟨bz, hbz⟩ : ∃ bz, (!l.isEmpty) = bz := ⟨_, rfl⟩
        have HBZ : Hid ((!l.isEmpty) = bz) := hbz
        obtain ⟨t, ht⟩ : ∃ t, hearV l op.i = t := ⟨_, rfl⟩
        have HHV : Hid (hearV l op.i = t) := ht
        obtain ⟨ks, hks⟩ : ∃ ks, ks = min op.zs.length (1024 - l.length) := ⟨_, rfl⟩
        have HKS : Hid (ks = min op.zs.length (1024 - l.length)) := hks
        have HX2 : Hid (∀ u : World, u.heap[bx]? = some (.cells (opA op) 31 (0, 0)) → u.cell? ⟨bx, 2, none⟩ = some (.slice op.a zl op.cap)) := fun u hu => by rw [op_c2 hu, hzl]
        have HX1 : Hid (∀ u : World, u.heap[bx]? = some (.cells (opA op) 31 (0, 0)) → u.cell? ⟨bx, 1, none⟩ = some (.int .i64 op.i)) := fun u hu => op_c1 hu
        have HZL : Hid (op.zs.length = zl) := hzl
        clear hz hbz ht hks hzl
        have cP := fun w => place_any op.kd 5 w (by decide) (by decide)
        have pP := place_bd op.kd 5 (by decide)
        obtain ⟨pk, hpk⟩ : ∃ pk, place op.kd 5 = pk := ⟨_, rfl⟩
        rw [hpk] at cP pP
        clear hpk
        have hd : pk = 0 ∨ pk = 1 ∨ pk = 2 ∨ pk = 3 ∨ pk = 4 := by omega
        rcases hd with rfl | rfl | rfl | rfl | rfl
        · clear pP
          go_upto_region 14 with (first
              | (have X' := hld; refine wpList_load_at rfl 31 (.tmp 31) rfl (xs.add (i * 3)) rfl (opA op) hld ?_; clear hld)
              | (have X' := HW1; refine wpList_new rfl rfl 31 6 (.tmp 32) rfl rfl rfl rfl (opA op0) (opA op) (zeroOp _) rfl rfl infoOp rfl (opA_one _) ?_; rw [HW1.out.1, HW1.out.2]; clear HW1)
              | (go_at_call 10; refine (cP _).mono ?_; rintro e yw ⟨rfl, hyw⟩; rw [hyw]; clear hyw))
          clear w1a w1b w1c cP
          refine start_held (S := fun u => u.heap[bx]? = some (.cells (opA op) 31 (0, 0))) 10 rfl (by kernel_rfl) (HBX.out.at_) ?_
          simp only [Array.replicate_succ, Array.replicate_zero, List.push_toArray, List.nil_append, List.cons_append]
          have T0 : Two B W0 w1.drew p q v v' l l := HTW.out.go (Below.refl _ _).drew
          have X0 : Box w1.drew p q v v' bx (opA op) 31 := HBX.out.go (Below.refl _ _).drew
          have hS0 : w1.drew.heap[bx]? = some (.cells (opA op) 31 (0, 0)) := X0.at_
          generalize w1.drew = x0 at *
          refine take_held 0 hS0 rfl (by kernel_rfl) (by kernel_rfl) (by kernel_rfl) (fun _ _ _ h => h) (by kernel_rfl) (v := ?v5000) ?y5000 ?r5000
          case y5000 => (intro u hu; go_simp; try rfl)
          simp only [Act.put, List.setIfInBounds_toArray, List.set_cons_zero, List.set_cons_succ]
          refine take_held 1 hS0 rfl (by kernel_rfl) (by kernel_rfl) (by kernel_rfl) (fun _ _ _ h => h) (by kernel_rfl) (v := ?v5001) ?y5001 ?r5001
          case y5001 => (intro u hu; go_simp; try rfl)
          simp only [Act.put, List.setIfInBounds_toArray, List.set_cons_zero, List.set_cons_succ]
          refine take_held 2 hS0 rfl (by kernel_rfl) (by kernel_rfl) (by kernel_rfl) (fun _ _ _ h => h) (by kernel_rfl) (v := ?v5002) ?y5002 ?r5002
          case y5002 => (intro u hu; have zz0 := HX2.out u hu; go_simp; try rfl)
          simp only [Act.put, List.setIfInBounds_toArray, List.set_cons_zero, List.set_cons_succ]
          refine take_held 5 hS0 rfl (by kernel_rfl) (by kernel_rfl) (by kernel_rfl) (fun _ _ _ h => h) (by kernel_rfl) (v := ?v5003) ?y5003 ?r5003
          case y5003 => (intro u hu; go_simp; try rfl)
          simp only [Act.put, List.setIfInBounds_toArray, List.set_cons_zero, List.set_cons_succ]
          refine take_held 6 hS0 rfl (by kernel_rfl) (by kernel_rfl) (by kernel_rfl) (fun _ _ _ h => h) (by kernel_rfl) (v := ?v5004) ?y5004 ?r5004
          case y5004 => (intro u hu; go_simp; try rfl)
          simp only [Act.put, List.setIfInBounds_toArray, List.set_cons_zero, List.set_cons_succ]
          refine take_held 7 hS0 rfl (by kernel_rfl) (by kernel_rfl) (by kernel_rfl) (fun _ _ _ h => h) (by kernel_rfl) (v := ?v5005) ?y5005 ?r5005
          case y5005 => (intro u hu; have zz0 := HX2.out u hu; go_simp; try rfl)
          simp only [Act.put, List.setIfInBounds_toArray, List.set_cons_zero, List.set_cons_succ]
          refine wpAnyH_ready (rs := [3]) (by kernel_rfl) (by simp) (AllReadyH.cons ((nth_eq _ 3).trans rfl) ?_ AllReadyH.nil)
          intro K1 hK1
          obtain ⟨v2, x1, hrun1, O1', g1, at1⟩ := run_push_any (own_none x0 x0.heap.size) (HLI.out _ T0.bel) (by have := HZ60.out; simp; omega) (Nat.le_refl _) 27
          have O1 : Own x1 x0.heap.size v2 op.zs := (by simpa using O1')
          have b1 : Below x0.heap.size x0 x1 := push_below (v := v2) (l := op.zs) g1
          have T1 := T0.go b1
          have X1 := X0.go b1
          have hS1 := X1.at_
          have lq1 : q < x0.heap.size := T0.b.lt
          have lv1 : ∀ k, v'.ownBlock = some k → k < x0.heap.size := fun k e => (T0.b.own.lt k e).2
          refine value_in hK1 (by kernel_rfl) v2 x1 (run_push_op (.const (.slice none 0 0)) (.tmp 45) rfl _ _ _ rfl rfl hrun1) hS1 ?_
          clear hrun1 g1 at1 O1'
          simp only [Act.put, List.setIfInBounds_toArray, List.set_cons_zero, List.set_cons_succ]
          refine wpAnyH_ready (rs := [4]) (by kernel_rfl) (by simp) (AllReadyH.cons ((nth_eq _ 4).trans rfl) ?_ AllReadyH.nil)
          intro K2 hK2
          refine call_in hK2 (by kernel_rfl) 11 #[.pointer (some ⟨p, 0, none⟩), v2] (by go_simp) _ (as_retQ (send_case T1.a (Lies.of_own O1) (by have := HZ60.out; omega) ks HKS.out)) ?_
          rintro v2 x2 ⟨rfl, va, Ga, ta⟩
          have T2 := T1.left Ga ta
          have X2 := X1.left ta
          have hS2 := X2.at_
          refine ⟨hS2, ?_⟩
          simp only [Act.put, List.setIfInBounds_toArray, List.set_cons_zero, List.set_cons_succ]
          refine wpAnyH_ready (rs := [8]) (by kernel_rfl) (by simp) (AllReadyH.cons ((nth_eq _ 8).trans rfl) ?_ AllReadyH.nil)
          intro K3 hK3
          refine call_in hK3 (by kernel_rfl) 12 #[.pointer (some ⟨q, 0, none⟩), .slice op.a zl op.cap] (by go_simp) _ (as_retQ (rsend_any T2.b T2.bel HLI.out ks HKS.out)) ?_
          rintro v3 x3 ⟨rfl, vb, Gb, tb⟩
          have T3 := T2.right Gb tb
          have X3 := X2.right tb
          have hS3 := X3.at_
          refine ⟨hS3, ?_⟩
          simp only [Act.put, List.setIfInBounds_toArray, List.set_cons_zero, List.set_cons_succ]
          refine take_held 9 hS3 rfl (by kernel_rfl) (by kernel_rfl) (by kernel_rfl) (fun _ _ _ h => h) (by kernel_rfl) (v := .bool false) ?y5006 ?r5006
          case y5006 => (intro u hu; go_simp; try rfl)
          simp only [Act.put, List.setIfInBounds_toArray, List.set_cons_zero, List.set_cons_succ]
          refine done_held (by kernel_rfl) ?_ _
          obtain ⟨l2, hl2⟩ : ∃ l2, l ++ op.zs.take ks = l2 := ⟨_, rfl⟩
          have HTE : Hid (∃ va vb, Two B W0 x3 p q va vb l2 l2) := ⟨_, _, by rw [← hl2]; exact T3⟩
          clear hl2
          obtain ⟨we, hwe⟩ : ∃ we, x3 = we := ⟨_, rfl⟩
          rw [hwe] at HTE ⊢
          clear hS0 T0 X0
          obtain ⟨va, vb0, hTE⟩ := HTE.out
          obtain ⟨M, hM⟩ : ∃ M, l2.length = M := ⟨_, rfl⟩
          obtain ⟨aQ, cQ, rfl⟩ := own_slice hTE.b.own hM
          have HTF : Hid (Two B W0 we p q va (.slice aQ M cQ) l2 l2) := hTE
          have HLM : Hid (l2.length = M) := hM
          have HLL : Hid (l2.length ≤ 1000000) := by have := hTE.a.len; show _ ≤ _; omega
          have cA : Calls Try.prog 17 #[.pointer (some ⟨p, 0, none⟩), .int .i64 2000] we fun e w' => ∃ m, e = .returned (.tuple #[m, .bool true]) ∧ Own w' we.heap.size m (l2.take 2000) ∧ Below we.heap.size we w' := allT_any hTE.a 2000 (by decide) (by decide)
          rw [List.take_of_length_le (by have := hTE.a.len; omega)] at cA
          clear hTE hM HTE
          go_upto_region 27 with (first
            | (go_at_call 17; refine cA.mono ?_; rintro e x5 ⟨m1, rfl, Oa, ba⟩; clear cA))
          refine start_held (S := fun u => Below x5.drew.heap.size x5.drew u) 21 rfl (by kernel_rfl) (Below.refl _ _) ?_
          simp only [Array.replicate_succ, Array.replicate_zero, List.push_toArray, List.nil_append, List.cons_append]
          have HQ : Hid (Two B W0 x5.drew p q va (.slice aQ M cQ) l2 l2) := (HTF.out.go ba).go (Below.refl _ _).drew
          have HA : Hid (Own x5.drew we.heap.size m1 l2) := owns_go Oa (Below.refl _ _).drew
          have hS0 : Below x5.drew.heap.size x5.drew x5.drew := Below.refl _ _
          generalize x5.drew = x6 at *
          have HQC : Hid (∀ u, Below x6.heap.size x6 u → u.cell? ⟨q, 0, none⟩ = some (.slice aQ M cQ)) := fun u hu => (HQ.out.b.go hu).c0
          clear Oa ba
          refine take_held 0 hS0 rfl (by kernel_rfl) (by kernel_rfl) (by kernel_rfl) (fun _ _ _ h => h) (by kernel_rfl) (v := ?v5007) ?y5007 ?r5007
          case y5007 => (intro u hu; go_simp; try rfl)
          simp only [Act.put, List.setIfInBounds_toArray, List.set_cons_zero, List.set_cons_succ]
          refine take_held 1 hS0 rfl (by kernel_rfl) (by kernel_rfl) (by kernel_rfl) (fun _ _ _ h => h) (by kernel_rfl) (v := ?v5008) ?y5008 ?r5008
          case y5008 => (intro u hu; go_simp; try rfl)
          simp only [Act.put, List.setIfInBounds_toArray, List.set_cons_zero, List.set_cons_succ]
          refine take_held 2 hS0 rfl (by kernel_rfl) (by kernel_rfl) (by kernel_rfl) (fun _ _ _ h => h) (by kernel_rfl) (v := ?v5009) ?y5009 ?r5009
          case y5009 => (intro u hu; go_simp; try rfl)
          simp only [Act.put, List.setIfInBounds_toArray, List.set_cons_zero, List.set_cons_succ]
          refine take_held 3 hS0 rfl (by kernel_rfl) (by kernel_rfl) (by kernel_rfl) (fun _ _ _ h => h) (by kernel_rfl) (v := ?v5010) ?y5010 ?r5010
          case y5010 => (intro u hu; go_simp; try rfl)
          simp only [Act.put, List.setIfInBounds_toArray, List.set_cons_zero, List.set_cons_succ]
          refine take_held 4 hS0 rfl (by kernel_rfl) (by kernel_rfl) (by kernel_rfl) (fun _ _ _ h => h) (by kernel_rfl) (v := ?v5011) ?y5011 ?r5011
          case y5011 => (intro u hu; go_simp; try rfl)
          simp only [Act.put, List.setIfInBounds_toArray, List.set_cons_zero, List.set_cons_succ]
          refine take_held 5 hS0 rfl (by kernel_rfl) (by kernel_rfl) (by kernel_rfl) (fun _ _ _ h => h) (by kernel_rfl) (v := ?v5012) ?y5012 ?r5012
          case y5012 => (intro u hu; go_simp; try rfl)
          simp only [Act.put, List.setIfInBounds_toArray, List.set_cons_zero, List.set_cons_succ]
          refine take_held 6 hS0 rfl (by kernel_rfl) (by kernel_rfl) (by kernel_rfl) (fun _ _ _ h => h) (by kernel_rfl) (v := ?v5013) ?y5013 ?r5013
          case y5013 => (intro u hu; go_simp; try rfl)
          simp only [Act.put, List.setIfInBounds_toArray, List.set_cons_zero, List.set_cons_succ]
          refine take_held 7 hS0 rfl (by kernel_rfl) (by kernel_rfl) (by kernel_rfl) (fun _ _ _ h => h) (by kernel_rfl) (v := ?v5014) ?y5014 ?r5014
          case y5014 => (intro u hu; have zz0 := HQC.out u hu; go_simp; try rfl)
          simp only [Act.put, List.setIfInBounds_toArray, List.set_cons_zero, List.set_cons_succ]
          refine wpAnyH_ready (rs := [8]) (by kernel_rfl) (by simp) (AllReadyH.cons ((nth_eq _ 8).trans rfl) ?_ AllReadyH.nil)
          intro K1 hK1
          refine call_in hK1 (by kernel_rfl) 18 #[m1, .slice aQ M cQ] (by go_simp) _ (as_ret (sameTeles_any (owns_go HA.out hS0) (owns_go HQ.out.b.own hS0) HLL.out)) ?_
          rintro v1 x1 ⟨rfl, b1⟩
          have hS1 := (hS0.trans (b1.mono hS0.size))
          refine ⟨hS1, ?_⟩
          simp only [Act.put, List.setIfInBounds_toArray, List.set_cons_zero, List.set_cons_succ]
          refine take_held 9 hS1 rfl (by kernel_rfl) (by kernel_rfl) (by kernel_rfl) (fun _ _ _ h => h) (by kernel_rfl) (v := ?v5015) ?y5015 ?r5015
          case y5015 => (intro u hu; go_simp; try rfl)
          simp only [Act.put, List.setIfInBounds_toArray, List.set_cons_zero, List.set_cons_succ]
          refine take_held 10 hS1 rfl (by kernel_rfl) (by kernel_rfl) (by kernel_rfl) (fun _ _ _ h => h) (by kernel_rfl) (v := ?v5016) ?y5016 ?r5016
          case y5016 => (intro u hu; go_simp; try rfl)
          simp only [Act.put, List.setIfInBounds_toArray, List.set_cons_zero, List.set_cons_succ]
          refine take_held 11 hS1 rfl (by kernel_rfl) (by kernel_rfl) (by kernel_rfl) (fun _ _ _ h => h) (by kernel_rfl) (v := ?v5017) ?y5017 ?r5017
          case y5017 => (intro u hu; go_simp; try rfl)
          simp only [Act.put, List.setIfInBounds_toArray, List.set_cons_zero, List.set_cons_succ]
          refine take_held 12 hS1 rfl (by kernel_rfl) (by kernel_rfl) (by kernel_rfl) (fun _ _ _ h => h) (by kernel_rfl) (v := ?v5018) ?y5018 ?r5018
          case y5018 => (intro u hu; go_simp; try rfl)
          simp only [Act.put, List.setIfInBounds_toArray, List.set_cons_zero, List.set_cons_succ]
          refine take_held 14 hS1 rfl (by kernel_rfl) (by kernel_rfl) (by kernel_rfl) (fun _ _ _ h => h) (by kernel_rfl) (v := ?v5019) ?y5019 ?r5019
          case y5019 => (intro u hu; go_simp; try rfl)
          simp only [Act.put, List.setIfInBounds_toArray, List.set_cons_zero, List.set_cons_succ]
          refine take_held 15 hS1 rfl (by kernel_rfl) (by kernel_rfl) (by kernel_rfl) (fun _ _ _ h => h) (by kernel_rfl) (v := ?v5020) ?y5020 ?r5020
          case y5020 => (intro u hu; go_simp; try rfl)
          simp only [Act.put, List.setIfInBounds_toArray, List.set_cons_zero, List.set_cons_succ]
          refine take_held 16 hS1 rfl (by kernel_rfl) (by kernel_rfl) (by kernel_rfl) (fun _ _ _ h => h) (by kernel_rfl) (v := ?v5021) ?y5021 ?r5021
          case y5021 => (intro u hu; go_simp; try rfl)
          simp only [Act.put, List.setIfInBounds_toArray, List.set_cons_zero, List.set_cons_succ]
          refine take_held 17 hS1 rfl (by kernel_rfl) (by kernel_rfl) (by kernel_rfl) (fun _ _ _ h => h) (by kernel_rfl) (v := ?v5022) ?y5022 ?r5022
          case y5022 => (intro u hu; have zz0 := HQC.out u hu; go_simp; try rfl)
          simp only [Act.put, List.setIfInBounds_toArray, List.set_cons_zero, List.set_cons_succ]
          refine take_held 18 hS1 rfl (by kernel_rfl) (by kernel_rfl) (by kernel_rfl) (fun _ _ _ h => h) (by kernel_rfl) (v := ?v5023) ?y5023 ?r5023
          case y5023 => (intro u hu; go_simp; try rfl)
          simp only [Act.put, List.setIfInBounds_toArray, List.set_cons_zero, List.set_cons_succ]
          refine wpAnyH_ready (rs := [13]) (by kernel_rfl) (by simp) (AllReadyH.cons ((nth_eq _ 13).trans rfl) ?_ AllReadyH.nil)
          intro K2 hK2
          refine call_in hK2 (by kernel_rfl) 19 #[.pointer (some ⟨p, 0, none⟩)] (by go_simp) _ (by have z := radLen_any (HQ.out.a.go hS1); rw [HLM.out] at z; exact as_ret z) ?_
          rintro v2 x2 ⟨rfl, hw2⟩
          rw [hw2]
          clear hw2 x2
          refine ⟨hS1, ?_⟩
          simp only [Act.put, List.setIfInBounds_toArray, List.set_cons_zero, List.set_cons_succ]
          refine take_held 19 hS1 rfl (by kernel_rfl) (by kernel_rfl) (by kernel_rfl) (fun _ _ _ h => h) (by kernel_rfl) (v := .bool false) ?y5024 ?r5024
          case y5024 => (intro u hu; go_simp; try rfl)
          simp only [Act.put, List.setIfInBounds_toArray, List.set_cons_zero, List.set_cons_succ]
          refine take_held 20 hS1 rfl (by kernel_rfl) (by kernel_rfl) (by kernel_rfl) (fun _ _ _ h => h) (by kernel_rfl) (v := ?v5025) ?y5025 ?r5025
          case y5025 => (intro u hu; go_simp; try rfl)
          simp only [Act.put, List.setIfInBounds_toArray, List.set_cons_zero, List.set_cons_succ]
          refine done_held (by kernel_rfl) ?_ _
          have HF : Hid (Two B W0 x1 p q va (.slice aQ M cQ) l2 l2) := HQ.out.go hS1
          clear hS0
          go_wp2
          go_roundw
          case rel => exact ⟨i + 1, _, _, l2, by go_num, by omega, HF.out⟩
          case measure => simp [intOf]; omega
        · clear pP
          go_upto_region 14 with (first
              | (have X' := hld; refine wpList_load_at rfl 31 (.tmp 31) rfl (xs.add (i * 3)) rfl (opA op) hld ?_; clear hld)
              | (have X' := HW1; refine wpList_new rfl rfl 31 6 (.tmp 32) rfl rfl rfl rfl (opA op0) (opA op) (zeroOp _) rfl rfl infoOp rfl (opA_one _) ?_; rw [HW1.out.1, HW1.out.2]; clear HW1)
              | (go_at_call 10; refine (cP _).mono ?_; rintro e yw ⟨rfl, hyw⟩; rw [hyw]; clear hyw))
          clear w1a w1b w1c cP
          refine start_held (S := fun u => u.heap[bx]? = some (.cells (opA op) 31 (0, 0))) 10 rfl (by kernel_rfl) (HBX.out.at_) ?_
          simp only [Array.replicate_succ, Array.replicate_zero, List.push_toArray, List.nil_append, List.cons_append]
          have T0 : Two B W0 w1.drew p q v v' l l := HTW.out.go (Below.refl _ _).drew
          have X0 : Box w1.drew p q v v' bx (opA op) 31 := HBX.out.go (Below.refl _ _).drew
          have hS0 : w1.drew.heap[bx]? = some (.cells (opA op) 31 (0, 0)) := X0.at_
          generalize w1.drew = x0 at *
          refine take_held 0 hS0 rfl (by kernel_rfl) (by kernel_rfl) (by kernel_rfl) (fun _ _ _ h => h) (by kernel_rfl) (v := ?v5026) ?y5026 ?r5026
          case y5026 => (intro u hu; go_simp; try rfl)
          simp only [Act.put, List.setIfInBounds_toArray, List.set_cons_zero, List.set_cons_succ]
          refine take_held 1 hS0 rfl (by kernel_rfl) (by kernel_rfl) (by kernel_rfl) (fun _ _ _ h => h) (by kernel_rfl) (v := ?v5027) ?y5027 ?r5027
          case y5027 => (intro u hu; go_simp; try rfl)
          simp only [Act.put, List.setIfInBounds_toArray, List.set_cons_zero, List.set_cons_succ]
          refine take_held 2 hS0 rfl (by kernel_rfl) (by kernel_rfl) (by kernel_rfl) (fun _ _ _ h => h) (by kernel_rfl) (v := ?v5028) ?y5028 ?r5028
          case y5028 => (intro u hu; have zz0 := HX2.out u hu; go_simp; try rfl)
          simp only [Act.put, List.setIfInBounds_toArray, List.set_cons_zero, List.set_cons_succ]
          refine take_held 5 hS0 rfl (by kernel_rfl) (by kernel_rfl) (by kernel_rfl) (fun _ _ _ h => h) (by kernel_rfl) (v := ?v5029) ?y5029 ?r5029
          case y5029 => (intro u hu; go_simp; try rfl)
          simp only [Act.put, List.setIfInBounds_toArray, List.set_cons_zero, List.set_cons_succ]
          refine take_held 6 hS0 rfl (by kernel_rfl) (by kernel_rfl) (by kernel_rfl) (fun _ _ _ h => h) (by kernel_rfl) (v := ?v5030) ?y5030 ?r5030
          case y5030 => (intro u hu; go_simp; try rfl)
          simp only [Act.put, List.setIfInBounds_toArray, List.set_cons_zero, List.set_cons_succ]
          refine take_held 7 hS0 rfl (by kernel_rfl) (by kernel_rfl) (by kernel_rfl) (fun _ _ _ h => h) (by kernel_rfl) (v := ?v5031) ?y5031 ?r5031
          case y5031 => (intro u hu; have zz0 := HX2.out u hu; go_simp; try rfl)
          simp only [Act.put, List.setIfInBounds_toArray, List.set_cons_zero, List.set_cons_succ]
          refine wpAnyH_ready (rs := [3]) (by kernel_rfl) (by simp) (AllReadyH.cons ((nth_eq _ 3).trans rfl) ?_ AllReadyH.nil)
          intro K1 hK1
          obtain ⟨v2, x1, hrun1, O1', g1, at1⟩ := run_push_any (own_none x0 x0.heap.size) (HLI.out _ T0.bel) (by have := HZ60.out; simp; omega) (Nat.le_refl _) 27
          have O1 : Own x1 x0.heap.size v2 op.zs := (by simpa using O1')
          have b1 : Below x0.heap.size x0 x1 := push_below (v := v2) (l := op.zs) g1
          have T1 := T0.go b1
          have X1 := X0.go b1
          have hS1 := X1.at_
          have lq1 : q < x0.heap.size := T0.b.lt
          have lv1 : ∀ k, v'.ownBlock = some k → k < x0.heap.size := fun k e => (T0.b.own.lt k e).2
          refine value_in hK1 (by kernel_rfl) v2 x1 (run_push_op (.const (.slice none 0 0)) (.tmp 45) rfl _ _ _ rfl rfl hrun1) hS1 ?_
          clear hrun1 g1 at1 O1'
          simp only [Act.put, List.setIfInBounds_toArray, List.set_cons_zero, List.set_cons_succ]
          refine wpAnyH_ready (rs := [4]) (by kernel_rfl) (by simp) (AllReadyH.cons ((nth_eq _ 4).trans rfl) ?_ AllReadyH.nil)
          intro K2 hK2
          refine call_in hK2 (by kernel_rfl) 11 #[.pointer (some ⟨p, 0, none⟩), v2] (by go_simp) _ (as_retQ (send_case T1.a (Lies.of_own O1) (by have := HZ60.out; omega) ks HKS.out)) ?_
          rintro v2 x2 ⟨rfl, va, Ga, ta⟩
          have T2 := T1.left Ga ta
          have X2 := X1.left ta
          have hS2 := X2.at_
          refine ⟨hS2, ?_⟩
          simp only [Act.put, List.setIfInBounds_toArray, List.set_cons_zero, List.set_cons_succ]
          refine wpAnyH_ready (rs := [8]) (by kernel_rfl) (by simp) (AllReadyH.cons ((nth_eq _ 8).trans rfl) ?_ AllReadyH.nil)
          intro K3 hK3
          refine call_in hK3 (by kernel_rfl) 12 #[.pointer (some ⟨q, 0, none⟩), .slice op.a zl op.cap] (by go_simp) _ (as_retQ (rsend_any T2.b T2.bel HLI.out ks HKS.out)) ?_
          rintro v3 x3 ⟨rfl, vb, Gb, tb⟩
          have T3 := T2.right Gb tb
          have X3 := X2.right tb
          have hS3 := X3.at_
          refine ⟨hS3, ?_⟩
          simp only [Act.put, List.setIfInBounds_toArray, List.set_cons_zero, List.set_cons_succ]
          refine take_held 9 hS3 rfl (by kernel_rfl) (by kernel_rfl) (by kernel_rfl) (fun _ _ _ h => h) (by kernel_rfl) (v := .bool false) ?y5032 ?r5032
          case y5032 => (intro u hu; go_simp; try rfl)
          simp only [Act.put, List.setIfInBounds_toArray, List.set_cons_zero, List.set_cons_succ]
          refine done_held (by kernel_rfl) ?_ _
          obtain ⟨l2, hl2⟩ : ∃ l2, l ++ op.zs.take ks = l2 := ⟨_, rfl⟩
          have HTE : Hid (∃ va vb, Two B W0 x3 p q va vb l2 l2) := ⟨_, _, by rw [← hl2]; exact T3⟩
          clear hl2
          obtain ⟨we, hwe⟩ : ∃ we, x3 = we := ⟨_, rfl⟩
          rw [hwe] at HTE ⊢
          clear hS0 T0 X0
          obtain ⟨va, vb0, hTE⟩ := HTE.out
          obtain ⟨M, hM⟩ : ∃ M, l2.length = M := ⟨_, rfl⟩
          obtain ⟨aQ, cQ, rfl⟩ := own_slice hTE.b.own hM
          have HTF : Hid (Two B W0 we p q va (.slice aQ M cQ) l2 l2) := hTE
          have HLM : Hid (l2.length = M) := hM
          have HLL : Hid (l2.length ≤ 1000000) := by have := hTE.a.len; show _ ≤ _; omega
          have cA : Calls Try.prog 17 #[.pointer (some ⟨p, 0, none⟩), .int .i64 2000] we fun e w' => ∃ m, e = .returned (.tuple #[m, .bool true]) ∧ Own w' we.heap.size m (l2.take 2000) ∧ Below we.heap.size we w' := allT_any hTE.a 2000 (by decide) (by decide)
          rw [List.take_of_length_le (by have := hTE.a.len; omega)] at cA
          clear hTE hM HTE
          go_upto_region 27 with (first
            | (go_at_call 17; refine cA.mono ?_; rintro e x5 ⟨m1, rfl, Oa, ba⟩; clear cA))
          refine start_held (S := fun u => Below x5.drew.heap.size x5.drew u) 21 rfl (by kernel_rfl) (Below.refl _ _) ?_
          simp only [Array.replicate_succ, Array.replicate_zero, List.push_toArray, List.nil_append, List.cons_append]
          have HQ : Hid (Two B W0 x5.drew p q va (.slice aQ M cQ) l2 l2) := (HTF.out.go ba).go (Below.refl _ _).drew
          have HA : Hid (Own x5.drew we.heap.size m1 l2) := owns_go Oa (Below.refl _ _).drew
          have hS0 : Below x5.drew.heap.size x5.drew x5.drew := Below.refl _ _
          generalize x5.drew = x6 at *
          have HQC : Hid (∀ u, Below x6.heap.size x6 u → u.cell? ⟨q, 0, none⟩ = some (.slice aQ M cQ)) := fun u hu => (HQ.out.b.go hu).c0
          clear Oa ba
          refine take_held 0 hS0 rfl (by kernel_rfl) (by kernel_rfl) (by kernel_rfl) (fun _ _ _ h => h) (by kernel_rfl) (v := ?v5033) ?y5033 ?r5033
          case y5033 => (intro u hu; go_simp; try rfl)
          simp only [Act.put, List.setIfInBounds_toArray, List.set_cons_zero, List.set_cons_succ]
          refine take_held 1 hS0 rfl (by kernel_rfl) (by kernel_rfl) (by kernel_rfl) (fun _ _ _ h => h) (by kernel_rfl) (v := ?v5034) ?y5034 ?r5034
          case y5034 => (intro u hu; go_simp; try rfl)
          simp only [Act.put, List.setIfInBounds_toArray, List.set_cons_zero, List.set_cons_succ]
          refine take_held 2 hS0 rfl (by kernel_rfl) (by kernel_rfl) (by kernel_rfl) (fun _ _ _ h => h) (by kernel_rfl) (v := ?v5035) ?y5035 ?r5035
          case y5035 => (intro u hu; go_simp; try rfl)
          simp only [Act.put, List.setIfInBounds_toArray, List.set_cons_zero, List.set_cons_succ]
          refine take_held 3 hS0 rfl (by kernel_rfl) (by kernel_rfl) (by kernel_rfl) (fun _ _ _ h => h) (by kernel_rfl) (v := ?v5036) ?y5036 ?r5036
          case y5036 => (intro u hu; go_simp; try rfl)
          simp only [Act.put, List.setIfInBounds_toArray, List.set_cons_zero, List.set_cons_succ]
          refine take_held 4 hS0 rfl (by kernel_rfl) (by kernel_rfl) (by kernel_rfl) (fun _ _ _ h => h) (by kernel_rfl) (v := ?v5037) ?y5037 ?r5037
          case y5037 => (intro u hu; go_simp; try rfl)
          simp only [Act.put, List.setIfInBounds_toArray, List.set_cons_zero, List.set_cons_succ]
          refine take_held 5 hS0 rfl (by kernel_rfl) (by kernel_rfl) (by kernel_rfl) (fun _ _ _ h => h) (by kernel_rfl) (v := ?v5038) ?y5038 ?r5038
          case y5038 => (intro u hu; go_simp; try rfl)
          simp only [Act.put, List.setIfInBounds_toArray, List.set_cons_zero, List.set_cons_succ]
          refine take_held 6 hS0 rfl (by kernel_rfl) (by kernel_rfl) (by kernel_rfl) (fun _ _ _ h => h) (by kernel_rfl) (v := ?v5039) ?y5039 ?r5039
          case y5039 => (intro u hu; go_simp; try rfl)
          simp only [Act.put, List.setIfInBounds_toArray, List.set_cons_zero, List.set_cons_succ]
          refine take_held 7 hS0 rfl (by kernel_rfl) (by kernel_rfl) (by kernel_rfl) (fun _ _ _ h => h) (by kernel_rfl) (v := ?v5040) ?y5040 ?r5040
          case y5040 => (intro u hu; have zz0 := HQC.out u hu; go_simp; try rfl)
          simp only [Act.put, List.setIfInBounds_toArray, List.set_cons_zero, List.set_cons_succ]
          refine wpAnyH_ready (rs := [8]) (by kernel_rfl) (by simp) (AllReadyH.cons ((nth_eq _ 8).trans rfl) ?_ AllReadyH.nil)
          intro K1 hK1
          refine call_in hK1 (by kernel_rfl) 18 #[m1, .slice aQ M cQ] (by go_simp) _ (as_ret (sameTeles_any (owns_go HA.out hS0) (owns_go HQ.out.b.own hS0) HLL.out)) ?_
          rintro v1 x1 ⟨rfl, b1⟩
          have hS1 := (hS0.trans (b1.mono hS0.size))
          refine ⟨hS1, ?_⟩
          simp only [Act.put, List.setIfInBounds_toArray, List.set_cons_zero, List.set_cons_succ]
          refine take_held 9 hS1 rfl (by kernel_rfl) (by kernel_rfl) (by kernel_rfl) (fun _ _ _ h => h) (by kernel_rfl) (v := ?v5041) ?y5041 ?r5041
          case y5041 => (intro u hu; go_simp; try rfl)
          simp only [Act.put, List.setIfInBounds_toArray, List.set_cons_zero, List.set_cons_succ]
          refine take_held 10 hS1 rfl (by kernel_rfl) (by kernel_rfl) (by kernel_rfl) (fun _ _ _ h => h) (by kernel_rfl) (v := ?v5042) ?y5042 ?r5042
          case y5042 => (intro u hu; go_simp; try rfl)
          simp only [Act.put, List.setIfInBounds_toArray, List.set_cons_zero, List.set_cons_succ]
          refine take_held 11 hS1 rfl (by kernel_rfl) (by kernel_rfl) (by kernel_rfl) (fun _ _ _ h => h) (by kernel_rfl) (v := ?v5043) ?y5043 ?r5043
          case y5043 => (intro u hu; go_simp; try rfl)
          simp only [Act.put, List.setIfInBounds_toArray, List.set_cons_zero, List.set_cons_succ]
          refine take_held 12 hS1 rfl (by kernel_rfl) (by kernel_rfl) (by kernel_rfl) (fun _ _ _ h => h) (by kernel_rfl) (v := ?v5044) ?y5044 ?r5044
          case y5044 => (intro u hu; go_simp; try rfl)
          simp only [Act.put, List.setIfInBounds_toArray, List.set_cons_zero, List.set_cons_succ]
          refine take_held 14 hS1 rfl (by kernel_rfl) (by kernel_rfl) (by kernel_rfl) (fun _ _ _ h => h) (by kernel_rfl) (v := ?v5045) ?y5045 ?r5045
          case y5045 => (intro u hu; go_simp; try rfl)
          simp only [Act.put, List.setIfInBounds_toArray, List.set_cons_zero, List.set_cons_succ]
          refine take_held 15 hS1 rfl (by kernel_rfl) (by kernel_rfl) (by kernel_rfl) (fun _ _ _ h => h) (by kernel_rfl) (v := ?v5046) ?y5046 ?r5046
          case y5046 => (intro u hu; go_simp; try rfl)
          simp only [Act.put, List.setIfInBounds_toArray, List.set_cons_zero, List.set_cons_succ]
          refine take_held 16 hS1 rfl (by kernel_rfl) (by kernel_rfl) (by kernel_rfl) (fun _ _ _ h => h) (by kernel_rfl) (v := ?v5047) ?y5047 ?r5047
          case y5047 => (intro u hu; go_simp; try rfl)
          simp only [Act.put, List.setIfInBounds_toArray, List.set_cons_zero, List.set_cons_succ]
          refine take_held 17 hS1 rfl (by kernel_rfl) (by kernel_rfl) (by kernel_rfl) (fun _ _ _ h => h) (by kernel_rfl) (v := ?v5048) ?y5048 ?r5048
          case y5048 => (intro u hu; have zz0 := HQC.out u hu; go_simp; try rfl)
          simp only [Act.put, List.setIfInBounds_toArray, List.set_cons_zero, List.set_cons_succ]
          refine take_held 18 hS1 rfl (by kernel_rfl) (by kernel_rfl) (by kernel_rfl) (fun _ _ _ h => h) (by kernel_rfl) (v := ?v5049) ?y5049 ?r5049
          case y5049 => (intro u hu; go_simp; try rfl)
          simp only [Act.put, List.setIfInBounds_toArray, List.set_cons_zero, List.set_cons_succ]
          refine wpAnyH_ready (rs := [13]) (by kernel_rfl) (by simp) (AllReadyH.cons ((nth_eq _ 13).trans rfl) ?_ AllReadyH.nil)
          intro K2 hK2
          refine call_in hK2 (by kernel_rfl) 19 #[.pointer (some ⟨p, 0, none⟩)] (by go_simp) _ (by have z := radLen_any (HQ.out.a.go hS1); rw [HLM.out] at z; exact as_ret z) ?_
          rintro v2 x2 ⟨rfl, hw2⟩
          rw [hw2]
          clear hw2 x2
          refine ⟨hS1, ?_⟩
          simp only [Act.put, List.setIfInBounds_toArray, List.set_cons_zero, List.set_cons_succ]
          refine take_held 19 hS1 rfl (by kernel_rfl) (by kernel_rfl) (by kernel_rfl) (fun _ _ _ h => h) (by kernel_rfl) (v := .bool false) ?y5050 ?r5050
          case y5050 => (intro u hu; go_simp; try rfl)
          simp only [Act.put, List.setIfInBounds_toArray, List.set_cons_zero, List.set_cons_succ]
          refine take_held 20 hS1 rfl (by kernel_rfl) (by kernel_rfl) (by kernel_rfl) (fun _ _ _ h => h) (by kernel_rfl) (v := ?v5051) ?y5051 ?r5051
          case y5051 => (intro u hu; go_simp; try rfl)
          simp only [Act.put, List.setIfInBounds_toArray, List.set_cons_zero, List.set_cons_succ]
          refine done_held (by kernel_rfl) ?_ _
          have HF : Hid (Two B W0 x1 p q va (.slice aQ M cQ) l2 l2) := HQ.out.go hS1
          clear hS0
          go_wp2
          go_roundw
          case rel => exact ⟨i + 1, _, _, l2, by go_num, by omega, HF.out⟩
          case measure => simp [intOf]; omega
        · clear pP
          go_upto_region 26 with (first
              | (have X' := hld; refine wpList_load_at rfl 31 (.tmp 31) rfl (xs.add (i * 3)) rfl (opA op) hld ?_; clear hld)
              | (have X' := HW1; refine wpList_new rfl rfl 31 6 (.tmp 32) rfl rfl rfl rfl (opA op0) (opA op) (zeroOp _) rfl rfl infoOp rfl (opA_one _) ?_; rw [HW1.out.1, HW1.out.2]; clear HW1)
              | (go_at_call 10; refine (cP _).mono ?_; rintro e yw ⟨rfl, hyw⟩; rw [hyw]; clear hyw)
              | (go_at_call 13; refine (rad_hear HTW.out.a op.i false).mono ?_; rintro e u1 ⟨rfl, va, Ga, ta⟩; rw [HBZ.out, HHV.out]; have T1 := HTW.out.left Ga ta; have X1 := HBX.out.left ta; obtain ⟨u2, hu2⟩ : ∃ zz, u1.alloc (.cells (tlA t) 42) = zz := ⟨_, rfl⟩; obtain ⟨b2, Y2⟩ := Box.new (cs := tlA t) (T := 42) T1 hu2; have T2 := T1.go b2; have X2 := X1.go b2; obtain ⟨by8, hby⟩ : ∃ by8, u1.heap.size = by8 := ⟨_, rfl⟩; rw [hby] at Y2; have z1 := op_c1 X2.at_; have HN2 : Hid (u1.alloc (.cells (tlA t) 42) = u2 ∧ u1.heap.size = by8) := ⟨hu2, hby⟩; clear hu2 hby b2 Ga ta T1 X1 w1c)
              | (have X' := HN2; refine wpList_new rfl rfl 42 8 (.tmp 66) rfl rfl rfl rfl (tlA tl0) (tlA t) (zeroTele _) rfl rfl infoTele rfl (tlA_one _) ?_; rw [HN2.out.1, HN2.out.2]; clear HN2)
              | (have X' := T2; go_at_call 14; refine (r_hear T2.b op.i false).mono ?_; rintro e u3 ⟨rfl, vb, Gb, tb⟩; rw [HBZ.out, HHV.out]; have T3 := T2.right Gb tb; have Y3 := Y2.right tb; obtain ⟨u4, hu4⟩ : ∃ zz, u3.alloc (.cells (tlA t) 42) = zz := ⟨_, rfl⟩; obtain ⟨b4, Z4⟩ := Box.new (cs := tlA t) (T := 42) T3 hu4; have T4 := T3.go b4; have Y4 := Y3.go b4; obtain ⟨bz8, hbz⟩ : ∃ bz8, u3.heap.size = bz8 := ⟨_, rfl⟩; rw [hbz] at Z4; have HN4 : Hid (u3.alloc (.cells (tlA t) 42) = u4 ∧ u3.heap.size = bz8) := ⟨hu4, hbz⟩; have HY4 : Hid (u4.heap[by8]? = some (.cells (tlA t) 42 (0, 0)) ∧ u4.heap[bz8]? = some (.cells (tlA t) 42 (0, 0))) := ⟨Y4.at_, Z4.at_⟩; have HT4 : Hid (Two B W0 u4 p q va vb (hearD l op.i false) (hearD l op.i false)) := T4; clear hu4 hbz b4 Gb tb T2 X2 T3 Y2 Y3 Y4 Z4 T4 z1)
              | (have X' := HN4; refine wpList_new rfl rfl 42 10 (.tmp 74) rfl rfl rfl rfl (tlA tl0) (tlA t) (zeroTele _) rfl rfl infoTele rfl (tlA_one _) ?_; rw [HN4.out.1, HN4.out.2]; clear HN4)
              | (have X' := HY4; refine wpList_load_at rfl 42 (.tmp 8) rfl ⟨by8, 0, none⟩ rfl (tlA t) (load_tele HY4.out.1) ?_)
              | (have X' := HY4; refine wpList_load_at rfl 42 (.tmp 10) rfl ⟨bz8, 0, none⟩ rfl (tlA t) (load_tele HY4.out.2) ?_)
              | (have X' := HY4; refine wpList_neq_tele _ _ _ rfl t rfl rfl rfl ?_))
          obtain ⟨l2, hl2⟩ : ∃ l2, hearD l op.i false = l2 := ⟨_, rfl⟩
          have HTE : Hid (∃ va vb, Two B W0 u4 p q va vb l2 l2) := ⟨_, _, by rw [← hl2]; exact HT4.out⟩
          clear hl2
          obtain ⟨we, hwe⟩ : ∃ we, u4 = we := ⟨_, rfl⟩
          rw [hwe] at HTE ⊢
          clear hwe HT4 HY4
          obtain ⟨va, vb0, hTE⟩ := HTE.out
          obtain ⟨M, hM⟩ : ∃ M, l2.length = M := ⟨_, rfl⟩
          obtain ⟨aQ, cQ, rfl⟩ := own_slice hTE.b.own hM
          have HTF : Hid (Two B W0 we p q va (.slice aQ M cQ) l2 l2) := hTE
          have HLM : Hid (l2.length = M) := hM
          have HLL : Hid (l2.length ≤ 1000000) := by have := hTE.a.len; show _ ≤ _; omega
          have cA : Calls Try.prog 17 #[.pointer (some ⟨p, 0, none⟩), .int .i64 2000] we fun e w' => ∃ m, e = .returned (.tuple #[m, .bool true]) ∧ Own w' we.heap.size m (l2.take 2000) ∧ Below we.heap.size we w' := allT_any hTE.a 2000 (by decide) (by decide)
          rw [List.take_of_length_le (by have := hTE.a.len; omega)] at cA
          clear hTE hM HTE
          go_upto_region 27 with (first
            | (go_at_call 17; refine cA.mono ?_; rintro e x5 ⟨m1, rfl, Oa, ba⟩; clear cA))
          refine start_held (S := fun u => Below x5.drew.heap.size x5.drew u) 21 rfl (by kernel_rfl) (Below.refl _ _) ?_
          simp only [Array.replicate_succ, Array.replicate_zero, List.push_toArray, List.nil_append, List.cons_append]
          have HQ : Hid (Two B W0 x5.drew p q va (.slice aQ M cQ) l2 l2) := (HTF.out.go ba).go (Below.refl _ _).drew
          have HA : Hid (Own x5.drew we.heap.size m1 l2) := owns_go Oa (Below.refl _ _).drew
          have hS0 : Below x5.drew.heap.size x5.drew x5.drew := Below.refl _ _
          generalize x5.drew = x6 at *
          have HQC : Hid (∀ u, Below x6.heap.size x6 u → u.cell? ⟨q, 0, none⟩ = some (.slice aQ M cQ)) := fun u hu => (HQ.out.b.go hu).c0
          clear Oa ba
          refine take_held 0 hS0 rfl (by kernel_rfl) (by kernel_rfl) (by kernel_rfl) (fun _ _ _ h => h) (by kernel_rfl) (v := ?v5052) ?y5052 ?r5052
          case y5052 => (intro u hu; go_simp; try rfl)
          simp only [Act.put, List.setIfInBounds_toArray, List.set_cons_zero, List.set_cons_succ]
          refine take_held 1 hS0 rfl (by kernel_rfl) (by kernel_rfl) (by kernel_rfl) (fun _ _ _ h => h) (by kernel_rfl) (v := ?v5053) ?y5053 ?r5053
          case y5053 => (intro u hu; go_simp; try rfl)
          simp only [Act.put, List.setIfInBounds_toArray, List.set_cons_zero, List.set_cons_succ]
          refine take_held 2 hS0 rfl (by kernel_rfl) (by kernel_rfl) (by kernel_rfl) (fun _ _ _ h => h) (by kernel_rfl) (v := ?v5054) ?y5054 ?r5054
          case y5054 => (intro u hu; go_simp; try rfl)
          simp only [Act.put, List.setIfInBounds_toArray, List.set_cons_zero, List.set_cons_succ]
          refine take_held 3 hS0 rfl (by kernel_rfl) (by kernel_rfl) (by kernel_rfl) (fun _ _ _ h => h) (by kernel_rfl) (v := ?v5055) ?y5055 ?r5055
          case y5055 => (intro u hu; go_simp; try rfl)
          simp only [Act.put, List.setIfInBounds_toArray, List.set_cons_zero, List.set_cons_succ]
          refine take_held 4 hS0 rfl (by kernel_rfl) (by kernel_rfl) (by kernel_rfl) (fun _ _ _ h => h) (by kernel_rfl) (v := ?v5056) ?y5056 ?r5056
          case y5056 => (intro u hu; go_simp; try rfl)
          simp only [Act.put, List.setIfInBounds_toArray, List.set_cons_zero, List.set_cons_succ]
          refine take_held 5 hS0 rfl (by kernel_rfl) (by kernel_rfl) (by kernel_rfl) (fun _ _ _ h => h) (by kernel_rfl) (v := ?v5057) ?y5057 ?r5057
          case y5057 => (intro u hu; go_simp; try rfl)
          simp only [Act.put, List.setIfInBounds_toArray, List.set_cons_zero, List.set_cons_succ]
          refine take_held 6 hS0 rfl (by kernel_rfl) (by kernel_rfl) (by kernel_rfl) (fun _ _ _ h => h) (by kernel_rfl) (v := ?v5058) ?y5058 ?r5058
          case y5058 => (intro u hu; go_simp; try rfl)
          simp only [Act.put, List.setIfInBounds_toArray, List.set_cons_zero, List.set_cons_succ]
          refine take_held 7 hS0 rfl (by kernel_rfl) (by kernel_rfl) (by kernel_rfl) (fun _ _ _ h => h) (by kernel_rfl) (v := ?v5059) ?y5059 ?r5059
          case y5059 => (intro u hu; have zz0 := HQC.out u hu; go_simp; try rfl)
          simp only [Act.put, List.setIfInBounds_toArray, List.set_cons_zero, List.set_cons_succ]
          refine wpAnyH_ready (rs := [8]) (by kernel_rfl) (by simp) (AllReadyH.cons ((nth_eq _ 8).trans rfl) ?_ AllReadyH.nil)
          intro K1 hK1
          refine call_in hK1 (by kernel_rfl) 18 #[m1, .slice aQ M cQ] (by go_simp) _ (as_ret (sameTeles_any (owns_go HA.out hS0) (owns_go HQ.out.b.own hS0) HLL.out)) ?_
          rintro v1 x1 ⟨rfl, b1⟩
          have hS1 := (hS0.trans (b1.mono hS0.size))
          refine ⟨hS1, ?_⟩
          simp only [Act.put, List.setIfInBounds_toArray, List.set_cons_zero, List.set_cons_succ]
          refine take_held 9 hS1 rfl (by kernel_rfl) (by kernel_rfl) (by kernel_rfl) (fun _ _ _ h => h) (by kernel_rfl) (v := ?v5060) ?y5060 ?r5060
          case y5060 => (intro u hu; go_simp; try rfl)
          simp only [Act.put, List.setIfInBounds_toArray, List.set_cons_zero, List.set_cons_succ]
          refine take_held 10 hS1 rfl (by kernel_rfl) (by kernel_rfl) (by kernel_rfl) (fun _ _ _ h => h) (by kernel_rfl) (v := ?v5061) ?y5061 ?r5061
          case y5061 => (intro u hu; go_simp; try rfl)
          simp only [Act.put, List.setIfInBounds_toArray, List.set_cons_zero, List.set_cons_succ]
          refine take_held 11 hS1 rfl (by kernel_rfl) (by kernel_rfl) (by kernel_rfl) (fun _ _ _ h => h) (by kernel_rfl) (v := ?v5062) ?y5062 ?r5062
          case y5062 => (intro u hu; go_simp; try rfl)
          simp only [Act.put, List.setIfInBounds_toArray, List.set_cons_zero, List.set_cons_succ]
          refine take_held 12 hS1 rfl (by kernel_rfl) (by kernel_rfl) (by kernel_rfl) (fun _ _ _ h => h) (by kernel_rfl) (v := ?v5063) ?y5063 ?r5063
          case y5063 => (intro u hu; go_simp; try rfl)
          simp only [Act.put, List.setIfInBounds_toArray, List.set_cons_zero, List.set_cons_succ]
          refine take_held 14 hS1 rfl (by kernel_rfl) (by kernel_rfl) (by kernel_rfl) (fun _ _ _ h => h) (by kernel_rfl) (v := ?v5064) ?y5064 ?r5064
          case y5064 => (intro u hu; go_simp; try rfl)
          simp only [Act.put, List.setIfInBounds_toArray, List.set_cons_zero, List.set_cons_succ]
          refine take_held 15 hS1 rfl (by kernel_rfl) (by kernel_rfl) (by kernel_rfl) (fun _ _ _ h => h) (by kernel_rfl) (v := ?v5065) ?y5065 ?r5065
          case y5065 => (intro u hu; go_simp; try rfl)
          simp only [Act.put, List.setIfInBounds_toArray, List.set_cons_zero, List.set_cons_succ]
          refine take_held 16 hS1 rfl (by kernel_rfl) (by kernel_rfl) (by kernel_rfl) (fun _ _ _ h => h) (by kernel_rfl) (v := ?v5066) ?y5066 ?r5066
          case y5066 => (intro u hu; go_simp; try rfl)
          simp only [Act.put, List.setIfInBounds_toArray, List.set_cons_zero, List.set_cons_succ]
          refine take_held 17 hS1 rfl (by kernel_rfl) (by kernel_rfl) (by kernel_rfl) (fun _ _ _ h => h) (by kernel_rfl) (v := ?v5067) ?y5067 ?r5067
          case y5067 => (intro u hu; have zz0 := HQC.out u hu; go_simp; try rfl)
          simp only [Act.put, List.setIfInBounds_toArray, List.set_cons_zero, List.set_cons_succ]
          refine take_held 18 hS1 rfl (by kernel_rfl) (by kernel_rfl) (by kernel_rfl) (fun _ _ _ h => h) (by kernel_rfl) (v := ?v5068) ?y5068 ?r5068
          case y5068 => (intro u hu; go_simp; try rfl)
          simp only [Act.put, List.setIfInBounds_toArray, List.set_cons_zero, List.set_cons_succ]
          refine wpAnyH_ready (rs := [13]) (by kernel_rfl) (by simp) (AllReadyH.cons ((nth_eq _ 13).trans rfl) ?_ AllReadyH.nil)
          intro K2 hK2
          refine call_in hK2 (by kernel_rfl) 19 #[.pointer (some ⟨p, 0, none⟩)] (by go_simp) _ (by have z := radLen_any (HQ.out.a.go hS1); rw [HLM.out] at z; exact as_ret z) ?_
          rintro v2 x2 ⟨rfl, hw2⟩
          rw [hw2]
          clear hw2 x2
          refine ⟨hS1, ?_⟩
          simp only [Act.put, List.setIfInBounds_toArray, List.set_cons_zero, List.set_cons_succ]
          refine take_held 19 hS1 rfl (by kernel_rfl) (by kernel_rfl) (by kernel_rfl) (fun _ _ _ h => h) (by kernel_rfl) (v := .bool false) ?y5069 ?r5069
          case y5069 => (intro u hu; go_simp; try rfl)
          simp only [Act.put, List.setIfInBounds_toArray, List.set_cons_zero, List.set_cons_succ]
          refine take_held 20 hS1 rfl (by kernel_rfl) (by kernel_rfl) (by kernel_rfl) (fun _ _ _ h => h) (by kernel_rfl) (v := ?v5070) ?y5070 ?r5070
          case y5070 => (intro u hu; go_simp; try rfl)
          simp only [Act.put, List.setIfInBounds_toArray, List.set_cons_zero, List.set_cons_succ]
          refine done_held (by kernel_rfl) ?_ _
          have HF : Hid (Two B W0 x1 p q va (.slice aQ M cQ) l2 l2) := HQ.out.go hS1
          clear hS0
          go_wp2
          go_roundw
          case rel => exact ⟨i + 1, _, _, l2, by go_num, by omega, HF.out⟩
          case measure => simp [intOf]; omega
        · clear pP
          go_upto_region 26 with (first
              | (have X' := hld; refine wpList_load_at rfl 31 (.tmp 31) rfl (xs.add (i * 3)) rfl (opA op) hld ?_; clear hld)
              | (have X' := HW1; refine wpList_new rfl rfl 31 6 (.tmp 32) rfl rfl rfl rfl (opA op0) (opA op) (zeroOp _) rfl rfl infoOp rfl (opA_one _) ?_; rw [HW1.out.1, HW1.out.2]; clear HW1)
              | (go_at_call 10; refine (cP _).mono ?_; rintro e yw ⟨rfl, hyw⟩; rw [hyw]; clear hyw)
              | (go_at_call 13; refine (rad_hear HTW.out.a op.i true).mono ?_; rintro e u1 ⟨rfl, va, Ga, ta⟩; rw [HBZ.out, HHV.out]; have T1 := HTW.out.left Ga ta; have X1 := HBX.out.left ta; obtain ⟨u2, hu2⟩ : ∃ zz, u1.alloc (.cells (tlA t) 42) = zz := ⟨_, rfl⟩; obtain ⟨b2, Y2⟩ := Box.new (cs := tlA t) (T := 42) T1 hu2; have T2 := T1.go b2; have X2 := X1.go b2; obtain ⟨by8, hby⟩ : ∃ by8, u1.heap.size = by8 := ⟨_, rfl⟩; rw [hby] at Y2; have z1 := op_c1 X2.at_; have HN2 : Hid (u1.alloc (.cells (tlA t) 42) = u2 ∧ u1.heap.size = by8) := ⟨hu2, hby⟩; clear hu2 hby b2 Ga ta T1 X1 w1c)
              | (have X' := HN2; refine wpList_new rfl rfl 42 8 (.tmp 66) rfl rfl rfl rfl (tlA tl0) (tlA t) (zeroTele _) rfl rfl infoTele rfl (tlA_one _) ?_; rw [HN2.out.1, HN2.out.2]; clear HN2)
              | (have X' := T2; go_at_call 14; refine (r_hear T2.b op.i true).mono ?_; rintro e u3 ⟨rfl, vb, Gb, tb⟩; rw [HBZ.out, HHV.out]; have T3 := T2.right Gb tb; have Y3 := Y2.right tb; obtain ⟨u4, hu4⟩ : ∃ zz, u3.alloc (.cells (tlA t) 42) = zz := ⟨_, rfl⟩; obtain ⟨b4, Z4⟩ := Box.new (cs := tlA t) (T := 42) T3 hu4; have T4 := T3.go b4; have Y4 := Y3.go b4; obtain ⟨bz8, hbz⟩ : ∃ bz8, u3.heap.size = bz8 := ⟨_, rfl⟩; rw [hbz] at Z4; have HN4 : Hid (u3.alloc (.cells (tlA t) 42) = u4 ∧ u3.heap.size = bz8) := ⟨hu4, hbz⟩; have HY4 : Hid (u4.heap[by8]? = some (.cells (tlA t) 42 (0, 0)) ∧ u4.heap[bz8]? = some (.cells (tlA t) 42 (0, 0))) := ⟨Y4.at_, Z4.at_⟩; have HT4 : Hid (Two B W0 u4 p q va vb (hearD l op.i true) (hearD l op.i true)) := T4; clear hu4 hbz b4 Gb tb T2 X2 T3 Y2 Y3 Y4 Z4 T4 z1)
              | (have X' := HN4; refine wpList_new rfl rfl 42 10 (.tmp 74) rfl rfl rfl rfl (tlA tl0) (tlA t) (zeroTele _) rfl rfl infoTele rfl (tlA_one _) ?_; rw [HN4.out.1, HN4.out.2]; clear HN4)
              | (have X' := HY4; refine wpList_load_at rfl 42 (.tmp 8) rfl ⟨by8, 0, none⟩ rfl (tlA t) (load_tele HY4.out.1) ?_)
              | (have X' := HY4; refine wpList_load_at rfl 42 (.tmp 10) rfl ⟨bz8, 0, none⟩ rfl (tlA t) (load_tele HY4.out.2) ?_)
              | (have X' := HY4; refine wpList_neq_tele _ _ _ rfl t rfl rfl rfl ?_))
          obtain ⟨l2, hl2⟩ : ∃ l2, hearD l op.i true = l2 := ⟨_, rfl⟩
          have HTE : Hid (∃ va vb, Two B W0 u4 p q va vb l2 l2) := ⟨_, _, by rw [← hl2]; exact HT4.out⟩
          clear hl2
          obtain ⟨we, hwe⟩ : ∃ we, u4 = we := ⟨_, rfl⟩
          rw [hwe] at HTE ⊢
          clear hwe HT4 HY4
          obtain ⟨va, vb0, hTE⟩ := HTE.out
          obtain ⟨M, hM⟩ : ∃ M, l2.length = M := ⟨_, rfl⟩
          obtain ⟨aQ, cQ, rfl⟩ := own_slice hTE.b.own hM
          have HTF : Hid (Two B W0 we p q va (.slice aQ M cQ) l2 l2) := hTE
          have HLM : Hid (l2.length = M) := hM
          have HLL : Hid (l2.length ≤ 1000000) := by have := hTE.a.len; show _ ≤ _; omega
          have cA : Calls Try.prog 17 #[.pointer (some ⟨p, 0, none⟩), .int .i64 2000] we fun e w' => ∃ m, e = .returned (.tuple #[m, .bool true]) ∧ Own w' we.heap.size m (l2.take 2000) ∧ Below we.heap.size we w' := allT_any hTE.a 2000 (by decide) (by decide)
          rw [List.take_of_length_le (by have := hTE.a.len; omega)] at cA
          clear hTE hM HTE
          go_upto_region 27 with (first
            | (go_at_call 17; refine cA.mono ?_; rintro e x5 ⟨m1, rfl, Oa, ba⟩; clear cA))
          refine start_held (S := fun u => Below x5.drew.heap.size x5.drew u) 21 rfl (by kernel_rfl) (Below.refl _ _) ?_
          simp only [Array.replicate_succ, Array.replicate_zero, List.push_toArray, List.nil_append, List.cons_append]
          have HQ : Hid (Two B W0 x5.drew p q va (.slice aQ M cQ) l2 l2) := (HTF.out.go ba).go (Below.refl _ _).drew
          have HA : Hid (Own x5.drew we.heap.size m1 l2) := owns_go Oa (Below.refl _ _).drew
          have hS0 : Below x5.drew.heap.size x5.drew x5.drew := Below.refl _ _
          generalize x5.drew = x6 at *
          have HQC : Hid (∀ u, Below x6.heap.size x6 u → u.cell? ⟨q, 0, none⟩ = some (.slice aQ M cQ)) := fun u hu => (HQ.out.b.go hu).c0
          clear Oa ba
          refine take_held 0 hS0 rfl (by kernel_rfl) (by kernel_rfl) (by kernel_rfl) (fun _ _ _ h => h) (by kernel_rfl) (v := ?v5071) ?y5071 ?r5071
          case y5071 => (intro u hu; go_simp; try rfl)
          simp only [Act.put, List.setIfInBounds_toArray, List.set_cons_zero, List.set_cons_succ]
          refine take_held 1 hS0 rfl (by kernel_rfl) (by kernel_rfl) (by kernel_rfl) (fun _ _ _ h => h) (by kernel_rfl) (v := ?v5072) ?y5072 ?r5072
          case y5072 => (intro u hu; go_simp; try rfl)
          simp only [Act.put, List.setIfInBounds_toArray, List.set_cons_zero, List.set_cons_succ]
          refine take_held 2 hS0 rfl (by kernel_rfl) (by kernel_rfl) (by kernel_rfl) (fun _ _ _ h => h) (by kernel_rfl) (v := ?v5073) ?y5073 ?r5073
          case y5073 => (intro u hu; go_simp; try rfl)
          simp only [Act.put, List.setIfInBounds_toArray, List.set_cons_zero, List.set_cons_succ]
          refine take_held 3 hS0 rfl (by kernel_rfl) (by kernel_rfl) (by kernel_rfl) (fun _ _ _ h => h) (by kernel_rfl) (v := ?v5074) ?y5074 ?r5074
          case y5074 => (intro u hu; go_simp; try rfl)
          simp only [Act.put, List.setIfInBounds_toArray, List.set_cons_zero, List.set_cons_succ]
          refine take_held 4 hS0 rfl (by kernel_rfl) (by kernel_rfl) (by kernel_rfl) (fun _ _ _ h => h) (by kernel_rfl) (v := ?v5075) ?y5075 ?r5075
          case y5075 => (intro u hu; go_simp; try rfl)
          simp only [Act.put, List.setIfInBounds_toArray, List.set_cons_zero, List.set_cons_succ]
          refine take_held 5 hS0 rfl (by kernel_rfl) (by kernel_rfl) (by kernel_rfl) (fun _ _ _ h => h) (by kernel_rfl) (v := ?v5076) ?y5076 ?r5076
          case y5076 => (intro u hu; go_simp; try rfl)
          simp only [Act.put, List.setIfInBounds_toArray, List.set_cons_zero, List.set_cons_succ]
          refine take_held 6 hS0 rfl (by kernel_rfl) (by kernel_rfl) (by kernel_rfl) (fun _ _ _ h => h) (by kernel_rfl) (v := ?v5077) ?y5077 ?r5077
          case y5077 => (intro u hu; go_simp; try rfl)
          simp only [Act.put, List.setIfInBounds_toArray, List.set_cons_zero, List.set_cons_succ]
          refine take_held 7 hS0 rfl (by kernel_rfl) (by kernel_rfl) (by kernel_rfl) (fun _ _ _ h => h) (by kernel_rfl) (v := ?v5078) ?y5078 ?r5078
          case y5078 => (intro u hu; have zz0 := HQC.out u hu; go_simp; try rfl)
          simp only [Act.put, List.setIfInBounds_toArray, List.set_cons_zero, List.set_cons_succ]
          refine wpAnyH_ready (rs := [8]) (by kernel_rfl) (by simp) (AllReadyH.cons ((nth_eq _ 8).trans rfl) ?_ AllReadyH.nil)
          intro K1 hK1
          refine call_in hK1 (by kernel_rfl) 18 #[m1, .slice aQ M cQ] (by go_simp) _ (as_ret (sameTeles_any (owns_go HA.out hS0) (owns_go HQ.out.b.own hS0) HLL.out)) ?_
          rintro v1 x1 ⟨rfl, b1⟩
          have hS1 := (hS0.trans (b1.mono hS0.size))
          refine ⟨hS1, ?_⟩
          simp only [Act.put, List.setIfInBounds_toArray, List.set_cons_zero, List.set_cons_succ]
          refine take_held 9 hS1 rfl (by kernel_rfl) (by kernel_rfl) (by kernel_rfl) (fun _ _ _ h => h) (by kernel_rfl) (v := ?v5079) ?y5079 ?r5079
          case y5079 => (intro u hu; go_simp; try rfl)
          simp only [Act.put, List.setIfInBounds_toArray, List.set_cons_zero, List.set_cons_succ]
          refine take_held 10 hS1 rfl (by kernel_rfl) (by kernel_rfl) (by kernel_rfl) (fun _ _ _ h => h) (by kernel_rfl) (v := ?v5080) ?y5080 ?r5080
          case y5080 => (intro u hu; go_simp; try rfl)
          simp only [Act.put, List.setIfInBounds_toArray, List.set_cons_zero, List.set_cons_succ]
          refine take_held 11 hS1 rfl (by kernel_rfl) (by kernel_rfl) (by kernel_rfl) (fun _ _ _ h => h) (by kernel_rfl) (v := ?v5081) ?y5081 ?r5081
          case y5081 => (intro u hu; go_simp; try rfl)
          simp only [Act.put, List.setIfInBounds_toArray, List.set_cons_zero, List.set_cons_succ]
          refine take_held 12 hS1 rfl (by kernel_rfl) (by kernel_rfl) (by kernel_rfl) (fun _ _ _ h => h) (by kernel_rfl) (v := ?v5082) ?y5082 ?r5082
          case y5082 => (intro u hu; go_simp; try rfl)
          simp only [Act.put, List.setIfInBounds_toArray, List.set_cons_zero, List.set_cons_succ]
          refine take_held 14 hS1 rfl (by kernel_rfl) (by kernel_rfl) (by kernel_rfl) (fun _ _ _ h => h) (by kernel_rfl) (v := ?v5083) ?y5083 ?r5083
          case y5083 => (intro u hu; go_simp; try rfl)
          simp only [Act.put, List.setIfInBounds_toArray, List.set_cons_zero, List.set_cons_succ]
          refine take_held 15 hS1 rfl (by kernel_rfl) (by kernel_rfl) (by kernel_rfl) (fun _ _ _ h => h) (by kernel_rfl) (v := ?v5084) ?y5084 ?r5084
          case y5084 => (intro u hu; go_simp; try rfl)
          simp only [Act.put, List.setIfInBounds_toArray, List.set_cons_zero, List.set_cons_succ]
          refine take_held 16 hS1 rfl (by kernel_rfl) (by kernel_rfl) (by kernel_rfl) (fun _ _ _ h => h) (by kernel_rfl) (v := ?v5085) ?y5085 ?r5085
          case y5085 => (intro u hu; go_simp; try rfl)
          simp only [Act.put, List.setIfInBounds_toArray, List.set_cons_zero, List.set_cons_succ]
          refine take_held 17 hS1 rfl (by kernel_rfl) (by kernel_rfl) (by kernel_rfl) (fun _ _ _ h => h) (by kernel_rfl) (v := ?v5086) ?y5086 ?r5086
          case y5086 => (intro u hu; have zz0 := HQC.out u hu; go_simp; try rfl)
          simp only [Act.put, List.setIfInBounds_toArray, List.set_cons_zero, List.set_cons_succ]
          refine take_held 18 hS1 rfl (by kernel_rfl) (by kernel_rfl) (by kernel_rfl) (fun _ _ _ h => h) (by kernel_rfl) (v := ?v5087) ?y5087 ?r5087
          case y5087 => (intro u hu; go_simp; try rfl)
          simp only [Act.put, List.setIfInBounds_toArray, List.set_cons_zero, List.set_cons_succ]
          refine wpAnyH_ready (rs := [13]) (by kernel_rfl) (by simp) (AllReadyH.cons ((nth_eq _ 13).trans rfl) ?_ AllReadyH.nil)
          intro K2 hK2
          refine call_in hK2 (by kernel_rfl) 19 #[.pointer (some ⟨p, 0, none⟩)] (by go_simp) _ (by have z := radLen_any (HQ.out.a.go hS1); rw [HLM.out] at z; exact as_ret z) ?_
          rintro v2 x2 ⟨rfl, hw2⟩
          rw [hw2]
          clear hw2 x2
          refine ⟨hS1, ?_⟩
          simp only [Act.put, List.setIfInBounds_toArray, List.set_cons_zero, List.set_cons_succ]
          refine take_held 19 hS1 rfl (by kernel_rfl) (by kernel_rfl) (by kernel_rfl) (fun _ _ _ h => h) (by kernel_rfl) (v := .bool false) ?y5088 ?r5088
          case y5088 => (intro u hu; go_simp; try rfl)
          simp only [Act.put, List.setIfInBounds_toArray, List.set_cons_zero, List.set_cons_succ]
          refine take_held 20 hS1 rfl (by kernel_rfl) (by kernel_rfl) (by kernel_rfl) (fun _ _ _ h => h) (by kernel_rfl) (v := ?v5089) ?y5089 ?r5089
          case y5089 => (intro u hu; go_simp; try rfl)
          simp only [Act.put, List.setIfInBounds_toArray, List.set_cons_zero, List.set_cons_succ]
          refine done_held (by kernel_rfl) ?_ _
          have HF : Hid (Two B W0 x1 p q va (.slice aQ M cQ) l2 l2) := HQ.out.go hS1
          clear hS0
          go_wp2
          go_roundw
          case rel => exact ⟨i + 1, _, _, l2, by go_num, by omega, HF.out⟩
          case measure => simp [intOf]; omega
        · clear pP
          go_upto_region 24 with (first
              | (have X' := hld; refine wpList_load_at rfl 31 (.tmp 31) rfl (xs.add (i * 3)) rfl (opA op) hld ?_; clear hld)
              | (have X' := HW1; refine wpList_new rfl rfl 31 6 (.tmp 32) rfl rfl rfl rfl (opA op0) (opA op) (zeroOp _) rfl rfl infoOp rfl (opA_one _) ?_; rw [HW1.out.1, HW1.out.2]; clear HW1)
              | (go_at_call 10; refine (cP _).mono ?_; rintro e yw ⟨rfl, hyw⟩; rw [hyw]; clear hyw))
          clear w1a w1b w1c cP
          refine start_held (S := fun u => u.heap[bx]? = some (.cells (opA op) 31 (0, 0))) 9 rfl (by kernel_rfl) (HBX.out.at_) ?_
          simp only [Array.replicate_succ, Array.replicate_zero, List.push_toArray, List.nil_append, List.cons_append]
          have T0 : Two B W0 w1.drew p q v v' l l := HTW.out.go (Below.refl _ _).drew
          have X0 : Box w1.drew p q v v' bx (opA op) 31 := HBX.out.go (Below.refl _ _).drew
          have hS0 : w1.drew.heap[bx]? = some (.cells (opA op) 31 (0, 0)) := X0.at_
          generalize w1.drew = x0 at *
          refine take_held 0 hS0 rfl (by kernel_rfl) (by kernel_rfl) (by kernel_rfl) (fun _ _ _ h => h) (by kernel_rfl) (v := ?v5090) ?y5090 ?r5090
          case y5090 => (intro u hu; go_simp; try rfl)
          simp only [Act.put, List.setIfInBounds_toArray, List.set_cons_zero, List.set_cons_succ]
          refine take_held 1 hS0 rfl (by kernel_rfl) (by kernel_rfl) (by kernel_rfl) (fun _ _ _ h => h) (by kernel_rfl) (v := ?v5091) ?y5091 ?r5091
          case y5091 => (intro u hu; go_simp; try rfl)
          simp only [Act.put, List.setIfInBounds_toArray, List.set_cons_zero, List.set_cons_succ]
          refine take_held 2 hS0 rfl (by kernel_rfl) (by kernel_rfl) (by kernel_rfl) (fun _ _ _ h => h) (by kernel_rfl) (v := ?v5092) ?y5092 ?r5092
          case y5092 => (intro u hu; have zz0 := HX1.out u hu; go_simp; try rfl)
          simp only [Act.put, List.setIfInBounds_toArray, List.set_cons_zero, List.set_cons_succ]
          refine take_held 4 hS0 rfl (by kernel_rfl) (by kernel_rfl) (by kernel_rfl) (fun _ _ _ h => h) (by kernel_rfl) (v := ?v5093) ?y5093 ?r5093
          case y5093 => (intro u hu; go_simp; try rfl)
          simp only [Act.put, List.setIfInBounds_toArray, List.set_cons_zero, List.set_cons_succ]
          refine take_held 5 hS0 rfl (by kernel_rfl) (by kernel_rfl) (by kernel_rfl) (fun _ _ _ h => h) (by kernel_rfl) (v := ?v5094) ?y5094 ?r5094
          case y5094 => (intro u hu; go_simp; try rfl)
          simp only [Act.put, List.setIfInBounds_toArray, List.set_cons_zero, List.set_cons_succ]
          refine take_held 6 hS0 rfl (by kernel_rfl) (by kernel_rfl) (by kernel_rfl) (fun _ _ _ h => h) (by kernel_rfl) (v := ?v5095) ?y5095 ?r5095
          case y5095 => (intro u hu; have zz0 := HX1.out u hu; go_simp; try rfl)
          simp only [Act.put, List.setIfInBounds_toArray, List.set_cons_zero, List.set_cons_succ]
          refine wpAnyH_ready (rs := [3]) (by kernel_rfl) (by simp) (AllReadyH.cons ((nth_eq _ 3).trans rfl) ?_ AllReadyH.nil)
          intro K1 hK1
          refine call_in hK1 (by kernel_rfl) 15 #[.pointer (some ⟨p, 0, none⟩), .int .i64 op.i] (by go_simp) _ (as_retQ (rad_lose T0.a op.i HBZ.out)) ?_
          rintro v1 x1 ⟨rfl, va, Ga, ta⟩
          have T1 := T0.left Ga ta
          have X1 := X0.left ta
          have hS1 := X1.at_
          refine ⟨hS1, ?_⟩
          simp only [Act.put, List.setIfInBounds_toArray, List.set_cons_zero, List.set_cons_succ]
          refine wpAnyH_ready (rs := [7]) (by kernel_rfl) (by simp) (AllReadyH.cons ((nth_eq _ 7).trans rfl) ?_ AllReadyH.nil)
          intro K2 hK2
          refine call_in hK2 (by kernel_rfl) 16 #[.pointer (some ⟨q, 0, none⟩), .int .i64 op.i] (by go_simp) _ (as_retQ (r_lose T1.b op.i HBZ.out)) ?_
          rintro v2 x2 ⟨rfl, vb, Gb, tb⟩
          have T2 := T1.right Gb tb
          have X2 := X1.right tb
          have hS2 := X2.at_
          refine ⟨hS2, ?_⟩
          simp only [Act.put, List.setIfInBounds_toArray, List.set_cons_zero, List.set_cons_succ]
          refine take_held 8 hS2 rfl (by kernel_rfl) (by kernel_rfl) (by kernel_rfl) (fun _ _ _ h => h) (by kernel_rfl) (v := .bool false) ?y5096 ?r5096
          case y5096 => (intro u hu; cases bz <;> (go_simp; try rfl))
          simp only [Act.put, List.setIfInBounds_toArray, List.set_cons_zero, List.set_cons_succ]
          refine done_held (by kernel_rfl) ?_ _
          obtain ⟨l2, hl2⟩ : ∃ l2, lostL l op.i = l2 := ⟨_, rfl⟩
          have HTE : Hid (∃ va vb, Two B W0 x2 p q va vb l2 l2) := ⟨_, _, by rw [← hl2]; exact T2⟩
          clear hl2
          obtain ⟨we, hwe⟩ : ∃ we, x2 = we := ⟨_, rfl⟩
          rw [hwe] at HTE ⊢
          clear hS0 T0 X0
          obtain ⟨va, vb0, hTE⟩ := HTE.out
          obtain ⟨M, hM⟩ : ∃ M, l2.length = M := ⟨_, rfl⟩
          obtain ⟨aQ, cQ, rfl⟩ := own_slice hTE.b.own hM
          have HTF : Hid (Two B W0 we p q va (.slice aQ M cQ) l2 l2) := hTE
          have HLM : Hid (l2.length = M) := hM
          have HLL : Hid (l2.length ≤ 1000000) := by have := hTE.a.len; show _ ≤ _; omega
          have cA : Calls Try.prog 17 #[.pointer (some ⟨p, 0, none⟩), .int .i64 2000] we fun e w' => ∃ m, e = .returned (.tuple #[m, .bool true]) ∧ Own w' we.heap.size m (l2.take 2000) ∧ Below we.heap.size we w' := allT_any hTE.a 2000 (by decide) (by decide)
          rw [List.take_of_length_le (by have := hTE.a.len; omega)] at cA
          clear hTE hM HTE
          go_upto_region 27 with (first
            | (go_at_call 17; refine cA.mono ?_; rintro e x5 ⟨m1, rfl, Oa, ba⟩; clear cA))
          refine start_held (S := fun u => Below x5.drew.heap.size x5.drew u) 21 rfl (by kernel_rfl) (Below.refl _ _) ?_
          simp only [Array.replicate_succ, Array.replicate_zero, List.push_toArray, List.nil_append, List.cons_append]
          have HQ : Hid (Two B W0 x5.drew p q va (.slice aQ M cQ) l2 l2) := (HTF.out.go ba).go (Below.refl _ _).drew
          have HA : Hid (Own x5.drew we.heap.size m1 l2) := owns_go Oa (Below.refl _ _).drew
          have hS0 : Below x5.drew.heap.size x5.drew x5.drew := Below.refl _ _
          generalize x5.drew = x6 at *
          have HQC : Hid (∀ u, Below x6.heap.size x6 u → u.cell? ⟨q, 0, none⟩ = some (.slice aQ M cQ)) := fun u hu => (HQ.out.b.go hu).c0
          clear Oa ba
          refine take_held 0 hS0 rfl (by kernel_rfl) (by kernel_rfl) (by kernel_rfl) (fun _ _ _ h => h) (by kernel_rfl) (v := ?v5097) ?y5097 ?r5097
          case y5097 => (intro u hu; go_simp; try rfl)
          simp only [Act.put, List.setIfInBounds_toArray, List.set_cons_zero, List.set_cons_succ]
          refine take_held 1 hS0 rfl (by kernel_rfl) (by kernel_rfl) (by kernel_rfl) (fun _ _ _ h => h) (by kernel_rfl) (v := ?v5098) ?y5098 ?r5098
          case y5098 => (intro u hu; go_simp; try rfl)
          simp only [Act.put, List.setIfInBounds_toArray, List.set_cons_zero, List.set_cons_succ]
          refine take_held 2 hS0 rfl (by kernel_rfl) (by kernel_rfl) (by kernel_rfl) (fun _ _ _ h => h) (by kernel_rfl) (v := ?v5099) ?y5099 ?r5099
          case y5099 => (intro u hu; go_simp; try rfl)
          simp only [Act.put, List.setIfInBounds_toArray, List.set_cons_zero, List.set_cons_succ]
          refine take_held 3 hS0 rfl (by kernel_rfl) (by kernel_rfl) (by kernel_rfl) (fun _ _ _ h => h) (by kernel_rfl) (v := ?v5100) ?y5100 ?r5100
          case y5100 => (intro u hu; go_simp; try rfl)
          simp only [Act.put, List.setIfInBounds_toArray, List.set_cons_zero, List.set_cons_succ]
          refine take_held 4 hS0 rfl (by kernel_rfl) (by kernel_rfl) (by kernel_rfl) (fun _ _ _ h => h) (by kernel_rfl) (v := ?v5101) ?y5101 ?r5101
          case y5101 => (intro u hu; go_simp; try rfl)
          simp only [Act.put, List.setIfInBounds_toArray, List.set_cons_zero, List.set_cons_succ]
          refine take_held 5 hS0 rfl (by kernel_rfl) (by kernel_rfl) (by kernel_rfl) (fun _ _ _ h => h) (by kernel_rfl) (v := ?v5102) ?y5102 ?r5102
          case y5102 => (intro u hu; go_simp; try rfl)
          simp only [Act.put, List.setIfInBounds_toArray, List.set_cons_zero, List.set_cons_succ]
          refine take_held 6 hS0 rfl (by kernel_rfl) (by kernel_rfl) (by kernel_rfl) (fun _ _ _ h => h) (by kernel_rfl) (v := ?v5103) ?y5103 ?r5103
          case y5103 => (intro u hu; go_simp; try rfl)
          simp only [Act.put, List.setIfInBounds_toArray, List.set_cons_zero, List.set_cons_succ]
          refine take_held 7 hS0 rfl (by kernel_rfl) (by kernel_rfl) (by kernel_rfl) (fun _ _ _ h => h) (by kernel_rfl) (v := ?v5104) ?y5104 ?r5104
          case y5104 => (intro u hu; have zz0 := HQC.out u hu; go_simp; try rfl)
          simp only [Act.put, List.setIfInBounds_toArray, List.set_cons_zero, List.set_cons_succ]
          refine wpAnyH_ready (rs := [8]) (by kernel_rfl) (by simp) (AllReadyH.cons ((nth_eq _ 8).trans rfl) ?_ AllReadyH.nil)
          intro K1 hK1
          refine call_in hK1 (by kernel_rfl) 18 #[m1, .slice aQ M cQ] (by go_simp) _ (as_ret (sameTeles_any (owns_go HA.out hS0) (owns_go HQ.out.b.own hS0) HLL.out)) ?_
          rintro v1 x1 ⟨rfl, b1⟩
          have hS1 := (hS0.trans (b1.mono hS0.size))
          refine ⟨hS1, ?_⟩
          simp only [Act.put, List.setIfInBounds_toArray, List.set_cons_zero, List.set_cons_succ]
          refine take_held 9 hS1 rfl (by kernel_rfl) (by kernel_rfl) (by kernel_rfl) (fun _ _ _ h => h) (by kernel_rfl) (v := ?v5105) ?y5105 ?r5105
          case y5105 => (intro u hu; go_simp; try rfl)
          simp only [Act.put, List.setIfInBounds_toArray, List.set_cons_zero, List.set_cons_succ]
          refine take_held 10 hS1 rfl (by kernel_rfl) (by kernel_rfl) (by kernel_rfl) (fun _ _ _ h => h) (by kernel_rfl) (v := ?v5106) ?y5106 ?r5106
          case y5106 => (intro u hu; go_simp; try rfl)
          simp only [Act.put, List.setIfInBounds_toArray, List.set_cons_zero, List.set_cons_succ]
          refine take_held 11 hS1 rfl (by kernel_rfl) (by kernel_rfl) (by kernel_rfl) (fun _ _ _ h => h) (by kernel_rfl) (v := ?v5107) ?y5107 ?r5107
          case y5107 => (intro u hu; go_simp; try rfl)
          simp only [Act.put, List.setIfInBounds_toArray, List.set_cons_zero, List.set_cons_succ]
          refine take_held 12 hS1 rfl (by kernel_rfl) (by kernel_rfl) (by kernel_rfl) (fun _ _ _ h => h) (by kernel_rfl) (v := ?v5108) ?y5108 ?r5108
          case y5108 => (intro u hu; go_simp; try rfl)
          simp only [Act.put, List.setIfInBounds_toArray, List.set_cons_zero, List.set_cons_succ]
          refine take_held 14 hS1 rfl (by kernel_rfl) (by kernel_rfl) (by kernel_rfl) (fun _ _ _ h => h) (by kernel_rfl) (v := ?v5109) ?y5109 ?r5109
          case y5109 => (intro u hu; go_simp; try rfl)
          simp only [Act.put, List.setIfInBounds_toArray, List.set_cons_zero, List.set_cons_succ]
          refine take_held 15 hS1 rfl (by kernel_rfl) (by kernel_rfl) (by kernel_rfl) (fun _ _ _ h => h) (by kernel_rfl) (v := ?v5110) ?y5110 ?r5110
          case y5110 => (intro u hu; go_simp; try rfl)
          simp only [Act.put, List.setIfInBounds_toArray, List.set_cons_zero, List.set_cons_succ]
          refine take_held 16 hS1 rfl (by kernel_rfl) (by kernel_rfl) (by kernel_rfl) (fun _ _ _ h => h) (by kernel_rfl) (v := ?v5111) ?y5111 ?r5111
          case y5111 => (intro u hu; go_simp; try rfl)
          simp only [Act.put, List.setIfInBounds_toArray, List.set_cons_zero, List.set_cons_succ]
          refine take_held 17 hS1 rfl (by kernel_rfl) (by kernel_rfl) (by kernel_rfl) (fun _ _ _ h => h) (by kernel_rfl) (v := ?v5112) ?y5112 ?r5112
          case y5112 => (intro u hu; have zz0 := HQC.out u hu; go_simp; try rfl)
          simp only [Act.put, List.setIfInBounds_toArray, List.set_cons_zero, List.set_cons_succ]
          refine take_held 18 hS1 rfl (by kernel_rfl) (by kernel_rfl) (by kernel_rfl) (fun _ _ _ h => h) (by kernel_rfl) (v := ?v5113) ?y5113 ?r5113
          case y5113 => (intro u hu; go_simp; try rfl)
          simp only [Act.put, List.setIfInBounds_toArray, List.set_cons_zero, List.set_cons_succ]
          refine wpAnyH_ready (rs := [13]) (by kernel_rfl) (by simp) (AllReadyH.cons ((nth_eq _ 13).trans rfl) ?_ AllReadyH.nil)
          intro K2 hK2
          refine call_in hK2 (by kernel_rfl) 19 #[.pointer (some ⟨p, 0, none⟩)] (by go_simp) _ (by have z := radLen_any (HQ.out.a.go hS1); rw [HLM.out] at z; exact as_ret z) ?_
          rintro v2 x2 ⟨rfl, hw2⟩
          rw [hw2]
          clear hw2 x2
          refine ⟨hS1, ?_⟩
          simp only [Act.put, List.setIfInBounds_toArray, List.set_cons_zero, List.set_cons_succ]
          refine take_held 19 hS1 rfl (by kernel_rfl) (by kernel_rfl) (by kernel_rfl) (fun _ _ _ h => h) (by kernel_rfl) (v := .bool false) ?y5114 ?r5114
          case y5114 => (intro u hu; go_simp; try rfl)
          simp only [Act.put, List.setIfInBounds_toArray, List.set_cons_zero, List.set_cons_succ]
          refine take_held 20 hS1 rfl (by kernel_rfl) (by kernel_rfl) (by kernel_rfl) (fun _ _ _ h => h) (by kernel_rfl) (v := ?v5115) ?y5115 ?r5115
          case y5115 => (intro u hu; go_simp; try rfl)
          simp only [Act.put, List.setIfInBounds_toArray, List.set_cons_zero, List.set_cons_succ]
          refine done_held (by kernel_rfl) ?_ _
          have HF : Hid (Two B W0 x1 p q va (.slice aQ M cQ) l2 l2) := HQ.out.go hS1
          clear hS0
          go_wp2
          go_roundw
          case rel => exact ⟨i + 1, _, _, l2, by go_num, by omega, HF.out⟩
          case measure => simp [intOf]; omega
    · have HTR : Hid (Below B W0 wr) := tw.bel
      have g3 : ¬ ((i : Int) < (c : Int) ∧ (i : Int) < 60) := fun hh => hmore (by omega)
      clear tw hmore
      by_cases hc1 : (i : Int) < (c : Int)
      · have hc2 : ¬ (i : Int) < 60 := fun hh => g3 ⟨hc1, hh⟩
        clear g3
        go_wp2_with fail
        go_ret
        exact ⟨rfl, HB9.out.trans (HTR.out.mono (by have := HB9.out.size; have := HW0.out; omega))⟩
      · clear g3
        go_wp2_with fail
        go_ret
        exact ⟨rfl, HB9.out.trans (HTR.out.mono (by have := HB9.out.size; have := HW0.out; omega))⟩
end Go.Proofs.Ytdplacpdbknlgaa.Lk
