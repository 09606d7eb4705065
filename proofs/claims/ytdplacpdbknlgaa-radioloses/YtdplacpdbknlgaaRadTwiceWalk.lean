/-
  What is kept can be heard again, the same; then once more, and it is gone.
-/
import Derived.Test.YtdplacpdbknlgaaRadIn
namespace Go.Proofs.Ytdplacpdbknlgaa.Lk
set_option linter.unusedVariables false
set_option linter.unusedSimpArgs false
open Go Go.RowKit Go.Shelf Go.Proofs
attribute [local go_sem] Oper.semAt_some

theorem as_retE {P : Program} {f : FuncId} {args : Array Value} {w : World} {v : Value} {R : Value → World → Prop} (h : Calls P f args w fun e w' => e = .returned v ∧ ∃ v', R v' w') : Calls P f args w fun e w' => ∃ u, e = .returned u ∧ (u = v ∧ ∃ v', R v' w') :=
  h.mono fun e w' ⟨h1, h2⟩ => ⟨v, h1, rfl, h2⟩
theorem lose_law {B : Nat} {w : World} {p : Nat} {v : Value} {l : List Tl} (h : RdAt 57 B w p v l) (i : Int) : Calls Try.prog 15 #[.pointer (some ⟨p, 0, none⟩), .int .i64 i] w fun e w' => e = .returned (.bool (decide (0 < (l.length : Int)))) ∧ ∃ v', Tn w w' p v v' := by
  by_cases h0 : 0 < l.length
  · refine (radLose_any h i h0).mono ?_
    rintro e w' ⟨rfl, v', _, t⟩
    exact ⟨by rw [decide_eq_true (by omega)], v', t⟩
  · obtain rfl : l = [] := List.eq_nil_of_length_eq_zero (by omega)
    refine (radLose_none h i).mono ?_
    rintro e w' ⟨rfl, rfl⟩
    exact ⟨rfl, v, Tn.refl _ _ _⟩
set_option maxRecDepth 100000 in
set_option maxHeartbeats 4000000 in
theorem twice_all (v0 : Value) (l : List Tl) (i0 t0 : Int) (w : World) (hL : Lies w v0 l) : Calls Try.prog 7 #[v0, .int .i64 i0, .int .i64 t0] w fun e w' => e = .returned (.bool true) ∧ Below w.heap.size w w' := by
  obtain ⟨N, hN⟩ : ∃ N, l.length = N := ⟨_, rfl⟩
  by_cases hin : 0 < N ∧ N ≤ 100
  · obtain ⟨hn0, hn1⟩ := hin
    have cP := fun w => place_any i0 N w (by omega) (by omega)
    have pP := place_bd i0 N (by omega)
    obtain ⟨k, hk⟩ : ∃ k : Nat, place i0 N = (k : Int) := ⟨(place i0 N).toNat, by omega⟩
    rw [hk] at cP pP
    have cT := fun w => place_any t0 9 w (by decide) (by decide)
    have pT := place_bd t0 9 (by decide)
    obtain ⟨pt, hpt⟩ : ∃ pt : Nat, place t0 9 = (pt : Int) := ⟨(place t0 9).toNat, by omega⟩
    rw [hpt] at cT pT
    clear hk hpt
    have hkN : k < N := by omega
    have hkl : k < l.length := by omega
    obtain ⟨x, cap, e0, hld0⟩ := hL.item hkl
    obtain ⟨t, ht⟩ : ∃ t, l[k]'hkl = t := ⟨_, rfl⟩
    rw [ht] at hld0
    rw [hN] at e0
    subst e0
    obtain ⟨B, hB⟩ : ∃ B, w.heap.size = B := ⟨_, rfl⟩
    have HLD : Hid (∀ u, Below B w u → (loadVar 42 (x.add (k * 19))).run Try.prog u = .ok (.agg (tlA t)) u) := fun u hu => by
      obtain ⟨x', cap', e1, h1⟩ := (hL.go (w' := u) (by rw [hB]; exact hu)).item hkl
      rw [hN] at e1
      cases e1
      rw [ht] at h1
      exact h1
    have HLI : Hid (∀ u, Below B w u → Lies u (.slice (some x) N cap) l) := fun u hu => hL.go (by rw [hB]; exact hu)
    have HT : Hid (l[k]? = some t) := by rw [← ht]; exact List.getElem?_eq_getElem hkl
    have HN : Hid (l.length = N) := hN
    have n1 := radNew_any w
    rw [hB] at n1 ⊢
    have HX : Hid (w.heap.size = B) := hB
    have HPI : Hid (plN (k : Int) N = k) := plN_id hkN
    have hni : ((N : Int) == 0) = false := by simp; omega
    have hn2 : (N : Int) ≤ 100 := by omega
    have hk2 : (k : Int) < (N : Int) := by omega
    clear hB hN hL hkl ht hld0 hn0
    go_enter Try.func7, Try.ntmps7
    go_wp2_with (first
      | (go_at_call 9; refine n1.mono ?_; rintro e x1 ⟨rfl, G1, b1⟩; clear n1; obtain ⟨v2, x2, hrun2, O2', g2, at2⟩ := run_push_any (own_none x1 x1.heap.size) (HLI.out x1 b1) (by rw [HN.out]; simp; omega) (Nat.le_refl _) 27; have O2 : Own x2 x1.heap.size v2 l := (by simpa using O2'); have bb2 : Below x1.heap.size x1 x2 := ⟨g2.os, g2.tape, g2.output, g2.size, fun k hk => g2.block k hk (by simp [Value.ownBlock])⟩; have G2 := G1.go bb2; have b2 : Below B w x2 := b1.trans (bb2.mono (by have := b1.size; have := HX.out; omega)); clear G1 b1 bb2 O2' g2 at2)
      | (at_builtin; go_loud (refine wpList_valW (by kernel_rfl) v2 x2 (run_push_op (.const (.slice none 0 0)) (.tmp 28) rfl (.slice none 0 0) (.slice (some x) N cap) v2 rfl rfl hrun2) ?_; clear hrun2))
      | (go_at_call 11; refine (send_case G2 (Lies.of_own O2) (by rw [HN.out]; omega) N (by rw [HN.out]; simp; omega)).mono ?_; rintro e x3 ⟨rfl, v3, G3', t3⟩; have b3 := t3.below G2 b2; have G3 : RdAt 57 B x3 B v3 l := (by rw [List.nil_append, List.take_of_length_le (by rw [HN.out]; exact Nat.le_refl _)] at G3'; exact G3'); clear G2 b2 O2 t3 G3')
      | (have X' := cP; go_at_call 10; refine (cP _).mono ?_; rintro e yw ⟨rfl, hyw⟩; rw [hyw]; clear hyw cP))
    go_loopw [9] (fun ci wr => ∃ (i : Nat) (v : Value), ci = .int .i64 i ∧ i ≤ 1 + pt ∧ RdAt 57 B wr B v l ∧ Below B w wr) (fun ci _ => 1 + pt - (intOf ci).toNat)
    case atStart => exact ⟨0, _, rfl, Nat.zero_le _, G3, b3⟩
    case round =>
      clear G3 b3
      obtain ⟨i, v, rfl, hi, G, bw⟩ := hrel
      by_cases hlt : i < 1 + pt
      · have h3 : (i : Int) < 1 + (pt : Int) := by omega
        have cH := radHear_any G (k : Int) true t (by rw [HN.out, HPI.out]; exact HT.out)
        have HGW : Hid (RdAt 57 B wr B v l) := G
        have HBW0 : Hid (Below B w wr) := bw
        clear G bw
        go_upto_region 11 with (first
          | (have X' := cT; go_at_call 10; refine (cT _).mono ?_; rintro e yw ⟨rfl, hyw⟩; rw [hyw]; clear hyw cT)
          | (go_at_call 13; refine cH.mono ?_; rintro e x1 ⟨rfl, v', G1', t1⟩; have G1 : RdAt 57 B x1 B v' l := G1'; obtain ⟨x2, hx2⟩ : ∃ zz, x1.alloc (.cells (tlA t) 42) = zz := ⟨_, rfl⟩; have bbx2 : Below x1.heap.size x1 x2 := (by rw [← hx2]; exact (Below.refl _ _).alloc (Nat.le_refl _) _); have zx2 : x2.heap[x1.heap.size]? = some (.cells (tlA t) 42 (0, 0)) := (by rw [← hx2]; exact World.alloc_heap_new _ _); have HG2 : Hid (RdAt 57 B x2 B v' l) := G1.go bbx2; have HBW : Hid (Below B w x2) := (t1.below HGW.out HBW0.out).trans (bbx2.mono (by have := (t1.below HGW.out HBW0.out).size; have := HX.out; omega)); have HH2 : Hid (x1.alloc (.cells (tlA t) 42) = x2) := hx2; obtain ⟨bx, hbx⟩ : ∃ bx, x1.heap.size = bx := ⟨_, rfl⟩; have HZ : Hid (x2.heap[bx]? = some (.cells (tlA t) 42 (0, 0))) := hbx ▸ zx2; clear cH G1 G1' t1 bbx2 hx2 zx2)
          | (refine wpList_new rfl rfl 42 10 (.tmp 50) rfl rfl rfl rfl (tlA tl0) (tlA t) (zeroTele _) rfl rfl infoTele rfl (tlA_one _) ?_; rw [HH2.out, hbx]))
        refine start_held (S := fun u => u.heap[bx]? = some (.cells (tlA t) 42 (0, 0)) ∧ Below B w u) 17 rfl (by kernel_rfl) (⟨HZ.out, HBW.out.drew⟩) ?_
        simp only [Array.replicate_succ, Array.replicate_zero, List.push_toArray, List.nil_append, List.cons_append]
        have hS0 : x2.drew.heap[bx]? = some (.cells (tlA t) 42 (0, 0)) ∧ Below B w x2.drew := ⟨HZ.out, HBW.out.drew⟩
        have HG : Hid (RdAt 57 B x2.drew B v' l) := HG2.out.go (Below.refl _ _).drew
        have HGD : Hid (Below B w x2.drew) := HBW.out.drew
        generalize x2.drew = x0 at *
        refine take_held 0 hS0 rfl (by kernel_rfl) (by kernel_rfl) (by kernel_rfl) (fun _ _ _ h => h) (by kernel_rfl) (v := ?v5000) ?y5000 ?r5000
        case y5000 => (intro u hu; go_simp; try rfl)
        simp only [Act.put, List.setIfInBounds_toArray, List.set_cons_zero, List.set_cons_succ]
        refine take_held 1 hS0 rfl (by kernel_rfl) (by kernel_rfl) (by kernel_rfl) (fun _ _ _ h => h) (by kernel_rfl) (v := ?v5001) ?y5001 ?r5001
        case y5001 => (intro u hu; go_simp; try rfl)
        simp only [Act.put, List.setIfInBounds_toArray, List.set_cons_zero, List.set_cons_succ]
        refine take_held 2 hS0 rfl (by kernel_rfl) (by kernel_rfl) (by kernel_rfl) (fun _ _ _ h => h) (by kernel_rfl) (v := ?v5002) ?y5002 ?r5002
        case y5002 => (intro u hu; go_simp; try rfl)
        simp only [Act.put, List.setIfInBounds_toArray, List.set_cons_zero, List.set_cons_succ]
        refine take_held 3 hS0 rfl (by kernel_rfl) (by kernel_rfl) (by kernel_rfl) (fun _ _ _ h => h) (by kernel_rfl) (v := .agg (tlA t)) ?y5003 ?r5003
        case y5003 => (intro u hu; exact run_load_at 42 _ rfl ⟨bx, 0, none⟩ rfl _ (load_tele hu.1))
        simp only [Act.put, List.setIfInBounds_toArray, List.set_cons_zero, List.set_cons_succ]
        refine take_held 4 hS0 rfl (by kernel_rfl) (by kernel_rfl) (by kernel_rfl) (fun _ _ _ h => h) (by kernel_rfl) (v := ?v5004) ?y5004 ?r5004
        case y5004 => (intro u hu; go_simp; try rfl)
        simp only [Act.put, List.setIfInBounds_toArray, List.set_cons_zero, List.set_cons_succ]
        refine take_held 5 hS0 rfl (by kernel_rfl) (by kernel_rfl) (by kernel_rfl) (fun _ _ _ h => h) (by kernel_rfl) (v := ?v5005) ?y5005 ?r5005
        case y5005 => (intro u hu; go_simp; try rfl)
        simp only [Act.put, List.setIfInBounds_toArray, List.set_cons_zero, List.set_cons_succ]
        refine take_held 6 hS0 rfl (by kernel_rfl) (by kernel_rfl) (by kernel_rfl) (fun _ _ _ h => h) (by kernel_rfl) (v := ?v5006) ?y5006 ?r5006
        case y5006 => (intro u hu; go_simp; try rfl)
        simp only [Act.put, List.setIfInBounds_toArray, List.set_cons_zero, List.set_cons_succ]
        refine take_held 7 hS0 rfl (by kernel_rfl) (by kernel_rfl) (by kernel_rfl) (fun _ _ _ h => h) (by kernel_rfl) (v := .agg (tlA t)) ?y5007 ?r5007
        case y5007 => (intro u hu; exact run_load_at 42 _ rfl (x.add (k * 19)) rfl _ (HLD.out u hu.2))
        simp only [Act.put, List.setIfInBounds_toArray, List.set_cons_zero, List.set_cons_succ]
        refine take_held 8 hS0 rfl (by kernel_rfl) (by kernel_rfl) (by kernel_rfl) (fun _ _ _ h => h) (by kernel_rfl) (v := .bool false) ?y5008 ?r5008
        case y5008 => (intro u hu; exact run_neq_tele _ _ _ rfl t rfl rfl)
        simp only [Act.put, List.setIfInBounds_toArray, List.set_cons_zero, List.set_cons_succ]
        refine take_held 9 hS0 rfl (by kernel_rfl) (by kernel_rfl) (by kernel_rfl) (fun _ _ _ h => h) (by kernel_rfl) (v := ?v5009) ?y5009 ?r5009
        case y5009 => (intro u hu; go_simp; try rfl)
        simp only [Act.put, List.setIfInBounds_toArray, List.set_cons_zero, List.set_cons_succ]
        refine take_held 10 hS0 rfl (by kernel_rfl) (by kernel_rfl) (by kernel_rfl) (fun _ _ _ h => h) (by kernel_rfl) (v := ?v5010) ?y5010 ?r5010
        case y5010 => (intro u hu; go_simp; try rfl)
        simp only [Act.put, List.setIfInBounds_toArray, List.set_cons_zero, List.set_cons_succ]
        refine take_held 11 hS0 rfl (by kernel_rfl) (by kernel_rfl) (by kernel_rfl) (fun _ _ _ h => h) (by kernel_rfl) (v := ?v5011) ?y5011 ?r5011
        case y5011 => (intro u hu; go_simp; try rfl)
        simp only [Act.put, List.setIfInBounds_toArray, List.set_cons_zero, List.set_cons_succ]
        refine take_held 13 hS0 rfl (by kernel_rfl) (by kernel_rfl) (by kernel_rfl) (fun _ _ _ h => h) (by kernel_rfl) (v := ?v5012) ?y5012 ?r5012
        case y5012 => (intro u hu; go_simp; try rfl)
        simp only [Act.put, List.setIfInBounds_toArray, List.set_cons_zero, List.set_cons_succ]
        refine take_held 14 hS0 rfl (by kernel_rfl) (by kernel_rfl) (by kernel_rfl) (fun _ _ _ h => h) (by kernel_rfl) (v := ?v5013) ?y5013 ?r5013
        case y5013 => (intro u hu; go_simp; try rfl)
        simp only [Act.put, List.setIfInBounds_toArray, List.set_cons_zero, List.set_cons_succ]
        refine wpAnyH_ready (rs := [12]) (by kernel_rfl) (by simp) (AllReadyH.cons ((nth_eq _ 12).trans rfl) ?_ AllReadyH.nil)
        intro K1 hK1
        refine call_in hK1 (by kernel_rfl) 19 #[.pointer (some ⟨B, 0, none⟩)] (by go_simp) _ (by have q := radLen_any HG.out; rw [HN.out] at q; exact as_ret q) ?_
        rintro v1 x1 ⟨rfl, rfl⟩
        have hS1 := hS0
        refine ⟨hS1, ?_⟩
        simp only [Act.put, List.setIfInBounds_toArray, List.set_cons_zero, List.set_cons_succ]
        refine take_held 15 hS1 rfl (by kernel_rfl) (by kernel_rfl) (by kernel_rfl) (fun _ _ _ h => h) (by kernel_rfl) (v := ?v5014) ?y5014 ?r5014
        case y5014 => (intro u hu; go_simp; try rfl)
        simp only [Act.put, List.setIfInBounds_toArray, List.set_cons_zero, List.set_cons_succ]
        refine take_held 16 hS1 rfl (by kernel_rfl) (by kernel_rfl) (by kernel_rfl) (fun _ _ _ h => h) (by kernel_rfl) (v := ?v5015) ?y5015 ?r5015
        case y5015 => (intro u hu; go_simp; try rfl)
        simp only [Act.put, List.setIfInBounds_toArray, List.set_cons_zero, List.set_cons_succ]
        refine done_held (by kernel_rfl) ?_ _
        clear hS0
        go_wp2
        go_roundw
        case rel => exact ⟨i + 1, v', by go_num, by omega, HG.out, HGD.out⟩
        case measure => simp [intOf]; omega
      · have h3 : ¬ (i : Int) < 1 + (pt : Int) := by omega
        have cH := radHear_any G (k : Int) false t (by rw [HN.out, HPI.out]; exact HT.out)
        rw [HN.out, HPI.out] at cH
        have HGW : Hid (RdAt 57 B wr B v l) := G
        have HBW0 : Hid (Below B w wr) := bw
        clear G bw
        go_upto_region 14 with (first
          | (have X' := cT; go_at_call 10; refine (cT _).mono ?_; rintro e yw ⟨rfl, hyw⟩; rw [hyw]; clear hyw cT)
          | (go_at_call 13; refine cH.mono ?_; rintro e x1 ⟨rfl, v', G1', t1⟩; have G1 : RdAt 57 B x1 B v' (cutP l k) := G1'; obtain ⟨x2, hx2⟩ : ∃ zz, x1.alloc (.cells (tlA t) 42) = zz := ⟨_, rfl⟩; have bbx2 : Below x1.heap.size x1 x2 := (by rw [← hx2]; exact (Below.refl _ _).alloc (Nat.le_refl _) _); have zx2 : x2.heap[x1.heap.size]? = some (.cells (tlA t) 42 (0, 0)) := (by rw [← hx2]; exact World.alloc_heap_new _ _); have HG2 : Hid (RdAt 57 B x2 B v' (cutP l k)) := G1.go bbx2; have HBW : Hid (Below B w x2) := (t1.below HGW.out HBW0.out).trans (bbx2.mono (by have := (t1.below HGW.out HBW0.out).size; have := HX.out; omega)); have HH2 : Hid (x1.alloc (.cells (tlA t) 42) = x2) := hx2; obtain ⟨bx, hbx⟩ : ∃ bx, x1.heap.size = bx := ⟨_, rfl⟩; have HZ : Hid (x2.heap[bx]? = some (.cells (tlA t) 42 (0, 0))) := hbx ▸ zx2; have HBX : Hid (bx < x2.heap.size ∧ bx ≠ B ∧ v'.ownBlock ≠ some bx) := ⟨(Array.getElem?_eq_some_iff.1 HZ.out).1, by have := G1.lt; omega, fun e => by have := (G1.own.lt _ e).2; omega⟩; clear cH G1 G1' t1 bbx2 hx2 zx2)
          | (refine wpList_new rfl rfl 42 12 (.tmp 73) rfl rfl rfl rfl (tlA tl0) (tlA t) (zeroTele _) rfl rfl infoTele rfl (tlA_one _) ?_; rw [HH2.out, hbx]))
        obtain ⟨M, hM⟩ : ∃ M, N = M + 1 := ⟨N - 1, by omega⟩
        have HCL : Hid ((cutP l k).length = M) := by show _ = _; rw [cutP_len l (by rw [HN.out]; exact hkN), HN.out]; omega
        have e1 : (N : Int) - 1 = (M : Int) := by omega
        have HBO : Hid (decide (0 < (M : Int)) = decide (1 < (N : Int))) := by
          have : (0 < (M : Int)) ↔ (1 < (N : Int)) := by omega
          exact decide_eq_decide.2 this
        clear hM
        refine start_held (S := fun u => u.heap[bx]? = some (.cells (tlA t) 42 (0, 0)) ∧ Below B w u) 29 rfl (by kernel_rfl) (⟨HZ.out, HBW.out.drew⟩) ?_
        simp only [Array.replicate_succ, Array.replicate_zero, List.push_toArray, List.nil_append, List.cons_append]
        have hS0 : x2.drew.heap[bx]? = some (.cells (tlA t) 42 (0, 0)) ∧ Below B w x2.drew := ⟨HZ.out, HBW.out.drew⟩
        have HG : Hid (RdAt 57 B x2.drew B v' (cutP l k)) := HG2.out.go (Below.refl _ _).drew
        have HGZ : Hid (bx < x2.drew.heap.size ∧ bx ≠ B ∧ v'.ownBlock ≠ some bx) := HBX.out
        generalize x2.drew = x0 at *
        have hSL : ∀ (y : World) (v2 : Value), Tn x0 y B v' v2 → y.heap[bx]? = some (.cells (tlA t) 42 (0, 0)) ∧ Below B w y := fun y v2 ht => ⟨(ht.block _ HGZ.out.1 HGZ.out.2.1 HGZ.out.2.2).trans hS0.1, ht.below HG.out hS0.2⟩
        refine take_held 0 hS0 rfl (by kernel_rfl) (by kernel_rfl) (by kernel_rfl) (fun _ _ _ h => h) (by kernel_rfl) (v := ?v5016) ?y5016 ?r5016
        case y5016 => (intro u hu; go_simp; try rfl)
        simp only [Act.put, List.setIfInBounds_toArray, List.set_cons_zero, List.set_cons_succ]
        refine take_held 1 hS0 rfl (by kernel_rfl) (by kernel_rfl) (by kernel_rfl) (fun _ _ _ h => h) (by kernel_rfl) (v := ?v5017) ?y5017 ?r5017
        case y5017 => (intro u hu; go_simp; try rfl)
        simp only [Act.put, List.setIfInBounds_toArray, List.set_cons_zero, List.set_cons_succ]
        refine take_held 2 hS0 rfl (by kernel_rfl) (by kernel_rfl) (by kernel_rfl) (fun _ _ _ h => h) (by kernel_rfl) (v := .agg (tlA t)) ?y5018 ?r5018
        case y5018 => (intro u hu; exact run_load_at 42 _ rfl ⟨bx, 0, none⟩ rfl _ (load_tele hu.1))
        simp only [Act.put, List.setIfInBounds_toArray, List.set_cons_zero, List.set_cons_succ]
        refine take_held 3 hS0 rfl (by kernel_rfl) (by kernel_rfl) (by kernel_rfl) (fun _ _ _ h => h) (by kernel_rfl) (v := ?v5019) ?y5019 ?r5019
        case y5019 => (intro u hu; go_simp; try rfl)
        simp only [Act.put, List.setIfInBounds_toArray, List.set_cons_zero, List.set_cons_succ]
        refine take_held 4 hS0 rfl (by kernel_rfl) (by kernel_rfl) (by kernel_rfl) (fun _ _ _ h => h) (by kernel_rfl) (v := ?v5020) ?y5020 ?r5020
        case y5020 => (intro u hu; go_simp; try rfl)
        simp only [Act.put, List.setIfInBounds_toArray, List.set_cons_zero, List.set_cons_succ]
        refine take_held 5 hS0 rfl (by kernel_rfl) (by kernel_rfl) (by kernel_rfl) (fun _ _ _ h => h) (by kernel_rfl) (v := ?v5021) ?y5021 ?r5021
        case y5021 => (intro u hu; go_simp; try rfl)
        simp only [Act.put, List.setIfInBounds_toArray, List.set_cons_zero, List.set_cons_succ]
        refine take_held 6 hS0 rfl (by kernel_rfl) (by kernel_rfl) (by kernel_rfl) (fun _ _ _ h => h) (by kernel_rfl) (v := .agg (tlA t)) ?y5022 ?r5022
        case y5022 => (intro u hu; exact run_load_at 42 _ rfl (x.add (k * 19)) rfl _ (HLD.out u hu.2))
        simp only [Act.put, List.setIfInBounds_toArray, List.set_cons_zero, List.set_cons_succ]
        refine take_held 7 hS0 rfl (by kernel_rfl) (by kernel_rfl) (by kernel_rfl) (fun _ _ _ h => h) (by kernel_rfl) (v := .bool true) ?y5023 ?r5023
        case y5023 => (intro u hu; exact run_eql_tele _ _ _ rfl t rfl rfl)
        simp only [Act.put, List.setIfInBounds_toArray, List.set_cons_zero, List.set_cons_succ]
        refine take_held 8 hS0 rfl (by kernel_rfl) (by kernel_rfl) (by kernel_rfl) (fun _ _ _ h => h) (by kernel_rfl) (v := ?v5024) ?y5024 ?r5024
        case y5024 => (intro u hu; go_simp; try rfl)
        simp only [Act.put, List.setIfInBounds_toArray, List.set_cons_zero, List.set_cons_succ]
        refine take_held 9 hS0 rfl (by kernel_rfl) (by kernel_rfl) (by kernel_rfl) (fun _ _ _ h => h) (by kernel_rfl) (v := ?v5025) ?y5025 ?r5025
        case y5025 => (intro u hu; go_simp; try rfl)
        simp only [Act.put, List.setIfInBounds_toArray, List.set_cons_zero, List.set_cons_succ]
        refine take_held 10 hS0 rfl (by kernel_rfl) (by kernel_rfl) (by kernel_rfl) (fun _ _ _ h => h) (by kernel_rfl) (v := ?v5026) ?y5026 ?r5026
        case y5026 => (intro u hu; go_simp; try rfl)
        simp only [Act.put, List.setIfInBounds_toArray, List.set_cons_zero, List.set_cons_succ]
        refine take_held 12 hS0 rfl (by kernel_rfl) (by kernel_rfl) (by kernel_rfl) (fun _ _ _ h => h) (by kernel_rfl) (v := ?v5027) ?y5027 ?r5027
        case y5027 => (intro u hu; go_simp; try rfl)
        simp only [Act.put, List.setIfInBounds_toArray, List.set_cons_zero, List.set_cons_succ]
        refine take_held 13 hS0 rfl (by kernel_rfl) (by kernel_rfl) (by kernel_rfl) (fun _ _ _ h => h) (by kernel_rfl) (v := ?v5028) ?y5028 ?r5028
        case y5028 => (intro u hu; go_simp; try rfl)
        simp only [Act.put, List.setIfInBounds_toArray, List.set_cons_zero, List.set_cons_succ]
        refine take_held 14 hS0 rfl (by kernel_rfl) (by kernel_rfl) (by kernel_rfl) (fun _ _ _ h => h) (by kernel_rfl) (v := .int .i64 (M : Int)) ?y5029 ?r5029
        case y5029 => (intro u hu; have hw : IntKind.i64.wrap (M : Int) = (M : Int) := (by rw [IntKind.wrap_i64]; omega); go_simp; try rfl)
        simp only [Act.put, List.setIfInBounds_toArray, List.set_cons_zero, List.set_cons_succ]
        refine wpAnyH_ready (rs := [11]) (by kernel_rfl) (by simp) (AllReadyH.cons ((nth_eq _ 11).trans rfl) ?_ AllReadyH.nil)
        intro K1 hK1
        refine call_in hK1 (by kernel_rfl) 19 #[.pointer (some ⟨B, 0, none⟩)] (by go_simp) _ (by have q := radLen_any HG.out; rw [HCL.out] at q; exact as_ret q) ?_
        rintro v1 x1 ⟨rfl, rfl⟩
        have hS1 := hS0
        refine ⟨hS1, ?_⟩
        simp only [Act.put, List.setIfInBounds_toArray, List.set_cons_zero, List.set_cons_succ]
        refine take_held 15 hS1 rfl (by kernel_rfl) (by kernel_rfl) (by kernel_rfl) (fun _ _ _ h => h) (by kernel_rfl) (v := ?v5030) ?y5030 ?r5030
        case y5030 => (intro u hu; go_simp; try rfl)
        simp only [Act.put, List.setIfInBounds_toArray, List.set_cons_zero, List.set_cons_succ]
        refine take_held 16 hS1 rfl (by kernel_rfl) (by kernel_rfl) (by kernel_rfl) (fun _ _ _ h => h) (by kernel_rfl) (v := ?v5031) ?y5031 ?r5031
        case y5031 => (intro u hu; go_simp; try rfl)
        simp only [Act.put, List.setIfInBounds_toArray, List.set_cons_zero, List.set_cons_succ]
        refine take_held 17 hS1 rfl (by kernel_rfl) (by kernel_rfl) (by kernel_rfl) (fun _ _ _ h => h) (by kernel_rfl) (v := ?v5032) ?y5032 ?r5032
        case y5032 => (intro u hu; go_simp; try rfl)
        simp only [Act.put, List.setIfInBounds_toArray, List.set_cons_zero, List.set_cons_succ]
        refine take_held 18 hS1 rfl (by kernel_rfl) (by kernel_rfl) (by kernel_rfl) (fun _ _ _ h => h) (by kernel_rfl) (v := ?v5033) ?y5033 ?r5033
        case y5033 => (intro u hu; go_simp; try rfl)
        simp only [Act.put, List.setIfInBounds_toArray, List.set_cons_zero, List.set_cons_succ]
        refine take_held 20 hS1 rfl (by kernel_rfl) (by kernel_rfl) (by kernel_rfl) (fun _ _ _ h => h) (by kernel_rfl) (v := ?v5034) ?y5034 ?r5034
        case y5034 => (intro u hu; go_simp; try rfl)
        simp only [Act.put, List.setIfInBounds_toArray, List.set_cons_zero, List.set_cons_succ]
        refine take_held 21 hS1 rfl (by kernel_rfl) (by kernel_rfl) (by kernel_rfl) (fun _ _ _ h => h) (by kernel_rfl) (v := ?v5035) ?y5035 ?r5035
        case y5035 => (intro u hu; go_simp; try rfl)
        simp only [Act.put, List.setIfInBounds_toArray, List.set_cons_zero, List.set_cons_succ]
        refine take_held 22 hS1 rfl (by kernel_rfl) (by kernel_rfl) (by kernel_rfl) (fun _ _ _ h => h) (by kernel_rfl) (v := ?v5036) ?y5036 ?r5036
        case y5036 => (intro u hu; go_simp; try rfl)
        simp only [Act.put, List.setIfInBounds_toArray, List.set_cons_zero, List.set_cons_succ]
        refine wpAnyH_ready (rs := [19]) (by kernel_rfl) (by simp) (AllReadyH.cons ((nth_eq _ 19).trans rfl) ?_ AllReadyH.nil)
        intro K2 hK2
        refine call_in hK2 (by kernel_rfl) 15 #[.pointer (some ⟨B, 0, none⟩), .int .i64 0] (by go_simp) _ (by have q := lose_law HG.out 0; rw [HCL.out, HBO.out] at q; exact as_retE q) ?_
        rintro v2 x2 ⟨rfl, v2, hv2⟩
        have hS2 := (hSL _ _ hv2)
        refine ⟨hS2, ?_⟩
        simp only [Act.put, List.setIfInBounds_toArray, List.set_cons_zero, List.set_cons_succ]
        refine take_held 23 hS2 rfl (by kernel_rfl) (by kernel_rfl) (by kernel_rfl) (fun _ _ _ h => h) (by kernel_rfl) (v := ?v5037) ?y5037 ?r5037
        case y5037 => (intro u hu; go_simp; try rfl)
        simp only [Act.put, List.setIfInBounds_toArray, List.set_cons_zero, List.set_cons_succ]
        refine take_held 24 hS2 rfl (by kernel_rfl) (by kernel_rfl) (by kernel_rfl) (fun _ _ _ h => h) (by kernel_rfl) (v := ?v5038) ?y5038 ?r5038
        case y5038 => (intro u hu; go_simp; try rfl)
        simp only [Act.put, List.setIfInBounds_toArray, List.set_cons_zero, List.set_cons_succ]
        refine take_held 25 hS2 rfl (by kernel_rfl) (by kernel_rfl) (by kernel_rfl) (fun _ _ _ h => h) (by kernel_rfl) (v := ?v5039) ?y5039 ?r5039
        case y5039 => (intro u hu; go_simp; try rfl)
        simp only [Act.put, List.setIfInBounds_toArray, List.set_cons_zero, List.set_cons_succ]
        refine wpAnyH_ready (rs := [26]) (by kernel_rfl) (by simp) (AllReadyH.cons ((nth_eq _ 26).trans rfl) ?_ AllReadyH.nil)
        intro K3 hK3
        refine call_in hK3 (by kernel_rfl) 8 #[] (by go_simp) _ (as_ret (awake20_any _)) ?_
        rintro v3 x3 ⟨rfl, b3⟩
        have hS3 := And.intro ((b3.block _ (Array.getElem?_eq_some_iff.1 hS2.1).1).trans hS2.1) (hS2.2.trans (b3.mono (by have := hS2.2.size; have := HX.out; omega)))
        refine ⟨hS3, ?_⟩
        simp only [Act.put, List.setIfInBounds_toArray, List.set_cons_zero, List.set_cons_succ]
        refine take_held 27 hS3 rfl (by kernel_rfl) (by kernel_rfl) (by kernel_rfl) (fun _ _ _ h => h) (by kernel_rfl) (v := ?v5040) ?y5040 ?r5040
        case y5040 => (intro u hu; go_simp; try rfl)
        simp only [Act.put, List.setIfInBounds_toArray, List.set_cons_zero, List.set_cons_succ]
        refine take_held 28 hS3 rfl (by kernel_rfl) (by kernel_rfl) (by kernel_rfl) (fun _ _ _ h => h) (by kernel_rfl) (v := ?v5041) ?y5041 ?r5041
        case y5041 => (intro u hu; go_simp; try rfl)
        simp only [Act.put, List.setIfInBounds_toArray, List.set_cons_zero, List.set_cons_succ]
        refine done_held (by kernel_rfl) ?_ _
        have HE : Hid (Below B w x3) := hS3.2
        clear hS0
        go_wp2
        go_ret
        exact ⟨rfl, HE.out⟩
  · have hd : N = 0 ∨ (¬ N = 0 ∧ 100 < N) := by omega
    obtain ⟨a, cap, rfl⟩ := hL.form hN
    clear hL
    rcases hd with rfl | ⟨h1, h2⟩
    · go_enter Try.func7, Try.ntmps7
      go_wp2_with (go_at_call 8; refine (awake20_any _).mono ?_; rintro e w9 ⟨rfl, b9⟩)
      go_ret
      exact ⟨rfl, b9⟩
    · have hni : ((N : Int) == 0) = false := by simp; omega
      have hn2 : (100 : Int) < (N : Int) := by omega
      go_enter Try.func7, Try.ntmps7
      go_wp2_with (go_at_call 8; refine (awake20_any _).mono ?_; rintro e w9 ⟨rfl, b9⟩)
      go_ret
      exact ⟨rfl, b9⟩
end Go.Proofs.Ytdplacpdbknlgaa.Lk
