/-
  Merging: both halves are many; and all of it.
-/
import Derived.Test.YtebfjldbhmmmlaaSrtMerge
namespace Go.Proofs.Ytebfjldbhmmmlaa.Srt
set_option linter.unusedVariables false
set_option linter.unusedSimpArgs false
open Go Go.RowKit Go.Shelf Go.Proofs Go.Proofs.Ytebfjldbhmmmlaa.Grid
attribute [local go_sem] Oper.semAt_some

section
variable {fy : Nat} {fr : Array Value} {key : Cell → Int} {g : Nat} {Cx : World → Prop} (K : Cmp fy fr key g Cx) {S n cap : Nat} {x : Nat → Cell}
include K
set_option maxRecDepth 100000 in
set_option maxHeartbeats 4000000 in
theorem merge_high (hn : n ≤ 1000000) (p : Nat → Nat) (w : World) (h : SS g S n x Cx p w) (a m b : Nat) (hT : Two (fun t => key (x t)) p a m b) (hb : b ≤ n) (h0 : a + 2 ≤ m) (h1 : m + 2 ≤ b) (d : Nat) (ih : ∀ (p : Nat → Nat) (w : World) (a m b : Nat), b - a ≤ d → SS g S n x Cx p w → Two (fun t => key (x t)) p a m b → b ≤ n → Calls Try.prog 70 #[.slice (some ⟨g, 0, none⟩) n cap, .int .i64 a, .int .i64 m, .int .i64 b, .func (.func fy) #[] fr] w fun e w' => e = .returned (.tuple #[]) ∧ ∃ q, SS g S n x Cx q w' ∧ Mix a b p q ∧ Up (fun t => key (x t)) q a b ∧ Fx g w w') (hd : b - a ≤ d + 1) (mid : Nat) (hmid : mid = (a + b) / 2) (hmm : mid < m) :
    Calls Try.prog 70 #[.slice (some ⟨g, 0, none⟩) n cap, .int .i64 a, .int .i64 m, .int .i64 b, .func (.func fy) #[] fr] w fun e w' => e = .returned (.tuple #[]) ∧ ∃ q, SS g S n x Cx q w' ∧ Mix a b p q ∧ Up (fun t => key (x t)) q a b ∧ Fx g w w' := by
  have am := hT.am
  have mb := hT.mb
  have H0 : Hid (SS g S n x Cx p w) := h
  have HT : Hid (Two (fun t => key (x t)) p a m b) := hT
  have hE := K.enter
  clear h hT
  have HIH : Hid _ := ih
  have HMid : Hid (mid = (a + b) / 2) := hmid
  have hm1 : 2 * mid ≤ a + b ∧ a + b ≤ 2 * mid + 1 := by omega
  clear ih hmid
  have HL : Hid (∀ s t, a ≤ s → s ≤ t → t < m → key (x (p s)) ≤ key (x (p t))) := fun s t h1 h2 h3 => key_mono HT.out.left h1 h2 h3
  have HR : Hid (∀ s t, m ≤ s → s ≤ t → t < b → key (x (p s)) ≤ key (x (p t))) := fun s t h1 h2 h3 => key_mono HT.out.right h1 h2 h3
  have hma : decide ((m : Int) - (a : Int) = 1) = false := decide_eq_false (by omega)
  have hma2 : ((m : Int) - (a : Int) == 1) = false := by simp; omega
  have hbm : decide ((b : Int) - (m : Int) = 1) = false := decide_eq_false (by omega)
  have hbm2 : ((b : Int) - (m : Int) == 1) = false := by simp; omega
  have em : ((a : Int) + (b : Int)) / 2 = (mid : Int) := by have := HMid.out; omega
  obtain ⟨N, hN⟩ : ∃ N, mid + m = N := ⟨_, rfl⟩
  have eN : (mid : Int) + (m : Int) = (N : Int) := by omega
  obtain ⟨P1, hP1⟩ : ∃ P1, N - 1 = P1 := ⟨_, rfl⟩
  have eP : (N : Int) - 1 = (P1 : Int) := by omega
  have hdm : decide ((mid : Int) < (m : Int)) = true := decide_eq_true (by omega)
  obtain ⟨s0, hs0⟩ : ∃ s0, N - b = s0 := ⟨_, rfl⟩
  have es : (N : Int) - (b : Int) = (s0 : Int) := by omega
  have HP : Hid (P1 = mid + m - 1) := by show P1 = mid + m - 1; omega
  have HN : Hid (N = mid + m) := hN.symm
  have hNN : N ≤ mid + m ∧ mid + m ≤ N ∧ P1 + 1 ≤ N ∧ N ≤ P1 + 1 ∧ s0 + b ≤ N ∧ N ≤ s0 + b := by omega
  have hN1 : N ≤ 2000000 := by omega
  have eN2 : IntKind.i64.wrap (N : Int) = (N : Int) := by rw [IntKind.wrap_i64]; omega
  have hm2 : mid ≤ 1000000 := by omega
  have hm3 : m ≤ 1000000 := by omega
  clear hN hP1 hs0
  go_enter Try.func70, Try.ntmps70
  go_wp2_with fail
  go_loopw [20, 21] (fun v20 v21 wr => ∃ (s r : Nat), s0 ≤ s ∧ s ≤ r ∧ r ≤ mid ∧ v20 = .int .i64 s ∧ v21 = .int .i64 r ∧ Hid (SS g S n x Cx p wr) ∧ Hid ((∀ t, s0 ≤ t → t < s → ¬ key (x (p (P1 - t))) < key (x (p t))) ∧ (∀ t, r ≤ t → t < mid → key (x (p (P1 - t))) < key (x (p t)))) ∧ Hid (Fx g w wr)) (fun v20 v21 _ => (intOf v21 - intOf v20).toNat)
  case atStart => exact ⟨s0, mid, Nat.le_refl _, by omega, Nat.le_refl _, rfl, rfl, H0, (⟨fun t h1 h2 => by omega, fun t h1 h2 => by omega⟩ : (∀ t, s0 ≤ t → t < s0 → ¬ key (x (p (P1 - t))) < key (x (p t))) ∧ (∀ t, mid ≤ t → t < mid → key (x (p (P1 - t))) < key (x (p t)))), Fx.refl _ _⟩
  case round =>
    clear H0
    obtain ⟨s, r, ls, sr, rh, rfl, rfl, HS, HI, HF⟩ := hrel
    by_cases hlt : s < r
    · obtain ⟨hh, hhh⟩ : ∃ hh, (s + r) / 2 = hh := ⟨_, rfl⟩
      have eh : ((s : Int) + (r : Int)) / 2 = (hh : Int) := by omega
      have hb1 : s ≤ hh ∧ hh < r := by omega
      obtain ⟨pc, hpc⟩ : ∃ pc, P1 - hh = pc := ⟨_, rfl⟩
      have ec : (P1 : Int) - (hh : Int) = (pc : Int) := by omega
      have ec2 : IntKind.i64.wrap (pc : Int) = (pc : Int) := by rw [IntKind.wrap_i64]; omega
      have HLo : Hid (¬ key (x (p pc)) < key (x (p hh)) → (∀ t, s0 ≤ t → t < hh + 1 → ¬ key (x (p (P1 - t))) < key (x (p t)))) := fun q t t1 t2 => by
        have q1 := HL.out t hh (by omega) (by omega) (by omega)
        have q2 := HR.out pc (P1 - t) (by omega) (by omega) (by omega)
        omega
      have HHi : Hid (key (x (p pc)) < key (x (p hh)) → (∀ t, hh ≤ t → t < mid → key (x (p (P1 - t))) < key (x (p t)))) := fun q t t1 t2 => by
        have q1 := HL.out hh t (by omega) t1 (by omega)
        have q2 := HR.out (P1 - t) pc (by omega) (by omega) (by omega)
        omega
      clear hhh
      have hpc2 : m ≤ pc ∧ pc < b := by omega
      clear hpc
      have HI1 := HI.out.1
      have HI2 := HI.out.2
      have cX := HS.out.row.cell (k := pc) (by omega)
      have cY := HS.out.row.cell (k := hh) (by omega)
      have hXn : (pc : Int) < (n : Int) := by omega
      have hYn : (hh : Int) < (n : Int) := by omega
      generalize hX : x (p pc) = X at *
      generalize hY : x (p hh) = Y at *
      clear hX hY
      have HX : Hid (∀ u, Below wr.heap.size wr u → ∀ jj zz, #[Value.int .i64 X.1, .int .i64 X.2][jj]? = some zz → u.cell? ((⟨g, pc * 2, none⟩ : Addr).add jj) = some zz) := fun u hu => two_at hu cX.1 cX.2
      have HY : Hid (∀ u, Below wr.heap.size wr u → ∀ jj zz, #[Value.int .i64 Y.1, .int .i64 Y.2][jj]? = some zz → u.cell? ((⟨g, hh * 2, none⟩ : Addr).add jj) = some zz) := fun u hu => two_at hu cY.1 cY.2
      have cC : Hid (∀ u, Below wr.heap.size wr u → _) := fun u hu => K.call X Y u (K.keep _ _ HS.out.cx (Fx.below hu))
      have S0 : Below wr.heap.size wr wr.drew := (Below.refl _ _).drew
      by_cases hk : key X < key Y
      · rw [decide_eq_true hk] at cC
        clear cX cY
        go_upto_region 35 with fail
        refine start_held (S := fun u => Below wr.heap.size wr u) 14 rfl (by kernel_rfl) (S0) ?_
        simp only [Array.replicate_succ, Array.replicate_zero, List.push_toArray, List.nil_append, List.cons_append]
        refine take_held 0 S0 rfl (by kernel_rfl) (by kernel_rfl) (by kernel_rfl) (fun _ _ _ h => h) (by kernel_rfl) (v := ?v85) ?y85 ?r85
        case y85 => (intro u hu; go_simp; try rfl)
        simp only [Act.put, List.setIfInBounds_toArray, List.set_cons_zero, List.set_cons_succ]
        refine take_held 1 S0 rfl (by kernel_rfl) (by kernel_rfl) (by kernel_rfl) (fun _ _ _ h => h) (by kernel_rfl) (v := ?v86) ?y86 ?r86
        case y86 => (intro u hu; go_simp; try rfl)
        simp only [Act.put, List.setIfInBounds_toArray, List.set_cons_zero, List.set_cons_succ]
        refine take_held 2 S0 rfl (by kernel_rfl) (by kernel_rfl) (by kernel_rfl) (fun _ _ _ h => h) (by kernel_rfl) (v := ?v87) ?y87 ?r87
        case y87 => (intro u hu; go_simp; try rfl)
        simp only [Act.put, List.setIfInBounds_toArray, List.set_cons_zero, List.set_cons_succ]
        refine take_held 3 S0 rfl (by kernel_rfl) (by kernel_rfl) (by kernel_rfl) (fun _ _ _ h => h) (by kernel_rfl) (v := ?v88) ?y88 ?r88
        case y88 => (intro u hu; go_simp; try rfl)
        simp only [Act.put, List.setIfInBounds_toArray, List.set_cons_zero, List.set_cons_succ]
        refine take_held 4 S0 rfl (by kernel_rfl) (by kernel_rfl) (by kernel_rfl) (fun _ _ _ h => h) (by kernel_rfl) (v := ?v89) ?y89 ?r89
        case y89 => (intro u hu; go_simp; try rfl)
        simp only [Act.put, List.setIfInBounds_toArray, List.set_cons_zero, List.set_cons_succ]
        refine take_held 5 S0 rfl (by kernel_rfl) (by kernel_rfl) (by kernel_rfl) (fun _ _ _ h => h) (by kernel_rfl) (v := ?v90) ?y90 ?r90
        case y90 => (intro u hu; go_simp; try rfl)
        simp only [Act.put, List.setIfInBounds_toArray, List.set_cons_zero, List.set_cons_succ]
        refine take_held 6 S0 rfl (by kernel_rfl) (by kernel_rfl) (by kernel_rfl) (fun _ _ _ h => h) (by kernel_rfl) (v := .agg #[.int .i64 X.1, .int .i64 X.2]) ?y91 ?r91
        case y91 => (intro u hu; exact run_load_op 30 _ rfl ⟨g, pc * 2, none⟩ _ rfl (HX.out u hu) (aggCell u) infoCell2)
        simp only [Act.put, List.setIfInBounds_toArray, List.set_cons_zero, List.set_cons_succ]
        refine take_held 7 S0 rfl (by kernel_rfl) (by kernel_rfl) (by kernel_rfl) (fun _ _ _ h => h) (by kernel_rfl) (v := ?v92) ?y92 ?r92
        case y92 => (intro u hu; go_simp; try rfl)
        simp only [Act.put, List.setIfInBounds_toArray, List.set_cons_zero, List.set_cons_succ]
        refine take_held 8 S0 rfl (by kernel_rfl) (by kernel_rfl) (by kernel_rfl) (fun _ _ _ h => h) (by kernel_rfl) (v := ?v93) ?y93 ?r93
        case y93 => (intro u hu; go_simp; try rfl)
        simp only [Act.put, List.setIfInBounds_toArray, List.set_cons_zero, List.set_cons_succ]
        refine take_held 9 S0 rfl (by kernel_rfl) (by kernel_rfl) (by kernel_rfl) (fun _ _ _ h => h) (by kernel_rfl) (v := ?v94) ?y94 ?r94
        case y94 => (intro u hu; go_simp; try rfl)
        simp only [Act.put, List.setIfInBounds_toArray, List.set_cons_zero, List.set_cons_succ]
        refine take_held 10 S0 rfl (by kernel_rfl) (by kernel_rfl) (by kernel_rfl) (fun _ _ _ h => h) (by kernel_rfl) (v := .agg #[.int .i64 Y.1, .int .i64 Y.2]) ?y95 ?r95
        case y95 => (intro u hu; exact run_load_op 30 _ rfl ⟨g, hh * 2, none⟩ _ rfl (HY.out u hu) (aggCell u) infoCell2)
        simp only [Act.put, List.setIfInBounds_toArray, List.set_cons_zero, List.set_cons_succ]
        refine wpAnyH_ready (rs := [11]) (by kernel_rfl) (by simp) (AllReadyH.cons ((nth_eq _ 11).trans rfl) ?_ AllReadyH.nil)
        intro K' hK
        refine call_in hK (by kernel_rfl) fy (#[.agg #[.int .i64 X.1, .int .i64 X.2], .agg #[.int .i64 Y.1, .int .i64 Y.2]] ++ fr) ?hr98 (fun v w' => (∃ z : Int, v = .int .i64 z ∧ decide (z < 0) = true) ∧ Below wr.drew.heap.size wr.drew w') ?hc98 ?_
        case hc98 => exact cC.out _ S0
        case hr98 => exact run_call_fn (.tmp 158) (.tmp 164) (.tmp 168) _ rfl rfl rfl rfl hE
        rintro v x1 ⟨⟨z, rfl, hz⟩, b1⟩
        have S1 : Below wr.heap.size wr x1 := bcat S0 b1 (Nat.le_refl _)
        refine ⟨S1, ?_⟩
        simp only [Act.put, List.setIfInBounds_toArray, List.set_cons_zero, List.set_cons_succ]
        refine take_held 12 S1 rfl (by kernel_rfl) (by kernel_rfl) (by kernel_rfl) (fun _ _ _ h => h) (by kernel_rfl) (v := ?v96) ?y96 ?r96
        case y96 => (intro u hu; go_simp; try rfl)
        simp only [Act.put, List.setIfInBounds_toArray, List.set_cons_zero, List.set_cons_succ]
        refine take_held 13 S1 rfl (by kernel_rfl) (by kernel_rfl) (by kernel_rfl) (fun _ _ _ h => h) (by kernel_rfl) (v := ?v97) ?y97 ?r97
        case y97 => (intro u hu; go_simp; try rfl)
        simp only [Act.put, List.setIfInBounds_toArray, List.set_cons_zero, List.set_cons_succ]
        refine done_held (by kernel_rfl) ?_ _
        go_wp2_with fail
        go_roundw
        case measure => simp [intOf]; omega
        case rel =>
          exact ⟨s, hh, ls, by omega, by omega, rfl, rfl, SS.go K HS.out S1, ⟨HI1, HHi.out hk⟩, HF.out.trans (Fx.below S1)⟩
      · rw [decide_eq_false hk] at cC
        clear cX cY
        go_upto_region 35 with fail
        refine start_held (S := fun u => Below wr.heap.size wr u) 14 rfl (by kernel_rfl) (S0) ?_
        simp only [Array.replicate_succ, Array.replicate_zero, List.push_toArray, List.nil_append, List.cons_append]
        refine take_held 0 S0 rfl (by kernel_rfl) (by kernel_rfl) (by kernel_rfl) (fun _ _ _ h => h) (by kernel_rfl) (v := ?v99) ?y99 ?r99
        case y99 => (intro u hu; go_simp; try rfl)
        simp only [Act.put, List.setIfInBounds_toArray, List.set_cons_zero, List.set_cons_succ]
        refine take_held 1 S0 rfl (by kernel_rfl) (by kernel_rfl) (by kernel_rfl) (fun _ _ _ h => h) (by kernel_rfl) (v := ?v100) ?y100 ?r100
        case y100 => (intro u hu; go_simp; try rfl)
        simp only [Act.put, List.setIfInBounds_toArray, List.set_cons_zero, List.set_cons_succ]
        refine take_held 2 S0 rfl (by kernel_rfl) (by kernel_rfl) (by kernel_rfl) (fun _ _ _ h => h) (by kernel_rfl) (v := ?v101) ?y101 ?r101
        case y101 => (intro u hu; go_simp; try rfl)
        simp only [Act.put, List.setIfInBounds_toArray, List.set_cons_zero, List.set_cons_succ]
        refine take_held 3 S0 rfl (by kernel_rfl) (by kernel_rfl) (by kernel_rfl) (fun _ _ _ h => h) (by kernel_rfl) (v := ?v102) ?y102 ?r102
        case y102 => (intro u hu; go_simp; try rfl)
        simp only [Act.put, List.setIfInBounds_toArray, List.set_cons_zero, List.set_cons_succ]
        refine take_held 4 S0 rfl (by kernel_rfl) (by kernel_rfl) (by kernel_rfl) (fun _ _ _ h => h) (by kernel_rfl) (v := ?v103) ?y103 ?r103
        case y103 => (intro u hu; go_simp; try rfl)
        simp only [Act.put, List.setIfInBounds_toArray, List.set_cons_zero, List.set_cons_succ]
        refine take_held 5 S0 rfl (by kernel_rfl) (by kernel_rfl) (by kernel_rfl) (fun _ _ _ h => h) (by kernel_rfl) (v := ?v104) ?y104 ?r104
        case y104 => (intro u hu; go_simp; try rfl)
        simp only [Act.put, List.setIfInBounds_toArray, List.set_cons_zero, List.set_cons_succ]
        refine take_held 6 S0 rfl (by kernel_rfl) (by kernel_rfl) (by kernel_rfl) (fun _ _ _ h => h) (by kernel_rfl) (v := .agg #[.int .i64 X.1, .int .i64 X.2]) ?y105 ?r105
        case y105 => (intro u hu; exact run_load_op 30 _ rfl ⟨g, pc * 2, none⟩ _ rfl (HX.out u hu) (aggCell u) infoCell2)
        simp only [Act.put, List.setIfInBounds_toArray, List.set_cons_zero, List.set_cons_succ]
        refine take_held 7 S0 rfl (by kernel_rfl) (by kernel_rfl) (by kernel_rfl) (fun _ _ _ h => h) (by kernel_rfl) (v := ?v106) ?y106 ?r106
        case y106 => (intro u hu; go_simp; try rfl)
        simp only [Act.put, List.setIfInBounds_toArray, List.set_cons_zero, List.set_cons_succ]
        refine take_held 8 S0 rfl (by kernel_rfl) (by kernel_rfl) (by kernel_rfl) (fun _ _ _ h => h) (by kernel_rfl) (v := ?v107) ?y107 ?r107
        case y107 => (intro u hu; go_simp; try rfl)
        simp only [Act.put, List.setIfInBounds_toArray, List.set_cons_zero, List.set_cons_succ]
        refine take_held 9 S0 rfl (by kernel_rfl) (by kernel_rfl) (by kernel_rfl) (fun _ _ _ h => h) (by kernel_rfl) (v := ?v108) ?y108 ?r108
        case y108 => (intro u hu; go_simp; try rfl)
        simp only [Act.put, List.setIfInBounds_toArray, List.set_cons_zero, List.set_cons_succ]
        refine take_held 10 S0 rfl (by kernel_rfl) (by kernel_rfl) (by kernel_rfl) (fun _ _ _ h => h) (by kernel_rfl) (v := .agg #[.int .i64 Y.1, .int .i64 Y.2]) ?y109 ?r109
        case y109 => (intro u hu; exact run_load_op 30 _ rfl ⟨g, hh * 2, none⟩ _ rfl (HY.out u hu) (aggCell u) infoCell2)
        simp only [Act.put, List.setIfInBounds_toArray, List.set_cons_zero, List.set_cons_succ]
        refine wpAnyH_ready (rs := [11]) (by kernel_rfl) (by simp) (AllReadyH.cons ((nth_eq _ 11).trans rfl) ?_ AllReadyH.nil)
        intro K' hK
        refine call_in hK (by kernel_rfl) fy (#[.agg #[.int .i64 X.1, .int .i64 X.2], .agg #[.int .i64 Y.1, .int .i64 Y.2]] ++ fr) ?hr112 (fun v w' => (∃ z : Int, v = .int .i64 z ∧ decide (z < 0) = false) ∧ Below wr.drew.heap.size wr.drew w') ?hc112 ?_
        case hc112 => exact cC.out _ S0
        case hr112 => exact run_call_fn (.tmp 158) (.tmp 164) (.tmp 168) _ rfl rfl rfl rfl hE
        rintro v x1 ⟨⟨z, rfl, hz⟩, b1⟩
        have S1 : Below wr.heap.size wr x1 := bcat S0 b1 (Nat.le_refl _)
        refine ⟨S1, ?_⟩
        simp only [Act.put, List.setIfInBounds_toArray, List.set_cons_zero, List.set_cons_succ]
        refine take_held 12 S1 rfl (by kernel_rfl) (by kernel_rfl) (by kernel_rfl) (fun _ _ _ h => h) (by kernel_rfl) (v := ?v110) ?y110 ?r110
        case y110 => (intro u hu; go_simp; try rfl)
        simp only [Act.put, List.setIfInBounds_toArray, List.set_cons_zero, List.set_cons_succ]
        refine take_held 13 S1 rfl (by kernel_rfl) (by kernel_rfl) (by kernel_rfl) (fun _ _ _ h => h) (by kernel_rfl) (v := ?v111) ?y111 ?r111
        case y111 => (intro u hu; go_simp; try rfl)
        simp only [Act.put, List.setIfInBounds_toArray, List.set_cons_zero, List.set_cons_succ]
        refine done_held (by kernel_rfl) ?_ _
        go_wp2_with fail
        go_roundw
        case measure => simp [intOf]; omega
        case rel =>
          exact ⟨hh + 1, r, by omega, by omega, rh, by go_num, rfl, SS.go K HS.out S1, ⟨HLo.out hk, HI2⟩, HF.out.trans (Fx.below S1)⟩
    · obtain rfl : s = r := by omega
      obtain ⟨e, he⟩ : ∃ e, mid + m - s = e := ⟨_, rfl⟩
      have ee : (N : Int) - (s : Int) = (e : Int) := by omega
      have HC : Cut (fun t => key (x t)) p a m b mid s := by
        have c1 := HI.out.1
        have c2 := HI.out.2
        rw [HP.out] at c1 c2
        refine ⟨?_, ?_, ?_, ?_⟩
        · rw [if_pos hmm]; omega
        · rw [if_pos hmm]; omega
        · intro t t1 t2
          rw [if_pos hmm] at t1
          exact c1 t (by omega) t2
        · intro t t1 t2
          rw [if_pos hmm] at t2
          exact c2 t t1 t2
      have HA0 := HT.out.halves HMid.out h0 h1 HC
      rw [he] at HA0
      have HA : Hid (Halves (fun t => key (x t)) (rot p s m e) a mid b s e) := HA0
      have hse : e + s ≤ mid + m ∧ mid + m ≤ e + s := by omega
      have HRM : Hid (Mix a b p (rot p s m e)) := (rot_mix p (by omega) (by omega)).wide (by omega) (by omega)
      have HRI : Hid (¬ (s < m ∧ m < e) → rot p s m e = p) := fun q => rot_id p (by omega) (by omega) q
      clear HC HA0 he HI
      by_cases q1 : s < mid
      · by_cases q2 : a < s
        · by_cases q3 : e < b
          · have g1 : decide ((s : Int) < (m : Int)) = true := decide_eq_true (by omega)
            have g2 : decide ((m : Int) < (e : Int)) = true := decide_eq_true (by omega)
            have g3 : decide ((a : Int) < (s : Int)) = true := decide_eq_true (by omega)
            have g4 : decide ((s : Int) < (mid : Int)) = true := decide_eq_true (by omega)
            have g5 : decide ((mid : Int) < (e : Int)) = true := decide_eq_true (by omega)
            have g6 : decide ((e : Int) < (b : Int)) = true := decide_eq_true (by omega)
            go_upto_region 41 with (go_at_call 75; refine (rotate_any K (cap := cap) hn p wr HS.out s m e (by omega) (by omega) (by omega)).mono ?_; rintro e' w1 ⟨rfl, s1, f1⟩; have HS1 : Hid (SS g S n x Cx (rot p s m e) w1) := s1; have HF1 : Hid (Fx g w w1) := HF.out.trans f1; clear s1 f1)
            go_upto_region 43 with (go_at_call 70; refine (HIH.out (rot p s m e) w1 a s mid (by omega) HS1.out (HA.out.twoL (by omega) (by omega)) (by omega)).mono ?_; rintro e' w2 ⟨rfl, q2, s2, m2, u2, f2⟩; have HS2 : Hid (SS g S n x Cx q2 w2) := s2; have HM2 : Hid (Mix a mid (rot p s m e) q2) := m2; have H2 : Hid (Hal2 (fun t => key (x t)) q2 a mid b e) := HA.out.done m2 u2; have HF2 : Hid (Fx g w w2) := HF1.out.trans f2; clear s2 m2 u2 f2)
            go_wp2_with (go_at_call 70; refine (HIH.out q2 w2 mid e b (by omega) HS2.out (H2.out.two (by omega) (by omega)) (by omega)).mono ?_; rintro e' w3 ⟨rfl, q3, s3, m3, u3, f3⟩)
            go_end0
            exact ⟨rfl, q3, s3, (HRM.out.trans (HM2.out.wide (Nat.le_refl _) (by omega))).trans (m3.wide (by omega) (Nat.le_refl _)), H2.out.done m3 u3, HF2.out.trans f3⟩
          · have g1 : decide ((s : Int) < (m : Int)) = true := decide_eq_true (by omega)
            have g2 : decide ((m : Int) < (e : Int)) = true := decide_eq_true (by omega)
            have g3 : decide ((a : Int) < (s : Int)) = true := decide_eq_true (by omega)
            have g4 : decide ((s : Int) < (mid : Int)) = true := decide_eq_true (by omega)
            have g5 : decide ((mid : Int) < (e : Int)) = true := decide_eq_true (by omega)
            have g6 : decide ((e : Int) < (b : Int)) = false := decide_eq_false (by omega)
            go_upto_region 41 with (go_at_call 75; refine (rotate_any K (cap := cap) hn p wr HS.out s m e (by omega) (by omega) (by omega)).mono ?_; rintro e' w1 ⟨rfl, s1, f1⟩; have HS1 : Hid (SS g S n x Cx (rot p s m e) w1) := s1; have HF1 : Hid (Fx g w w1) := HF.out.trans f1; clear s1 f1)
            go_upto_region 43 with (go_at_call 70; refine (HIH.out (rot p s m e) w1 a s mid (by omega) HS1.out (HA.out.twoL (by omega) (by omega)) (by omega)).mono ?_; rintro e' w2 ⟨rfl, q2, s2, m2, u2, f2⟩; have HS2 : Hid (SS g S n x Cx q2 w2) := s2; have HM2 : Hid (Mix a mid (rot p s m e) q2) := m2; have H2 : Hid (Hal2 (fun t => key (x t)) q2 a mid b e) := HA.out.done m2 u2; have HF2 : Hid (Fx g w w2) := HF1.out.trans f2; clear s2 m2 u2 f2)
            go_wp2_with fail
            go_end0
            exact ⟨rfl, q2, HS2.out, HRM.out.trans (HM2.out.wide (Nat.le_refl _) (by omega)), H2.out.done (Mix.refl _ _ _) (H2.out.skip (by omega)), HF2.out⟩
        · by_cases q3 : e < b
          · exfalso
            omega
          · have g1 : decide ((s : Int) < (m : Int)) = true := decide_eq_true (by omega)
            have g2 : decide ((m : Int) < (e : Int)) = true := decide_eq_true (by omega)
            have g3 : decide ((a : Int) < (s : Int)) = false := decide_eq_false (by omega)
            have g5 : decide ((mid : Int) < (e : Int)) = true := decide_eq_true (by omega)
            have g6 : decide ((e : Int) < (b : Int)) = false := decide_eq_false (by omega)
            go_upto_region 41 with (go_at_call 75; refine (rotate_any K (cap := cap) hn p wr HS.out s m e (by omega) (by omega) (by omega)).mono ?_; rintro e' w1 ⟨rfl, s1, f1⟩; have HS1 : Hid (SS g S n x Cx (rot p s m e) w1) := s1; have HF1 : Hid (Fx g w w1) := HF.out.trans f1; clear s1 f1)
            have HS2 := HS1
            have HM2 : Hid (Mix a mid (rot p s m e) (rot p s m e)) := Mix.refl _ _ _
            have H2 : Hid (Hal2 (fun t => key (x t)) (rot p s m e) a mid b e) := HA.out.done (Mix.refl _ _ _) (HA.out.skip (by omega))
            have HF2 := HF1
            go_upto_region 43 with fail
            go_wp2_with fail
            go_end0
            exact ⟨rfl, (rot p s m e), HS2.out, HRM.out.trans (HM2.out.wide (Nat.le_refl _) (by omega)), H2.out.done (Mix.refl _ _ _) (H2.out.skip (by omega)), HF2.out⟩
      · have q4 : s ≤ mid ∧ mid ≤ s := by omega
        have g1 : decide ((s : Int) < (m : Int)) = true := decide_eq_true (by omega)
        have g2 : decide ((m : Int) < (e : Int)) = false := decide_eq_false (by omega)
        have g3 : decide ((a : Int) < (s : Int)) = true := decide_eq_true (by omega)
        have g4 : decide ((s : Int) < (mid : Int)) = false := decide_eq_false (by omega)
        have g5 : decide ((mid : Int) < (e : Int)) = true := decide_eq_true (by omega)
        have g6 : decide ((e : Int) < (b : Int)) = true := decide_eq_true (by omega)
        have HS1 : Hid (SS g S n x Cx (rot p s m e) wr) := by rw [HRI.out (by omega)]; exact HS.out
        have HF1 : Hid (Fx g w wr) := HF
        go_upto_region 41 with fail
        have HS2 := HS1
        have HM2 : Hid (Mix a mid (rot p s m e) (rot p s m e)) := Mix.refl _ _ _
        have H2 : Hid (Hal2 (fun t => key (x t)) (rot p s m e) a mid b e) := HA.out.done (Mix.refl _ _ _) (HA.out.skip (by omega))
        have HF2 := HF1
        go_upto_region 43 with fail
        go_wp2_with (go_at_call 70; refine (HIH.out (rot p s m e) wr mid e b (by omega) HS2.out (H2.out.two (by omega) (by omega)) (by omega)).mono ?_; rintro e' w3 ⟨rfl, q3, s3, m3, u3, f3⟩)
        go_end0
        exact ⟨rfl, q3, s3, (HRM.out.trans (HM2.out.wide (Nat.le_refl _) (by omega))).trans (m3.wide (by omega) (Nat.le_refl _)), H2.out.done m3 u3, HF2.out.trans f3⟩
set_option maxRecDepth 100000 in
set_option maxHeartbeats 4000000 in
theorem merge_low (hn : n ≤ 1000000) (p : Nat → Nat) (w : World) (h : SS g S n x Cx p w) (a m b : Nat) (hT : Two (fun t => key (x t)) p a m b) (hb : b ≤ n) (h0 : a + 2 ≤ m) (h1 : m + 2 ≤ b) (d : Nat) (ih : ∀ (p : Nat → Nat) (w : World) (a m b : Nat), b - a ≤ d → SS g S n x Cx p w → Two (fun t => key (x t)) p a m b → b ≤ n → Calls Try.prog 70 #[.slice (some ⟨g, 0, none⟩) n cap, .int .i64 a, .int .i64 m, .int .i64 b, .func (.func fy) #[] fr] w fun e w' => e = .returned (.tuple #[]) ∧ ∃ q, SS g S n x Cx q w' ∧ Mix a b p q ∧ Up (fun t => key (x t)) q a b ∧ Fx g w w') (hd : b - a ≤ d + 1) (mid : Nat) (hmid : mid = (a + b) / 2) (hmm : ¬ mid < m) :
    Calls Try.prog 70 #[.slice (some ⟨g, 0, none⟩) n cap, .int .i64 a, .int .i64 m, .int .i64 b, .func (.func fy) #[] fr] w fun e w' => e = .returned (.tuple #[]) ∧ ∃ q, SS g S n x Cx q w' ∧ Mix a b p q ∧ Up (fun t => key (x t)) q a b ∧ Fx g w w' := by
  have am := hT.am
  have mb := hT.mb
  have H0 : Hid (SS g S n x Cx p w) := h
  have HT : Hid (Two (fun t => key (x t)) p a m b) := hT
  have hE := K.enter
  clear h hT
  have HIH : Hid _ := ih
  have HMid : Hid (mid = (a + b) / 2) := hmid
  have hm1 : 2 * mid ≤ a + b ∧ a + b ≤ 2 * mid + 1 := by omega
  clear ih hmid
  have HL : Hid (∀ s t, a ≤ s → s ≤ t → t < m → key (x (p s)) ≤ key (x (p t))) := fun s t h1 h2 h3 => key_mono HT.out.left h1 h2 h3
  have HR : Hid (∀ s t, m ≤ s → s ≤ t → t < b → key (x (p s)) ≤ key (x (p t))) := fun s t h1 h2 h3 => key_mono HT.out.right h1 h2 h3
  have hma : decide ((m : Int) - (a : Int) = 1) = false := decide_eq_false (by omega)
  have hma2 : ((m : Int) - (a : Int) == 1) = false := by simp; omega
  have hbm : decide ((b : Int) - (m : Int) = 1) = false := decide_eq_false (by omega)
  have hbm2 : ((b : Int) - (m : Int) == 1) = false := by simp; omega
  have em : ((a : Int) + (b : Int)) / 2 = (mid : Int) := by have := HMid.out; omega
  obtain ⟨N, hN⟩ : ∃ N, mid + m = N := ⟨_, rfl⟩
  have eN : (mid : Int) + (m : Int) = (N : Int) := by omega
  obtain ⟨P1, hP1⟩ : ∃ P1, N - 1 = P1 := ⟨_, rfl⟩
  have eP : (N : Int) - 1 = (P1 : Int) := by omega
  have hdm : decide ((mid : Int) < (m : Int)) = false := decide_eq_false (by omega)
  obtain ⟨s0, hs0⟩ : ∃ s0, N - b = s0 := ⟨_, rfl⟩
  have es0 : True := trivial
  have HP : Hid (P1 = mid + m - 1) := by show P1 = mid + m - 1; omega
  have HN : Hid (N = mid + m) := hN.symm
  have hNN : N ≤ mid + m ∧ mid + m ≤ N ∧ P1 + 1 ≤ N ∧ N ≤ P1 + 1 := by omega
  have hN1 : N ≤ 2000000 := by omega
  have eN2 : IntKind.i64.wrap (N : Int) = (N : Int) := by rw [IntKind.wrap_i64]; omega
  have hm2 : mid ≤ 1000000 := by omega
  have hm3 : m ≤ 1000000 := by omega
  clear hN hP1 hs0
  go_enter Try.func70, Try.ntmps70
  go_wp2_with fail
  go_loopw [20, 21] (fun v20 v21 wr => ∃ (s r : Nat), a ≤ s ∧ s ≤ r ∧ r ≤ m ∧ v20 = .int .i64 s ∧ v21 = .int .i64 r ∧ Hid (SS g S n x Cx p wr) ∧ Hid ((∀ t, a ≤ t → t < s → ¬ key (x (p (P1 - t))) < key (x (p t))) ∧ (∀ t, r ≤ t → t < m → key (x (p (P1 - t))) < key (x (p t)))) ∧ Hid (Fx g w wr)) (fun v20 v21 _ => (intOf v21 - intOf v20).toNat)
  case atStart => exact ⟨a, m, Nat.le_refl _, by omega, Nat.le_refl _, rfl, rfl, H0, (⟨fun t h1 h2 => by omega, fun t h1 h2 => by omega⟩ : (∀ t, a ≤ t → t < a → ¬ key (x (p (P1 - t))) < key (x (p t))) ∧ (∀ t, m ≤ t → t < m → key (x (p (P1 - t))) < key (x (p t)))), Fx.refl _ _⟩
  case round =>
    clear H0
    obtain ⟨s, r, ls, sr, rh, rfl, rfl, HS, HI, HF⟩ := hrel
    by_cases hlt : s < r
    · obtain ⟨hh, hhh⟩ : ∃ hh, (s + r) / 2 = hh := ⟨_, rfl⟩
      have eh : ((s : Int) + (r : Int)) / 2 = (hh : Int) := by omega
      have hb1 : s ≤ hh ∧ hh < r := by omega
      obtain ⟨pc, hpc⟩ : ∃ pc, P1 - hh = pc := ⟨_, rfl⟩
      have ec : (P1 : Int) - (hh : Int) = (pc : Int) := by omega
      have ec2 : IntKind.i64.wrap (pc : Int) = (pc : Int) := by rw [IntKind.wrap_i64]; omega
      have HLo : Hid (¬ key (x (p pc)) < key (x (p hh)) → (∀ t, a ≤ t → t < hh + 1 → ¬ key (x (p (P1 - t))) < key (x (p t)))) := fun q t t1 t2 => by
        have q1 := HL.out t hh (by omega) (by omega) (by omega)
        have q2 := HR.out pc (P1 - t) (by omega) (by omega) (by omega)
        omega
      have HHi : Hid (key (x (p pc)) < key (x (p hh)) → (∀ t, hh ≤ t → t < m → key (x (p (P1 - t))) < key (x (p t)))) := fun q t t1 t2 => by
        have q1 := HL.out hh t (by omega) t1 (by omega)
        have q2 := HR.out (P1 - t) pc (by omega) (by omega) (by omega)
        omega
      clear hhh
      have hpc2 : m ≤ pc ∧ pc < b := by omega
      clear hpc
      have HI1 := HI.out.1
      have HI2 := HI.out.2
      have cX := HS.out.row.cell (k := pc) (by omega)
      have cY := HS.out.row.cell (k := hh) (by omega)
      have hXn : (pc : Int) < (n : Int) := by omega
      have hYn : (hh : Int) < (n : Int) := by omega
      generalize hX : x (p pc) = X at *
      generalize hY : x (p hh) = Y at *
      clear hX hY
      have HX : Hid (∀ u, Below wr.heap.size wr u → ∀ jj zz, #[Value.int .i64 X.1, .int .i64 X.2][jj]? = some zz → u.cell? ((⟨g, pc * 2, none⟩ : Addr).add jj) = some zz) := fun u hu => two_at hu cX.1 cX.2
      have HY : Hid (∀ u, Below wr.heap.size wr u → ∀ jj zz, #[Value.int .i64 Y.1, .int .i64 Y.2][jj]? = some zz → u.cell? ((⟨g, hh * 2, none⟩ : Addr).add jj) = some zz) := fun u hu => two_at hu cY.1 cY.2
      have cC : Hid (∀ u, Below wr.heap.size wr u → _) := fun u hu => K.call X Y u (K.keep _ _ HS.out.cx (Fx.below hu))
      have S0 : Below wr.heap.size wr wr.drew := (Below.refl _ _).drew
      by_cases hk : key X < key Y
      · rw [decide_eq_true hk] at cC
        clear cX cY
        go_upto_region 35 with fail
        refine start_held (S := fun u => Below wr.heap.size wr u) 14 rfl (by kernel_rfl) (S0) ?_
        simp only [Array.replicate_succ, Array.replicate_zero, List.push_toArray, List.nil_append, List.cons_append]
        refine take_held 0 S0 rfl (by kernel_rfl) (by kernel_rfl) (by kernel_rfl) (fun _ _ _ h => h) (by kernel_rfl) (v := ?v113) ?y113 ?r113
        case y113 => (intro u hu; go_simp; try rfl)
        simp only [Act.put, List.setIfInBounds_toArray, List.set_cons_zero, List.set_cons_succ]
        refine take_held 1 S0 rfl (by kernel_rfl) (by kernel_rfl) (by kernel_rfl) (fun _ _ _ h => h) (by kernel_rfl) (v := ?v114) ?y114 ?r114
        case y114 => (intro u hu; go_simp; try rfl)
        simp only [Act.put, List.setIfInBounds_toArray, List.set_cons_zero, List.set_cons_succ]
        refine take_held 2 S0 rfl (by kernel_rfl) (by kernel_rfl) (by kernel_rfl) (fun _ _ _ h => h) (by kernel_rfl) (v := ?v115) ?y115 ?r115
        case y115 => (intro u hu; go_simp; try rfl)
        simp only [Act.put, List.setIfInBounds_toArray, List.set_cons_zero, List.set_cons_succ]
        refine take_held 3 S0 rfl (by kernel_rfl) (by kernel_rfl) (by kernel_rfl) (fun _ _ _ h => h) (by kernel_rfl) (v := ?v116) ?y116 ?r116
        case y116 => (intro u hu; go_simp; try rfl)
        simp only [Act.put, List.setIfInBounds_toArray, List.set_cons_zero, List.set_cons_succ]
        refine take_held 4 S0 rfl (by kernel_rfl) (by kernel_rfl) (by kernel_rfl) (fun _ _ _ h => h) (by kernel_rfl) (v := ?v117) ?y117 ?r117
        case y117 => (intro u hu; go_simp; try rfl)
        simp only [Act.put, List.setIfInBounds_toArray, List.set_cons_zero, List.set_cons_succ]
        refine take_held 5 S0 rfl (by kernel_rfl) (by kernel_rfl) (by kernel_rfl) (fun _ _ _ h => h) (by kernel_rfl) (v := ?v118) ?y118 ?r118
        case y118 => (intro u hu; go_simp; try rfl)
        simp only [Act.put, List.setIfInBounds_toArray, List.set_cons_zero, List.set_cons_succ]
        refine take_held 6 S0 rfl (by kernel_rfl) (by kernel_rfl) (by kernel_rfl) (fun _ _ _ h => h) (by kernel_rfl) (v := .agg #[.int .i64 X.1, .int .i64 X.2]) ?y119 ?r119
        case y119 => (intro u hu; exact run_load_op 30 _ rfl ⟨g, pc * 2, none⟩ _ rfl (HX.out u hu) (aggCell u) infoCell2)
        simp only [Act.put, List.setIfInBounds_toArray, List.set_cons_zero, List.set_cons_succ]
        refine take_held 7 S0 rfl (by kernel_rfl) (by kernel_rfl) (by kernel_rfl) (fun _ _ _ h => h) (by kernel_rfl) (v := ?v120) ?y120 ?r120
        case y120 => (intro u hu; go_simp; try rfl)
        simp only [Act.put, List.setIfInBounds_toArray, List.set_cons_zero, List.set_cons_succ]
        refine take_held 8 S0 rfl (by kernel_rfl) (by kernel_rfl) (by kernel_rfl) (fun _ _ _ h => h) (by kernel_rfl) (v := ?v121) ?y121 ?r121
        case y121 => (intro u hu; go_simp; try rfl)
        simp only [Act.put, List.setIfInBounds_toArray, List.set_cons_zero, List.set_cons_succ]
        refine take_held 9 S0 rfl (by kernel_rfl) (by kernel_rfl) (by kernel_rfl) (fun _ _ _ h => h) (by kernel_rfl) (v := ?v122) ?y122 ?r122
        case y122 => (intro u hu; go_simp; try rfl)
        simp only [Act.put, List.setIfInBounds_toArray, List.set_cons_zero, List.set_cons_succ]
        refine take_held 10 S0 rfl (by kernel_rfl) (by kernel_rfl) (by kernel_rfl) (fun _ _ _ h => h) (by kernel_rfl) (v := .agg #[.int .i64 Y.1, .int .i64 Y.2]) ?y123 ?r123
        case y123 => (intro u hu; exact run_load_op 30 _ rfl ⟨g, hh * 2, none⟩ _ rfl (HY.out u hu) (aggCell u) infoCell2)
        simp only [Act.put, List.setIfInBounds_toArray, List.set_cons_zero, List.set_cons_succ]
        refine wpAnyH_ready (rs := [11]) (by kernel_rfl) (by simp) (AllReadyH.cons ((nth_eq _ 11).trans rfl) ?_ AllReadyH.nil)
        intro K' hK
        refine call_in hK (by kernel_rfl) fy (#[.agg #[.int .i64 X.1, .int .i64 X.2], .agg #[.int .i64 Y.1, .int .i64 Y.2]] ++ fr) ?hr126 (fun v w' => (∃ z : Int, v = .int .i64 z ∧ decide (z < 0) = true) ∧ Below wr.drew.heap.size wr.drew w') ?hc126 ?_
        case hc126 => exact cC.out _ S0
        case hr126 => exact run_call_fn (.tmp 158) (.tmp 164) (.tmp 168) _ rfl rfl rfl rfl hE
        rintro v x1 ⟨⟨z, rfl, hz⟩, b1⟩
        have S1 : Below wr.heap.size wr x1 := bcat S0 b1 (Nat.le_refl _)
        refine ⟨S1, ?_⟩
        simp only [Act.put, List.setIfInBounds_toArray, List.set_cons_zero, List.set_cons_succ]
        refine take_held 12 S1 rfl (by kernel_rfl) (by kernel_rfl) (by kernel_rfl) (fun _ _ _ h => h) (by kernel_rfl) (v := ?v124) ?y124 ?r124
        case y124 => (intro u hu; go_simp; try rfl)
        simp only [Act.put, List.setIfInBounds_toArray, List.set_cons_zero, List.set_cons_succ]
        refine take_held 13 S1 rfl (by kernel_rfl) (by kernel_rfl) (by kernel_rfl) (fun _ _ _ h => h) (by kernel_rfl) (v := ?v125) ?y125 ?r125
        case y125 => (intro u hu; go_simp; try rfl)
        simp only [Act.put, List.setIfInBounds_toArray, List.set_cons_zero, List.set_cons_succ]
        refine done_held (by kernel_rfl) ?_ _
        go_wp2_with fail
        go_roundw
        case measure => simp [intOf]; omega
        case rel =>
          exact ⟨s, hh, ls, by omega, by omega, rfl, rfl, SS.go K HS.out S1, ⟨HI1, HHi.out hk⟩, HF.out.trans (Fx.below S1)⟩
      · rw [decide_eq_false hk] at cC
        clear cX cY
        go_upto_region 35 with fail
        refine start_held (S := fun u => Below wr.heap.size wr u) 14 rfl (by kernel_rfl) (S0) ?_
        simp only [Array.replicate_succ, Array.replicate_zero, List.push_toArray, List.nil_append, List.cons_append]
        refine take_held 0 S0 rfl (by kernel_rfl) (by kernel_rfl) (by kernel_rfl) (fun _ _ _ h => h) (by kernel_rfl) (v := ?v127) ?y127 ?r127
        case y127 => (intro u hu; go_simp; try rfl)
        simp only [Act.put, List.setIfInBounds_toArray, List.set_cons_zero, List.set_cons_succ]
        refine take_held 1 S0 rfl (by kernel_rfl) (by kernel_rfl) (by kernel_rfl) (fun _ _ _ h => h) (by kernel_rfl) (v := ?v128) ?y128 ?r128
        case y128 => (intro u hu; go_simp; try rfl)
        simp only [Act.put, List.setIfInBounds_toArray, List.set_cons_zero, List.set_cons_succ]
        refine take_held 2 S0 rfl (by kernel_rfl) (by kernel_rfl) (by kernel_rfl) (fun _ _ _ h => h) (by kernel_rfl) (v := ?v129) ?y129 ?r129
        case y129 => (intro u hu; go_simp; try rfl)
        simp only [Act.put, List.setIfInBounds_toArray, List.set_cons_zero, List.set_cons_succ]
        refine take_held 3 S0 rfl (by kernel_rfl) (by kernel_rfl) (by kernel_rfl) (fun _ _ _ h => h) (by kernel_rfl) (v := ?v130) ?y130 ?r130
        case y130 => (intro u hu; go_simp; try rfl)
        simp only [Act.put, List.setIfInBounds_toArray, List.set_cons_zero, List.set_cons_succ]
        refine take_held 4 S0 rfl (by kernel_rfl) (by kernel_rfl) (by kernel_rfl) (fun _ _ _ h => h) (by kernel_rfl) (v := ?v131) ?y131 ?r131
        case y131 => (intro u hu; go_simp; try rfl)
        simp only [Act.put, List.setIfInBounds_toArray, List.set_cons_zero, List.set_cons_succ]
        refine take_held 5 S0 rfl (by kernel_rfl) (by kernel_rfl) (by kernel_rfl) (fun _ _ _ h => h) (by kernel_rfl) (v := ?v132) ?y132 ?r132
        case y132 => (intro u hu; go_simp; try rfl)
        simp only [Act.put, List.setIfInBounds_toArray, List.set_cons_zero, List.set_cons_succ]
        refine take_held 6 S0 rfl (by kernel_rfl) (by kernel_rfl) (by kernel_rfl) (fun _ _ _ h => h) (by kernel_rfl) (v := .agg #[.int .i64 X.1, .int .i64 X.2]) ?y133 ?r133
        case y133 => (intro u hu; exact run_load_op 30 _ rfl ⟨g, pc * 2, none⟩ _ rfl (HX.out u hu) (aggCell u) infoCell2)
        simp only [Act.put, List.setIfInBounds_toArray, List.set_cons_zero, List.set_cons_succ]
        refine take_held 7 S0 rfl (by kernel_rfl) (by kernel_rfl) (by kernel_rfl) (fun _ _ _ h => h) (by kernel_rfl) (v := ?v134) ?y134 ?r134
        case y134 => (intro u hu; go_simp; try rfl)
        simp only [Act.put, List.setIfInBounds_toArray, List.set_cons_zero, List.set_cons_succ]
        refine take_held 8 S0 rfl (by kernel_rfl) (by kernel_rfl) (by kernel_rfl) (fun _ _ _ h => h) (by kernel_rfl) (v := ?v135) ?y135 ?r135
        case y135 => (intro u hu; go_simp; try rfl)
        simp only [Act.put, List.setIfInBounds_toArray, List.set_cons_zero, List.set_cons_succ]
        refine take_held 9 S0 rfl (by kernel_rfl) (by kernel_rfl) (by kernel_rfl) (fun _ _ _ h => h) (by kernel_rfl) (v := ?v136) ?y136 ?r136
        case y136 => (intro u hu; go_simp; try rfl)
        simp only [Act.put, List.setIfInBounds_toArray, List.set_cons_zero, List.set_cons_succ]
        refine take_held 10 S0 rfl (by kernel_rfl) (by kernel_rfl) (by kernel_rfl) (fun _ _ _ h => h) (by kernel_rfl) (v := .agg #[.int .i64 Y.1, .int .i64 Y.2]) ?y137 ?r137
        case y137 => (intro u hu; exact run_load_op 30 _ rfl ⟨g, hh * 2, none⟩ _ rfl (HY.out u hu) (aggCell u) infoCell2)
        simp only [Act.put, List.setIfInBounds_toArray, List.set_cons_zero, List.set_cons_succ]
        refine wpAnyH_ready (rs := [11]) (by kernel_rfl) (by simp) (AllReadyH.cons ((nth_eq _ 11).trans rfl) ?_ AllReadyH.nil)
        intro K' hK
        refine call_in hK (by kernel_rfl) fy (#[.agg #[.int .i64 X.1, .int .i64 X.2], .agg #[.int .i64 Y.1, .int .i64 Y.2]] ++ fr) ?hr140 (fun v w' => (∃ z : Int, v = .int .i64 z ∧ decide (z < 0) = false) ∧ Below wr.drew.heap.size wr.drew w') ?hc140 ?_
        case hc140 => exact cC.out _ S0
        case hr140 => exact run_call_fn (.tmp 158) (.tmp 164) (.tmp 168) _ rfl rfl rfl rfl hE
        rintro v x1 ⟨⟨z, rfl, hz⟩, b1⟩
        have S1 : Below wr.heap.size wr x1 := bcat S0 b1 (Nat.le_refl _)
        refine ⟨S1, ?_⟩
        simp only [Act.put, List.setIfInBounds_toArray, List.set_cons_zero, List.set_cons_succ]
        refine take_held 12 S1 rfl (by kernel_rfl) (by kernel_rfl) (by kernel_rfl) (fun _ _ _ h => h) (by kernel_rfl) (v := ?v138) ?y138 ?r138
        case y138 => (intro u hu; go_simp; try rfl)
        simp only [Act.put, List.setIfInBounds_toArray, List.set_cons_zero, List.set_cons_succ]
        refine take_held 13 S1 rfl (by kernel_rfl) (by kernel_rfl) (by kernel_rfl) (fun _ _ _ h => h) (by kernel_rfl) (v := ?v139) ?y139 ?r139
        case y139 => (intro u hu; go_simp; try rfl)
        simp only [Act.put, List.setIfInBounds_toArray, List.set_cons_zero, List.set_cons_succ]
        refine done_held (by kernel_rfl) ?_ _
        go_wp2_with fail
        go_roundw
        case measure => simp [intOf]; omega
        case rel =>
          exact ⟨hh + 1, r, by omega, by omega, rh, by go_num, rfl, SS.go K HS.out S1, ⟨HLo.out hk, HI2⟩, HF.out.trans (Fx.below S1)⟩
    · obtain rfl : s = r := by omega
      obtain ⟨e, he⟩ : ∃ e, mid + m - s = e := ⟨_, rfl⟩
      have ee : (N : Int) - (s : Int) = (e : Int) := by omega
      have HC : Cut (fun t => key (x t)) p a m b mid s := by
        have c1 := HI.out.1
        have c2 := HI.out.2
        rw [HP.out] at c1 c2
        refine ⟨?_, ?_, ?_, ?_⟩
        · rw [if_neg hmm]; omega
        · rw [if_neg hmm]; omega
        · intro t t1 t2
          rw [if_neg hmm] at t1
          exact c1 t (by omega) t2
        · intro t t1 t2
          rw [if_neg hmm] at t2
          exact c2 t t1 t2
      have HA0 := HT.out.halves HMid.out h0 h1 HC
      rw [he] at HA0
      have HA : Hid (Halves (fun t => key (x t)) (rot p s m e) a mid b s e) := HA0
      have hse : e + s ≤ mid + m ∧ mid + m ≤ e + s := by omega
      have HRM : Hid (Mix a b p (rot p s m e)) := (rot_mix p (by omega) (by omega)).wide (by omega) (by omega)
      have HRI : Hid (¬ (s < m ∧ m < e) → rot p s m e = p) := fun q => rot_id p (by omega) (by omega) q
      clear HC HA0 he HI
      by_cases q1 : s < m
      · by_cases q2 : a < s
        · by_cases q3 : e < b
          · have g1 : decide ((s : Int) < (m : Int)) = true := decide_eq_true (by omega)
            have g2 : decide ((m : Int) < (e : Int)) = true := decide_eq_true (by omega)
            have g3 : decide ((a : Int) < (s : Int)) = true := decide_eq_true (by omega)
            have g4 : decide ((s : Int) < (mid : Int)) = true := decide_eq_true (by omega)
            have g5 : decide ((mid : Int) < (e : Int)) = true := decide_eq_true (by omega)
            have g6 : decide ((e : Int) < (b : Int)) = true := decide_eq_true (by omega)
            go_upto_region 41 with (go_at_call 75; refine (rotate_any K (cap := cap) hn p wr HS.out s m e (by omega) (by omega) (by omega)).mono ?_; rintro e' w1 ⟨rfl, s1, f1⟩; have HS1 : Hid (SS g S n x Cx (rot p s m e) w1) := s1; have HF1 : Hid (Fx g w w1) := HF.out.trans f1; clear s1 f1)
            go_upto_region 43 with (go_at_call 70; refine (HIH.out (rot p s m e) w1 a s mid (by omega) HS1.out (HA.out.twoL (by omega) (by omega)) (by omega)).mono ?_; rintro e' w2 ⟨rfl, q2, s2, m2, u2, f2⟩; have HS2 : Hid (SS g S n x Cx q2 w2) := s2; have HM2 : Hid (Mix a mid (rot p s m e) q2) := m2; have H2 : Hid (Hal2 (fun t => key (x t)) q2 a mid b e) := HA.out.done m2 u2; have HF2 : Hid (Fx g w w2) := HF1.out.trans f2; clear s2 m2 u2 f2)
            go_wp2_with (go_at_call 70; refine (HIH.out q2 w2 mid e b (by omega) HS2.out (H2.out.two (by omega) (by omega)) (by omega)).mono ?_; rintro e' w3 ⟨rfl, q3, s3, m3, u3, f3⟩)
            go_end0
            exact ⟨rfl, q3, s3, (HRM.out.trans (HM2.out.wide (Nat.le_refl _) (by omega))).trans (m3.wide (by omega) (Nat.le_refl _)), H2.out.done m3 u3, HF2.out.trans f3⟩
          · exfalso
            omega
        · by_cases q3 : e < b
          · have g1 : decide ((s : Int) < (m : Int)) = true := decide_eq_true (by omega)
            have g2 : decide ((m : Int) < (e : Int)) = true := decide_eq_true (by omega)
            have g3 : decide ((a : Int) < (s : Int)) = false := decide_eq_false (by omega)
            have g5 : decide ((mid : Int) < (e : Int)) = true := decide_eq_true (by omega)
            have g6 : decide ((e : Int) < (b : Int)) = true := decide_eq_true (by omega)
            go_upto_region 41 with (go_at_call 75; refine (rotate_any K (cap := cap) hn p wr HS.out s m e (by omega) (by omega) (by omega)).mono ?_; rintro e' w1 ⟨rfl, s1, f1⟩; have HS1 : Hid (SS g S n x Cx (rot p s m e) w1) := s1; have HF1 : Hid (Fx g w w1) := HF.out.trans f1; clear s1 f1)
            have HS2 := HS1
            have HM2 : Hid (Mix a mid (rot p s m e) (rot p s m e)) := Mix.refl _ _ _
            have H2 : Hid (Hal2 (fun t => key (x t)) (rot p s m e) a mid b e) := HA.out.done (Mix.refl _ _ _) (HA.out.skip (by omega))
            have HF2 := HF1
            go_upto_region 43 with fail
            go_wp2_with (go_at_call 70; refine (HIH.out (rot p s m e) w1 mid e b (by omega) HS2.out (H2.out.two (by omega) (by omega)) (by omega)).mono ?_; rintro e' w3 ⟨rfl, q3, s3, m3, u3, f3⟩)
            go_end0
            exact ⟨rfl, q3, s3, (HRM.out.trans (HM2.out.wide (Nat.le_refl _) (by omega))).trans (m3.wide (by omega) (Nat.le_refl _)), H2.out.done m3 u3, HF2.out.trans f3⟩
          · have g1 : decide ((s : Int) < (m : Int)) = true := decide_eq_true (by omega)
            have g2 : decide ((m : Int) < (e : Int)) = true := decide_eq_true (by omega)
            have g3 : decide ((a : Int) < (s : Int)) = false := decide_eq_false (by omega)
            have g5 : decide ((mid : Int) < (e : Int)) = true := decide_eq_true (by omega)
            have g6 : decide ((e : Int) < (b : Int)) = false := decide_eq_false (by omega)
            go_upto_region 41 with (go_at_call 75; refine (rotate_any K (cap := cap) hn p wr HS.out s m e (by omega) (by omega) (by omega)).mono ?_; rintro e' w1 ⟨rfl, s1, f1⟩; have HS1 : Hid (SS g S n x Cx (rot p s m e) w1) := s1; have HF1 : Hid (Fx g w w1) := HF.out.trans f1; clear s1 f1)
            have HS2 := HS1
            have HM2 : Hid (Mix a mid (rot p s m e) (rot p s m e)) := Mix.refl _ _ _
            have H2 : Hid (Hal2 (fun t => key (x t)) (rot p s m e) a mid b e) := HA.out.done (Mix.refl _ _ _) (HA.out.skip (by omega))
            have HF2 := HF1
            go_upto_region 43 with fail
            go_wp2_with fail
            go_end0
            exact ⟨rfl, (rot p s m e), HS2.out, HRM.out.trans (HM2.out.wide (Nat.le_refl _) (by omega)), H2.out.done (Mix.refl _ _ _) (H2.out.skip (by omega)), HF2.out⟩
      · by_cases q2 : s < mid
        · have g1 : decide ((s : Int) < (m : Int)) = false := decide_eq_false (by omega)
          have g3 : decide ((a : Int) < (s : Int)) = true := decide_eq_true (by omega)
          have g4 : decide ((s : Int) < (mid : Int)) = true := decide_eq_true (by omega)
          have g5 : decide ((mid : Int) < (e : Int)) = false := decide_eq_false (by omega)
          have HS1 : Hid (SS g S n x Cx (rot p s m e) wr) := by rw [HRI.out (by omega)]; exact HS.out
          have HF1 : Hid (Fx g w wr) := HF
          go_upto_region 41 with fail
          go_upto_region 43 with (go_at_call 70; refine (HIH.out (rot p s m e) wr a s mid (by omega) HS1.out (HA.out.twoL (by omega) (by omega)) (by omega)).mono ?_; rintro e' w2 ⟨rfl, q2, s2, m2, u2, f2⟩; have HS2 : Hid (SS g S n x Cx q2 w2) := s2; have HM2 : Hid (Mix a mid (rot p s m e) q2) := m2; have H2 : Hid (Hal2 (fun t => key (x t)) q2 a mid b e) := HA.out.done m2 u2; have HF2 : Hid (Fx g w w2) := HF1.out.trans f2; clear s2 m2 u2 f2)
          go_wp2_with fail
          go_end0
          exact ⟨rfl, q2, HS2.out, HRM.out.trans (HM2.out.wide (Nat.le_refl _) (by omega)), H2.out.done (Mix.refl _ _ _) (H2.out.skip (by omega)), HF2.out⟩
        · have g1 : decide ((s : Int) < (m : Int)) = false := decide_eq_false (by omega)
          have g3 : decide ((a : Int) < (s : Int)) = true := decide_eq_true (by omega)
          have g4 : decide ((s : Int) < (mid : Int)) = false := decide_eq_false (by omega)
          have g5 : decide ((mid : Int) < (e : Int)) = false := decide_eq_false (by omega)
          have HS1 : Hid (SS g S n x Cx (rot p s m e) wr) := by rw [HRI.out (by omega)]; exact HS.out
          have HF1 : Hid (Fx g w wr) := HF
          go_upto_region 41 with fail
          have HS2 := HS1
          have HM2 : Hid (Mix a mid (rot p s m e) (rot p s m e)) := Mix.refl _ _ _
          have H2 : Hid (Hal2 (fun t => key (x t)) (rot p s m e) a mid b e) := HA.out.done (Mix.refl _ _ _) (HA.out.skip (by omega))
          have HF2 := HF1
          go_upto_region 43 with fail
          go_wp2_with fail
          go_end0
          exact ⟨rfl, (rot p s m e), HS2.out, HRM.out.trans (HM2.out.wide (Nat.le_refl _) (by omega)), H2.out.done (Mix.refl _ _ _) (H2.out.skip (by omega)), HF2.out⟩
theorem symMerge_any (hn : n ≤ 1000000) : ∀ (d : Nat) (p : Nat → Nat) (w : World) (a m b : Nat), b - a ≤ d → SS g S n x Cx p w → Two (fun t => key (x t)) p a m b → b ≤ n → Calls Try.prog 70 #[.slice (some ⟨g, 0, none⟩) n cap, .int .i64 a, .int .i64 m, .int .i64 b, .func (.func fy) #[] fr] w fun e w' => e = .returned (.tuple #[]) ∧ ∃ q, SS g S n x Cx q w' ∧ Mix a b p q ∧ Up (fun t => key (x t)) q a b ∧ Fx g w w'
  | 0, p, w, a, m, b, hd, h, hT, hb => by
    have := hT.am
    have := hT.mb
    omega
  | d + 1, p, w, a, m, b, hd, h, hT, hb => by
    have am := hT.am
    have mb := hT.mb
    by_cases h1 : m = a + 1
    · exact merge_one K hn p w h a m b hT hb h1
    · by_cases h2 : b = m + 1
      · exact merge_last K hn p w h a m b hT hb (by omega) h2
      · by_cases h3 : (a + b) / 2 < m
        · exact merge_high K hn p w h a m b hT hb (by omega) (by omega) d (symMerge_any hn d) hd _ rfl h3
        · exact merge_low K hn p w h a m b hT hb (by omega) (by omega) d (symMerge_any hn d) hd _ rfl h3
end
end Go.Proofs.Ytebfjldbhmmmlaa.Srt
