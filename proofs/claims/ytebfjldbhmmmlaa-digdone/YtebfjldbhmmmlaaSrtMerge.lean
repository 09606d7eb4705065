/-
  Merging: one item among those on the other side.
-/
import Derived.Test.YtebfjldbhmmmlaaDgS
namespace Go.Proofs.Ytebfjldbhmmmlaa.Srt
set_option linter.unusedVariables false
set_option linter.unusedSimpArgs false
open Go Go.RowKit Go.Shelf Go.Proofs Go.Proofs.Ytebfjldbhmmmlaa.Grid
attribute [local go_sem] Oper.semAt_some

section
variable {fy : Nat} {fr : Array Value} {key : Cell → Int} {g : Nat} {Cx : World → Prop} (K : Cmp fy fr key g Cx) {S n cap : Nat} {x : Nat → Cell}
include K
set_option maxRecDepth 100000 in
set_option maxHeartbeats 4000000 in
theorem merge_one (hn : n ≤ 1000000) (p : Nat → Nat) (w : World) (h : SS g S n x Cx p w) (a m b : Nat) (hT : Two (fun t => key (x t)) p a m b) (hb : b ≤ n) (h1 : m = a + 1) :
    Calls Try.prog 70 #[.slice (some ⟨g, 0, none⟩) n cap, .int .i64 a, .int .i64 m, .int .i64 b, .func (.func fy) #[] fr] w fun e w' => e = .returned (.tuple #[]) ∧ ∃ q, SS g S n x Cx q w' ∧ Mix a b p q ∧ Up (fun t => key (x t)) q a b ∧ Fx g w w' := by
  have am := hT.am
  have mb := hT.mb
  have H0 : Hid (SS g S n x Cx p w) := h
  have HT : Hid (Two (fun t => key (x t)) p a m b) := hT
  have hE := K.enter
  clear h hT
  have HL : Hid (∀ s t, m ≤ s → s ≤ t → t < b → key (x (p s)) ≤ key (x (p t))) := fun s t h1 h2 h3 => key_mono HT.out.right h1 h2 h3
  have hma : (m : Int) - (a : Int) = 1 := by omega
  go_enter Try.func70, Try.ntmps70
  go_wp2_with fail
  go_loopw [10, 11] (fun v10 v11 wr => ∃ (i j : Nat), m ≤ i ∧ i ≤ j ∧ j ≤ b ∧ v10 = .int .i64 i ∧ v11 = .int .i64 j ∧ Hid (SS g S n x Cx p wr) ∧ Hid ((∀ t, m ≤ t → t < i → key (x (p t)) < key (x (p a))) ∧ (∀ t, j ≤ t → t < b → ¬ key (x (p t)) < key (x (p a)))) ∧ Hid (Fx g w wr)) (fun v10 v11 _ => (intOf v11 - intOf v10).toNat)
  case atStart => exact ⟨m, b, Nat.le_refl _, by omega, Nat.le_refl _, rfl, rfl, H0, (⟨fun t h1 h2 => by omega, fun t h1 h2 => by omega⟩ : (∀ t, m ≤ t → t < m → key (x (p t)) < key (x (p a))) ∧ (∀ t, b ≤ t → t < b → ¬ key (x (p t)) < key (x (p a)))), Fx.refl _ _⟩
  case round =>
    clear H0
    obtain ⟨i, j, mi, ij, jb, rfl, rfl, HS, HI, HF⟩ := hrel
    by_cases hlt : i < j
    · obtain ⟨hh, hhh⟩ : ∃ hh, (i + j) / 2 = hh := ⟨_, rfl⟩
      have eh : ((i : Int) + (j : Int)) / 2 = (hh : Int) := by omega
      have hb1 : i ≤ hh ∧ hh < j := by omega
      have HLo : Hid (key (x (p hh)) < key (x (p a)) → (∀ t, m ≤ t → t < hh + 1 → key (x (p t)) < key (x (p a)))) := fun q t t1 t2 => by have := HL.out t hh t1 (by omega) (by omega); omega
      have HHi : Hid (¬ key (x (p hh)) < key (x (p a)) → (∀ t, hh ≤ t → t < b → ¬ key (x (p t)) < key (x (p a)))) := fun q t t1 t2 => by have := HL.out hh t (by omega) t1 t2; omega
      clear hhh
      have HI1 := HI.out.1
      have HI2 := HI.out.2
      have cX := HS.out.row.cell (k := hh) (by omega)
      have cY := HS.out.row.cell (k := a) (by omega)
      have hXn : (hh : Int) < (n : Int) := by omega
      have hYn : (a : Int) < (n : Int) := by omega
      generalize hX : x (p hh) = X at *
      generalize hY : x (p a) = Y at *
      clear hX hY
      have HX : Hid (∀ u, Below wr.heap.size wr u → ∀ jj zz, #[Value.int .i64 X.1, .int .i64 X.2][jj]? = some zz → u.cell? ((⟨g, hh * 2, none⟩ : Addr).add jj) = some zz) := fun u hu => two_at hu cX.1 cX.2
      have HY : Hid (∀ u, Below wr.heap.size wr u → ∀ jj zz, #[Value.int .i64 Y.1, .int .i64 Y.2][jj]? = some zz → u.cell? ((⟨g, a * 2, none⟩ : Addr).add jj) = some zz) := fun u hu => two_at hu cY.1 cY.2
      have cC : Hid (∀ u, Below wr.heap.size wr u → _) := fun u hu => K.call X Y u (K.keep _ _ HS.out.cx (Fx.below hu))
      have S0 : Below wr.heap.size wr wr.drew := (Below.refl _ _).drew
      by_cases hk : key X < key Y
      · rw [decide_eq_true hk] at cC
        clear cX cY
        go_upto_region 5 with fail
        refine start_held (S := fun u => Below wr.heap.size wr u) 11 rfl (by kernel_rfl) (S0) ?_
        simp only [Array.replicate_succ, Array.replicate_zero, List.push_toArray, List.nil_append, List.cons_append]
        refine take_held 0 S0 rfl (by kernel_rfl) (by kernel_rfl) (by kernel_rfl) (fun _ _ _ h => h) (by kernel_rfl) (v := ?v39) ?y39 ?r39
        case y39 => (intro u hu; go_simp; try rfl)
        simp only [Act.put, List.setIfInBounds_toArray, List.set_cons_zero, List.set_cons_succ]
        refine take_held 1 S0 rfl (by kernel_rfl) (by kernel_rfl) (by kernel_rfl) (fun _ _ _ h => h) (by kernel_rfl) (v := ?v40) ?y40 ?r40
        case y40 => (intro u hu; go_simp; try rfl)
        simp only [Act.put, List.setIfInBounds_toArray, List.set_cons_zero, List.set_cons_succ]
        refine take_held 2 S0 rfl (by kernel_rfl) (by kernel_rfl) (by kernel_rfl) (fun _ _ _ h => h) (by kernel_rfl) (v := ?v41) ?y41 ?r41
        case y41 => (intro u hu; go_simp; try rfl)
        simp only [Act.put, List.setIfInBounds_toArray, List.set_cons_zero, List.set_cons_succ]
        refine take_held 3 S0 rfl (by kernel_rfl) (by kernel_rfl) (by kernel_rfl) (fun _ _ _ h => h) (by kernel_rfl) (v := ?v42) ?y42 ?r42
        case y42 => (intro u hu; go_simp; try rfl)
        simp only [Act.put, List.setIfInBounds_toArray, List.set_cons_zero, List.set_cons_succ]
        refine take_held 4 S0 rfl (by kernel_rfl) (by kernel_rfl) (by kernel_rfl) (fun _ _ _ h => h) (by kernel_rfl) (v := .agg #[.int .i64 X.1, .int .i64 X.2]) ?y43 ?r43
        case y43 => (intro u hu; exact run_load_op 30 _ rfl ⟨g, hh * 2, none⟩ _ rfl (HX.out u hu) (aggCell u) infoCell2)
        simp only [Act.put, List.setIfInBounds_toArray, List.set_cons_zero, List.set_cons_succ]
        refine take_held 5 S0 rfl (by kernel_rfl) (by kernel_rfl) (by kernel_rfl) (fun _ _ _ h => h) (by kernel_rfl) (v := ?v44) ?y44 ?r44
        case y44 => (intro u hu; go_simp; try rfl)
        simp only [Act.put, List.setIfInBounds_toArray, List.set_cons_zero, List.set_cons_succ]
        refine take_held 6 S0 rfl (by kernel_rfl) (by kernel_rfl) (by kernel_rfl) (fun _ _ _ h => h) (by kernel_rfl) (v := ?v45) ?y45 ?r45
        case y45 => (intro u hu; go_simp; try rfl)
        simp only [Act.put, List.setIfInBounds_toArray, List.set_cons_zero, List.set_cons_succ]
        refine take_held 7 S0 rfl (by kernel_rfl) (by kernel_rfl) (by kernel_rfl) (fun _ _ _ h => h) (by kernel_rfl) (v := ?v46) ?y46 ?r46
        case y46 => (intro u hu; go_simp; try rfl)
        simp only [Act.put, List.setIfInBounds_toArray, List.set_cons_zero, List.set_cons_succ]
        refine take_held 8 S0 rfl (by kernel_rfl) (by kernel_rfl) (by kernel_rfl) (fun _ _ _ h => h) (by kernel_rfl) (v := .agg #[.int .i64 Y.1, .int .i64 Y.2]) ?y47 ?r47
        case y47 => (intro u hu; exact run_load_op 30 _ rfl ⟨g, a * 2, none⟩ _ rfl (HY.out u hu) (aggCell u) infoCell2)
        simp only [Act.put, List.setIfInBounds_toArray, List.set_cons_zero, List.set_cons_succ]
        refine wpAnyH_ready (rs := [9]) (by kernel_rfl) (by simp) (AllReadyH.cons ((nth_eq _ 9).trans rfl) ?_ AllReadyH.nil)
        intro K' hK
        refine call_in hK (by kernel_rfl) fy (#[.agg #[.int .i64 X.1, .int .i64 X.2], .agg #[.int .i64 Y.1, .int .i64 Y.2]] ++ fr) ?hr49 (fun v w' => (∃ z : Int, v = .int .i64 z ∧ decide (z < 0) = true) ∧ Below wr.drew.heap.size wr.drew w') ?hc49 ?_
        case hc49 => exact cC.out _ S0
        case hr49 => exact run_call_fn (.tmp 40) (.tmp 44) (.tmp 48) _ rfl rfl rfl rfl hE
        rintro v x1 ⟨⟨z, rfl, hz⟩, b1⟩
        have S1 : Below wr.heap.size wr x1 := bcat S0 b1 (Nat.le_refl _)
        refine ⟨S1, ?_⟩
        simp only [Act.put, List.setIfInBounds_toArray, List.set_cons_zero, List.set_cons_succ]
        refine take_held 10 S1 rfl (by kernel_rfl) (by kernel_rfl) (by kernel_rfl) (fun _ _ _ h => h) (by kernel_rfl) (v := ?v48) ?y48 ?r48
        case y48 => (intro u hu; go_simp; try rfl)
        simp only [Act.put, List.setIfInBounds_toArray, List.set_cons_zero, List.set_cons_succ]
        refine done_held (by kernel_rfl) ?_ _
        go_wp2_with fail
        go_roundw
        case measure => simp [intOf]; omega
        case rel =>
          exact ⟨hh + 1, j, by omega, by omega, jb, by go_num, rfl, SS.go K HS.out S1, ⟨HLo.out hk, HI2⟩, HF.out.trans (Fx.below S1)⟩
      · rw [decide_eq_false hk] at cC
        clear cX cY
        go_upto_region 5 with fail
        refine start_held (S := fun u => Below wr.heap.size wr u) 11 rfl (by kernel_rfl) (S0) ?_
        simp only [Array.replicate_succ, Array.replicate_zero, List.push_toArray, List.nil_append, List.cons_append]
        refine take_held 0 S0 rfl (by kernel_rfl) (by kernel_rfl) (by kernel_rfl) (fun _ _ _ h => h) (by kernel_rfl) (v := ?v50) ?y50 ?r50
        case y50 => (intro u hu; go_simp; try rfl)
        simp only [Act.put, List.setIfInBounds_toArray, List.set_cons_zero, List.set_cons_succ]
        refine take_held 1 S0 rfl (by kernel_rfl) (by kernel_rfl) (by kernel_rfl) (fun _ _ _ h => h) (by kernel_rfl) (v := ?v51) ?y51 ?r51
        case y51 => (intro u hu; go_simp; try rfl)
        simp only [Act.put, List.setIfInBounds_toArray, List.set_cons_zero, List.set_cons_succ]
        refine take_held 2 S0 rfl (by kernel_rfl) (by kernel_rfl) (by kernel_rfl) (fun _ _ _ h => h) (by kernel_rfl) (v := ?v52) ?y52 ?r52
        case y52 => (intro u hu; go_simp; try rfl)
        simp only [Act.put, List.setIfInBounds_toArray, List.set_cons_zero, List.set_cons_succ]
        refine take_held 3 S0 rfl (by kernel_rfl) (by kernel_rfl) (by kernel_rfl) (fun _ _ _ h => h) (by kernel_rfl) (v := ?v53) ?y53 ?r53
        case y53 => (intro u hu; go_simp; try rfl)
        simp only [Act.put, List.setIfInBounds_toArray, List.set_cons_zero, List.set_cons_succ]
        refine take_held 4 S0 rfl (by kernel_rfl) (by kernel_rfl) (by kernel_rfl) (fun _ _ _ h => h) (by kernel_rfl) (v := .agg #[.int .i64 X.1, .int .i64 X.2]) ?y54 ?r54
        case y54 => (intro u hu; exact run_load_op 30 _ rfl ⟨g, hh * 2, none⟩ _ rfl (HX.out u hu) (aggCell u) infoCell2)
        simp only [Act.put, List.setIfInBounds_toArray, List.set_cons_zero, List.set_cons_succ]
        refine take_held 5 S0 rfl (by kernel_rfl) (by kernel_rfl) (by kernel_rfl) (fun _ _ _ h => h) (by kernel_rfl) (v := ?v55) ?y55 ?r55
        case y55 => (intro u hu; go_simp; try rfl)
        simp only [Act.put, List.setIfInBounds_toArray, List.set_cons_zero, List.set_cons_succ]
        refine take_held 6 S0 rfl (by kernel_rfl) (by kernel_rfl) (by kernel_rfl) (fun _ _ _ h => h) (by kernel_rfl) (v := ?v56) ?y56 ?r56
        case y56 => (intro u hu; go_simp; try rfl)
        simp only [Act.put, List.setIfInBounds_toArray, List.set_cons_zero, List.set_cons_succ]
        refine take_held 7 S0 rfl (by kernel_rfl) (by kernel_rfl) (by kernel_rfl) (fun _ _ _ h => h) (by kernel_rfl) (v := ?v57) ?y57 ?r57
        case y57 => (intro u hu; go_simp; try rfl)
        simp only [Act.put, List.setIfInBounds_toArray, List.set_cons_zero, List.set_cons_succ]
        refine take_held 8 S0 rfl (by kernel_rfl) (by kernel_rfl) (by kernel_rfl) (fun _ _ _ h => h) (by kernel_rfl) (v := .agg #[.int .i64 Y.1, .int .i64 Y.2]) ?y58 ?r58
        case y58 => (intro u hu; exact run_load_op 30 _ rfl ⟨g, a * 2, none⟩ _ rfl (HY.out u hu) (aggCell u) infoCell2)
        simp only [Act.put, List.setIfInBounds_toArray, List.set_cons_zero, List.set_cons_succ]
        refine wpAnyH_ready (rs := [9]) (by kernel_rfl) (by simp) (AllReadyH.cons ((nth_eq _ 9).trans rfl) ?_ AllReadyH.nil)
        intro K' hK
        refine call_in hK (by kernel_rfl) fy (#[.agg #[.int .i64 X.1, .int .i64 X.2], .agg #[.int .i64 Y.1, .int .i64 Y.2]] ++ fr) ?hr60 (fun v w' => (∃ z : Int, v = .int .i64 z ∧ decide (z < 0) = false) ∧ Below wr.drew.heap.size wr.drew w') ?hc60 ?_
        case hc60 => exact cC.out _ S0
        case hr60 => exact run_call_fn (.tmp 40) (.tmp 44) (.tmp 48) _ rfl rfl rfl rfl hE
        rintro v x1 ⟨⟨z, rfl, hz⟩, b1⟩
        have S1 : Below wr.heap.size wr x1 := bcat S0 b1 (Nat.le_refl _)
        refine ⟨S1, ?_⟩
        simp only [Act.put, List.setIfInBounds_toArray, List.set_cons_zero, List.set_cons_succ]
        refine take_held 10 S1 rfl (by kernel_rfl) (by kernel_rfl) (by kernel_rfl) (fun _ _ _ h => h) (by kernel_rfl) (v := ?v59) ?y59 ?r59
        case y59 => (intro u hu; go_simp; try rfl)
        simp only [Act.put, List.setIfInBounds_toArray, List.set_cons_zero, List.set_cons_succ]
        refine done_held (by kernel_rfl) ?_ _
        go_wp2_with fail
        go_roundw
        case measure => simp [intOf]; omega
        case rel =>
          exact ⟨i, hh, mi, by omega, by omega, rfl, rfl, SS.go K HS.out S1, ⟨HI1, HHi.out hk⟩, HF.out.trans (Fx.below S1)⟩
    · obtain rfl : i = j := by omega
      obtain ⟨i1, hi1⟩ : ∃ i1, i = i1 + 1 := ⟨i - 1, by omega⟩
      have HUp := HT.out.one h1 mi jb HI.out.1 HI.out.2
      rw [hi1, Nat.add_sub_cancel] at HUp
      have HUp2 : Hid (Up (fun t => key (x t)) (mv p a i1) a b) := HUp
      have e1 : (i : Int) - 1 = (i1 : Int) := by omega
      have HS0 : Hid (SS g S n x Cx (mv p a a) wr) := by rw [mv_zero]; exact HS.out
      have HF0 : Hid (Fx g w wr) := HF
      have hi1b : i1 < b := by omega
      have hai1 : a ≤ i1 := by omega
      clear HS HF hi1 HUp HI
      go_wp2_with fail
      go_loopw [13] (fun v wr => ∃ k : Nat, a ≤ k ∧ k ≤ i1 ∧ v = .int .i64 k ∧ Hid (SS g S n x Cx (mv p a k) wr) ∧ Hid (Fx g w wr)) (fun v _ => i1 - (intOf v).toNat)
      case atStart => exact ⟨a, Nat.le_refl _, hai1, rfl, HS0, HF0⟩
      case round =>
        clear HS0 HF0
        obtain ⟨k, ak, ki, rfl, HS, HF⟩ := hrel
        by_cases hlt : k < i1
        · obtain ⟨k1, hk1⟩ : ∃ k1, k + 1 = k1 := ⟨_, rfl⟩
          have HMv : Hid (swp (mv p a k) k k1 = mv p a k1) := by rw [← hk1]; exact mv_succ p ak
          have ek : (k : Int) + 1 = (k1 : Int) := by omega
          have ek2 : IntKind.i64.wrap (k1 : Int) = (k1 : Int) := by rw [IntKind.wrap_i64]; omega
          have hdk : decide ((k : Int) < (i1 : Int)) = true := decide_eq_true (by omega)
          have HSw := SS.swap K HS.out (i := k) (j := k1) (by omega) (by omega) (by omega)
          obtain ⟨c0, c1⟩ := HS.out.row.cell (k := k) (by omega)
          obtain ⟨d0, d1⟩ := HS.out.row.cell (k := k1) (by omega)
          have hfz := HS.out.row.frozen
          have hkn : (k : Int) < (n : Int) := by omega
          have hkn2 : (k1 : Int) < (n : Int) := by omega
          have hkk : k ≠ k1 := by omega
          generalize x (mv p a k k) = X' at *
          generalize x (mv p a k k1) = Y' at *
          have HSw2 : Hid _ := HSw
          clear HSw
          go_wp2_with fail
          go_region
          all_goals
            go_wp2_with fail
            go_roundw
            case rel =>
              exact ⟨k1, by omega, by omega, by first | rfl | go_num, by rw [← HMv.out]; exact SS.go K HSw2.out.1 (Below.refl _ _).drew, (HF.out.trans HSw2.out.2).trans (Fx.below (Below.refl _ _).drew)⟩
            case measure => simp [intOf]; omega
        · obtain rfl : k = i1 := by omega
          have hdk : decide ((k : Int) < (k : Int)) = false := decide_eq_false (by omega)
          go_wp2_with fail
          exact bodyPost_ret (results_none rfl _ _ _) rfl ⟨rfl, _, HS.out, mv_mix p hai1 hi1b, HUp2.out, HF.out⟩
set_option maxRecDepth 100000 in
set_option maxHeartbeats 4000000 in
theorem merge_last (hn : n ≤ 1000000) (p : Nat → Nat) (w : World) (h : SS g S n x Cx p w) (a m b : Nat) (hT : Two (fun t => key (x t)) p a m b) (hb : b ≤ n) (h0 : a + 2 ≤ m) (h1 : b = m + 1) :
    Calls Try.prog 70 #[.slice (some ⟨g, 0, none⟩) n cap, .int .i64 a, .int .i64 m, .int .i64 b, .func (.func fy) #[] fr] w fun e w' => e = .returned (.tuple #[]) ∧ ∃ q, SS g S n x Cx q w' ∧ Mix a b p q ∧ Up (fun t => key (x t)) q a b ∧ Fx g w w' := by
  have am := hT.am
  have mb := hT.mb
  have H0 : Hid (SS g S n x Cx p w) := h
  have HT : Hid (Two (fun t => key (x t)) p a m b) := hT
  have hE := K.enter
  clear h hT
  have HL : Hid (∀ s t, a ≤ s → s ≤ t → t < m → key (x (p s)) ≤ key (x (p t))) := fun s t h1 h2 h3 => key_mono HT.out.left h1 h2 h3
  have hma : decide ((m : Int) - (a : Int) = 1) = false := decide_eq_false (by omega)
  have hma2 : ((m : Int) - (a : Int) == 1) = false := by simp; omega
  have hbm : (b : Int) - (m : Int) = 1 := by omega
  go_enter Try.func70, Try.ntmps70
  go_wp2_with fail
  go_loopw [14, 15] (fun v10 v11 wr => ∃ (i j : Nat), a ≤ i ∧ i ≤ j ∧ j ≤ m ∧ v10 = .int .i64 i ∧ v11 = .int .i64 j ∧ Hid (SS g S n x Cx p wr) ∧ Hid ((∀ t, a ≤ t → t < i → ¬ key (x (p m)) < key (x (p t))) ∧ (∀ t, j ≤ t → t < m → key (x (p m)) < key (x (p t)))) ∧ Hid (Fx g w wr)) (fun v10 v11 _ => (intOf v11 - intOf v10).toNat)
  case atStart => exact ⟨a, m, Nat.le_refl _, by omega, Nat.le_refl _, rfl, rfl, H0, (⟨fun t h1 h2 => by omega, fun t h1 h2 => by omega⟩ : (∀ t, a ≤ t → t < a → ¬ key (x (p m)) < key (x (p t))) ∧ (∀ t, m ≤ t → t < m → key (x (p m)) < key (x (p t)))), Fx.refl _ _⟩
  case round =>
    clear H0
    obtain ⟨i, j, mi, ij, jb, rfl, rfl, HS, HI, HF⟩ := hrel
    by_cases hlt : i < j
    · obtain ⟨hh, hhh⟩ : ∃ hh, (i + j) / 2 = hh := ⟨_, rfl⟩
      have eh : ((i : Int) + (j : Int)) / 2 = (hh : Int) := by omega
      have hb1 : i ≤ hh ∧ hh < j := by omega
      have HLo : Hid (¬ key (x (p m)) < key (x (p hh)) → (∀ t, a ≤ t → t < hh + 1 → ¬ key (x (p m)) < key (x (p t)))) := fun q t t1 t2 => by have := HL.out t hh t1 (by omega) (by omega); omega
      have HHi : Hid (key (x (p m)) < key (x (p hh)) → (∀ t, hh ≤ t → t < m → key (x (p m)) < key (x (p t)))) := fun q t t1 t2 => by have := HL.out hh t (by omega) t1 t2; omega
      clear hhh
      have HI1 := HI.out.1
      have HI2 := HI.out.2
      have cX := HS.out.row.cell (k := m) (by omega)
      have cY := HS.out.row.cell (k := hh) (by omega)
      have hXn : (m : Int) < (n : Int) := by omega
      have hYn : (hh : Int) < (n : Int) := by omega
      generalize hX : x (p m) = X at *
      generalize hY : x (p hh) = Y at *
      clear hX hY
      have HX : Hid (∀ u, Below wr.heap.size wr u → ∀ jj zz, #[Value.int .i64 X.1, .int .i64 X.2][jj]? = some zz → u.cell? ((⟨g, m * 2, none⟩ : Addr).add jj) = some zz) := fun u hu => two_at hu cX.1 cX.2
      have HY : Hid (∀ u, Below wr.heap.size wr u → ∀ jj zz, #[Value.int .i64 Y.1, .int .i64 Y.2][jj]? = some zz → u.cell? ((⟨g, hh * 2, none⟩ : Addr).add jj) = some zz) := fun u hu => two_at hu cY.1 cY.2
      have cC : Hid (∀ u, Below wr.heap.size wr u → _) := fun u hu => K.call X Y u (K.keep _ _ HS.out.cx (Fx.below hu))
      have S0 : Below wr.heap.size wr wr.drew := (Below.refl _ _).drew
      by_cases hk : key X < key Y
      · rw [decide_eq_true hk] at cC
        clear cX cY
        go_upto_region 17 with fail
        refine start_held (S := fun u => Below wr.heap.size wr u) 12 rfl (by kernel_rfl) (S0) ?_
        simp only [Array.replicate_succ, Array.replicate_zero, List.push_toArray, List.nil_append, List.cons_append]
        refine take_held 0 S0 rfl (by kernel_rfl) (by kernel_rfl) (by kernel_rfl) (fun _ _ _ h => h) (by kernel_rfl) (v := ?v61) ?y61 ?r61
        case y61 => (intro u hu; go_simp; try rfl)
        simp only [Act.put, List.setIfInBounds_toArray, List.set_cons_zero, List.set_cons_succ]
        refine take_held 1 S0 rfl (by kernel_rfl) (by kernel_rfl) (by kernel_rfl) (fun _ _ _ h => h) (by kernel_rfl) (v := ?v62) ?y62 ?r62
        case y62 => (intro u hu; go_simp; try rfl)
        simp only [Act.put, List.setIfInBounds_toArray, List.set_cons_zero, List.set_cons_succ]
        refine take_held 2 S0 rfl (by kernel_rfl) (by kernel_rfl) (by kernel_rfl) (fun _ _ _ h => h) (by kernel_rfl) (v := ?v63) ?y63 ?r63
        case y63 => (intro u hu; go_simp; try rfl)
        simp only [Act.put, List.setIfInBounds_toArray, List.set_cons_zero, List.set_cons_succ]
        refine take_held 3 S0 rfl (by kernel_rfl) (by kernel_rfl) (by kernel_rfl) (fun _ _ _ h => h) (by kernel_rfl) (v := ?v64) ?y64 ?r64
        case y64 => (intro u hu; go_simp; try rfl)
        simp only [Act.put, List.setIfInBounds_toArray, List.set_cons_zero, List.set_cons_succ]
        refine take_held 4 S0 rfl (by kernel_rfl) (by kernel_rfl) (by kernel_rfl) (fun _ _ _ h => h) (by kernel_rfl) (v := .agg #[.int .i64 X.1, .int .i64 X.2]) ?y65 ?r65
        case y65 => (intro u hu; exact run_load_op 30 _ rfl ⟨g, m * 2, none⟩ _ rfl (HX.out u hu) (aggCell u) infoCell2)
        simp only [Act.put, List.setIfInBounds_toArray, List.set_cons_zero, List.set_cons_succ]
        refine take_held 5 S0 rfl (by kernel_rfl) (by kernel_rfl) (by kernel_rfl) (fun _ _ _ h => h) (by kernel_rfl) (v := ?v66) ?y66 ?r66
        case y66 => (intro u hu; go_simp; try rfl)
        simp only [Act.put, List.setIfInBounds_toArray, List.set_cons_zero, List.set_cons_succ]
        refine take_held 6 S0 rfl (by kernel_rfl) (by kernel_rfl) (by kernel_rfl) (fun _ _ _ h => h) (by kernel_rfl) (v := ?v67) ?y67 ?r67
        case y67 => (intro u hu; go_simp; try rfl)
        simp only [Act.put, List.setIfInBounds_toArray, List.set_cons_zero, List.set_cons_succ]
        refine take_held 7 S0 rfl (by kernel_rfl) (by kernel_rfl) (by kernel_rfl) (fun _ _ _ h => h) (by kernel_rfl) (v := ?v68) ?y68 ?r68
        case y68 => (intro u hu; go_simp; try rfl)
        simp only [Act.put, List.setIfInBounds_toArray, List.set_cons_zero, List.set_cons_succ]
        refine take_held 8 S0 rfl (by kernel_rfl) (by kernel_rfl) (by kernel_rfl) (fun _ _ _ h => h) (by kernel_rfl) (v := .agg #[.int .i64 Y.1, .int .i64 Y.2]) ?y69 ?r69
        case y69 => (intro u hu; exact run_load_op 30 _ rfl ⟨g, hh * 2, none⟩ _ rfl (HY.out u hu) (aggCell u) infoCell2)
        simp only [Act.put, List.setIfInBounds_toArray, List.set_cons_zero, List.set_cons_succ]
        refine wpAnyH_ready (rs := [9]) (by kernel_rfl) (by simp) (AllReadyH.cons ((nth_eq _ 9).trans rfl) ?_ AllReadyH.nil)
        intro K' hK
        refine call_in hK (by kernel_rfl) fy (#[.agg #[.int .i64 X.1, .int .i64 X.2], .agg #[.int .i64 Y.1, .int .i64 Y.2]] ++ fr) ?hr72 (fun v w' => (∃ z : Int, v = .int .i64 z ∧ decide (z < 0) = true) ∧ Below wr.drew.heap.size wr.drew w') ?hc72 ?_
        case hc72 => exact cC.out _ S0
        case hr72 => exact run_call_fn (.tmp 92) (.tmp 96) (.tmp 100) _ rfl rfl rfl rfl hE
        rintro v x1 ⟨⟨z, rfl, hz⟩, b1⟩
        have S1 : Below wr.heap.size wr x1 := bcat S0 b1 (Nat.le_refl _)
        refine ⟨S1, ?_⟩
        simp only [Act.put, List.setIfInBounds_toArray, List.set_cons_zero, List.set_cons_succ]
        refine take_held 10 S1 rfl (by kernel_rfl) (by kernel_rfl) (by kernel_rfl) (fun _ _ _ h => h) (by kernel_rfl) (v := ?v70) ?y70 ?r70
        case y70 => (intro u hu; go_simp; try rfl)
        simp only [Act.put, List.setIfInBounds_toArray, List.set_cons_zero, List.set_cons_succ]
        refine take_held 11 S1 rfl (by kernel_rfl) (by kernel_rfl) (by kernel_rfl) (fun _ _ _ h => h) (by kernel_rfl) (v := ?v71) ?y71 ?r71
        case y71 => (intro u hu; go_simp; try rfl)
        simp only [Act.put, List.setIfInBounds_toArray, List.set_cons_zero, List.set_cons_succ]
        refine done_held (by kernel_rfl) ?_ _
        go_wp2_with fail
        go_roundw
        case measure => simp [intOf]; omega
        case rel =>
          exact ⟨i, hh, mi, by omega, by omega, rfl, rfl, SS.go K HS.out S1, ⟨HI1, HHi.out hk⟩, HF.out.trans (Fx.below S1)⟩
      · rw [decide_eq_false hk] at cC
        clear cX cY
        go_upto_region 17 with fail
        refine start_held (S := fun u => Below wr.heap.size wr u) 12 rfl (by kernel_rfl) (S0) ?_
        simp only [Array.replicate_succ, Array.replicate_zero, List.push_toArray, List.nil_append, List.cons_append]
        refine take_held 0 S0 rfl (by kernel_rfl) (by kernel_rfl) (by kernel_rfl) (fun _ _ _ h => h) (by kernel_rfl) (v := ?v73) ?y73 ?r73
        case y73 => (intro u hu; go_simp; try rfl)
        simp only [Act.put, List.setIfInBounds_toArray, List.set_cons_zero, List.set_cons_succ]
        refine take_held 1 S0 rfl (by kernel_rfl) (by kernel_rfl) (by kernel_rfl) (fun _ _ _ h => h) (by kernel_rfl) (v := ?v74) ?y74 ?r74
        case y74 => (intro u hu; go_simp; try rfl)
        simp only [Act.put, List.setIfInBounds_toArray, List.set_cons_zero, List.set_cons_succ]
        refine take_held 2 S0 rfl (by kernel_rfl) (by kernel_rfl) (by kernel_rfl) (fun _ _ _ h => h) (by kernel_rfl) (v := ?v75) ?y75 ?r75
        case y75 => (intro u hu; go_simp; try rfl)
        simp only [Act.put, List.setIfInBounds_toArray, List.set_cons_zero, List.set_cons_succ]
        refine take_held 3 S0 rfl (by kernel_rfl) (by kernel_rfl) (by kernel_rfl) (fun _ _ _ h => h) (by kernel_rfl) (v := ?v76) ?y76 ?r76
        case y76 => (intro u hu; go_simp; try rfl)
        simp only [Act.put, List.setIfInBounds_toArray, List.set_cons_zero, List.set_cons_succ]
        refine take_held 4 S0 rfl (by kernel_rfl) (by kernel_rfl) (by kernel_rfl) (fun _ _ _ h => h) (by kernel_rfl) (v := .agg #[.int .i64 X.1, .int .i64 X.2]) ?y77 ?r77
        case y77 => (intro u hu; exact run_load_op 30 _ rfl ⟨g, m * 2, none⟩ _ rfl (HX.out u hu) (aggCell u) infoCell2)
        simp only [Act.put, List.setIfInBounds_toArray, List.set_cons_zero, List.set_cons_succ]
        refine take_held 5 S0 rfl (by kernel_rfl) (by kernel_rfl) (by kernel_rfl) (fun _ _ _ h => h) (by kernel_rfl) (v := ?v78) ?y78 ?r78
        case y78 => (intro u hu; go_simp; try rfl)
        simp only [Act.put, List.setIfInBounds_toArray, List.set_cons_zero, List.set_cons_succ]
        refine take_held 6 S0 rfl (by kernel_rfl) (by kernel_rfl) (by kernel_rfl) (fun _ _ _ h => h) (by kernel_rfl) (v := ?v79) ?y79 ?r79
        case y79 => (intro u hu; go_simp; try rfl)
        simp only [Act.put, List.setIfInBounds_toArray, List.set_cons_zero, List.set_cons_succ]
        refine take_held 7 S0 rfl (by kernel_rfl) (by kernel_rfl) (by kernel_rfl) (fun _ _ _ h => h) (by kernel_rfl) (v := ?v80) ?y80 ?r80
        case y80 => (intro u hu; go_simp; try rfl)
        simp only [Act.put, List.setIfInBounds_toArray, List.set_cons_zero, List.set_cons_succ]
        refine take_held 8 S0 rfl (by kernel_rfl) (by kernel_rfl) (by kernel_rfl) (fun _ _ _ h => h) (by kernel_rfl) (v := .agg #[.int .i64 Y.1, .int .i64 Y.2]) ?y81 ?r81
        case y81 => (intro u hu; exact run_load_op 30 _ rfl ⟨g, hh * 2, none⟩ _ rfl (HY.out u hu) (aggCell u) infoCell2)
        simp only [Act.put, List.setIfInBounds_toArray, List.set_cons_zero, List.set_cons_succ]
        refine wpAnyH_ready (rs := [9]) (by kernel_rfl) (by simp) (AllReadyH.cons ((nth_eq _ 9).trans rfl) ?_ AllReadyH.nil)
        intro K' hK
        refine call_in hK (by kernel_rfl) fy (#[.agg #[.int .i64 X.1, .int .i64 X.2], .agg #[.int .i64 Y.1, .int .i64 Y.2]] ++ fr) ?hr84 (fun v w' => (∃ z : Int, v = .int .i64 z ∧ decide (z < 0) = false) ∧ Below wr.drew.heap.size wr.drew w') ?hc84 ?_
        case hc84 => exact cC.out _ S0
        case hr84 => exact run_call_fn (.tmp 92) (.tmp 96) (.tmp 100) _ rfl rfl rfl rfl hE
        rintro v x1 ⟨⟨z, rfl, hz⟩, b1⟩
        have S1 : Below wr.heap.size wr x1 := bcat S0 b1 (Nat.le_refl _)
        refine ⟨S1, ?_⟩
        simp only [Act.put, List.setIfInBounds_toArray, List.set_cons_zero, List.set_cons_succ]
        refine take_held 10 S1 rfl (by kernel_rfl) (by kernel_rfl) (by kernel_rfl) (fun _ _ _ h => h) (by kernel_rfl) (v := ?v82) ?y82 ?r82
        case y82 => (intro u hu; go_simp; try rfl)
        simp only [Act.put, List.setIfInBounds_toArray, List.set_cons_zero, List.set_cons_succ]
        refine take_held 11 S1 rfl (by kernel_rfl) (by kernel_rfl) (by kernel_rfl) (fun _ _ _ h => h) (by kernel_rfl) (v := ?v83) ?y83 ?r83
        case y83 => (intro u hu; go_simp; try rfl)
        simp only [Act.put, List.setIfInBounds_toArray, List.set_cons_zero, List.set_cons_succ]
        refine done_held (by kernel_rfl) ?_ _
        go_wp2_with fail
        go_roundw
        case measure => simp [intOf]; omega
        case rel =>
          exact ⟨hh + 1, j, by omega, by omega, jb, by go_num, rfl, SS.go K HS.out S1, ⟨HLo.out hk, HI2⟩, HF.out.trans (Fx.below S1)⟩
    · obtain rfl : i = j := by omega
      have HUp := HT.out.last h1 mi jb HI.out.1 HI.out.2
      have HUp2 : Hid (Up (fun t => key (x t)) (mvd p m i) a b) := HUp
      have HS0 : Hid (SS g S n x Cx (mvd p m m) wr) := by rw [mvd_zero]; exact HS.out
      have HF0 : Hid (Fx g w wr) := HF
      clear HS HF HUp HI
      go_wp2_with fail
      go_loopw [17] (fun v wr => ∃ k : Nat, i ≤ k ∧ k ≤ m ∧ v = .int .i64 k ∧ Hid (SS g S n x Cx (mvd p m k) wr) ∧ Hid (Fx g w wr)) (fun v _ => (intOf v).toNat)
      case atStart => exact ⟨m, jb, Nat.le_refl _, rfl, HS0, HF0⟩
      case round =>
        clear HS0 HF0
        obtain ⟨k, ak, ki, rfl, HS, HF⟩ := hrel
        by_cases hlt : i < k
        · obtain ⟨k1, hk1⟩ : ∃ k1, k = k1 + 1 := ⟨k - 1, by omega⟩
          have HMv : Hid (swp (mvd p m k) k k1 = mvd p m k1) := by rw [hk1]; exact mvd_succ p (by omega)
          have ek : (k : Int) - 1 = (k1 : Int) := by omega
          have ek2 : IntKind.i64.wrap (k1 : Int) = (k1 : Int) := by rw [IntKind.wrap_i64]; omega
          have hdk : decide ((i : Int) < (k : Int)) = true := decide_eq_true (by omega)
          have hk2 : k1 < k := by omega
          clear hk1
          have HSw := SS.swap K HS.out (i := k) (j := k1) (by omega) (by omega) (by omega)
          obtain ⟨c0, c1⟩ := HS.out.row.cell (k := k) (by omega)
          obtain ⟨d0, d1⟩ := HS.out.row.cell (k := k1) (by omega)
          have hfz := HS.out.row.frozen
          have hkn : (k : Int) < (n : Int) := by omega
          have hkn2 : (k1 : Int) < (n : Int) := by omega
          have hkk : k ≠ k1 := by omega
          generalize x (mvd p m k k) = X' at *
          generalize x (mvd p m k k1) = Y' at *
          have HSw2 : Hid _ := HSw
          clear HSw
          go_wp2_with fail
          go_region
          all_goals
            go_wp2_with fail
            go_roundw
            case rel =>
              exact ⟨k1, by omega, by omega, by first | rfl | go_num, by rw [← HMv.out]; exact SS.go K HSw2.out.1 (Below.refl _ _).drew, (HF.out.trans HSw2.out.2).trans (Fx.below (Below.refl _ _).drew)⟩
            case measure => simp [intOf]; omega
        · obtain rfl : k = i := by omega
          have hdk : decide ((k : Int) < (k : Int)) = false := decide_eq_false (by omega)
          have HMx := mvd_mix p (a := a) (b := b) mb (m - k) (by omega)
          rw [show m - (m - k) = k by omega] at HMx
          have HMx2 : Hid _ := HMx
          clear HMx
          go_wp2_with fail
          exact bodyPost_ret (results_none rfl _ _ _) rfl ⟨rfl, _, HS.out, HMx2.out, HUp2.out, HF.out⟩
end
end Go.Proofs.Ytebfjldbhmmmlaa.Srt
