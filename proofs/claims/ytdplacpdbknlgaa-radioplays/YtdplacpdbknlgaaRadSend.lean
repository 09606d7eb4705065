/-
  A radio: Send.
-/
import Derived.Test.YtdplacpdbknlgaaRadCalls
namespace Go.Proofs.Ytdplacpdbknlgaa.Lk
set_option linter.unusedVariables false
set_option linter.unusedSimpArgs false
open Go Go.RowKit Go.Shelf Go.Proofs
attribute [local go_sem] Oper.semAt_some

set_option maxRecDepth 100000 in
set_option maxHeartbeats 2000000 in
theorem send_case {B : Nat} {w : World} {p : Nat} {v : Value} {l : List Tl} (h : RdAt 57 B w p v l) {vs : Value} {zs : List Tl} (hz : Lies w vs zs) (hn : zs.length ≤ 100000) (k : Nat) (hk : k = min zs.length (1024 - l.length)) :
    Calls Try.prog 11 #[.pointer (some ⟨p, 0, none⟩), vs] w fun e w' => e = .returned (.int .i64 k) ∧ ∃ v', RdAt 57 B w' p v' (l ++ zs.take k) ∧ Tn w w' p v v' := by
  have c0 := h.c0
  have hl := h.len
  obtain ⟨m, hm⟩ : ∃ m, l.length = m := ⟨_, rfl⟩
  obtain ⟨n, hnn⟩ : ∃ n, zs.length = n := ⟨_, rfl⟩
  obtain ⟨a, cap, rfl⟩ := own_slice h.own hm
  obtain ⟨v2, hr2, L2⟩ := run_first hz k (by omega)
  obtain ⟨az, cz, rfl⟩ := hz.len
  rw [hnn] at hr2 ⊢
  have HG : Hid (RdAt 57 B w p (.slice a m cap) l) := h
  have HL : Hid (Lies w v2 (zs.take k)) := L2
  have HK : Hid (k ≤ 1024 - l.length ∧ l.length = m) := ⟨by omega, hm⟩
  rw [hm] at hl hk
  rw [hnn] at hk hn
  by_cases hc : (1024 - (m : Int)) < (n : Int)
  · have HX : Hid ((1024 - (m : Int)) = (k : Int)) := by show _ = _; omega
    have HR : Hid (∀ u : World, (Instr.sliceAt 27 (.slice az n cz) none (some (.int .i64 (1024 - (m : Int)))) none).run Try.prog u = .ok v2 u) := by rw [HX.out]; exact hr2
    clear h hr2 L2 hz hk hm hnn
    go_enter Try.func11, Try.ntmps11
    go_wp2_with fail
    clear c0
    refine start_held (S := fun _ => True) 12 rfl (by kernel_rfl) trivial ?_
    simp only [Array.replicate_succ, Array.replicate_zero, List.push_toArray, List.nil_append, List.cons_append]
    have B0 : Below w.heap.size w w.drew := (Below.refl _ _).drew
    have h0 : RdAt 57 B w.drew p (.slice a m cap) l := HG.out.go B0
    have L0 : Lies w.drew v2 (zs.take k) := HL.out.go B0
    have c0 := h0.c0
    have sz : w.drew.heap.size = w.heap.size := rfl
    generalize w.drew = x0 at *
    refine take_held 0 trivial rfl (by kernel_rfl) (by kernel_rfl) (by kernel_rfl) (fun _ _ _ h => h) (by kernel_rfl) (v := ?v100) ?y100 ?r100
    case y100 => (intro u hu; go_simp; try rfl)
    simp only [Act.put, List.setIfInBounds_toArray, List.set_cons_zero, List.set_cons_succ]
    refine take_held 1 trivial rfl (by kernel_rfl) (by kernel_rfl) (by kernel_rfl) (fun _ _ _ h => h) (by kernel_rfl) (v := ?v101) ?y101 ?r101
    case y101 => (intro u hu; go_simp; try rfl)
    simp only [Act.put, List.setIfInBounds_toArray, List.set_cons_zero, List.set_cons_succ]
    refine take_held 2 trivial rfl (by kernel_rfl) (by kernel_rfl) (by kernel_rfl) (fun _ _ _ h => h) (by kernel_rfl) (v := ?v102) ?y102 ?r102
    case y102 => (intro u hu; go_simp; try rfl)
    simp only [Act.put, List.setIfInBounds_toArray, List.set_cons_zero, List.set_cons_succ]
    refine take_held 3 trivial rfl (by kernel_rfl) (by kernel_rfl) (by kernel_rfl) (fun _ _ _ h => h) (by kernel_rfl) (v := ?v103) ?y103 ?r103
    case y103 => (intro u hu; go_simp; try rfl)
    simp only [Act.put, List.setIfInBounds_toArray, List.set_cons_zero, List.set_cons_succ]
    refine take_held 5 trivial rfl (by kernel_rfl) (by kernel_rfl) (by kernel_rfl) (fun _ _ _ h => h) (by kernel_rfl) (v := ?v104) ?y104 ?r104
    case y104 => (intro u hu; go_simp; try rfl)
    simp only [Act.put, List.setIfInBounds_toArray, List.set_cons_zero, List.set_cons_succ]
    refine take_held 6 trivial rfl (by kernel_rfl) (by kernel_rfl) (by kernel_rfl) (fun _ _ _ h => h) (by kernel_rfl) (v := ?v105) ?y105 ?r105
    case y105 => (intro u hu; go_simp; try rfl)
    simp only [Act.put, List.setIfInBounds_toArray, List.set_cons_zero, List.set_cons_succ]
    refine take_held 7 trivial rfl (by kernel_rfl) (by kernel_rfl) (by kernel_rfl) (fun _ _ _ h => h) (by kernel_rfl) (v := v2) ?y106 ?r106
    case y106 => (intro u hu; exact run_slice_op 27 (.tmp 20) none (some (.tmp 21)) rfl _ _ rfl (HR.out u))
    simp only [Act.put, List.setIfInBounds_toArray, List.set_cons_zero, List.set_cons_succ]
    refine wpAnyH_ready (rs := [4]) (by kernel_rfl) (by simp) (AllReadyH.cons ((nth_eq _ 4).trans rfl) ?_ AllReadyH.nil)
    intro K107 hK107
    refine value_in hK107 (by kernel_rfl) (.slice a m cap) x0 (by go_simp; try rfl) trivial ?_
    simp only [Act.put, List.setIfInBounds_toArray, List.set_cons_zero, List.set_cons_succ]
    obtain ⟨v3, x1, hrun, O1, g1, at1⟩ := run_push_any h0.own L0 (by rw [List.length_take]; have := h0.len; have := HK.out; omega) (Nat.le_of_lt (Nat.lt_of_le_of_lt h0.big h0.lt)) 27
    have O1' := O1
    obtain ⟨a1, c1, rfl⟩ := own_slice O1' rfl
    obtain ⟨k1, k2, k3⟩ := rd_put h0 g1 O1 (fun k e => (at1.elim (fun q => Or.inl (q ▸ e)) (fun q => Or.inr (by rw [q] at e; cases e; exact Nat.le_refl _)))) (by rw [List.length_append, List.length_take]; have := h0.len; have := HK.out; omega)
    refine wpAnyH_ready (rs := [8]) (by kernel_rfl) (by simp) (AllReadyH.cons ((nth_eq _ 8).trans rfl) ?_ AllReadyH.nil)
    intro K108 hK108
    refine value_in hK108 (by kernel_rfl) (.slice a1 (l ++ zs.take k).length c1) x1 (run_push_op (.tmp 19) (.tmp 22) rfl _ _ _ rfl rfl hrun) trivial ?_
    simp only [Act.put, List.setIfInBounds_toArray, List.set_cons_zero, List.set_cons_succ]
    refine take_held 9 trivial rfl (by kernel_rfl) (by kernel_rfl) (by kernel_rfl) (fun _ _ _ h => h) (by kernel_rfl) (v := ?v109) ?y109 ?r109
    case y109 => (intro u hu; go_simp; try rfl)
    simp only [Act.put, List.setIfInBounds_toArray, List.set_cons_zero, List.set_cons_succ]
    refine take_held 10 trivial rfl (by kernel_rfl) (by kernel_rfl) (by kernel_rfl) (fun _ _ _ h => h) (by kernel_rfl) (v := ?v110) ?y110 ?r110
    case y110 => (intro u hu; go_simp; try rfl)
    simp only [Act.put, List.setIfInBounds_toArray, List.set_cons_zero, List.set_cons_succ]
    have d1 := cell0 k1
    have f1 := thaw (j := 0) k1
    obtain ⟨y1, hy1⟩ : ∃ y1, y1 = x1.setCell ⟨p, 0, none⟩ (.slice a1 (l ++ zs.take k).length c1) := ⟨_, rfl⟩
    rw [← hy1] at k2 k3
    obtain ⟨n1, hn1⟩ : ∃ n1, (l ++ zs.take k).length = n1 := ⟨_, rfl⟩
    rw [hn1] at hy1 k2 k3 ⊢
    refine wpAnyH_ready (rs := [11]) (by kernel_rfl) (by simp) (AllReadyH.cons ((nth_eq _ 11).trans rfl) ?_ AllReadyH.nil)
    intro K111 hK111
    refine skip_in hK111 (by kernel_rfl) y1 (by rw [hy1]; clear hrun O1 g1 at1 k1 k2 k3 O1' h0 L0 B0 hy1; go_simp; try rfl) trivial ?_
    simp only [Act.put, List.setIfInBounds_toArray, List.set_cons_zero, List.set_cons_succ]
    refine done_held (by kernel_rfl) ?_ _
    clear hy1
    go_wp2_with fail
    go_ret
    exact ⟨ret_int HX.out, _, k2, (Tn.of_below p _ B0).trans k3⟩
  · have HX : Hid ((n : Int) = (k : Int)) := by show _ = _; omega
    have HR : Hid (∀ u : World, (Instr.sliceAt 27 (.slice az n cz) none (some (.int .i64 (n : Int))) none).run Try.prog u = .ok v2 u) := by rw [HX.out]; exact hr2
    clear h hr2 L2 hz hk hm hnn
    go_enter Try.func11, Try.ntmps11
    go_wp2_with fail
    clear c0
    refine start_held (S := fun _ => True) 12 rfl (by kernel_rfl) trivial ?_
    simp only [Array.replicate_succ, Array.replicate_zero, List.push_toArray, List.nil_append, List.cons_append]
    have B0 : Below w.heap.size w w.drew := (Below.refl _ _).drew
    have h0 : RdAt 57 B w.drew p (.slice a m cap) l := HG.out.go B0
    have L0 : Lies w.drew v2 (zs.take k) := HL.out.go B0
    have c0 := h0.c0
    have sz : w.drew.heap.size = w.heap.size := rfl
    generalize w.drew = x0 at *
    refine take_held 0 trivial rfl (by kernel_rfl) (by kernel_rfl) (by kernel_rfl) (fun _ _ _ h => h) (by kernel_rfl) (v := ?v112) ?y112 ?r112
    case y112 => (intro u hu; go_simp; try rfl)
    simp only [Act.put, List.setIfInBounds_toArray, List.set_cons_zero, List.set_cons_succ]
    refine take_held 1 trivial rfl (by kernel_rfl) (by kernel_rfl) (by kernel_rfl) (fun _ _ _ h => h) (by kernel_rfl) (v := ?v113) ?y113 ?r113
    case y113 => (intro u hu; go_simp; try rfl)
    simp only [Act.put, List.setIfInBounds_toArray, List.set_cons_zero, List.set_cons_succ]
    refine take_held 2 trivial rfl (by kernel_rfl) (by kernel_rfl) (by kernel_rfl) (fun _ _ _ h => h) (by kernel_rfl) (v := ?v114) ?y114 ?r114
    case y114 => (intro u hu; go_simp; try rfl)
    simp only [Act.put, List.setIfInBounds_toArray, List.set_cons_zero, List.set_cons_succ]
    refine take_held 3 trivial rfl (by kernel_rfl) (by kernel_rfl) (by kernel_rfl) (fun _ _ _ h => h) (by kernel_rfl) (v := ?v115) ?y115 ?r115
    case y115 => (intro u hu; go_simp; try rfl)
    simp only [Act.put, List.setIfInBounds_toArray, List.set_cons_zero, List.set_cons_succ]
    refine take_held 5 trivial rfl (by kernel_rfl) (by kernel_rfl) (by kernel_rfl) (fun _ _ _ h => h) (by kernel_rfl) (v := ?v116) ?y116 ?r116
    case y116 => (intro u hu; go_simp; try rfl)
    simp only [Act.put, List.setIfInBounds_toArray, List.set_cons_zero, List.set_cons_succ]
    refine take_held 6 trivial rfl (by kernel_rfl) (by kernel_rfl) (by kernel_rfl) (fun _ _ _ h => h) (by kernel_rfl) (v := ?v117) ?y117 ?r117
    case y117 => (intro u hu; go_simp; try rfl)
    simp only [Act.put, List.setIfInBounds_toArray, List.set_cons_zero, List.set_cons_succ]
    refine take_held 7 trivial rfl (by kernel_rfl) (by kernel_rfl) (by kernel_rfl) (fun _ _ _ h => h) (by kernel_rfl) (v := v2) ?y118 ?r118
    case y118 => (intro u hu; exact run_slice_op 27 (.tmp 20) none (some (.tmp 21)) rfl _ _ rfl (HR.out u))
    simp only [Act.put, List.setIfInBounds_toArray, List.set_cons_zero, List.set_cons_succ]
    refine wpAnyH_ready (rs := [4]) (by kernel_rfl) (by simp) (AllReadyH.cons ((nth_eq _ 4).trans rfl) ?_ AllReadyH.nil)
    intro K119 hK119
    refine value_in hK119 (by kernel_rfl) (.slice a m cap) x0 (by go_simp; try rfl) trivial ?_
    simp only [Act.put, List.setIfInBounds_toArray, List.set_cons_zero, List.set_cons_succ]
    obtain ⟨v3, x1, hrun, O1, g1, at1⟩ := run_push_any h0.own L0 (by rw [List.length_take]; have := h0.len; have := HK.out; omega) (Nat.le_of_lt (Nat.lt_of_le_of_lt h0.big h0.lt)) 27
    have O1' := O1
    obtain ⟨a1, c1, rfl⟩ := own_slice O1' rfl
    obtain ⟨k1, k2, k3⟩ := rd_put h0 g1 O1 (fun k e => (at1.elim (fun q => Or.inl (q ▸ e)) (fun q => Or.inr (by rw [q] at e; cases e; exact Nat.le_refl _)))) (by rw [List.length_append, List.length_take]; have := h0.len; have := HK.out; omega)
    refine wpAnyH_ready (rs := [8]) (by kernel_rfl) (by simp) (AllReadyH.cons ((nth_eq _ 8).trans rfl) ?_ AllReadyH.nil)
    intro K120 hK120
    refine value_in hK120 (by kernel_rfl) (.slice a1 (l ++ zs.take k).length c1) x1 (run_push_op (.tmp 19) (.tmp 22) rfl _ _ _ rfl rfl hrun) trivial ?_
    simp only [Act.put, List.setIfInBounds_toArray, List.set_cons_zero, List.set_cons_succ]
    refine take_held 9 trivial rfl (by kernel_rfl) (by kernel_rfl) (by kernel_rfl) (fun _ _ _ h => h) (by kernel_rfl) (v := ?v121) ?y121 ?r121
    case y121 => (intro u hu; go_simp; try rfl)
    simp only [Act.put, List.setIfInBounds_toArray, List.set_cons_zero, List.set_cons_succ]
    refine take_held 10 trivial rfl (by kernel_rfl) (by kernel_rfl) (by kernel_rfl) (fun _ _ _ h => h) (by kernel_rfl) (v := ?v122) ?y122 ?r122
    case y122 => (intro u hu; go_simp; try rfl)
    simp only [Act.put, List.setIfInBounds_toArray, List.set_cons_zero, List.set_cons_succ]
    have d1 := cell0 k1
    have f1 := thaw (j := 0) k1
    obtain ⟨y1, hy1⟩ : ∃ y1, y1 = x1.setCell ⟨p, 0, none⟩ (.slice a1 (l ++ zs.take k).length c1) := ⟨_, rfl⟩
    rw [← hy1] at k2 k3
    obtain ⟨n1, hn1⟩ : ∃ n1, (l ++ zs.take k).length = n1 := ⟨_, rfl⟩
    rw [hn1] at hy1 k2 k3 ⊢
    refine wpAnyH_ready (rs := [11]) (by kernel_rfl) (by simp) (AllReadyH.cons ((nth_eq _ 11).trans rfl) ?_ AllReadyH.nil)
    intro K123 hK123
    refine skip_in hK123 (by kernel_rfl) y1 (by rw [hy1]; clear hrun O1 g1 at1 k1 k2 k3 O1' h0 L0 B0 hy1; go_simp; try rfl) trivial ?_
    simp only [Act.put, List.setIfInBounds_toArray, List.set_cons_zero, List.set_cons_succ]
    refine done_held (by kernel_rfl) ?_ _
    clear hy1
    go_wp2_with fail
    go_ret
    exact ⟨ret_int HX.out, _, k2, (Tn.of_below p _ B0).trans k3⟩
end Go.Proofs.Ytdplacpdbknlgaa.Lk
