/-
  The chapter's radio.
-/
import Derived.Test.YtdplacpdbknlgaaRadOrderWalk
namespace Go.Proofs.Ytdplacpdbknlgaa.Lk
set_option linter.unusedVariables false
set_option linter.unusedSimpArgs false
open Go Go.RowKit Go.Shelf Go.Proofs
attribute [local go_sem] Oper.semAt_some

set_option maxHeartbeats 1000000 in
theorem rplace_any {T : TypeId} {B : Nat} {w : World} {p : Nat} {v : Value} {l : List Tl} (h : RdAt T B w p v l) (i : Int) (h0 : 0 < l.length) : Calls Try.prog 22 #[.pointer (some ⟨p, 0, none⟩), .int .i64 i] w fun e w' => e = .returned (.int .i64 (plN i l.length)) ∧ w' = w := by
  have c0 := h.c0
  have hl := h.len
  obtain ⟨n, hn⟩ : ∃ n, l.length = n := ⟨_, rfl⟩
  obtain ⟨a, cap, rfl⟩ := own_slice h.own hn
  rw [hn] at h0 hl ⊢
  have h2 := Int.tmod_lt_of_pos i (show (0 : Int) < n by omega)
  have h3 := tmod_low i n (by omega)
  have H : Hid ((plN i n : Int) = if i.tmod n < 0 then i.tmod n + n else i.tmod n) := plN_eq i h0
  have e0 : ((n : Int) == 0) = false := by simp; omega
  have e1 : ¬ ((n : Int) = 0) := by omega
  generalize ((plN i n : Nat) : Int) = r at *
  clear h hn h0
  by_cases hc : i.tmod n < 0
  all_goals
    go_enter Try.func22, Try.ntmps22
    go_wp2
    go_ret
    exact ⟨ret_int (by rw [H.out]; first | rw [if_pos (by omega)] | rw [if_neg (by omega)]), rfl⟩
set_option maxHeartbeats 1000000 in
theorem rlose_none {T : TypeId} {B : Nat} {w : World} {p : Nat} {v : Value} (h : RdAt T B w p v []) (i : Int) : Calls Try.prog 16 #[.pointer (some ⟨p, 0, none⟩), .int .i64 i] w fun e w' => e = .returned (.bool false) ∧ w' = w := by
  have c0 := h.c0
  obtain ⟨a, cap, rfl⟩ := own_slice h.own (n := 0) rfl
  clear h
  go_enter Try.func16, Try.ntmps16
  go_wp2
  go_ret
  exact ⟨rfl, rfl⟩
/- A list of new memory is put into its box. -/
theorem new_put {T : TypeId} {B : Nat} {w w1 : World} {p : Nat} {v v' : Value} {l l' : List Tl} (h : RdAt T B w p v l) (hb : Below w.heap.size w w1) (ho : Own w1 w.heap.size v' l') (hl : l'.length ≤ 1024) :
    w1.heap[p]? = some (.cells #[v] T (0, 0)) ∧ RdAt T B (w1.setCell ⟨p, 0, none⟩ v') p v' l' ∧ Tn w (w1.setCell ⟨p, 0, none⟩ v') p v v' :=
  rd_put h ⟨hb.os, hb.tape, hb.output, hb.size, fun k hk _ => hb.block k hk⟩ (owns_base (by have := h.big; have := h.lt; omega) ho) (fun k e => Or.inr (ho.lt k e).1) hl
set_option maxRecDepth 100000 in
set_option maxHeartbeats 2000000 in
theorem rlose_any {T : TypeId} {B : Nat} {w : World} {p : Nat} {v : Value} {l : List Tl} (h : RdAt T B w p v l) (i : Int) (hl0 : 0 < l.length) : Calls Try.prog 16 #[.pointer (some ⟨p, 0, none⟩), .int .i64 i] w fun e w' => e = .returned (.bool true) ∧ ∃ v', RdAt T B w' p v' (cutP l (plN i l.length)) ∧ Tn w w' p v v' := by
  have cp := rplace_any h i hl0
  have hk := plN_lt i hl0
  generalize plN i l.length = k at *
  have c0 := h.c0
  have hl := h.len
  obtain ⟨vF, hSF, hLF⟩ := run_first (Lies.of_own h.own) k (by omega)
  obtain ⟨vD, hSD, hLD, _⟩ := run_from (Lies.of_own h.own) (k + 1) (by omega)
  obtain ⟨n, hn⟩ : ∃ n, l.length = n := ⟨_, rfl⟩
  obtain ⟨a, cap, rfl⟩ := own_slice h.own hn
  have HG : Hid (RdAt T B w p (.slice a n cap) l) := h
  have HLF : Hid (Lies w vF (l.take k)) := hLF
  have HLD : Hid (Lies w vD (l.drop (k + 1))) := hLD
  have HSF : Hid (∀ u : World, (Instr.sliceAt 27 (.slice a n cap) none (some (.int .i64 k)) none).run Try.prog u = .ok vF u) := hSF
  have HSD : Hid (∀ u : World, (Instr.sliceAt 27 (.slice a n cap) (some (.int .i64 ((k : Int) + 1))) none none).run Try.prog u = .ok vD u) := fun u => hSD u
  have HKL : Hid (k < l.length) := hk
  rw [hn] at hk hl hl0
  have e0 : ((n : Int) == 0) = false := by simp; omega
  have e1 : ¬ ((n : Int) = 0) := by omega
  have hk2 : (k : Int) < (n : Int) := by omega
  have hk3 : (k : Int) ≤ 1024 := by omega
  have HN : Hid (l.length = n) := hn
  clear h hLF hLD hSF hSD hn hl0
  go_enter Try.func16, Try.ntmps16
  go_wp2_with (first
    | (go_at_call 22; refine cp.mono ?_; rintro e wp ⟨rfl, hwp⟩; rw [hwp]; clear hwp cp))
  clear c0
  refine start_held (S := fun _ => True) 19 rfl (by kernel_rfl) (trivial) ?_
  simp only [Array.replicate_succ, Array.replicate_zero, List.push_toArray, List.nil_append, List.cons_append]
  have B0 : Below w.heap.size w w.drew := (Below.refl _ _).drew
  have hS0 : True := trivial
  have h0 : RdAt T B w.drew p (.slice a n cap) l := HG.out.go B0
  have LF0 : Lies w.drew vF (l.take k) := HLF.out.go B0
  have LD0 : Lies w.drew vD (l.drop (k + 1)) := HLD.out.go B0
  have H0 := h0
  generalize w.drew = x0 at *
  refine take_held 0 hS0 rfl (by kernel_rfl) (by kernel_rfl) (by kernel_rfl) (fun _ _ _ h => h) (by kernel_rfl) (v := ?v5000) ?y5000 ?r5000
  case y5000 => (intro u hu; go_simp; try rfl)
  simp only [Act.put, List.setIfInBounds_toArray, List.set_cons_zero, List.set_cons_succ]
  refine take_held 1 hS0 rfl (by kernel_rfl) (by kernel_rfl) (by kernel_rfl) (fun _ _ _ h => h) (by kernel_rfl) (v := ?v5001) ?y5001 ?r5001
  case y5001 => (intro u hu; go_simp; try rfl)
  simp only [Act.put, List.setIfInBounds_toArray, List.set_cons_zero, List.set_cons_succ]
  refine take_held 2 hS0 rfl (by kernel_rfl) (by kernel_rfl) (by kernel_rfl) (fun _ _ _ h => h) (by kernel_rfl) (v := ?v5002) ?y5002 ?r5002
  case y5002 => (intro u hu; go_simp; try rfl)
  simp only [Act.put, List.setIfInBounds_toArray, List.set_cons_zero, List.set_cons_succ]
  refine take_held 3 hS0 rfl (by kernel_rfl) (by kernel_rfl) (by kernel_rfl) (fun _ _ _ h => h) (by kernel_rfl) (v := ?v5003) ?y5003 ?r5003
  case y5003 => (intro u hu; go_simp; try rfl)
  simp only [Act.put, List.setIfInBounds_toArray, List.set_cons_zero, List.set_cons_succ]
  refine take_held 5 hS0 rfl (by kernel_rfl) (by kernel_rfl) (by kernel_rfl) (fun _ _ _ h => h) (by kernel_rfl) (v := ?v5004) ?y5004 ?r5004
  case y5004 => (intro u hu; go_simp; try rfl)
  simp only [Act.put, List.setIfInBounds_toArray, List.set_cons_zero, List.set_cons_succ]
  refine take_held 8 hS0 rfl (by kernel_rfl) (by kernel_rfl) (by kernel_rfl) (fun _ _ _ h => h) (by kernel_rfl) (v := ?v5005) ?y5005 ?r5005
  case y5005 => (intro u hu; go_simp; try rfl)
  simp only [Act.put, List.setIfInBounds_toArray, List.set_cons_zero, List.set_cons_succ]
  refine take_held 9 hS0 rfl (by kernel_rfl) (by kernel_rfl) (by kernel_rfl) (fun _ _ _ h => h) (by kernel_rfl) (v := ?v5006) ?y5006 ?r5006
  case y5006 => (intro u hu; go_simp; try rfl)
  simp only [Act.put, List.setIfInBounds_toArray, List.set_cons_zero, List.set_cons_succ]
  refine take_held 10 hS0 rfl (by kernel_rfl) (by kernel_rfl) (by kernel_rfl) (fun _ _ _ h => h) (by kernel_rfl) (v := ?v5007) ?y5007 ?r5007
  case y5007 => (intro u hu; go_simp; try rfl)
  simp only [Act.put, List.setIfInBounds_toArray, List.set_cons_zero, List.set_cons_succ]
  refine take_held 12 hS0 rfl (by kernel_rfl) (by kernel_rfl) (by kernel_rfl) (fun _ _ _ h => h) (by kernel_rfl) (v := ?v5008) ?y5008 ?r5008
  case y5008 => (intro u hu; go_simp; try rfl)
  simp only [Act.put, List.setIfInBounds_toArray, List.set_cons_zero, List.set_cons_succ]
  refine take_held 13 hS0 rfl (by kernel_rfl) (by kernel_rfl) (by kernel_rfl) (fun _ _ _ h => h) (by kernel_rfl) (v := .int .i64 ((k : Int) + 1)) ?y5009 ?r5009
  case y5009 => (intro u hu; have hw : IntKind.i64.wrap ((k : Int) + 1) = (k : Int) + 1 := (by rw [IntKind.wrap_i64]; omega); go_simp; try rfl)
  simp only [Act.put, List.setIfInBounds_toArray, List.set_cons_zero, List.set_cons_succ]
  refine wpAnyH_ready (rs := [4, 11]) (by kernel_rfl) (by simp) (AllReadyH.cons ((nth_eq _ 4).trans rfl) ?_ (AllReadyH.cons ((nth_eq _ 11).trans rfl) ?_ AllReadyH.nil))
  · intro K1 hK1
    have cz1 := (H0).c0
    refine value_in hK1 (by kernel_rfl) (.slice a n cap) x0 (by go_simp; try rfl) hS0 ?_
    simp only [Act.put, List.setIfInBounds_toArray, List.set_cons_zero, List.set_cons_succ]
    refine take_held 6 hS0 rfl (by kernel_rfl) (by kernel_rfl) (by kernel_rfl) (fun _ _ _ h => h) (by kernel_rfl) (v := vF) ?y5010 ?r5010
    case y5010 => (intro u hu; exact run_slice_op 27 (.tmp 19) none (some (.tmp 20)) rfl _ _ rfl (HSF.out u))
    simp only [Act.put, List.setIfInBounds_toArray, List.set_cons_zero, List.set_cons_succ]
    refine wpAnyH_ready (rs := [7, 11]) (by kernel_rfl) (by simp) (AllReadyH.cons ((nth_eq _ 7).trans rfl) ?_ (AllReadyH.cons ((nth_eq _ 11).trans rfl) ?_ AllReadyH.nil))
    · intro K2 hK2
      obtain ⟨vA, y1, hrunA, O1', g1, at1⟩ := run_push_any (own_none x0 x0.heap.size) LF0 (by have := h0.len; simp [List.length_take]; omega) (Nat.le_refl _) 27
      have O1 : Own y1 x0.heap.size vA (l.take k) := (by simpa using O1')
      have b1 : Below x0.heap.size x0 y1 := push_below (v := vA) (l := l) g1
      have H1 := h0.go b1
      clear O1' at1 g1
      refine value_in hK2 (by kernel_rfl) vA y1 (run_push_op (.const (.slice none 0 0)) (.tmp 21) rfl _ _ _ rfl rfl hrunA) trivial ?_
      clear hrunA
      simp only [Act.put, List.setIfInBounds_toArray, List.set_cons_zero, List.set_cons_succ]
      refine wpAnyH_ready (rs := [11]) (by kernel_rfl) (by simp) (AllReadyH.cons ((nth_eq _ 11).trans rfl) ?_ AllReadyH.nil)
      intro K3 hK3
      have cz3 := (H1).c0
      refine value_in hK3 (by kernel_rfl) (.slice a n cap) y1 (by go_simp; try rfl) hS0 ?_
      simp only [Act.put, List.setIfInBounds_toArray, List.set_cons_zero, List.set_cons_succ]
      refine take_held 14 hS0 rfl (by kernel_rfl) (by kernel_rfl) (by kernel_rfl) (fun _ _ _ h => h) (by kernel_rfl) (v := vD) ?y5011 ?r5011
      case y5011 => (intro u hu; exact run_slice_op 27 (.tmp 26) (some (.tmp 28)) none rfl _ _ rfl (HSD.out u))
      simp only [Act.put, List.setIfInBounds_toArray, List.set_cons_zero, List.set_cons_succ]
      refine wpAnyH_ready (rs := [15]) (by kernel_rfl) (by simp) (AllReadyH.cons ((nth_eq _ 15).trans rfl) ?_ AllReadyH.nil)
      intro K4 hK4
      obtain ⟨vB, y2, hrunB, O2', g2, at2⟩ := run_push_any O1 (LD0.go b1) (by have := h0.len; simp [List.length_take]; omega) b1.size 27
      have O2 : Own y2 x0.heap.size vB (cutP l k) := O2'
      have b2 : Below x0.heap.size x0 y2 := push_below2 b1 O1 g2
      have H2 := h0.go b2
      clear O2' at2 g2
      obtain ⟨m, hm⟩ : ∃ m, (cutP l k).length = m := ⟨_, rfl⟩
      obtain ⟨aB, cB, rfl⟩ := own_slice O2 hm
      refine value_in hK4 (by kernel_rfl) (.slice aB m cB) y2 (run_push_op (.tmp 22) (.tmp 29) rfl _ _ _ rfl rfl hrunB) trivial ?_
      clear hrunB
      simp only [Act.put, List.setIfInBounds_toArray, List.set_cons_zero, List.set_cons_succ]
      refine take_held 16 hS0 rfl (by kernel_rfl) (by kernel_rfl) (by kernel_rfl) (fun _ _ _ h => h) (by kernel_rfl) (v := ?v5012) ?y5012 ?r5012
      case y5012 => (intro u hu; go_simp; try rfl)
      simp only [Act.put, List.setIfInBounds_toArray, List.set_cons_zero, List.set_cons_succ]
      refine take_held 17 hS0 rfl (by kernel_rfl) (by kernel_rfl) (by kernel_rfl) (fun _ _ _ h => h) (by kernel_rfl) (v := ?v5013) ?y5013 ?r5013
      case y5013 => (intro u hu; go_simp; try rfl)
      simp only [Act.put, List.setIfInBounds_toArray, List.set_cons_zero, List.set_cons_succ]
      refine wpAnyH_ready (rs := [18]) (by kernel_rfl) (by simp) (AllReadyH.cons ((nth_eq _ 18).trans rfl) ?_ AllReadyH.nil)
      intro K5 hK5
      have HPUT := new_put h0 b2 O2 (by rw [cutP_len l HKL.out]; have := h0.len; omega)
      have d1 := cell0 HPUT.1
      have f1 := thaw (j := 0) HPUT.1
      obtain ⟨y3, hy3⟩ : ∃ y3, y3 = y2.setCell ⟨p, 0, none⟩ (.slice aB m cB) := ⟨_, rfl⟩
      have HP2 : Hid (RdAt T B y3 p (.slice aB m cB) (cutP l k) ∧ Tn x0 y3 p (.slice a n cap) (.slice aB m cB)) := (by rw [hy3]; exact HPUT.2)
      refine skip_in hK5 (by kernel_rfl) y3 (by rw [hy3]; clear hy3 HPUT O1 O2 h0 LF0 LD0 H1 H2; go_simp; try rfl) trivial ?_
      simp only [Act.put, List.setIfInBounds_toArray, List.set_cons_zero, List.set_cons_succ]
      refine done_held (by kernel_rfl) ?_ _
      clear hy3 HPUT O1 O2 b1 b2 H1 H2
      go_wp2
      go_ret
      exact ⟨rfl, _, HP2.out.1, (Tn.of_below p _ B0).trans HP2.out.2⟩
    · intro K2 hK2
      have cz2 := (H0).c0
      refine value_in hK2 (by kernel_rfl) (.slice a n cap) x0 (by go_simp; try rfl) hS0 ?_
      simp only [Act.put, List.setIfInBounds_toArray, List.set_cons_zero, List.set_cons_succ]
      refine take_held 14 hS0 rfl (by kernel_rfl) (by kernel_rfl) (by kernel_rfl) (fun _ _ _ h => h) (by kernel_rfl) (v := vD) ?y5014 ?r5014
      case y5014 => (intro u hu; exact run_slice_op 27 (.tmp 26) (some (.tmp 28)) none rfl _ _ rfl (HSD.out u))
      simp only [Act.put, List.setIfInBounds_toArray, List.set_cons_zero, List.set_cons_succ]
      refine wpAnyH_ready (rs := [7]) (by kernel_rfl) (by simp) (AllReadyH.cons ((nth_eq _ 7).trans rfl) ?_ AllReadyH.nil)
      intro K3 hK3
      obtain ⟨vA, y1, hrunA, O1', g1, at1⟩ := run_push_any (own_none x0 x0.heap.size) LF0 (by have := h0.len; simp [List.length_take]; omega) (Nat.le_refl _) 27
      have O1 : Own y1 x0.heap.size vA (l.take k) := (by simpa using O1')
      have b1 : Below x0.heap.size x0 y1 := push_below (v := vA) (l := l) g1
      have H1 := h0.go b1
      clear O1' at1 g1
      refine value_in hK3 (by kernel_rfl) vA y1 (run_push_op (.const (.slice none 0 0)) (.tmp 21) rfl _ _ _ rfl rfl hrunA) trivial ?_
      clear hrunA
      simp only [Act.put, List.setIfInBounds_toArray, List.set_cons_zero, List.set_cons_succ]
      refine wpAnyH_ready (rs := [15]) (by kernel_rfl) (by simp) (AllReadyH.cons ((nth_eq _ 15).trans rfl) ?_ AllReadyH.nil)
      intro K4 hK4
      obtain ⟨vB, y2, hrunB, O2', g2, at2⟩ := run_push_any O1 (LD0.go b1) (by have := h0.len; simp [List.length_take]; omega) b1.size 27
      have O2 : Own y2 x0.heap.size vB (cutP l k) := O2'
      have b2 : Below x0.heap.size x0 y2 := push_below2 b1 O1 g2
      have H2 := h0.go b2
      clear O2' at2 g2
      obtain ⟨m, hm⟩ : ∃ m, (cutP l k).length = m := ⟨_, rfl⟩
      obtain ⟨aB, cB, rfl⟩ := own_slice O2 hm
      refine value_in hK4 (by kernel_rfl) (.slice aB m cB) y2 (run_push_op (.tmp 22) (.tmp 29) rfl _ _ _ rfl rfl hrunB) trivial ?_
      clear hrunB
      simp only [Act.put, List.setIfInBounds_toArray, List.set_cons_zero, List.set_cons_succ]
      refine take_held 16 hS0 rfl (by kernel_rfl) (by kernel_rfl) (by kernel_rfl) (fun _ _ _ h => h) (by kernel_rfl) (v := ?v5015) ?y5015 ?r5015
      case y5015 => (intro u hu; go_simp; try rfl)
      simp only [Act.put, List.setIfInBounds_toArray, List.set_cons_zero, List.set_cons_succ]
      refine take_held 17 hS0 rfl (by kernel_rfl) (by kernel_rfl) (by kernel_rfl) (fun _ _ _ h => h) (by kernel_rfl) (v := ?v5016) ?y5016 ?r5016
      case y5016 => (intro u hu; go_simp; try rfl)
      simp only [Act.put, List.setIfInBounds_toArray, List.set_cons_zero, List.set_cons_succ]
      refine wpAnyH_ready (rs := [18]) (by kernel_rfl) (by simp) (AllReadyH.cons ((nth_eq _ 18).trans rfl) ?_ AllReadyH.nil)
      intro K5 hK5
      have HPUT := new_put h0 b2 O2 (by rw [cutP_len l HKL.out]; have := h0.len; omega)
      have d1 := cell0 HPUT.1
      have f1 := thaw (j := 0) HPUT.1
      obtain ⟨y3, hy3⟩ : ∃ y3, y3 = y2.setCell ⟨p, 0, none⟩ (.slice aB m cB) := ⟨_, rfl⟩
      have HP2 : Hid (RdAt T B y3 p (.slice aB m cB) (cutP l k) ∧ Tn x0 y3 p (.slice a n cap) (.slice aB m cB)) := (by rw [hy3]; exact HPUT.2)
      refine skip_in hK5 (by kernel_rfl) y3 (by rw [hy3]; clear hy3 HPUT O1 O2 h0 LF0 LD0 H1 H2; go_simp; try rfl) trivial ?_
      simp only [Act.put, List.setIfInBounds_toArray, List.set_cons_zero, List.set_cons_succ]
      refine done_held (by kernel_rfl) ?_ _
      clear hy3 HPUT O1 O2 b1 b2 H1 H2
      go_wp2
      go_ret
      exact ⟨rfl, _, HP2.out.1, (Tn.of_below p _ B0).trans HP2.out.2⟩
  · intro K1 hK1
    have cz1 := (H0).c0
    refine value_in hK1 (by kernel_rfl) (.slice a n cap) x0 (by go_simp; try rfl) hS0 ?_
    simp only [Act.put, List.setIfInBounds_toArray, List.set_cons_zero, List.set_cons_succ]
    refine take_held 14 hS0 rfl (by kernel_rfl) (by kernel_rfl) (by kernel_rfl) (fun _ _ _ h => h) (by kernel_rfl) (v := vD) ?y5017 ?r5017
    case y5017 => (intro u hu; exact run_slice_op 27 (.tmp 26) (some (.tmp 28)) none rfl _ _ rfl (HSD.out u))
    simp only [Act.put, List.setIfInBounds_toArray, List.set_cons_zero, List.set_cons_succ]
    refine wpAnyH_ready (rs := [4]) (by kernel_rfl) (by simp) (AllReadyH.cons ((nth_eq _ 4).trans rfl) ?_ AllReadyH.nil)
    intro K2 hK2
    have cz2 := (H0).c0
    refine value_in hK2 (by kernel_rfl) (.slice a n cap) x0 (by go_simp; try rfl) hS0 ?_
    simp only [Act.put, List.setIfInBounds_toArray, List.set_cons_zero, List.set_cons_succ]
    refine take_held 6 hS0 rfl (by kernel_rfl) (by kernel_rfl) (by kernel_rfl) (fun _ _ _ h => h) (by kernel_rfl) (v := vF) ?y5018 ?r5018
    case y5018 => (intro u hu; exact run_slice_op 27 (.tmp 19) none (some (.tmp 20)) rfl _ _ rfl (HSF.out u))
    simp only [Act.put, List.setIfInBounds_toArray, List.set_cons_zero, List.set_cons_succ]
    refine wpAnyH_ready (rs := [7]) (by kernel_rfl) (by simp) (AllReadyH.cons ((nth_eq _ 7).trans rfl) ?_ AllReadyH.nil)
    intro K3 hK3
    obtain ⟨vA, y1, hrunA, O1', g1, at1⟩ := run_push_any (own_none x0 x0.heap.size) LF0 (by have := h0.len; simp [List.length_take]; omega) (Nat.le_refl _) 27
    have O1 : Own y1 x0.heap.size vA (l.take k) := (by simpa using O1')
    have b1 : Below x0.heap.size x0 y1 := push_below (v := vA) (l := l) g1
    have H1 := h0.go b1
    clear O1' at1 g1
    refine value_in hK3 (by kernel_rfl) vA y1 (run_push_op (.const (.slice none 0 0)) (.tmp 21) rfl _ _ _ rfl rfl hrunA) trivial ?_
    clear hrunA
    simp only [Act.put, List.setIfInBounds_toArray, List.set_cons_zero, List.set_cons_succ]
    refine wpAnyH_ready (rs := [15]) (by kernel_rfl) (by simp) (AllReadyH.cons ((nth_eq _ 15).trans rfl) ?_ AllReadyH.nil)
    intro K4 hK4
    obtain ⟨vB, y2, hrunB, O2', g2, at2⟩ := run_push_any O1 (LD0.go b1) (by have := h0.len; simp [List.length_take]; omega) b1.size 27
    have O2 : Own y2 x0.heap.size vB (cutP l k) := O2'
    have b2 : Below x0.heap.size x0 y2 := push_below2 b1 O1 g2
    have H2 := h0.go b2
    clear O2' at2 g2
    obtain ⟨m, hm⟩ : ∃ m, (cutP l k).length = m := ⟨_, rfl⟩
    obtain ⟨aB, cB, rfl⟩ := own_slice O2 hm
    refine value_in hK4 (by kernel_rfl) (.slice aB m cB) y2 (run_push_op (.tmp 22) (.tmp 29) rfl _ _ _ rfl rfl hrunB) trivial ?_
    clear hrunB
    simp only [Act.put, List.setIfInBounds_toArray, List.set_cons_zero, List.set_cons_succ]
    refine take_held 16 hS0 rfl (by kernel_rfl) (by kernel_rfl) (by kernel_rfl) (fun _ _ _ h => h) (by kernel_rfl) (v := ?v5019) ?y5019 ?r5019
    case y5019 => (intro u hu; go_simp; try rfl)
    simp only [Act.put, List.setIfInBounds_toArray, List.set_cons_zero, List.set_cons_succ]
    refine take_held 17 hS0 rfl (by kernel_rfl) (by kernel_rfl) (by kernel_rfl) (fun _ _ _ h => h) (by kernel_rfl) (v := ?v5020) ?y5020 ?r5020
    case y5020 => (intro u hu; go_simp; try rfl)
    simp only [Act.put, List.setIfInBounds_toArray, List.set_cons_zero, List.set_cons_succ]
    refine wpAnyH_ready (rs := [18]) (by kernel_rfl) (by simp) (AllReadyH.cons ((nth_eq _ 18).trans rfl) ?_ AllReadyH.nil)
    intro K5 hK5
    have HPUT := new_put h0 b2 O2 (by rw [cutP_len l HKL.out]; have := h0.len; omega)
    have d1 := cell0 HPUT.1
    have f1 := thaw (j := 0) HPUT.1
    obtain ⟨y3, hy3⟩ : ∃ y3, y3 = y2.setCell ⟨p, 0, none⟩ (.slice aB m cB) := ⟨_, rfl⟩
    have HP2 : Hid (RdAt T B y3 p (.slice aB m cB) (cutP l k) ∧ Tn x0 y3 p (.slice a n cap) (.slice aB m cB)) := (by rw [hy3]; exact HPUT.2)
    refine skip_in hK5 (by kernel_rfl) y3 (by rw [hy3]; clear hy3 HPUT O1 O2 h0 LF0 LD0 H1 H2; go_simp; try rfl) trivial ?_
    simp only [Act.put, List.setIfInBounds_toArray, List.set_cons_zero, List.set_cons_succ]
    refine done_held (by kernel_rfl) ?_ _
    clear hy3 HPUT O1 O2 b1 b2 H1 H2
    go_wp2
    go_ret
    exact ⟨rfl, _, HP2.out.1, (Tn.of_below p _ B0).trans HP2.out.2⟩
theorem run_allocO {o : Oper} {a : Act} {w : World} (ty : TypeId) (h1 : o.op = .alloc ty) (cs : Array Value) (hz : (zeroValue ty).run Try.prog w = .ok (.agg cs) w) :
    (execOp a.eval o).run Try.prog w = .ok (.value (.pointer (some ⟨w.heap.size, 0, none⟩))) (w.alloc (.cells cs ty)) := by
  unfold execOp
  simp only [h1, Instr.alloc, Sem.run_bind, hz, newVar, newRow, run_newObj_alloc, Sem.run_pure, Result.andThen_ok, Value.cells]
set_option maxRecDepth 100000 in
set_option maxHeartbeats 2000000 in
theorem rhear_none {R0 : TypeId} {B : Nat} {w : World} {p : Nat} {v : Value} (h : RdAt R0 B w p v []) (i : Int) (keep : Bool) : Calls Try.prog 14 #[.pointer (some ⟨p, 0, none⟩), .int .i64 i, .bool keep] w fun e w' => e = .returned (.tuple #[.agg (tlA tl0), .bool false]) ∧ RdAt R0 B w' p v [] ∧ Tn w w' p v v := by
  obtain ⟨w1, hw1⟩ : ∃ w1, w1 = w.alloc (.cells (tlA tl0) 42) := ⟨_, rfl⟩
  have b1 : Below w.heap.size w w1 := by rw [hw1]; exact (Below.refl _ _).alloc (Nat.le_refl _) _
  have hz1 : w1.heap[w.heap.size]? = some (.cells (tlA tl0) 42 (0, 0)) := by rw [hw1]; exact World.alloc_heap_new _ _
  have c1 := (h.go b1).c0
  have HE : Hid (RdAt R0 B (w1.setRow w.heap.size (tlA tl0)) p v [] ∧ Tn w (w1.setRow w.heap.size (tlA tl0)) p v v) := ⟨(h.go b1).keepRow _ _ (by have := h.lt; omega) (fun e => by have := (h.own.lt _ e).2; omega), (Tn.of_below p v b1).row_ (Nat.le_refl _) _⟩
  have HZ : Hid (w1.heap[w.heap.size]? = some (.cells (tlA tl0) 42 (0, 0))) := hz1
  obtain ⟨a, cap, rfl⟩ := own_slice h.own (n := 0) rfl
  clear h b1 hz1
  go_enter Try.func14, Try.ntmps14
  go_wp2_with (first
    | (refine wpList_allocTele rfl rfl ?_; rw [← hw1]; clear hw1)
    | (refine wpList_build0 rfl rfl ?_)
    | (refine wpList_store_row rfl 42 (.tmp 6) (.tmp 15) rfl w.heap.size (tlA tl0) rfl rfl 42 (tlA tl0) HZ.out infoTele rfl (tlA_one _) ?_))
  exact bodyPost_ret (results_cell_tmp Try.results14 _ _ w.heap.size _ rfl (load_tele (setRow_heap _ _ _ _ _ _ HZ.out))) rfl ⟨rfl, HE.out⟩
set_option maxRecDepth 100000 in
set_option maxHeartbeats 4000000 in
theorem rhear_any {R0 : TypeId} {B : Nat} {w : World} {p : Nat} {v : Value} {l : List Tl} (h : RdAt R0 B w p v l) (i : Int) (keep : Bool) (t : Tl) (ht : l[plN i l.length]? = some t) : Calls Try.prog 14 #[.pointer (some ⟨p, 0, none⟩), .int .i64 i, .bool keep] w fun e w' => e = .returned (.tuple #[.agg (tlA t), .bool true]) ∧ ∃ v', RdAt R0 B w' p v' (if keep then l else cutP l (plN i l.length)) ∧ Tn w w' p v v' := by
  obtain ⟨w1, hw1⟩ : ∃ w1, w1 = w.alloc (.cells (tlA tl0) 42) := ⟨_, rfl⟩
  have b1 : Below w.heap.size w w1 := by rw [hw1]; exact (Below.refl _ _).alloc (Nat.le_refl _) _
  have hz1 : w1.heap[w.heap.size]? = some (.cells (tlA tl0) 42 (0, 0)) := by rw [hw1]; exact World.alloc_heap_new _ _
  have h1 := h.go b1
  have hl0 : 0 < l.length := by have := (List.getElem?_eq_some_iff.1 ht).1; omega
  obtain ⟨k, hPN⟩ : ∃ k, plN i l.length = k := ⟨_, rfl⟩
  rw [hPN] at ht ⊢
  obtain ⟨hk, hkt⟩ := List.getElem?_eq_some_iff.1 ht
  obtain ⟨n, hn⟩ : ∃ n, l.length = n := ⟨_, rfl⟩
  obtain ⟨g, cap, rfl, lg, _⟩ := own_item h1.own hn (k := k) (by omega)
  have c1 := h1.c0
  have lg0 : g < w.heap.size := (h.own.lt g rfl).2
  have s1 : w1.heap.size = w.heap.size + 1 := by rw [hw1]; simp
  have HLD0 : Hid (∀ u, Below w1.heap.size w1 u → (loadVar 42 ⟨g, k * 19, none⟩).run Try.prog u = .ok (.agg (tlA t)) u) := fun u hu => by
    obtain ⟨g', cap', e1, lg', hl'⟩ := own_item (h1.go hu).own hn (k := k) (by omega)
    cases e1
    rw [hkt] at hl'
    exact hl' u rfl
  rw [hn] at hk
  have HK : Hid (k < n) := hk
  have hk1 : (k : Int) < (n : Int) := by omega
  have hn0 : ¬ ((n : Int) = 0) := by omega
  have hn1 : ((n : Int) == 0) = false := by simp; omega
  have HLT : Hid (p < w.heap.size) := h.lt
  have HL0 : Hid (0 < l.length) := hl0
  have HPN : Hid (plN i l.length = k) := hPN
  have H1 : Hid (RdAt R0 B w1 p (.slice (some ⟨g, 0, none⟩) n cap) l) := h1
  have B1 : Hid (Below w.heap.size w w1) := b1
  have LG : Hid (g < w.heap.size) := lg0
  obtain ⟨gw, hgw⟩ : ∃ gw, w.heap.size = gw := ⟨_, rfl⟩
  have HGW : Hid (w.heap.size = gw) := hgw
  have HZ0 : Hid (w1.heap[gw]? = some (.cells (tlA tl0) 42 (0, 0))) := hgw ▸ hz1
  have S1 : Hid (w1.heap.size = gw + 1) := by show _ = _; omega
  rw [hgw] at LG HLT
  clear h h1 b1 hz1 hk hkt ht s1 lg lg0 hn hl0 hPN
  cases keep with
  | true =>
    rw [if_pos rfl]
    go_enter Try.func14, Try.ntmps14
    go_upto_region 3 with (first
      | (refine wpList_allocTele rfl rfl ?_; rw [← hw1, hgw]; clear hw1 hgw))
    clear c1
    refine start_held (S := fun u => Below w1.drew.heap.size w1.drew u) 11 rfl (by kernel_rfl) (Below.refl _ _) ?_
    simp only [Array.replicate_succ, Array.replicate_zero, List.push_toArray, List.nil_append, List.cons_append]
    have B0 : Below w1.heap.size w1 w1.drew := (Below.refl _ _).drew
    have hS0 : Below w1.drew.heap.size w1.drew w1.drew := Below.refl _ _
    generalize w1.drew = x0 at *
    have HC0 : Hid (∀ u, Below x0.heap.size x0 u → u.cell? ⟨p, 0, none⟩ = some (.slice (some ⟨g, 0, none⟩) n cap)) := fun u hu => (H1.out.go (B0.trans (hu.mono B0.size))).c0
    have HLD : Hid (∀ u, Below x0.heap.size x0 u → (loadVar 42 ⟨g, k * 19, none⟩).run Try.prog u = .ok (.agg (tlA t)) u) := fun u hu => HLD0.out u (B0.trans (hu.mono B0.size))
    have HCP : Hid (∀ u, Below x0.heap.size x0 u → Calls Try.prog 22 #[.pointer (some ⟨p, 0, none⟩), .int .i64 i] u fun e w' => e = .returned (.int .i64 k) ∧ w' = u) := fun u hu => by
      have q := rplace_any (H1.out.go (B0.trans (hu.mono B0.size))) i HL0.out
      rw [HPN.out] at q
      exact q
    refine take_held 0 hS0 rfl (by kernel_rfl) (by kernel_rfl) (by kernel_rfl) (fun _ _ _ h => h) (by kernel_rfl) (v := ?v5021) ?y5021 ?r5021
    case y5021 => (intro u hu; go_simp; try rfl)
    simp only [Act.put, List.setIfInBounds_toArray, List.set_cons_zero, List.set_cons_succ]
    refine take_held 1 hS0 rfl (by kernel_rfl) (by kernel_rfl) (by kernel_rfl) (fun _ _ _ h => h) (by kernel_rfl) (v := ?v5022) ?y5022 ?r5022
    case y5022 => (intro u hu; go_simp; try rfl)
    simp only [Act.put, List.setIfInBounds_toArray, List.set_cons_zero, List.set_cons_succ]
    refine take_held 2 hS0 rfl (by kernel_rfl) (by kernel_rfl) (by kernel_rfl) (fun _ _ _ h => h) (by kernel_rfl) (v := ?v5023) ?y5023 ?r5023
    case y5023 => (intro u hu; go_simp; try rfl)
    simp only [Act.put, List.setIfInBounds_toArray, List.set_cons_zero, List.set_cons_succ]
    refine take_held 3 hS0 rfl (by kernel_rfl) (by kernel_rfl) (by kernel_rfl) (fun _ _ _ h => h) (by kernel_rfl) (v := ?v5024) ?y5024 ?r5024
    case y5024 => (intro u hu; have zz0 := HC0.out u hu; go_simp; try rfl)
    simp only [Act.put, List.setIfInBounds_toArray, List.set_cons_zero, List.set_cons_succ]
    refine take_held 4 hS0 rfl (by kernel_rfl) (by kernel_rfl) (by kernel_rfl) (fun _ _ _ h => h) (by kernel_rfl) (v := ?v5025) ?y5025 ?r5025
    case y5025 => (intro u hu; go_simp; try rfl)
    simp only [Act.put, List.setIfInBounds_toArray, List.set_cons_zero, List.set_cons_succ]
    refine take_held 5 hS0 rfl (by kernel_rfl) (by kernel_rfl) (by kernel_rfl) (fun _ _ _ h => h) (by kernel_rfl) (v := ?v5026) ?y5026 ?r5026
    case y5026 => (intro u hu; go_simp; try rfl)
    simp only [Act.put, List.setIfInBounds_toArray, List.set_cons_zero, List.set_cons_succ]
    refine wpAnyH_ready (rs := [6, 9]) (by kernel_rfl) (by simp) (AllReadyH.cons ((nth_eq _ 6).trans rfl) ?_ (AllReadyH.cons ((nth_eq _ 9).trans rfl) ?_ AllReadyH.nil))
    · intro K1 hK1
      refine call_in hK1 (by kernel_rfl) 22 #[.pointer (some ⟨p, 0, none⟩), .int .i64 i] (by go_simp) _ (as_ret (HCP.out _ hS0)) ?_
      rintro v1 x1 ⟨rfl, hw1⟩
      rw [hw1]
      clear hw1 x1
      refine ⟨hS0, ?_⟩
      simp only [Act.put, List.setIfInBounds_toArray, List.set_cons_zero, List.set_cons_succ]
      refine take_held 7 hS0 rfl (by kernel_rfl) (by kernel_rfl) (by kernel_rfl) (fun _ _ _ h => h) (by kernel_rfl) (v := ?v5027) ?y5027 ?r5027
      case y5027 => (intro u hu; go_simp; try rfl)
      simp only [Act.put, List.setIfInBounds_toArray, List.set_cons_zero, List.set_cons_succ]
      refine take_held 8 hS0 rfl (by kernel_rfl) (by kernel_rfl) (by kernel_rfl) (fun _ _ _ h => h) (by kernel_rfl) (v := .agg (tlA t)) ?y5028 ?r5028
      case y5028 => (intro u hu; exact run_load_at 42 _ rfl ⟨g, k * 19, none⟩ rfl _ (HLD.out _ hu))
      simp only [Act.put, List.setIfInBounds_toArray, List.set_cons_zero, List.set_cons_succ]
      refine wpAnyH_ready (rs := [9]) (by kernel_rfl) (by simp) (AllReadyH.cons ((nth_eq _ 9).trans rfl) ?_ AllReadyH.nil)
      intro K2 hK2
      obtain ⟨x2, hx2⟩ : ∃ x, x = x0.alloc (.cells (tlA tl0) 42) := ⟨_, rfl⟩
      have b2 : Below x0.heap.size x0 x2 := by rw [hx2]; exact (Below.refl _ _).alloc (Nat.le_refl _) _
      have hS2 := hS0.trans (b2.mono hS0.size)
      have ha2 : x2.heap[x0.heap.size]? = some (.cells (tlA tl0) 42 (0, 0)) := by rw [hx2]; exact World.alloc_heap_new _ _
      refine value_in hK2 (by kernel_rfl) (.pointer (some ⟨x0.heap.size, 0, none⟩)) x2 (by rw [hx2]; exact run_allocO 42 rfl (tlA tl0) (zeroTele _)) hS2 ?_
      clear hx2 b2
      simp only [Act.put, List.setIfInBounds_toArray, List.set_cons_zero, List.set_cons_succ]
      refine wpAnyH_ready (rs := [10]) (by kernel_rfl) (by simp) (AllReadyH.cons ((nth_eq _ 10).trans rfl) ?_ AllReadyH.nil)
      intro K3 hK3
      obtain ⟨x3, hx3⟩ : ∃ x, x = x2.setRow x0.heap.size (tlA t) := ⟨_, rfl⟩
      have hS3 : Below x0.heap.size x0 x3 := by rw [hx3]; exact below_row hS2 hS0.size _
      have ha3 : x3.heap[x0.heap.size]? = some (.cells (tlA t) 42 (0, 0)) := by rw [hx3]; exact setRow_heap _ _ _ _ _ _ ha2
      refine skip_in hK3 (by kernel_rfl) x3 (by rw [hx3]; exact run_store_op 42 _ _ rfl x0.heap.size (tlA t) rfl rfl (run_storeVar_row _ _ _ _ _ _ ha2 infoTele rfl (tlA_one _))) hS3 ?_
      clear hx3
      simp only [Act.put, List.setIfInBounds_toArray, List.set_cons_zero, List.set_cons_succ]
      refine done_held (by kernel_rfl) ?_ _
      obtain ⟨bx, hbx⟩ : ∃ bx, x0.heap.size = bx := ⟨_, rfl⟩
      have HBe : Hid (Below w1.heap.size w1 x3) := B0.trans (hS3.mono B0.size)
      have HZ2 : Hid (x3.heap[bx]? = some (.cells (tlA t) 42 (0, 0))) := hbx ▸ ha3
      have HGB : Hid (gw < bx) := (by have := hS0.size; have := B0.size; have := S1.out; show gw < bx; omega)
      have HZ1 : Hid (x3.heap[gw]? = some (.cells (tlA tl0) 42 (0, 0))) := (HBe.out.block _ (by have := S1.out; omega)).trans HZ0.out
      have HRe : RdAt R0 B x3 p (.slice (some ⟨g, 0, none⟩) n cap) l := H1.out.go HBe.out
      have HTe : Hid (Tn w x3 p (.slice (some ⟨g, 0, none⟩) n cap) (.slice (some ⟨g, 0, none⟩) n cap)) := Tn.of_below _ _ (B1.out.trans (HBe.out.mono (by have := S1.out; have := HGW.out; omega)))
      rw [hbx]
      obtain ⟨xe, hxe⟩ : ∃ xe, x3 = xe := ⟨_, rfl⟩
      rw [hxe] at HBe HZ2 HZ1 HRe HTe
      rw [hxe]
      have HRe2 : Hid (RdAt R0 B xe p (.slice (some ⟨g, 0, none⟩) n cap) l) := HRe
      clear HRe hxe hbx hS3 ha3 B0
      go_wp2_with (first
        | (refine wpList_load_at rfl 42 (.tmp 8) rfl ⟨bx, 0, none⟩ rfl (tlA t) (load_tele HZ2.out) ?_)
        | (refine wpList_store_row rfl 42 (.tmp 6) (.tmp 30) rfl gw (tlA t) rfl rfl 42 (tlA tl0) HZ1.out infoTele rfl (tlA_one _) ?_))
      exact bodyPost_ret (results_cell_tmp Try.results14 _ _ gw _ rfl (load_tele (setRow_heap _ _ _ _ _ _ HZ1.out))) rfl ⟨rfl, _, HRe2.out.keepRow _ _ (by have := HLT.out; omega) (own_ne (by have := LG.out; omega)), HTe.out.row_ (by rw [HGW.out]; exact Nat.le_refl _) _⟩
    · intro K1 hK1
      obtain ⟨x1, hx1⟩ : ∃ x, x = x0.alloc (.cells (tlA tl0) 42) := ⟨_, rfl⟩
      have b1 : Below x0.heap.size x0 x1 := by rw [hx1]; exact (Below.refl _ _).alloc (Nat.le_refl _) _
      have hS1 := hS0.trans (b1.mono hS0.size)
      have ha1 : x1.heap[x0.heap.size]? = some (.cells (tlA tl0) 42 (0, 0)) := by rw [hx1]; exact World.alloc_heap_new _ _
      refine value_in hK1 (by kernel_rfl) (.pointer (some ⟨x0.heap.size, 0, none⟩)) x1 (by rw [hx1]; exact run_allocO 42 rfl (tlA tl0) (zeroTele _)) hS1 ?_
      clear hx1 b1
      simp only [Act.put, List.setIfInBounds_toArray, List.set_cons_zero, List.set_cons_succ]
      refine wpAnyH_ready (rs := [6]) (by kernel_rfl) (by simp) (AllReadyH.cons ((nth_eq _ 6).trans rfl) ?_ AllReadyH.nil)
      intro K2 hK2
      refine call_in hK2 (by kernel_rfl) 22 #[.pointer (some ⟨p, 0, none⟩), .int .i64 i] (by go_simp) _ (as_ret (HCP.out _ hS1)) ?_
      rintro v2 x2 ⟨rfl, hw2⟩
      rw [hw2]
      clear hw2 x2
      refine ⟨hS1, ?_⟩
      simp only [Act.put, List.setIfInBounds_toArray, List.set_cons_zero, List.set_cons_succ]
      refine take_held 7 hS1 rfl (by kernel_rfl) (by kernel_rfl) (by kernel_rfl) (fun _ _ _ h => h) (by kernel_rfl) (v := ?v5029) ?y5029 ?r5029
      case y5029 => (intro u hu; go_simp; try rfl)
      simp only [Act.put, List.setIfInBounds_toArray, List.set_cons_zero, List.set_cons_succ]
      refine take_held 8 hS1 rfl (by kernel_rfl) (by kernel_rfl) (by kernel_rfl) (fun _ _ _ h => h) (by kernel_rfl) (v := .agg (tlA t)) ?y5030 ?r5030
      case y5030 => (intro u hu; exact run_load_at 42 _ rfl ⟨g, k * 19, none⟩ rfl _ (HLD.out _ hu))
      simp only [Act.put, List.setIfInBounds_toArray, List.set_cons_zero, List.set_cons_succ]
      refine wpAnyH_ready (rs := [10]) (by kernel_rfl) (by simp) (AllReadyH.cons ((nth_eq _ 10).trans rfl) ?_ AllReadyH.nil)
      intro K3 hK3
      obtain ⟨x3, hx3⟩ : ∃ x, x = x1.setRow x0.heap.size (tlA t) := ⟨_, rfl⟩
      have hS3 : Below x0.heap.size x0 x3 := by rw [hx3]; exact below_row hS1 hS0.size _
      have ha3 : x3.heap[x0.heap.size]? = some (.cells (tlA t) 42 (0, 0)) := by rw [hx3]; exact setRow_heap _ _ _ _ _ _ ha1
      refine skip_in hK3 (by kernel_rfl) x3 (by rw [hx3]; exact run_store_op 42 _ _ rfl x0.heap.size (tlA t) rfl rfl (run_storeVar_row _ _ _ _ _ _ ha1 infoTele rfl (tlA_one _))) hS3 ?_
      clear hx3
      simp only [Act.put, List.setIfInBounds_toArray, List.set_cons_zero, List.set_cons_succ]
      refine done_held (by kernel_rfl) ?_ _
      obtain ⟨bx, hbx⟩ : ∃ bx, x0.heap.size = bx := ⟨_, rfl⟩
      have HBe : Hid (Below w1.heap.size w1 x3) := B0.trans (hS3.mono B0.size)
      have HZ2 : Hid (x3.heap[bx]? = some (.cells (tlA t) 42 (0, 0))) := hbx ▸ ha3
      have HGB : Hid (gw < bx) := (by have := hS0.size; have := B0.size; have := S1.out; show gw < bx; omega)
      have HZ1 : Hid (x3.heap[gw]? = some (.cells (tlA tl0) 42 (0, 0))) := (HBe.out.block _ (by have := S1.out; omega)).trans HZ0.out
      have HRe : RdAt R0 B x3 p (.slice (some ⟨g, 0, none⟩) n cap) l := H1.out.go HBe.out
      have HTe : Hid (Tn w x3 p (.slice (some ⟨g, 0, none⟩) n cap) (.slice (some ⟨g, 0, none⟩) n cap)) := Tn.of_below _ _ (B1.out.trans (HBe.out.mono (by have := S1.out; have := HGW.out; omega)))
      rw [hbx]
      obtain ⟨xe, hxe⟩ : ∃ xe, x3 = xe := ⟨_, rfl⟩
      rw [hxe] at HBe HZ2 HZ1 HRe HTe
      rw [hxe]
      have HRe2 : Hid (RdAt R0 B xe p (.slice (some ⟨g, 0, none⟩) n cap) l) := HRe
      clear HRe hxe hbx hS3 ha3 B0
      go_wp2_with (first
        | (refine wpList_load_at rfl 42 (.tmp 8) rfl ⟨bx, 0, none⟩ rfl (tlA t) (load_tele HZ2.out) ?_)
        | (refine wpList_store_row rfl 42 (.tmp 6) (.tmp 30) rfl gw (tlA t) rfl rfl 42 (tlA tl0) HZ1.out infoTele rfl (tlA_one _) ?_))
      exact bodyPost_ret (results_cell_tmp Try.results14 _ _ gw _ rfl (load_tele (setRow_heap _ _ _ _ _ _ HZ1.out))) rfl ⟨rfl, _, HRe2.out.keepRow _ _ (by have := HLT.out; omega) (own_ne (by have := LG.out; omega)), HTe.out.row_ (by rw [HGW.out]; exact Nat.le_refl _) _⟩
  | false =>
    rw [if_neg (by decide)]
    go_enter Try.func14, Try.ntmps14
    go_upto_region 3 with (first
      | (refine wpList_allocTele rfl rfl ?_; rw [← hw1, hgw]; clear hw1 hgw))
    clear c1
    refine start_held (S := fun u => Below w1.drew.heap.size w1.drew u) 11 rfl (by kernel_rfl) (Below.refl _ _) ?_
    simp only [Array.replicate_succ, Array.replicate_zero, List.push_toArray, List.nil_append, List.cons_append]
    have B0 : Below w1.heap.size w1 w1.drew := (Below.refl _ _).drew
    have hS0 : Below w1.drew.heap.size w1.drew w1.drew := Below.refl _ _
    generalize w1.drew = x0 at *
    have HC0 : Hid (∀ u, Below x0.heap.size x0 u → u.cell? ⟨p, 0, none⟩ = some (.slice (some ⟨g, 0, none⟩) n cap)) := fun u hu => (H1.out.go (B0.trans (hu.mono B0.size))).c0
    have HLD : Hid (∀ u, Below x0.heap.size x0 u → (loadVar 42 ⟨g, k * 19, none⟩).run Try.prog u = .ok (.agg (tlA t)) u) := fun u hu => HLD0.out u (B0.trans (hu.mono B0.size))
    have HCP : Hid (∀ u, Below x0.heap.size x0 u → Calls Try.prog 22 #[.pointer (some ⟨p, 0, none⟩), .int .i64 i] u fun e w' => e = .returned (.int .i64 k) ∧ w' = u) := fun u hu => by
      have q := rplace_any (H1.out.go (B0.trans (hu.mono B0.size))) i HL0.out
      rw [HPN.out] at q
      exact q
    refine take_held 0 hS0 rfl (by kernel_rfl) (by kernel_rfl) (by kernel_rfl) (fun _ _ _ h => h) (by kernel_rfl) (v := ?v5031) ?y5031 ?r5031
    case y5031 => (intro u hu; go_simp; try rfl)
    simp only [Act.put, List.setIfInBounds_toArray, List.set_cons_zero, List.set_cons_succ]
    refine take_held 1 hS0 rfl (by kernel_rfl) (by kernel_rfl) (by kernel_rfl) (fun _ _ _ h => h) (by kernel_rfl) (v := ?v5032) ?y5032 ?r5032
    case y5032 => (intro u hu; go_simp; try rfl)
    simp only [Act.put, List.setIfInBounds_toArray, List.set_cons_zero, List.set_cons_succ]
    refine take_held 2 hS0 rfl (by kernel_rfl) (by kernel_rfl) (by kernel_rfl) (fun _ _ _ h => h) (by kernel_rfl) (v := ?v5033) ?y5033 ?r5033
    case y5033 => (intro u hu; go_simp; try rfl)
    simp only [Act.put, List.setIfInBounds_toArray, List.set_cons_zero, List.set_cons_succ]
    refine take_held 3 hS0 rfl (by kernel_rfl) (by kernel_rfl) (by kernel_rfl) (fun _ _ _ h => h) (by kernel_rfl) (v := ?v5034) ?y5034 ?r5034
    case y5034 => (intro u hu; have zz0 := HC0.out u hu; go_simp; try rfl)
    simp only [Act.put, List.setIfInBounds_toArray, List.set_cons_zero, List.set_cons_succ]
    refine take_held 4 hS0 rfl (by kernel_rfl) (by kernel_rfl) (by kernel_rfl) (fun _ _ _ h => h) (by kernel_rfl) (v := ?v5035) ?y5035 ?r5035
    case y5035 => (intro u hu; go_simp; try rfl)
    simp only [Act.put, List.setIfInBounds_toArray, List.set_cons_zero, List.set_cons_succ]
    refine take_held 5 hS0 rfl (by kernel_rfl) (by kernel_rfl) (by kernel_rfl) (fun _ _ _ h => h) (by kernel_rfl) (v := ?v5036) ?y5036 ?r5036
    case y5036 => (intro u hu; go_simp; try rfl)
    simp only [Act.put, List.setIfInBounds_toArray, List.set_cons_zero, List.set_cons_succ]
    refine wpAnyH_ready (rs := [6, 9]) (by kernel_rfl) (by simp) (AllReadyH.cons ((nth_eq _ 6).trans rfl) ?_ (AllReadyH.cons ((nth_eq _ 9).trans rfl) ?_ AllReadyH.nil))
    · intro K1 hK1
      refine call_in hK1 (by kernel_rfl) 22 #[.pointer (some ⟨p, 0, none⟩), .int .i64 i] (by go_simp) _ (as_ret (HCP.out _ hS0)) ?_
      rintro v1 x1 ⟨rfl, hw1⟩
      rw [hw1]
      clear hw1 x1
      refine ⟨hS0, ?_⟩
      simp only [Act.put, List.setIfInBounds_toArray, List.set_cons_zero, List.set_cons_succ]
      refine take_held 7 hS0 rfl (by kernel_rfl) (by kernel_rfl) (by kernel_rfl) (fun _ _ _ h => h) (by kernel_rfl) (v := ?v5037) ?y5037 ?r5037
      case y5037 => (intro u hu; go_simp; try rfl)
      simp only [Act.put, List.setIfInBounds_toArray, List.set_cons_zero, List.set_cons_succ]
      refine take_held 8 hS0 rfl (by kernel_rfl) (by kernel_rfl) (by kernel_rfl) (fun _ _ _ h => h) (by kernel_rfl) (v := .agg (tlA t)) ?y5038 ?r5038
      case y5038 => (intro u hu; exact run_load_at 42 _ rfl ⟨g, k * 19, none⟩ rfl _ (HLD.out _ hu))
      simp only [Act.put, List.setIfInBounds_toArray, List.set_cons_zero, List.set_cons_succ]
      refine wpAnyH_ready (rs := [9]) (by kernel_rfl) (by simp) (AllReadyH.cons ((nth_eq _ 9).trans rfl) ?_ AllReadyH.nil)
      intro K2 hK2
      obtain ⟨x2, hx2⟩ : ∃ x, x = x0.alloc (.cells (tlA tl0) 42) := ⟨_, rfl⟩
      have b2 : Below x0.heap.size x0 x2 := by rw [hx2]; exact (Below.refl _ _).alloc (Nat.le_refl _) _
      have hS2 := hS0.trans (b2.mono hS0.size)
      have ha2 : x2.heap[x0.heap.size]? = some (.cells (tlA tl0) 42 (0, 0)) := by rw [hx2]; exact World.alloc_heap_new _ _
      refine value_in hK2 (by kernel_rfl) (.pointer (some ⟨x0.heap.size, 0, none⟩)) x2 (by rw [hx2]; exact run_allocO 42 rfl (tlA tl0) (zeroTele _)) hS2 ?_
      clear hx2 b2
      simp only [Act.put, List.setIfInBounds_toArray, List.set_cons_zero, List.set_cons_succ]
      refine wpAnyH_ready (rs := [10]) (by kernel_rfl) (by simp) (AllReadyH.cons ((nth_eq _ 10).trans rfl) ?_ AllReadyH.nil)
      intro K3 hK3
      obtain ⟨x3, hx3⟩ : ∃ x, x = x2.setRow x0.heap.size (tlA t) := ⟨_, rfl⟩
      have hS3 : Below x0.heap.size x0 x3 := by rw [hx3]; exact below_row hS2 hS0.size _
      have ha3 : x3.heap[x0.heap.size]? = some (.cells (tlA t) 42 (0, 0)) := by rw [hx3]; exact setRow_heap _ _ _ _ _ _ ha2
      refine skip_in hK3 (by kernel_rfl) x3 (by rw [hx3]; exact run_store_op 42 _ _ rfl x0.heap.size (tlA t) rfl rfl (run_storeVar_row _ _ _ _ _ _ ha2 infoTele rfl (tlA_one _))) hS3 ?_
      clear hx3
      simp only [Act.put, List.setIfInBounds_toArray, List.set_cons_zero, List.set_cons_succ]
      refine done_held (by kernel_rfl) ?_ _
      obtain ⟨bx, hbx⟩ : ∃ bx, x0.heap.size = bx := ⟨_, rfl⟩
      have HBe : Hid (Below w1.heap.size w1 x3) := B0.trans (hS3.mono B0.size)
      have HZ2 : Hid (x3.heap[bx]? = some (.cells (tlA t) 42 (0, 0))) := hbx ▸ ha3
      have HGB : Hid (gw < bx) := (by have := hS0.size; have := B0.size; have := S1.out; show gw < bx; omega)
      have HZ1 : Hid (x3.heap[gw]? = some (.cells (tlA tl0) 42 (0, 0))) := (HBe.out.block _ (by have := S1.out; omega)).trans HZ0.out
      have HRe : RdAt R0 B x3 p (.slice (some ⟨g, 0, none⟩) n cap) l := H1.out.go HBe.out
      have HTe : Hid (Tn w x3 p (.slice (some ⟨g, 0, none⟩) n cap) (.slice (some ⟨g, 0, none⟩) n cap)) := Tn.of_below _ _ (B1.out.trans (HBe.out.mono (by have := S1.out; have := HGW.out; omega)))
      rw [hbx]
      obtain ⟨xe, hxe⟩ : ∃ xe, x3 = xe := ⟨_, rfl⟩
      rw [hxe] at HBe HZ2 HZ1 HRe HTe
      rw [hxe]
      have cd := rlose_any HRe i HL0.out
      rw [HPN.out] at cd
      have HRe2 : Hid (RdAt R0 B xe p (.slice (some ⟨g, 0, none⟩) n cap) l) := HRe
      have HLX : Hid (gw < xe.heap.size ∧ bx < xe.heap.size) := ⟨(Array.getElem?_eq_some_iff.1 HZ1.out).1, (Array.getElem?_eq_some_iff.1 HZ2.out).1⟩
      clear HRe hxe hbx hS3 ha3 B0
      go_wp2_with (first
        | (have X' := HZ5; refine wpList_load_at rfl 42 (.tmp 8) rfl ⟨bx, 0, none⟩ rfl (tlA t) (load_tele HZ5.out) ?_)
        | (have X' := HZ5; refine wpList_store_row rfl 42 (.tmp 6) (.tmp 30) rfl gw (tlA t) rfl rfl 42 (tlA tl0) HZ6.out infoTele rfl (tlA_one _) ?_)
        | (go_at_call 16; refine cd.mono ?_; rintro e x3 ⟨rfl, v3, k3, t3⟩; have HZ5 : Hid (x3.heap[bx]? = some (.cells (tlA t) 42 (0, 0))) := (t3.block bx HLX.out.2 (by have := HLT.out; have := HGB.out; omega) (own_ne (by have := LG.out; have := HGB.out; omega))).trans HZ2.out; have HZ6 : Hid (x3.heap[gw]? = some (.cells (tlA tl0) 42 (0, 0))) := (t3.block gw HLX.out.1 (by have := HLT.out; omega) (own_ne (by have := LG.out; omega))).trans HZ1.out; have HR3 : Hid (v3.ownBlock ≠ some gw) := (fun e => (t3.row gw e).elim (fun q => own_ne (by have := LG.out; omega) q) (fun q => by have := HLX.out.1; omega)); have K3 : Hid (RdAt R0 B x3 p v3 (cutP l k)) := k3; have T3 : Hid (Tn w x3 p (.slice (some ⟨g, 0, none⟩) n cap) v3) := HTe.out.trans t3; clear cd k3 t3))
      exact bodyPost_ret (results_cell_tmp Try.results14 _ _ gw _ rfl (load_tele (setRow_heap _ _ _ _ _ _ HZ6.out))) rfl ⟨rfl, _, K3.out.keepRow _ _ (by have := HLT.out; omega) HR3.out, T3.out.row_ (by rw [HGW.out]; exact Nat.le_refl _) _⟩
    · intro K1 hK1
      obtain ⟨x1, hx1⟩ : ∃ x, x = x0.alloc (.cells (tlA tl0) 42) := ⟨_, rfl⟩
      have b1 : Below x0.heap.size x0 x1 := by rw [hx1]; exact (Below.refl _ _).alloc (Nat.le_refl _) _
      have hS1 := hS0.trans (b1.mono hS0.size)
      have ha1 : x1.heap[x0.heap.size]? = some (.cells (tlA tl0) 42 (0, 0)) := by rw [hx1]; exact World.alloc_heap_new _ _
      refine value_in hK1 (by kernel_rfl) (.pointer (some ⟨x0.heap.size, 0, none⟩)) x1 (by rw [hx1]; exact run_allocO 42 rfl (tlA tl0) (zeroTele _)) hS1 ?_
      clear hx1 b1
      simp only [Act.put, List.setIfInBounds_toArray, List.set_cons_zero, List.set_cons_succ]
      refine wpAnyH_ready (rs := [6]) (by kernel_rfl) (by simp) (AllReadyH.cons ((nth_eq _ 6).trans rfl) ?_ AllReadyH.nil)
      intro K2 hK2
      refine call_in hK2 (by kernel_rfl) 22 #[.pointer (some ⟨p, 0, none⟩), .int .i64 i] (by go_simp) _ (as_ret (HCP.out _ hS1)) ?_
      rintro v2 x2 ⟨rfl, hw2⟩
      rw [hw2]
      clear hw2 x2
      refine ⟨hS1, ?_⟩
      simp only [Act.put, List.setIfInBounds_toArray, List.set_cons_zero, List.set_cons_succ]
      refine take_held 7 hS1 rfl (by kernel_rfl) (by kernel_rfl) (by kernel_rfl) (fun _ _ _ h => h) (by kernel_rfl) (v := ?v5039) ?y5039 ?r5039
      case y5039 => (intro u hu; go_simp; try rfl)
      simp only [Act.put, List.setIfInBounds_toArray, List.set_cons_zero, List.set_cons_succ]
      refine take_held 8 hS1 rfl (by kernel_rfl) (by kernel_rfl) (by kernel_rfl) (fun _ _ _ h => h) (by kernel_rfl) (v := .agg (tlA t)) ?y5040 ?r5040
      case y5040 => (intro u hu; exact run_load_at 42 _ rfl ⟨g, k * 19, none⟩ rfl _ (HLD.out _ hu))
      simp only [Act.put, List.setIfInBounds_toArray, List.set_cons_zero, List.set_cons_succ]
      refine wpAnyH_ready (rs := [10]) (by kernel_rfl) (by simp) (AllReadyH.cons ((nth_eq _ 10).trans rfl) ?_ AllReadyH.nil)
      intro K3 hK3
      obtain ⟨x3, hx3⟩ : ∃ x, x = x1.setRow x0.heap.size (tlA t) := ⟨_, rfl⟩
      have hS3 : Below x0.heap.size x0 x3 := by rw [hx3]; exact below_row hS1 hS0.size _
      have ha3 : x3.heap[x0.heap.size]? = some (.cells (tlA t) 42 (0, 0)) := by rw [hx3]; exact setRow_heap _ _ _ _ _ _ ha1
      refine skip_in hK3 (by kernel_rfl) x3 (by rw [hx3]; exact run_store_op 42 _ _ rfl x0.heap.size (tlA t) rfl rfl (run_storeVar_row _ _ _ _ _ _ ha1 infoTele rfl (tlA_one _))) hS3 ?_
      clear hx3
      simp only [Act.put, List.setIfInBounds_toArray, List.set_cons_zero, List.set_cons_succ]
      refine done_held (by kernel_rfl) ?_ _
      obtain ⟨bx, hbx⟩ : ∃ bx, x0.heap.size = bx := ⟨_, rfl⟩
      have HBe : Hid (Below w1.heap.size w1 x3) := B0.trans (hS3.mono B0.size)
      have HZ2 : Hid (x3.heap[bx]? = some (.cells (tlA t) 42 (0, 0))) := hbx ▸ ha3
      have HGB : Hid (gw < bx) := (by have := hS0.size; have := B0.size; have := S1.out; show gw < bx; omega)
      have HZ1 : Hid (x3.heap[gw]? = some (.cells (tlA tl0) 42 (0, 0))) := (HBe.out.block _ (by have := S1.out; omega)).trans HZ0.out
      have HRe : RdAt R0 B x3 p (.slice (some ⟨g, 0, none⟩) n cap) l := H1.out.go HBe.out
      have HTe : Hid (Tn w x3 p (.slice (some ⟨g, 0, none⟩) n cap) (.slice (some ⟨g, 0, none⟩) n cap)) := Tn.of_below _ _ (B1.out.trans (HBe.out.mono (by have := S1.out; have := HGW.out; omega)))
      rw [hbx]
      obtain ⟨xe, hxe⟩ : ∃ xe, x3 = xe := ⟨_, rfl⟩
      rw [hxe] at HBe HZ2 HZ1 HRe HTe
      rw [hxe]
      have cd := rlose_any HRe i HL0.out
      rw [HPN.out] at cd
      have HRe2 : Hid (RdAt R0 B xe p (.slice (some ⟨g, 0, none⟩) n cap) l) := HRe
      have HLX : Hid (gw < xe.heap.size ∧ bx < xe.heap.size) := ⟨(Array.getElem?_eq_some_iff.1 HZ1.out).1, (Array.getElem?_eq_some_iff.1 HZ2.out).1⟩
      clear HRe hxe hbx hS3 ha3 B0
      go_wp2_with (first
        | (have X' := HZ5; refine wpList_load_at rfl 42 (.tmp 8) rfl ⟨bx, 0, none⟩ rfl (tlA t) (load_tele HZ5.out) ?_)
        | (have X' := HZ5; refine wpList_store_row rfl 42 (.tmp 6) (.tmp 30) rfl gw (tlA t) rfl rfl 42 (tlA tl0) HZ6.out infoTele rfl (tlA_one _) ?_)
        | (go_at_call 16; refine cd.mono ?_; rintro e x3 ⟨rfl, v3, k3, t3⟩; have HZ5 : Hid (x3.heap[bx]? = some (.cells (tlA t) 42 (0, 0))) := (t3.block bx HLX.out.2 (by have := HLT.out; have := HGB.out; omega) (own_ne (by have := LG.out; have := HGB.out; omega))).trans HZ2.out; have HZ6 : Hid (x3.heap[gw]? = some (.cells (tlA tl0) 42 (0, 0))) := (t3.block gw HLX.out.1 (by have := HLT.out; omega) (own_ne (by have := LG.out; omega))).trans HZ1.out; have HR3 : Hid (v3.ownBlock ≠ some gw) := (fun e => (t3.row gw e).elim (fun q => own_ne (by have := LG.out; omega) q) (fun q => by have := HLX.out.1; omega)); have K3 : Hid (RdAt R0 B x3 p v3 (cutP l k)) := k3; have T3 : Hid (Tn w x3 p (.slice (some ⟨g, 0, none⟩) n cap) v3) := HTe.out.trans t3; clear cd k3 t3))
      exact bodyPost_ret (results_cell_tmp Try.results14 _ _ gw _ rfl (load_tele (setRow_heap _ _ _ _ _ _ HZ6.out))) rfl ⟨rfl, _, K3.out.keepRow _ _ (by have := HLT.out; omega) HR3.out, T3.out.row_ (by rw [HGW.out]; exact Nat.le_refl _) _⟩
theorem run_one_op {o : Oper} {a : Act} {w : World} (x : Operand) (ho : o.op = .buildSlice 27 1 #[(0, x)]) (t : Tl) (hx : a.eval x = .agg (tlA t)) : (execOp a.eval o).run Try.prog w = .ok (.value (.slice (some ⟨w.heap.size, 0, none⟩) 1 1)) (w.alloc (.cells (tlA t) 42)) := by
  unfold execOp
  simp only [ho, List.map_toArray, List.map_cons, List.map_nil, hx, Sem.run_bind, run_one, Result.andThen_ok, Sem.run_pure]
set_option maxRecDepth 100000 in
set_option maxHeartbeats 4000000 in
theorem rsend_any {R0 : TypeId} {B : Nat} {w : World} {p : Nat} {v : Value} {l : List Tl} {W0 : World} (h : RdAt R0 B w p v l) (hb : Below B W0 w) {vs : Value} {zs : List Tl} (hz : ∀ u, Below B W0 u → Lies u vs zs) (k : Nat) (hk : k = min zs.length (1024 - l.length)) :
    Calls Try.prog 12 #[.pointer (some ⟨p, 0, none⟩), vs] w fun e w' => e = .returned (.int .i64 k) ∧ ∃ v', RdAt R0 B w' p v' (l ++ zs.take k) ∧ Tn w w' p v v' := by
  obtain ⟨N, hN⟩ : ∃ N, zs.length = N := ⟨_, rfl⟩
  obtain ⟨az, cz, rfl⟩ := (hz w hb).form hN
  have HZ : Hid (∀ u, Below B W0 u → Lies u (.slice az N cz) zs) := hz
  have HN : Hid (zs.length = N) := hN
  have hl := h.len
  have HK : Hid (k = min N (1024 - l.length) ∧ l.length ≤ 1024) := ⟨by rw [← hN]; exact hk, hl⟩
  have HB0 : Hid (Below B W0 w) := hb
  have H00 : Hid (RdAt R0 B w p v l) := h
  clear hz hN hk hb hl
  go_enter Try.func12, Try.ntmps12
  go_wp2_with fail
  go_loopw [5, 6] (fun cn ci wr => ∃ (j : Nat) (v1 : Value), cn = .int .i64 j ∧ ci = .int .i64 j ∧ j ≤ k ∧ RdAt R0 B wr p v1 (l ++ zs.take j) ∧ Tn w wr p v v1) (fun _ ci _ => k - (intOf ci).toNat)
  case atStart => exact ⟨0, _, rfl, rfl, Nat.zero_le _, by simpa using H00.out, Tn.refl _ _ _⟩
  case round =>
    obtain ⟨j, v1, rfl, rfl, hj, G, t1⟩ := hrel
    obtain ⟨m, hm⟩ : ∃ m, (l ++ zs.take j).length = m := ⟨_, rfl⟩
    obtain ⟨a, cap, rfl⟩ := own_slice G.own hm
    have c1 := G.c0
    have hmj : m = l.length + j := by rw [← hm, List.length_append, List.length_take]; have := HN.out; have := HK.out; omega
    have HMJ : Hid (m = l.length + j) := hmj
    clear hmj
    have HT1 : Hid (Tn w wr p v (.slice a m cap)) := t1
    have BW : Hid (Below B W0 wr) := t1.below H00.out HB0.out
    have HG : Hid (RdAt R0 B wr p (.slice a m cap) (l ++ zs.take j)) := G
    by_cases hd : j < N ∧ m < 1024
    · obtain ⟨hjN, hm4⟩ := hd
      have h3 : (j : Int) < (N : Int) := by omega
      have h4 : (m : Int) < 1024 := by omega
      have hj4 : (j : Int) < 1024 := by have := HMJ.out; omega
      have hjl : j < zs.length := by have := HN.out; omega
      obtain ⟨x, cp, e1, _⟩ := (HZ.out wr BW.out).item hjl
      rw [HN.out] at e1
      cases e1
      obtain ⟨t, ht⟩ : ∃ t, zs[j]'hjl = t := ⟨_, rfl⟩
      have HLD : Hid (∀ u, Below B W0 u → (loadVar 42 (x.add (j * 19))).run Try.prog u = .ok (.agg (tlA t)) u) := fun u hu => by
        obtain ⟨x', cp', e2, h1⟩ := (HZ.out u hu).item hjl
        rw [HN.out] at e2
        cases e2
        rw [ht] at h1
        exact h1
      have HTK : Hid (zs.take (j + 1) = zs.take j ++ [t]) := by show _ = _; rw [← ht, List.take_add_one, List.getElem?_eq_getElem hjl]; rfl
      have HJK : Hid (j + 1 ≤ k) := by have := HK.out; have := HMJ.out; show _ ≤ _; omega
      clear G t1 ht
      go_upto_region 5 with fail
      clear c1
      refine start_held (S := fun u => Below B W0 u) 14 rfl (by kernel_rfl) (Below.drew BW.out) ?_
      simp only [Array.replicate_succ, Array.replicate_zero, List.push_toArray, List.nil_append, List.cons_append]
      have B0 : Below wr.heap.size wr wr.drew := (Below.refl _ _).drew
      have hS0 : Below B W0 wr.drew := BW.out.drew
      have H0 : RdAt R0 B wr.drew p (.slice a m cap) (l ++ zs.take j) := HG.out.go B0
      generalize wr.drew = x0 at *
      refine take_held 0 hS0 rfl (by kernel_rfl) (by kernel_rfl) (by kernel_rfl) (fun _ _ _ h => h) (by kernel_rfl) (v := ?v5041) ?y5041 ?r5041
      case y5041 => (intro u hu; go_simp; try rfl)
      simp only [Act.put, List.setIfInBounds_toArray, List.set_cons_zero, List.set_cons_succ]
      refine take_held 1 hS0 rfl (by kernel_rfl) (by kernel_rfl) (by kernel_rfl) (fun _ _ _ h => h) (by kernel_rfl) (v := ?v5042) ?y5042 ?r5042
      case y5042 => (intro u hu; go_simp; try rfl)
      simp only [Act.put, List.setIfInBounds_toArray, List.set_cons_zero, List.set_cons_succ]
      refine take_held 2 hS0 rfl (by kernel_rfl) (by kernel_rfl) (by kernel_rfl) (fun _ _ _ h => h) (by kernel_rfl) (v := ?v5043) ?y5043 ?r5043
      case y5043 => (intro u hu; go_simp; try rfl)
      simp only [Act.put, List.setIfInBounds_toArray, List.set_cons_zero, List.set_cons_succ]
      refine take_held 3 hS0 rfl (by kernel_rfl) (by kernel_rfl) (by kernel_rfl) (fun _ _ _ h => h) (by kernel_rfl) (v := ?v5044) ?y5044 ?r5044
      case y5044 => (intro u hu; go_simp; try rfl)
      simp only [Act.put, List.setIfInBounds_toArray, List.set_cons_zero, List.set_cons_succ]
      refine take_held 5 hS0 rfl (by kernel_rfl) (by kernel_rfl) (by kernel_rfl) (fun _ _ _ h => h) (by kernel_rfl) (v := ?v5045) ?y5045 ?r5045
      case y5045 => (intro u hu; go_simp; try rfl)
      simp only [Act.put, List.setIfInBounds_toArray, List.set_cons_zero, List.set_cons_succ]
      refine take_held 6 hS0 rfl (by kernel_rfl) (by kernel_rfl) (by kernel_rfl) (fun _ _ _ h => h) (by kernel_rfl) (v := ?v5046) ?y5046 ?r5046
      case y5046 => (intro u hu; go_simp; try rfl)
      simp only [Act.put, List.setIfInBounds_toArray, List.set_cons_zero, List.set_cons_succ]
      refine take_held 7 hS0 rfl (by kernel_rfl) (by kernel_rfl) (by kernel_rfl) (fun _ _ _ h => h) (by kernel_rfl) (v := ?v5047) ?y5047 ?r5047
      case y5047 => (intro u hu; go_simp; try rfl)
      simp only [Act.put, List.setIfInBounds_toArray, List.set_cons_zero, List.set_cons_succ]
      refine take_held 8 hS0 rfl (by kernel_rfl) (by kernel_rfl) (by kernel_rfl) (fun _ _ _ h => h) (by kernel_rfl) (v := .agg (tlA t)) ?y5048 ?r5048
      case y5048 => (intro u hu; exact run_load_at 42 _ rfl (x.add (j * 19)) rfl _ (HLD.out u hu))
      simp only [Act.put, List.setIfInBounds_toArray, List.set_cons_zero, List.set_cons_succ]
      refine wpAnyH_ready (rs := [4, 9]) (by kernel_rfl) (by simp) (AllReadyH.cons ((nth_eq _ 4).trans rfl) ?_ (AllReadyH.cons ((nth_eq _ 9).trans rfl) ?_ AllReadyH.nil))
      · intro K1 hK1
        have cz1 := (H0).c0
        refine value_in hK1 (by kernel_rfl) (.slice a m cap) x0 (by go_simp; try rfl) hS0 ?_
        simp only [Act.put, List.setIfInBounds_toArray, List.set_cons_zero, List.set_cons_succ]
        refine wpAnyH_ready (rs := [9]) (by kernel_rfl) (by simp) (AllReadyH.cons ((nth_eq _ 9).trans rfl) ?_ AllReadyH.nil)
        intro K2 hK2
        obtain ⟨y1, hy1⟩ : ∃ y1, x0.alloc (.cells (tlA t) 42) = y1 := ⟨_, rfl⟩
        have b1 : Below x0.heap.size x0 y1 := by rw [← hy1]; exact (Below.refl _ _).alloc (Nat.le_refl _) _
        have O1 : Own y1 x0.heap.size (.slice (some ⟨x0.heap.size, 0, none⟩) 1 1) [t] := by rw [← hy1]; exact own_single t x0
        have H1 := H0.go b1
        have hS1 : Below B W0 y1 := hS0.trans (b1.mono (by have := H0.big; have := H0.lt; omega))
        refine value_in hK2 (by kernel_rfl) (.slice (some ⟨x0.heap.size, 0, none⟩) 1 1) y1 (by rw [← hy1]; exact run_one_op (.tmp 29) rfl t rfl) hS1 ?_
        clear hy1
        simp only [Act.put, List.setIfInBounds_toArray, List.set_cons_zero, List.set_cons_succ]
        refine wpAnyH_ready (rs := [10]) (by kernel_rfl) (by simp) (AllReadyH.cons ((nth_eq _ 10).trans rfl) ?_ AllReadyH.nil)
        intro K3 hK3
        obtain ⟨vB, y2, hrunB, O2, g2, at2⟩ := run_push_any H1.own (Lies.of_own O1) (by rw [hm]; simp; omega) (by have := H1.big; have := H1.lt; omega) 27
        obtain ⟨aB, cB, rfl⟩ := own_slice O2 (n := m + 1) (by simp only [List.length_append, List.length_cons, List.length_nil] at hm ⊢; omega)
        have HPUT := rd_put H1 g2 O2 (fun q e => at2.elim (fun z => Or.inl (z ▸ e)) (fun z => Or.inr (by rw [z] at e; cases e; exact Nat.le_refl _))) (by simp only [List.length_append, List.length_cons, List.length_nil] at hm ⊢; omega)
        have hS2 : Below B W0 y2 := ⟨g2.os.trans hS1.os, g2.tape.trans hS1.tape, g2.output.trans hS1.output, Nat.le_trans hS1.size g2.size, fun q hq => (g2.block q (by have := H1.big; have := H1.lt; omega) fun e => by have := (H1.own.lt q e.symm).1; omega).trans (hS1.block q hq)⟩
        refine value_in hK3 (by kernel_rfl) (.slice aB (m + 1) cB) y2 (run_push_op (.tmp 25) (.tmp 30) rfl _ _ _ rfl rfl hrunB) hS2 ?_
        clear hrunB
        simp only [Act.put, List.setIfInBounds_toArray, List.set_cons_zero, List.set_cons_succ]
        refine take_held 11 hS2 rfl (by kernel_rfl) (by kernel_rfl) (by kernel_rfl) (fun _ _ _ h => h) (by kernel_rfl) (v := ?v5049) ?y5049 ?r5049
        case y5049 => (intro u hu; go_simp; try rfl)
        simp only [Act.put, List.setIfInBounds_toArray, List.set_cons_zero, List.set_cons_succ]
        refine take_held 12 hS2 rfl (by kernel_rfl) (by kernel_rfl) (by kernel_rfl) (fun _ _ _ h => h) (by kernel_rfl) (v := ?v5050) ?y5050 ?r5050
        case y5050 => (intro u hu; go_simp; try rfl)
        simp only [Act.put, List.setIfInBounds_toArray, List.set_cons_zero, List.set_cons_succ]
        refine wpAnyH_ready (rs := [13]) (by kernel_rfl) (by simp) (AllReadyH.cons ((nth_eq _ 13).trans rfl) ?_ AllReadyH.nil)
        intro K4 hK4
        have d1 := cell0 HPUT.1
        have f1 := thaw (j := 0) HPUT.1
        obtain ⟨y3, hy3⟩ : ∃ y3, y3 = y2.setCell ⟨p, 0, none⟩ (.slice aB (m + 1) cB) := ⟨_, rfl⟩
        have HP2 : Hid (RdAt R0 B y3 p (.slice aB (m + 1) cB) ((l ++ zs.take j) ++ [t]) ∧ Tn y1 y3 p (.slice a m cap) (.slice aB (m + 1) cB)) := (by rw [hy3]; exact HPUT.2)
        have hS3 : Below B W0 y3 := HP2.out.2.below H1 hS1
        refine skip_in hK4 (by kernel_rfl) y3 (by rw [hy3]; clear hy3 HPUT O1 O2 H0 H1 hS0 hS1 hS2 hS3 HP2 g2 at2; go_simp; try rfl) hS3 ?_
        simp only [Act.put, List.setIfInBounds_toArray, List.set_cons_zero, List.set_cons_succ]
        refine done_held (by kernel_rfl) ?_ _
        have HT3 : Hid (Tn w y3 p v (.slice aB (m + 1) cB)) := (HT1.out.trans ((Tn.of_below p _ B0).trans (Tn.of_below p _ b1))).trans HP2.out.2
        have HG3 : Hid (RdAt R0 B y3 p (.slice aB (m + 1) cB) (l ++ zs.take (j + 1))) := by
          have q := HP2.out.1
          rw [List.append_assoc, ← HTK.out] at q
          exact q
        clear hy3 HPUT O1 O2 H0 H1 hS0 hS1 hS2 hS3 HP2 g2 at2 b1 B0 d1 f1
        go_wp2_with fail
        go_roundw
        case rel => exact ⟨j + 1, _, by go_num, by go_num, HJK.out, HG3.out, HT3.out⟩
        case measure => have := HJK.out; simp [intOf]; omega
      · intro K1 hK1
        obtain ⟨y1, hy1⟩ : ∃ y1, x0.alloc (.cells (tlA t) 42) = y1 := ⟨_, rfl⟩
        have b1 : Below x0.heap.size x0 y1 := by rw [← hy1]; exact (Below.refl _ _).alloc (Nat.le_refl _) _
        have O1 : Own y1 x0.heap.size (.slice (some ⟨x0.heap.size, 0, none⟩) 1 1) [t] := by rw [← hy1]; exact own_single t x0
        have H1 := H0.go b1
        have hS1 : Below B W0 y1 := hS0.trans (b1.mono (by have := H0.big; have := H0.lt; omega))
        refine value_in hK1 (by kernel_rfl) (.slice (some ⟨x0.heap.size, 0, none⟩) 1 1) y1 (by rw [← hy1]; exact run_one_op (.tmp 29) rfl t rfl) hS1 ?_
        clear hy1
        simp only [Act.put, List.setIfInBounds_toArray, List.set_cons_zero, List.set_cons_succ]
        refine wpAnyH_ready (rs := [4]) (by kernel_rfl) (by simp) (AllReadyH.cons ((nth_eq _ 4).trans rfl) ?_ AllReadyH.nil)
        intro K2 hK2
        have cz2 := (H1).c0
        refine value_in hK2 (by kernel_rfl) (.slice a m cap) y1 (by go_simp; try rfl) hS1 ?_
        simp only [Act.put, List.setIfInBounds_toArray, List.set_cons_zero, List.set_cons_succ]
        refine wpAnyH_ready (rs := [10]) (by kernel_rfl) (by simp) (AllReadyH.cons ((nth_eq _ 10).trans rfl) ?_ AllReadyH.nil)
        intro K3 hK3
        obtain ⟨vB, y2, hrunB, O2, g2, at2⟩ := run_push_any H1.own (Lies.of_own O1) (by rw [hm]; simp; omega) (by have := H1.big; have := H1.lt; omega) 27
        obtain ⟨aB, cB, rfl⟩ := own_slice O2 (n := m + 1) (by simp only [List.length_append, List.length_cons, List.length_nil] at hm ⊢; omega)
        have HPUT := rd_put H1 g2 O2 (fun q e => at2.elim (fun z => Or.inl (z ▸ e)) (fun z => Or.inr (by rw [z] at e; cases e; exact Nat.le_refl _))) (by simp only [List.length_append, List.length_cons, List.length_nil] at hm ⊢; omega)
        have hS2 : Below B W0 y2 := ⟨g2.os.trans hS1.os, g2.tape.trans hS1.tape, g2.output.trans hS1.output, Nat.le_trans hS1.size g2.size, fun q hq => (g2.block q (by have := H1.big; have := H1.lt; omega) fun e => by have := (H1.own.lt q e.symm).1; omega).trans (hS1.block q hq)⟩
        refine value_in hK3 (by kernel_rfl) (.slice aB (m + 1) cB) y2 (run_push_op (.tmp 25) (.tmp 30) rfl _ _ _ rfl rfl hrunB) hS2 ?_
        clear hrunB
        simp only [Act.put, List.setIfInBounds_toArray, List.set_cons_zero, List.set_cons_succ]
        refine take_held 11 hS2 rfl (by kernel_rfl) (by kernel_rfl) (by kernel_rfl) (fun _ _ _ h => h) (by kernel_rfl) (v := ?v5051) ?y5051 ?r5051
        case y5051 => (intro u hu; go_simp; try rfl)
        simp only [Act.put, List.setIfInBounds_toArray, List.set_cons_zero, List.set_cons_succ]
        refine take_held 12 hS2 rfl (by kernel_rfl) (by kernel_rfl) (by kernel_rfl) (fun _ _ _ h => h) (by kernel_rfl) (v := ?v5052) ?y5052 ?r5052
        case y5052 => (intro u hu; go_simp; try rfl)
        simp only [Act.put, List.setIfInBounds_toArray, List.set_cons_zero, List.set_cons_succ]
        refine wpAnyH_ready (rs := [13]) (by kernel_rfl) (by simp) (AllReadyH.cons ((nth_eq _ 13).trans rfl) ?_ AllReadyH.nil)
        intro K4 hK4
        have d1 := cell0 HPUT.1
        have f1 := thaw (j := 0) HPUT.1
        obtain ⟨y3, hy3⟩ : ∃ y3, y3 = y2.setCell ⟨p, 0, none⟩ (.slice aB (m + 1) cB) := ⟨_, rfl⟩
        have HP2 : Hid (RdAt R0 B y3 p (.slice aB (m + 1) cB) ((l ++ zs.take j) ++ [t]) ∧ Tn y1 y3 p (.slice a m cap) (.slice aB (m + 1) cB)) := (by rw [hy3]; exact HPUT.2)
        have hS3 : Below B W0 y3 := HP2.out.2.below H1 hS1
        refine skip_in hK4 (by kernel_rfl) y3 (by rw [hy3]; clear hy3 HPUT O1 O2 H0 H1 hS0 hS1 hS2 hS3 HP2 g2 at2; go_simp; try rfl) hS3 ?_
        simp only [Act.put, List.setIfInBounds_toArray, List.set_cons_zero, List.set_cons_succ]
        refine done_held (by kernel_rfl) ?_ _
        have HT3 : Hid (Tn w y3 p v (.slice aB (m + 1) cB)) := (HT1.out.trans ((Tn.of_below p _ B0).trans (Tn.of_below p _ b1))).trans HP2.out.2
        have HG3 : Hid (RdAt R0 B y3 p (.slice aB (m + 1) cB) (l ++ zs.take (j + 1))) := by
          have q := HP2.out.1
          rw [List.append_assoc, ← HTK.out] at q
          exact q
        clear hy3 HPUT O1 O2 H0 H1 hS0 hS1 hS2 hS3 HP2 g2 at2 b1 B0 d1 f1
        go_wp2_with fail
        go_roundw
        case rel => exact ⟨j + 1, _, by go_num, by go_num, HJK.out, HG3.out, HT3.out⟩
        case measure => have := HJK.out; simp [intOf]; omega
    · have HE : Hid (j = k) := by have := HK.out; have := HMJ.out; show _ = _; omega
      rw [HE.out] at G
      have HGk : Hid (RdAt R0 B wr p (.slice a m cap) (l ++ zs.take k)) := G
      have hI : ((j : Nat) : Int) = (k : Int) := by rw [HE.out]
      clear G t1
      by_cases h3 : (j : Int) < (N : Int)
      · have h4 : ¬ (m : Int) < 1024 := by omega
        clear hd
        go_wp2_with fail
        go_ret
        exact ⟨ret_int (by first | rfl | rw [HE.out]), _, HGk.out, HT1.out⟩
      · clear hd hI
        go_wp2_with fail
        go_ret
        exact ⟨ret_int (by first | rfl | rw [HE.out]), _, HGk.out, HT1.out⟩
end Go.Proofs.Ytdplacpdbknlgaa.Lk
