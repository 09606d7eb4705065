/-
  The law's own same: both tell alike.
-/
import Derived.Test.YtabbdclpjghdbaaStkRs15
namespace Go.Proofs.Ytabbdclpjghdbaa.Stk
set_option linter.unusedVariables false
set_option linter.unusedSimpArgs false
open Go Go.RowKit Go.Shelf Go.Proofs Go.Proofs.Ytabbdclpjghdbaa.Grid
attribute [local go_sem] Oper.semAt_some

theorem as_true {P : Program} {f : FuncId} {args : Array Value} {w : World} {α : Type} [DecidableEq α] {L : List α} (h : Calls P f args w fun e w' => ∃ r, e = .returned r ∧ r = .bool (decide (L = L)) ∧ Below w.heap.size w w') : Calls P f args w fun e w' => ∃ r, e = .returned r ∧ r = .bool true ∧ Below w.heap.size w w' :=
  h.mono fun e w' ⟨r, h1, h2, h3⟩ => ⟨r, h1, by rw [h2]; simp, h3⟩
set_option maxRecDepth 100000 in
set_option maxHeartbeats 2000000 in
theorem same_any {KP : Sk} {KR : Rk} {c : Conf} {us : List Int} {cs : Array Value} {vc : Value} {ps qs : List Pile} {ls : List Int} {w : World} (h : Both KP KR c us cs vc ps qs ls w) (vb vp vs : Value) (ar : Option Addr) (nr cr : Nat) (hn : nr ≤ 1000000) : Calls Try.prog 24 #[.agg #[.int .i64 c.W, .int .i64 c.H, .int .i64 c.height, vb, vp, .slice ar nr cr, vs, .int .i64 c.unit, .int .i64 c.accel, .int .i64 c.speed, .int .i64 c.turn, .int .i64 c.hoist, .int .i64 c.queue, .int .i64 c.resend, .int .i64 c.budget, .bool c.back], .pointer (some ⟨KP.s, 0, none⟩), .pointer (some ⟨KR.s, 0, none⟩)] w fun e w' => ∃ v, e = .returned v ∧ v = .bool true ∧ Below w.heap.size w w' := by
  obtain ⟨w1, hw1⟩ : ∃ z, w.alloc (.cells #[.int .i64 c.W, .int .i64 c.H, .int .i64 c.height, vb, vp, .slice ar nr cr, vs, .int .i64 c.unit, .int .i64 c.accel, .int .i64 c.speed, .int .i64 c.turn, .int .i64 c.hoist, .int .i64 c.queue, .int .i64 c.resend, .int .i64 c.budget, .bool c.back] 26) = z := ⟨_, rfl⟩
  have b1 : Below w.heap.size w w1 := by rw [← hw1]; exact below_new (Below.refl _ _) _
  have z1 : w1.heap[w.heap.size]? = some (.cells #[.int .i64 c.W, .int .i64 c.H, .int .i64 c.height, vb, vp, .slice ar nr cr, vs, .int .i64 c.unit, .int .i64 c.accel, .int .i64 c.speed, .int .i64 c.turn, .int .i64 c.hoist, .int .i64 c.queue, .int .i64 c.resend, .int .i64 c.budget, .bool c.back] 26 (0, 0)) := by rw [← hw1]; exact heap_alloc_new w _
  have HW1 : Hid (w.alloc (.cells #[.int .i64 c.W, .int .i64 c.H, .int .i64 c.height, vb, vp, .slice ar nr cr, vs, .int .i64 c.unit, .int .i64 c.accel, .int .i64 c.speed, .int .i64 c.turn, .int .i64 c.hoist, .int .i64 c.queue, .int .i64 c.resend, .int .i64 c.budget, .bool c.back] 26) = w1) := hw1
  have HB1 : Hid (Below w.heap.size w w1) := b1
  have HB : Hid (Both KP KR c us cs vc ps qs ls w1) := h.go b1
  have HNR : Hid (∀ u, Below w1.heap.size w1 u → u.cell? ⟨w.heap.size, 5, none⟩ = some (.slice ar nr cr)) := fun u bu => cell_below ((cell_of z1 5).trans rfl) bu
  have HTO := both_told h
  replace HTO : Hid (∀ u, Both KP KR c us cs vc ps qs ls u → Calls Try.prog 27 #[.pointer (some ⟨KP.s, 0, none⟩), .int .i64 1000] u fun e w' => ∃ v, e = .returned v ∧ ListAt 3 stackEl (fun b => b < w'.heap.size) (qs.map prS) v w' ∧ Below u.heap.size u w') := HTO
  obtain ⟨L, hL⟩ := both_bins h
  have HBI : Hid (L.length ≤ 9223372036854775807 ∧ (∀ u, Both KP KR c us cs vc ps qs ls u → Calls Try.prog 48 #[.pointer (some ⟨KP.s, 0, none⟩)] u fun e w' => ∃ v, e = .returned v ∧ ListAt 1 intEl (fun b => b < w'.heap.size) L v w' ∧ Below u.heap.size u w') ∧ (∀ u, Both KP KR c us cs vc ps qs ls u → Calls Try.prog 49 #[.pointer (some ⟨KR.s, 0, none⟩)] u fun e w' => ∃ v, e = .returned v ∧ ListAt 1 intEl (fun b => b < w'.heap.size) L v w' ∧ Below u.heap.size u w')) := hL
  have HC16 : Hid (∀ u, (Both KP KR c us cs vc ps qs ls u ∧ Below w1.heap.size w1 u) → u.cell? ⟨KR.s, 16, none⟩ = some vc) := fun u hu => hu.1.rs.c16
  have hmq := h.rs.many
  have hsq := h.rs.small
  have HSS : Hid (∀ (u : World) (v : Value), (Both KP KR c us cs vc ps qs ls u ∧ Below w1.heap.size w1 u) → ListAt 3 stackEl (fun b => b < u.heap.size) (qs.map prS) v u → Calls Try.prog 28 #[v, vc] u fun e w' => ∃ r, e = .returned r ∧ r = .bool true ∧ Below u.heap.size u w') := fun u v hu hl => as_true (sameStacks_any _ _ _ _ _ _ _ hl hu.1.rs.rows (fun _ h => h) hu.1.rs.rb_lt (by rw [List.length_map]; omega) (by rw [List.length_map]; omega) (fun s hs => by obtain ⟨q, hq, rfl⟩ := List.mem_map.1 hs; obtain ⟨i, hi, e⟩ := List.getElem_of_mem hq; have := hsq i q (by rw [List.getElem?_eq_getElem hi, e]); show q.2.2.length ≤ _; omega) (fun s hs => by obtain ⟨q, hq, rfl⟩ := List.mem_map.1 hs; obtain ⟨i, hi, e⟩ := List.getElem_of_mem hq; have := hsq i q (by rw [List.getElem?_eq_getElem hi, e]); show q.2.2.length ≤ _; omega))
  have hSgo : ∀ u, (Both KP KR c us cs vc ps qs ls u ∧ Below w1.heap.size w1 u) → ∀ u', Below u.heap.size u u' → (Both KP KR c us cs vc ps qs ls u' ∧ Below w1.heap.size w1 u') := fun u hu u' b => ⟨hu.1.go b, hu.2.trans (b.mono hu.2.size)⟩
  clear h hL hw1 b1 z1 hmq hsq
  go_enter Try.func24, Try.ntmps24
  go_upto_region 1 with fail
  rw [HW1.out]
  refine start_held (S := fun u => Both KP KR c us cs vc ps qs ls u ∧ Below w1.heap.size w1 u) 16 rfl (by kernel_rfl) (⟨HB.out.go (Below.refl _ _).drew, (Below.refl _ _).drew⟩) ?_
  simp only [Array.replicate_succ, Array.replicate_zero, List.push_toArray, List.nil_append, List.cons_append]
  have hS0 : Both KP KR c us cs vc ps qs ls w1.drew ∧ Below w1.heap.size w1 w1.drew := ⟨HB.out.go (Below.refl _ _).drew, (Below.refl _ _).drew⟩
  obtain ⟨x0, hx0⟩ : ∃ z, w1.drew = z := ⟨_, rfl⟩
  rw [hx0] at hS0 ⊢
  clear hx0
  refine take_held 0 hS0 rfl (by kernel_rfl) (by kernel_rfl) (by kernel_rfl) (fun _ _ _ h => h) (by kernel_rfl) (v := ?v5000) ?y5000 ?r5000
  case y5000 => (intro u hu; go_simp; try rfl)
  simp only [Act.put, List.setIfInBounds_toArray, List.set_cons_zero, List.set_cons_succ]
  refine take_held 2 hS0 rfl (by kernel_rfl) (by kernel_rfl) (by kernel_rfl) (fun _ _ _ h => h) (by kernel_rfl) (v := ?v5001) ?y5001 ?r5001
  case y5001 => (intro u hu; go_simp; try rfl)
  simp only [Act.put, List.setIfInBounds_toArray, List.set_cons_zero, List.set_cons_succ]
  refine take_held 3 hS0 rfl (by kernel_rfl) (by kernel_rfl) (by kernel_rfl) (fun _ _ _ h => h) (by kernel_rfl) (v := ?v5002) ?y5002 ?r5002
  case y5002 => (intro u hu; go_simp; try rfl)
  simp only [Act.put, List.setIfInBounds_toArray, List.set_cons_zero, List.set_cons_succ]
  refine take_held 4 hS0 rfl (by kernel_rfl) (by kernel_rfl) (by kernel_rfl) (fun _ _ _ h => h) (by kernel_rfl) (v := ?v5003) ?y5003 ?r5003
  case y5003 => (intro u hu; go_simp; try rfl)
  simp only [Act.put, List.setIfInBounds_toArray, List.set_cons_zero, List.set_cons_succ]
  refine take_held 5 hS0 rfl (by kernel_rfl) (by kernel_rfl) (by kernel_rfl) (fun _ _ _ h => h) (by kernel_rfl) (v := ?v5004) ?y5004 ?r5004
  case y5004 => (intro u hu; have zz0 := HC16.out u hu; go_simp; try rfl)
  simp only [Act.put, List.setIfInBounds_toArray, List.set_cons_zero, List.set_cons_succ]
  refine wpAnyH_ready (rs := [1]) (by kernel_rfl) (by simp) (AllReadyH.cons ((nth_eq _ 1).trans rfl) ?_ AllReadyH.nil)
  intro K1 hK1
  refine call_in hK1 (by kernel_rfl) 27 #[.pointer (some ⟨KP.s, 0, none⟩), .int .i64 1000] (by go_simp) _ (HTO.out _ hS0.1) ?_
  rintro v1 x1 ⟨LT1, b1⟩
  have hS1 := hSgo _ hS0 _ b1
  refine ⟨hS1, ?_⟩
  simp only [Act.put, List.setIfInBounds_toArray, List.set_cons_zero, List.set_cons_succ]
  refine wpAnyH_ready (rs := [6]) (by kernel_rfl) (by simp) (AllReadyH.cons ((nth_eq _ 6).trans rfl) ?_ AllReadyH.nil)
  intro K2 hK2
  refine call_in hK2 (by kernel_rfl) 28 #[v1, vc] (by go_simp) _ (HSS.out _ _ hS1 LT1) ?_
  rintro v2 x2 ⟨rfl, b2⟩
  have hS2 := hSgo _ hS1 _ b2
  have LT2 := (LT1.go heldStack (fun _ h => h) b2).mono heldStack (fun _ h => Nat.lt_of_lt_of_le h b2.size)
  refine ⟨hS2, ?_⟩
  simp only [Act.put, List.setIfInBounds_toArray, List.set_cons_zero, List.set_cons_succ]
  refine take_held 7 hS2 rfl (by kernel_rfl) (by kernel_rfl) (by kernel_rfl) (fun _ _ _ h => h) (by kernel_rfl) (v := ?v5005) ?y5005 ?r5005
  case y5005 => (intro u hu; go_simp; try rfl)
  simp only [Act.put, List.setIfInBounds_toArray, List.set_cons_zero, List.set_cons_succ]
  refine take_held 8 hS2 rfl (by kernel_rfl) (by kernel_rfl) (by kernel_rfl) (fun _ _ _ h => h) (by kernel_rfl) (v := ?v5006) ?y5006 ?r5006
  case y5006 => (intro u hu; go_simp; try rfl)
  simp only [Act.put, List.setIfInBounds_toArray, List.set_cons_zero, List.set_cons_succ]
  refine take_held 9 hS2 rfl (by kernel_rfl) (by kernel_rfl) (by kernel_rfl) (fun _ _ _ h => h) (by kernel_rfl) (v := ?v5007) ?y5007 ?r5007
  case y5007 => (intro u hu; go_simp; try rfl)
  simp only [Act.put, List.setIfInBounds_toArray, List.set_cons_zero, List.set_cons_succ]
  refine take_held 11 hS2 rfl (by kernel_rfl) (by kernel_rfl) (by kernel_rfl) (fun _ _ _ h => h) (by kernel_rfl) (v := ?v5008) ?y5008 ?r5008
  case y5008 => (intro u hu; go_simp; try rfl)
  simp only [Act.put, List.setIfInBounds_toArray, List.set_cons_zero, List.set_cons_succ]
  refine wpAnyH_ready (rs := [10]) (by kernel_rfl) (by simp) (AllReadyH.cons ((nth_eq _ 10).trans rfl) ?_ AllReadyH.nil)
  intro K3 hK3
  refine call_in hK3 (by kernel_rfl) 48 #[.pointer (some ⟨KP.s, 0, none⟩)] (by go_simp) _ (HBI.out.2.1 _ hS2.1) ?_
  rintro v3 x3 ⟨LA3, b3⟩
  have hS3 := hSgo _ hS2 _ b3
  have LT3 := (LT2.go heldStack (fun _ h => h) b3).mono heldStack (fun _ h => Nat.lt_of_lt_of_le h b3.size)
  refine ⟨hS3, ?_⟩
  simp only [Act.put, List.setIfInBounds_toArray, List.set_cons_zero, List.set_cons_succ]
  refine wpAnyH_ready (rs := [12]) (by kernel_rfl) (by simp) (AllReadyH.cons ((nth_eq _ 12).trans rfl) ?_ AllReadyH.nil)
  intro K4 hK4
  refine call_in hK4 (by kernel_rfl) 49 #[.pointer (some ⟨KR.s, 0, none⟩)] (by go_simp) _ (HBI.out.2.2 _ hS3.1) ?_
  rintro v4 x4 ⟨LB4, b4⟩
  have hS4 := hSgo _ hS3 _ b4
  have LT4 := (LT3.go heldStack (fun _ h => h) b4).mono heldStack (fun _ h => Nat.lt_of_lt_of_le h b4.size)
  have LA4 := (LA3.go heldInt (fun _ h => h) b4).mono heldInt (fun _ h => Nat.lt_of_lt_of_le h b4.size)
  refine ⟨hS4, ?_⟩
  simp only [Act.put, List.setIfInBounds_toArray, List.set_cons_zero, List.set_cons_succ]
  refine wpAnyH_ready (rs := [13]) (by kernel_rfl) (by simp) (AllReadyH.cons ((nth_eq _ 13).trans rfl) ?_ AllReadyH.nil)
  intro K5 hK5
  refine call_in hK5 (by kernel_rfl) 21 #[v3, v4] (by go_simp) _ (as_true (sameInts_any _ _ L L _ _ _ LA4 LB4 (fun _ h => h) (fun _ h => h) HBI.out.1 HBI.out.1)) ?_
  rintro v5 x5 ⟨rfl, b5⟩
  have hS5 := hSgo _ hS4 _ b5
  have LT5 := (LT4.go heldStack (fun _ h => h) b5).mono heldStack (fun _ h => Nat.lt_of_lt_of_le h b5.size)
  have LA5 := (LA4.go heldInt (fun _ h => h) b5).mono heldInt (fun _ h => Nat.lt_of_lt_of_le h b5.size)
  have LB5 := (LB4.go heldInt (fun _ h => h) b5).mono heldInt (fun _ h => Nat.lt_of_lt_of_le h b5.size)
  refine ⟨hS5, ?_⟩
  simp only [Act.put, List.setIfInBounds_toArray, List.set_cons_zero, List.set_cons_succ]
  refine take_held 14 hS5 rfl (by kernel_rfl) (by kernel_rfl) (by kernel_rfl) (fun _ _ _ h => h) (by kernel_rfl) (v := ?v5009) ?y5009 ?r5009
  case y5009 => (intro u hu; go_simp; try rfl)
  simp only [Act.put, List.setIfInBounds_toArray, List.set_cons_zero, List.set_cons_succ]
  refine take_held 15 hS5 rfl (by kernel_rfl) (by kernel_rfl) (by kernel_rfl) (fun _ _ _ h => h) (by kernel_rfl) (v := ?v5010) ?y5010 ?r5010
  case y5010 => (intro u hu; go_simp; try rfl)
  simp only [Act.put, List.setIfInBounds_toArray, List.set_cons_zero, List.set_cons_succ]
  refine done_held (by kernel_rfl) ?_ _
  obtain ⟨x9, hx9⟩ : ∃ z, x5 = z := ⟨_, rfl⟩
  have H9 : Hid (Both KP KR c us cs vc ps qs ls x9 ∧ Below w1.heap.size w1 x9) := by rw [← hx9]; exact ⟨hS5.1, hS5.2⟩
  rw [hx9]
  clear hx9 hS0 hS1 hS2 hS3 hS4 hS5
  go_wp2_with fail
  go_loopw [7] (fun v wq => ∃ k : Nat, k ≤ nr + 2 ∧ v = .int .i64 ((k : Int) - 1) ∧ Hid (Both KP KR c us cs vc ps qs ls wq ∧ Below w1.heap.size w1 wq)) (fun v _ => nr + 2 - ((intOf v) + 1).toNat)
  case atStart => exact ⟨0, by omega, by simp, H9⟩
  case round =>
    clear H9
    obtain ⟨k, hk, rfl, H8⟩ := hrel
    have hnr : wr.cell? ⟨w.heap.size, 5, none⟩ = some (.slice ar nr cr) := HNR.out _ H8.out.2
    by_cases hlt : k < nr + 2
    · have hc : decide ((k : Int) - 1 ≤ nr) = true := decide_eq_true (by omega)
      have hc2 : (k : Int) - 1 ≤ nr := by omega
      obtain ⟨z, cL, cR⟩ := both_load (KP := KP) (KR := KR) (c := c) (us := us) (cs := cs) (vc := vc) (ps := ps) (qs := qs) (ls := ls) ((k : Int) - 1)
      go_wp2_with (first
        | (go_at_call 40; refine (cL _ H8.out.1).mono ?_; rintro e y1 ⟨r1, rfl, rfl, b1⟩; have H7 : Hid (Both KP KR c us cs vc ps qs ls y1 ∧ Below w1.heap.size w1 y1) := ⟨H8.out.1.go b1, H8.out.2.trans (b1.mono H8.out.2.size)⟩)
        | (have X' := H7; go_at_call 50; refine (cR _ H7.out.1).mono ?_; rintro e y2 ⟨r2, rfl, rfl, b2⟩; have H6 : Hid (Both KP KR c us cs vc ps qs ls y2 ∧ Below w1.heap.size w1 y2) := ⟨H7.out.1.go b2, H7.out.2.trans (b2.mono H7.out.2.size)⟩))
      go_roundw
      case rel => exact ⟨k + 1, by omega, by go_num, H6⟩
      case measure => simp [intOf]; omega
    · have hc2 : ¬ (k : Int) - 1 ≤ nr := by omega
      go_wp2_with fail
      go_ret
      exact ⟨_, rfl, rfl, HB1.out.trans (H8.out.2.mono HB1.out.size)⟩
end Go.Proofs.Ytabbdclpjghdbaa.Stk
