/-
  Poses: their cells, where they are when they are shifted, by the chapter's own words too; whether two lists of cells are the same.
-/
import Derived.Test.YtnaojlngdfolaaaGridRef9
namespace Go.Proofs.Ytnaojlngdfolaaa.Grid
set_option linter.unusedVariables false
set_option linter.unusedSimpArgs false
open Go Go.RowKit Go.Shelf Go.Proofs
attribute [local go_sem] Oper.semAt_some

theorem second_call2 (x y : Int) (d : Bool) (w : World) : Calls Try.prog 125 #[.agg #[.int .i64 x, .int .i64 y, .bool d]] w fun e w' => ∃ r, e = .returned r ∧ r = .agg #[.int .i64 (second ((x, y), d)).1, .int .i64 (second ((x, y), d)).2] ∧ Below w.heap.size w w' := (second_any x y d w).mono fun e w' ⟨h, b⟩ => ⟨_, h, rfl, b⟩
set_option maxRecDepth 100000 in
set_option maxHeartbeats 4000000 in
theorem shiftS_any (x y : Int) (d : Bool) (dir n : Int) (w : World) : Calls Try.prog 84 #[.agg #[.int .i64 x, .int .i64 y, .bool d], .int .i64 dir, .int .i64 n] w fun e w' => ∃ r, e = .returned r ∧ r = .agg (poseCs (shiftP ((x, y), d) dir n)) ∧ Below w.heap.size w w' := by
  by_cases hd : 0 ≤ dir ∧ dir ≤ 3
  · obtain rfl | rfl | rfl | rfl : dir = 0 ∨ dir = 1 ∨ dir = 2 ∨ dir = 3 := by omega
    all_goals
      go_enter Try.func84, Try.ntmps84
      go_wp2
      exact bodyPost_ret (results_cell_row rfl _ _ (w.heap.size + 1) 30 _ (0, 0) _ rfl (heap_new2 _ _ _) Try.underlying30 rfl infoPose2) rfl ⟨_, rfl, by simp only [shiftP, poseCs, w64_wrap]; rfl, below_two _ _ _⟩
  · have d0 : (dir == 0) = false := by rw [beq_eq_false_iff_ne]; omega
    have d1 : (dir == 1) = false := by rw [beq_eq_false_iff_ne]; omega
    have d2 : (dir == 2) = false := by rw [beq_eq_false_iff_ne]; omega
    have d3 : (dir == 3) = false := by rw [beq_eq_false_iff_ne]; omega
    have e : shiftP ((x, y), d) dir n = ((x, y), d) := by unfold shiftP; rw [if_neg (by omega), if_neg (by omega), if_neg (by omega), if_neg (by omega)]
    rw [e]
    clear e hd
    go_enter Try.func84, Try.ntmps84
    go_wp2
    exact bodyPost_ret (results_cell_row rfl _ _ (w.heap.size + 1) 30 _ (0, 0) _ rfl (heap_new2 _ _ _) Try.underlying30 rfl infoPose2) rfl ⟨_, rfl, rfl, below_two _ _ _⟩
theorem run_neq_cell {o : Oper} {a : Act} {w : World} (x y : Operand) (ho : o.op = .binOp .neq 28 x y 28) (p q p' q' : Int) (hx : a.eval x = .agg #[.int .i64 p, .int .i64 q]) (hy : a.eval y = .agg #[.int .i64 p', .int .i64 q']) :
    (execOp a.eval o).run Try.prog w = .ok (.value (.bool (!decide ((p, q) = (p', q'))))) w := by
  unfold execOp
  simp only [ho, hx, hy, Sem.run_bind, Sem.run_pure, Result.andThen_ok, run_eqGuard_agg _ _ _ _ _ _ _ guardCell, run_neq_struct, eqCell]
theorem take_next {α : Type} {l m : List α} {k : Nat} (h : l.take k = m.take k) (h1 : k < l.length) (h2 : k < m.length) (e : l[k]'h1 = m[k]'h2) : l.take (k + 1) = m.take (k + 1) := by
  rw [List.take_add_one, List.take_add_one, h, List.getElem?_eq_getElem h1, List.getElem?_eq_getElem h2, e]
theorem ne_at {α : Type} {l m : List α} {k : Nat} (h1 : k < l.length) (h2 : k < m.length) (e : l[k]'h1 ≠ m[k]'h2) : l ≠ m := fun h => e (by subst h; rfl)
set_option maxRecDepth 100000 in
set_option maxHeartbeats 4000000 in
theorem sameCells_any (F1 F2 : Nat → Prop) (l m : List Cell) (v1 v2 : Value) (w : World) (hL : ListAt 2 cellEl F1 l v1 w) (hM : ListAt 2 cellEl F2 m v2 w) (hF1 : ∀ b, F1 b → b < w.heap.size) (hF2 : ∀ b, F2 b → b < w.heap.size) (hm1 : l.length ≤ 9223372036854775807) (hm2 : m.length ≤ 9223372036854775807) :
    Calls Try.prog 26 #[v1, v2] w fun e w' => ∃ r, e = .returned r ∧ r = .bool (decide (l = m)) ∧ Below w.heap.size w w' := by
  obtain ⟨a, cap, hv, h0⟩ := hL.form
  obtain ⟨a', cap', hv', h0'⟩ := hM.form
  subst hv hv'
  generalize hR : decide (l = m) = R
  have HR : Hid (decide (l = m) = R) := hR
  clear hR
  have HNe : Hid (l ≠ m → R = false) := fun h => by rw [← HR.out]; exact decide_eq_false h
  by_cases hlen : l.length = m.length
  · obtain ⟨n, hn⟩ : ∃ n, l.length = n := ⟨_, rfl⟩
    have Hn : Hid (l.length = n) := hn
    have Hn2 : Hid (m.length = n) := hlen ▸ hn
    rw [hn] at hlen hL hm1
    rw [← hlen] at hM hm2
    rw [hn, ← hlen]
    clear hn hlen h0 h0'
    have hFw : ∀ wr, Below w.heap.size w wr → ListAt 2 cellEl F1 l (.slice a n cap) wr := fun wr b => hL.go heldCell hF1 b
    have hMw : ∀ wr, Below w.heap.size w wr → ListAt 2 cellEl F2 m (.slice a' n cap') wr := fun wr b => hM.go heldCell hF2 b
    clear hL hM
    go_enter Try.func26, Try.ntmps26
    go_wp2
    go_loopw [5] (fun i wr => ∃ k : Nat, k ≤ n ∧ i = .int .i64 k ∧ Below w.heap.size w wr ∧ Hid (l.take k = m.take k)) (fun i _ => n - (intOf i).toNat)
    case atStart => exact ⟨0, Nat.zero_le _, rfl, Below.refl _ _, rfl⟩
    case round =>
      obtain ⟨k, hk, rfl, B, HK⟩ := hrel
      by_cases hlt : k < n
      · have hl1 : k < l.length := by rw [Hn.out]; exact hlt
        have hl2 : k < m.length := by rw [Hn2.out]; exact hlt
        have HY : Hid (l[k]'hl1 = m[k]'hl2 → l.take (k + 1) = m.take (k + 1)) := fun e => take_next HK.out hl1 hl2 e
        have HX : Hid (l[k]'hl1 ≠ m[k]'hl2 → R = false) := fun e => HNe.out (ne_at hl1 hl2 e)
        obtain ⟨p, cs, cap2, hv, _, hcs, hrd⟩ := (hFw wr B).item hl1
        obtain ⟨p', cs', cap2', hv', _, hcs', hrd'⟩ := (hMw wr B).item hl2
        generalize l[k]'hl1 = qr at *
        generalize m[k]'hl2 = qr' at *
        obtain ⟨q, r⟩ := qr
        obtain ⟨q', r'⟩ := qr'
        obtain rfl := hcs
        obtain rfl := hcs'
        obtain ⟨rfl, rfl⟩ : a = some p ∧ cap = cap2 := by injection hv with h1 h2 h3; exact ⟨h1, h3⟩
        obtain ⟨rfl, rfl⟩ : a' = some p' ∧ cap' = cap2' := by injection hv' with h1 h2 h3; exact ⟨h1, h3⟩
        clear hv hv'
        go_wp2
        obtain ⟨IH, hIH⟩ : ∃ I : World → Prop, I = Below wr.heap.size wr := ⟨_, rfl⟩
        have kI : ∀ u, IH u → Below wr.heap.size wr u := fun u hu => by rw [hIH] at hu; exact hu
        have hS : IH wr.drew := by rw [hIH]; exact (Below.refl _ _).drew
        have HP : Hid (∀ u, IH u → ∀ j z, #[Value.int .i64 q, .int .i64 r][j]? = some z → u.cell? ((p.add (k * 2)).add j) = some z) := fun u hu j z hj => cell_below (hrd j z hj) (kI u hu)
        have HP' : Hid (∀ u, IH u → ∀ j z, #[Value.int .i64 q', .int .i64 r'][j]? = some z → u.cell? ((p'.add (k * 2)).add j) = some z) := fun u hu j z hj => cell_below (hrd' j z hj) (kI u hu)
        clear hrd hrd'
        refine start_held (S := IH) 9 rfl (by kernel_rfl) (hS) ?_
        simp only [Array.replicate_succ, Array.replicate_zero, List.push_toArray, List.nil_append, List.cons_append]
        refine take_held 0 (by assumption) rfl (by kernel_rfl) (by kernel_rfl) (by kernel_rfl) (fun _ _ _ h => h) (by kernel_rfl) (v := ?v45) ?y45 ?r45
        case y45 => (intro u hu; go_simp; try rfl)
        simp only [Act.put, List.setIfInBounds_toArray, List.set_cons_zero, List.set_cons_succ]
        refine take_held 1 (by assumption) rfl (by kernel_rfl) (by kernel_rfl) (by kernel_rfl) (fun _ _ _ h => h) (by kernel_rfl) (v := ?v46) ?y46 ?r46
        case y46 => (intro u hu; go_simp; try rfl)
        simp only [Act.put, List.setIfInBounds_toArray, List.set_cons_zero, List.set_cons_succ]
        refine take_held 2 (by assumption) rfl (by kernel_rfl) (by kernel_rfl) (by kernel_rfl) (fun _ _ _ h => h) (by kernel_rfl) (v := ?v47) ?y47 ?r47
        case y47 => (intro u hu; go_simp; try rfl)
        simp only [Act.put, List.setIfInBounds_toArray, List.set_cons_zero, List.set_cons_succ]
        refine take_held 3 (by assumption) rfl (by kernel_rfl) (by kernel_rfl) (by kernel_rfl) (fun _ _ _ h => h) (by kernel_rfl) (v := .agg #[.int .i64 q, .int .i64 r]) ?y48 ?r48
        case y48 => (intro u hu; exact run_load_op 28 _ rfl (p.add (k * 2)) _ rfl (HP.out u hu) (aggCell u) infoCell2)
        simp only [Act.put, List.setIfInBounds_toArray, List.set_cons_zero, List.set_cons_succ]
        refine take_held 4 (by assumption) rfl (by kernel_rfl) (by kernel_rfl) (by kernel_rfl) (fun _ _ _ h => h) (by kernel_rfl) (v := ?v49) ?y49 ?r49
        case y49 => (intro u hu; go_simp; try rfl)
        simp only [Act.put, List.setIfInBounds_toArray, List.set_cons_zero, List.set_cons_succ]
        refine take_held 5 (by assumption) rfl (by kernel_rfl) (by kernel_rfl) (by kernel_rfl) (fun _ _ _ h => h) (by kernel_rfl) (v := ?v50) ?y50 ?r50
        case y50 => (intro u hu; go_simp; try rfl)
        simp only [Act.put, List.setIfInBounds_toArray, List.set_cons_zero, List.set_cons_succ]
        refine take_held 6 (by assumption) rfl (by kernel_rfl) (by kernel_rfl) (by kernel_rfl) (fun _ _ _ h => h) (by kernel_rfl) (v := ?v51) ?y51 ?r51
        case y51 => (intro u hu; go_simp; try rfl)
        simp only [Act.put, List.setIfInBounds_toArray, List.set_cons_zero, List.set_cons_succ]
        refine take_held 7 (by assumption) rfl (by kernel_rfl) (by kernel_rfl) (by kernel_rfl) (fun _ _ _ h => h) (by kernel_rfl) (v := .agg #[.int .i64 q', .int .i64 r']) ?y52 ?r52
        case y52 => (intro u hu; exact run_load_op 28 _ rfl (p'.add (k * 2)) _ rfl (HP'.out u hu) (aggCell u) infoCell2)
        simp only [Act.put, List.setIfInBounds_toArray, List.set_cons_zero, List.set_cons_succ]
        refine take_held 8 (by assumption) rfl (by kernel_rfl) (by kernel_rfl) (by kernel_rfl) (fun _ _ _ h => h) (by kernel_rfl) (v := (.bool (!decide ((q, r) = (q', r'))))) ?y53 ?r53
        case y53 => (intro u hu; exact run_neq_cell _ _ rfl q r q' r' rfl rfl)
        simp only [Act.put, List.setIfInBounds_toArray, List.set_cons_zero, List.set_cons_succ]
        refine done_held (by kernel_rfl) ?_ _
        have B7 : Below w.heap.size w wr.drew := bcat B (Below.refl _ _).drew (Nat.le_refl _)
        by_cases hz : (q, r) = (q', r')
        · have HT : Hid (l.take (k + 1) = m.take (k + 1)) := HY.out hz
          rw [decide_eq_true hz]
          go_wp2
          go_roundw
          case rel => exact ⟨k + 1, by omega, by go_num, B7, HT⟩
          case measure => simp [intOf]; omega
        · have HT : Hid (R = false) := HX.out hz
          rw [decide_eq_false hz]
          go_wp2
          go_ret
          exact ⟨_, rfl, congrArg Value.bool HT.out.symm, B7⟩
      · obtain rfl : n = k := by omega
        have HT : Hid (R = true) := by
          show R = true
          rw [← HR.out, decide_eq_true_eq]
          have := HK.out
          rw [List.take_of_length_le (by rw [Hn.out]; omega), List.take_of_length_le (by rw [Hn2.out]; omega)] at this
          exact this
        go_wp2
        go_ret
        exact ⟨_, rfl, congrArg Value.bool HT.out.symm, B⟩
  · have HT : Hid (R = false) := HNe.out (fun h => hlen (by rw [h]))
    have hne : ((l.length : Int) != (m.length : Int)) = true := by rw [bne_iff_ne]; omega
    generalize l.length = n1 at *
    generalize m.length = n2 at *
    go_enter Try.func26, Try.ntmps26
    go_wp2
    go_ret
    exact ⟨_, rfl, congrArg Value.bool HT.out.symm, Below.refl _ _⟩
end Go.Proofs.Ytnaojlngdfolaaa.Grid
