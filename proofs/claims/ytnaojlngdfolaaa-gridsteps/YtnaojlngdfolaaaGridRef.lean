/-
  The chapter's own answer, call by call: cells of the grid, cells among others, open cells, a pose's cells, the numbers.
-/
import Derived.Test.YtnaojlngdfolaaaGridMay
namespace Go.Proofs.Ytnaojlngdfolaaa.Grid
set_option linter.unusedVariables false
set_option linter.unusedSimpArgs false
open Go Go.RowKit Go.Shelf Go.Proofs

theorem run_load_op {o : Oper} {a : Act} {w : World} (ty : TypeId) (x : Operand) (ho : o.op = .load ty x) (p : Addr) (cs : Array Value) (hx : a.eval x = .pointer (some p)) (hc : ∀ j v, cs[j]? = some v → w.cell? (p.add j) = some v)
    (hagg : (isAgg ty).run Try.prog w = .ok true w) (hi : (Try.prog.info? ty).map (·.size) = some cs.size) : (execOp a.eval o).run Try.prog w = .ok (.value (.agg cs)) w := by
  unfold execOp
  simp only [ho, hx, Instr.loadAt, Instr.sureAddr, Sem.run_bind, Sem.run_pure, Result.andThen_ok, run_loadVar_at w p ty cs hc hagg hi]
theorem eqCell (x y x' y' : Int) (w : World) : (Op.equalIn 10000 28 (.agg #[.int .i64 x, .int .i64 y]) (.agg #[.int .i64 x', .int .i64 y'])).run Try.prog w = .ok (decide ((x, y) = (x', y'))) w := by
  go_simp
  repeat' split
  all_goals simp_all
theorem guardCell : Try.prog.eqGuardType Try.prog.depth 28 = false := by kernel_rfl
theorem run_eql_cell {o : Oper} {a : Act} {w : World} (x y : Operand) (ho : o.op = .binOp .eql 28 x y 28) (p q p' q' : Int) (hx : a.eval x = .agg #[.int .i64 p, .int .i64 q]) (hy : a.eval y = .agg #[.int .i64 p', .int .i64 q']) :
    (execOp a.eval o).run Try.prog w = .ok (.value (.bool (decide ((p, q) = (p', q'))))) w := by
  unfold execOp
  simp only [ho, hx, hy, Sem.run_bind, Sem.run_pure, Result.andThen_ok, run_eqGuard_agg _ _ _ _ _ _ _ guardCell, run_eql_struct, eqCell]
theorem infoCell2 : (Try.prog.info? 28).map (·.size) = some 2 := by kernel_rfl
theorem infoPose2 : (Try.prog.info? 30).map (·.size) = some 3 := by kernel_rfl
theorem count_take (l : List Cell) (x : Cell) (k : Nat) (h : k < l.length) : (l.take (k + 1)).count x = (l.take k).count x + if l[k]'h = x then 1 else 0 := by
  rw [List.take_add_one, List.count_append, List.getElem?_eq_getElem h]
  simp [List.count_singleton]
theorem withinR_any (v lo hi : Int) (w : World) : Calls Try.prog 128 #[.int .i64 v, .int .i64 lo, .int .i64 hi] w fun e w' => e = .returned (.bool (decide (lo ≤ v) && decide (v ≤ hi))) ∧ w' = w := by
  by_cases h1 : lo ≤ v
  · by_cases h2 : v ≤ hi
    all_goals
      go_enter Try.func128, Try.ntmps128
      go_wp2
      go_ret
      exact ⟨ret_bool (by simp [h1, h2]), rfl⟩
  · go_enter Try.func128, Try.ntmps128
    go_wp2
    go_ret
    exact ⟨ret_bool (by simp; omega), rfl⟩
theorem in_yes {W H x y : Int} {b : Bool} (hb : b = true) (h1 : 0 ≤ x) (h2 : 0 ≤ y) (h3 : x < W) (h4 : y < H) : b = decide (In W H (x, y)) := by
  rw [hb, eq_comm, decide_eq_true_eq]
  exact ⟨h1, h3, h2, h4⟩
theorem in_no {W H x y : Int} {b : Bool} (hb : b = false) (h : ¬ (0 ≤ x ∧ x < W ∧ 0 ≤ y ∧ y < H)) : b = decide (In W H (x, y)) := by
  rw [hb, eq_comm, decide_eq_false_iff_not]
  exact h
set_option maxHeartbeats 1000000 in
theorem inR_any (cs : Array Value) (c : Conf) (vb vp vr vs : Value) (x y : Int) (w : World) (hC : Cells cs c vb vp vr vs) :
    Calls Try.prog 71 #[.agg cs, .agg #[.int .i64 x, .int .i64 y]] w fun e w' => ∃ r, e = .returned r ∧ r = .bool (decide (In c.W c.H (x, y))) ∧ Below w.heap.size w w' := by
  obtain ⟨hz, e0, e1, e2, e3, e4, e5, e6, e7, e8, e9, e10, e11, e12, e13, e14⟩ := hC
  clear hz e2 e3 e4 e5 e6 e7 e8 e9 e10 e11 e12 e13 e14
  have bW := fun o1 o2 => below_two w o1 o2
  have k0 : ∀ o, ((w.alloc (.cells cs 26)).alloc o).cell? ⟨w.heap.size, 0, none⟩ = some (.int .i64 c.W) := fun o => by rw [cell_same (p := ⟨w.heap.size, 0, none⟩) (alloc_old _ _ _ (by simp)), new_cell]; exact e0
  have k1 : ∀ o, ((w.alloc (.cells cs 26)).alloc o).cell? ⟨w.heap.size, 1, none⟩ = some (.int .i64 c.H) := fun o => by rw [cell_same (p := ⟨w.heap.size, 1, none⟩) (alloc_old _ _ _ (by simp)), new_cell]; exact e1
  generalize c.W = W at *
  generalize c.H = H at *
  by_cases h1 : 0 ≤ x
  · by_cases h2 : 0 ≤ y
    · by_cases h3 : x < W
      · by_cases h4 : y < H
        · go_enter Try.func71, Try.ntmps71
          go_wp2
          go_ret
          exact ⟨_, rfl, congrArg Value.bool (in_yes (by simp [h4]) h1 h2 h3 h4), bW _ _⟩
        · go_enter Try.func71, Try.ntmps71
          go_wp2
          go_ret
          exact ⟨_, rfl, congrArg Value.bool (in_no (by simp [h4]) (by omega)), bW _ _⟩
      · go_enter Try.func71, Try.ntmps71
        go_wp2
        go_ret
        exact ⟨_, rfl, congrArg Value.bool (in_no rfl (by omega)), bW _ _⟩
    · go_enter Try.func71, Try.ntmps71
      go_wp2
      go_ret
      exact ⟨_, rfl, congrArg Value.bool (in_no rfl (by omega)), bW _ _⟩
  · go_enter Try.func71, Try.ntmps71
    go_wp2
    go_ret
    exact ⟨_, rfl, congrArg Value.bool (in_no rfl (by omega)), bW _ _⟩
/- BEHIND -/
theorem cell_below {w u : World} {p : Addr} {v : Value} (h : w.cell? p = some v) (hb : Below w.heap.size w u) : u.cell? p = some v := (hb.cell (World.block_lt_of_cell? w _ h)).trans h
set_option maxHeartbeats 2000000 in
theorem among_any (F : Nat → Prop) (l : List Cell) (v : Value) (x y : Int) (w : World) (hL : ListAt 2 cellEl F l v w) (hF : ∀ b, F b → b < w.heap.size) (hm : l.length ≤ 9223372036854775807) :
    Calls Try.prog 72 #[v, .agg #[.int .i64 x, .int .i64 y]] w fun e w' => ∃ r, e = .returned r ∧ r = .int .i64 (l.count (x, y) : Nat) ∧ Below w.heap.size w w' := by
  obtain ⟨a, cap, hv, h0⟩ := hL.form
  subst hv
  obtain ⟨n, hn⟩ : ∃ n, l.length = n := ⟨_, rfl⟩
  have Hn : Hid (l.length = n) := hn
  rw [hn] at hm hL h0 ⊢
  clear hn
  have hFw : ∀ wr, Below w.heap.size w wr → ListAt 2 cellEl F l (.slice a n cap) wr := fun wr b => hL.go heldCell hF b
  have b0 : Below w.heap.size w (w.alloc (.cells #[.int .i64 x, .int .i64 y] 28)) := below_new (Below.refl _ _) _
  have H0 : Hid ((w.alloc (.cells #[.int .i64 x, .int .i64 y] 28)).heap[w.heap.size]? = some (.cells #[.int .i64 x, .int .i64 y] 28 (0, 0))) := heap_alloc_new w _
  have HE : Hid (((l.take n).count (x, y) : Nat) = l.count (x, y)) := by show ((l.take n).count (x, y) : Nat) = l.count (x, y); rw [← Hn.out, List.take_length]
  generalize hW0 : w.alloc (.cells #[.int .i64 x, .int .i64 y] 28) = W0 at *
  go_enter Try.func72, Try.ntmps72
  go_wp2_with (rw [hW0])
  go_loopw [5, 6] (fun s i wr => ∃ k : Nat, k ≤ n ∧ i = .int .i64 k ∧ Hid (s = .int .i64 ((l.take k).count (x, y) : Nat)) ∧ Below w.heap.size w wr ∧ Hid (wr.heap[w.heap.size]? = some (.cells #[.int .i64 x, .int .i64 y] 28 (0, 0)))) (fun _ i _ => n - (intOf i).toNat)
  case atStart => exact ⟨0, Nat.zero_le _, rfl, rfl, b0, H0⟩
  case round =>
    obtain ⟨k, hk, rfl, HS, B, HB⟩ := hrel
    obtain rfl := HS.out
    have hcl : (l.take k).count (x, y) ≤ k := Nat.le_trans List.count_le_length (by rw [List.length_take]; omega)
    by_cases hlt : k < n
    · have hlt' : k < l.length := by rw [Hn.out]; exact hlt
      have HC : Hid (((l.take (k + 1)).count (x, y)) = (l.take k).count (x, y) + if l[k]'hlt' = (x, y) then 1 else 0) := count_take l (x, y) k hlt'
      obtain ⟨p, cs, cap', hv, hpF, hcs, hrd⟩ := (hFw wr B).item hlt'
      generalize l[k]'hlt' = qr at *
      obtain ⟨q, r⟩ := qr
      obtain rfl := hcs
      obtain ⟨rfl, rfl⟩ : a = some p ∧ cap = cap' := by injection hv with h1 h2 h3; exact ⟨h1, h3⟩
      clear hv
      have HR : Hid (∀ u, Below wr.heap.size wr u → ∀ j z, #[Value.int .i64 q, .int .i64 r][j]? = some z → u.cell? ((p.add (k * 2)).add j) = some z) := fun u hu j z hj => cell_below (hrd j z hj) hu
      have HX : Hid (∀ u, Below wr.heap.size wr u → ∀ j z, #[Value.int .i64 x, .int .i64 y][j]? = some z → u.cell? ((⟨w.heap.size, 0, none⟩ : Addr).add j) = some z) := fun u hu j z hj => cell_below (by rw [Addr.add_lit, Nat.zero_add, cell_of HB.out]; exact hj) hu
      clear hrd
      go_wp2
      obtain ⟨IH, hIH⟩ : ∃ I : World → Prop, I = Below wr.heap.size wr := ⟨_, rfl⟩
      have kI : ∀ u, IH u → Below wr.heap.size wr u := fun u hu => by rw [hIH] at hu; exact hu
      have hS : IH wr.drew := by rw [hIH]; exact (Below.refl _ _).drew
      refine start_held (S := IH) 6 rfl (by kernel_rfl) (hS) ?_
      simp only [Array.replicate_succ, Array.replicate_zero, List.push_toArray, List.nil_append, List.cons_append]
      refine take_held 0 (by assumption) rfl (by kernel_rfl) (by kernel_rfl) (by kernel_rfl) (fun _ _ _ h => h) (by kernel_rfl) (v := ?v0) ?y0 ?r0
      case y0 => (intro u hu; go_simp; try rfl)
      simp only [Act.put, List.setIfInBounds_toArray, List.set_cons_zero, List.set_cons_succ]
      refine take_held 1 (by assumption) rfl (by kernel_rfl) (by kernel_rfl) (by kernel_rfl) (fun _ _ _ h => h) (by kernel_rfl) (v := ?v1) ?y1 ?r1
      case y1 => (intro u hu; go_simp; try rfl)
      simp only [Act.put, List.setIfInBounds_toArray, List.set_cons_zero, List.set_cons_succ]
      refine take_held 2 (by assumption) rfl (by kernel_rfl) (by kernel_rfl) (by kernel_rfl) (fun _ _ _ h => h) (by kernel_rfl) (v := ?v2) ?y2 ?r2
      case y2 => (intro u hu; go_simp; try rfl)
      simp only [Act.put, List.setIfInBounds_toArray, List.set_cons_zero, List.set_cons_succ]
      refine take_held 3 (by assumption) rfl (by kernel_rfl) (by kernel_rfl) (by kernel_rfl) (fun _ _ _ h => h) (by kernel_rfl) (v := .agg #[.int .i64 q, .int .i64 r]) ?y3 ?r3
      case y3 => (intro u hu; exact run_load_op 28 _ rfl (p.add (k * 2)) _ rfl (HR.out u (kI u hu)) (aggCell u) infoCell2)
      simp only [Act.put, List.setIfInBounds_toArray, List.set_cons_zero, List.set_cons_succ]
      refine take_held 4 (by assumption) rfl (by kernel_rfl) (by kernel_rfl) (by kernel_rfl) (fun _ _ _ h => h) (by kernel_rfl) (v := .agg #[.int .i64 x, .int .i64 y]) ?y4 ?r4
      case y4 => (intro u hu; exact run_load_op 28 _ rfl ⟨w.heap.size, 0, none⟩ _ rfl (HX.out u (kI u hu)) (aggCell u) infoCell2)
      simp only [Act.put, List.setIfInBounds_toArray, List.set_cons_zero, List.set_cons_succ]
      refine take_held 5 (by assumption) rfl (by kernel_rfl) (by kernel_rfl) (by kernel_rfl) (fun _ _ _ h => h) (by kernel_rfl) (v := .bool (decide ((q, r) = (x, y)))) ?y5 ?r5
      case y5 => (intro u hu; exact run_eql_cell _ _ rfl q r x y rfl rfl)
      simp only [Act.put, List.setIfInBounds_toArray, List.set_cons_zero, List.set_cons_succ]
      refine done_held (by kernel_rfl) ?_ _
      by_cases he : (q, r) = (x, y)
      · rw [if_pos he] at HC
        rw [decide_eq_true he]
        go_wp2
        go_roundw
        case rel => exact ⟨k + 1, by omega, by go_num, by rw [HC.out]; exact (by go_num), bcat B (Below.refl _ _).drew (Nat.le_refl _), HB⟩
        case measure => simp [intOf]; omega
      · rw [if_neg he] at HC
        rw [decide_eq_false he]
        go_wp2
        go_roundw
        case rel => exact ⟨k + 1, by omega, by go_num, by rw [HC.out]; rfl, bcat B (Below.refl _ _).drew (Nat.le_refl _), HB⟩
        case measure => simp [intOf]; omega
    · obtain rfl : k = n := by omega
      rw [HE.out] at *
      go_wp2
      go_ret
      exact ⟨_, rfl, rfl, B⟩
end Go.Proofs.Ytnaojlngdfolaaa.Grid
