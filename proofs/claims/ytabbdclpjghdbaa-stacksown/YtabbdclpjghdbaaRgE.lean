/-
  The chapter's own answer, call by call: cells of the grid, cells among others, open cells, a pose's cells, the numbers.
  The chapter's own answer, further: open cells, a cell beside an open one, the numbers, a pose's cells.
-/
import Derived.Test.YtabbdclpjghdbaaRgD
namespace Go.Proofs.Ytabbdclpjghdbaa.Grid
set_option linter.unusedVariables false
set_option linter.unusedSimpArgs false
open Go Go.RowKit Go.Shelf Go.Proofs

theorem run_load_op {o : Oper} {a : Act} {w : World} (ty : TypeId) (x : Operand) (ho : o.op = .load ty x) (p : Addr) (cs : Array Value) (hx : a.eval x = .pointer (some p)) (hc : ∀ j v, cs[j]? = some v → w.cell? (p.add j) = some v)
    (hagg : (isAgg ty).run Try.prog w = .ok true w) (hi : (Try.prog.info? ty).map (·.size) = some cs.size) : (execOp a.eval o).run Try.prog w = .ok (.value (.agg cs)) w := by
  unfold execOp
  simp only [ho, hx, Instr.loadAt, Instr.sureAddr, Sem.run_bind, Sem.run_pure, Result.andThen_ok, run_loadVar_at w p ty cs hc hagg hi]
theorem eqCell (x y x' y' : Int) (w : World) : (Op.equalIn 10000 39 (.agg #[.int .i64 x, .int .i64 y]) (.agg #[.int .i64 x', .int .i64 y'])).run Try.prog w = .ok (decide ((x, y) = (x', y'))) w := by
  go_simp
  repeat' split
  all_goals simp_all
theorem guardCell : Try.prog.eqGuardType Try.prog.depth 39 = false := by kernel_rfl
theorem run_eql_cell {o : Oper} {a : Act} {w : World} (x y : Operand) (ho : o.op = .binOp .eql 39 x y 39) (p q p' q' : Int) (hx : a.eval x = .agg #[.int .i64 p, .int .i64 q]) (hy : a.eval y = .agg #[.int .i64 p', .int .i64 q']) :
    (execOp a.eval o).run Try.prog w = .ok (.value (.bool (decide ((p, q) = (p', q'))))) w := by
  unfold execOp
  simp only [ho, hx, hy, Sem.run_bind, Sem.run_pure, Result.andThen_ok, run_eqGuard_agg _ _ _ _ _ _ _ guardCell, run_eql_struct, eqCell]
theorem infoCell2 : (Try.prog.info? 39).map (·.size) = some 2 := by kernel_rfl
theorem infoPose2 : (Try.prog.info? 72).map (·.size) = some 3 := by kernel_rfl
theorem count_take (l : List Cell) (x : Cell) (k : Nat) (h : k < l.length) : (l.take (k + 1)).count x = (l.take k).count x + if l[k]'h = x then 1 else 0 := by
  rw [List.take_add_one, List.count_append, List.getElem?_eq_getElem h]
  simp [List.count_singleton]
theorem withinR_any (v lo hi : Int) (w : World) : Calls Try.prog 61 #[.int .i64 v, .int .i64 lo, .int .i64 hi] w fun e w' => e = .returned (.bool (decide (lo ≤ v) && decide (v ≤ hi))) ∧ w' = w := by
  by_cases h1 : lo ≤ v
  · by_cases h2 : v ≤ hi
    all_goals
      go_enter Try.func61, Try.ntmps61
      go_wp2
      go_ret
      exact ⟨ret_bool (by simp [h1, h2]), rfl⟩
  · go_enter Try.func61, Try.ntmps61
    go_wp2
    go_ret
    exact ⟨ret_bool (by simp; omega), rfl⟩
theorem in_yes {W H x y : Int} {b : Bool} (hb : b = true) (h1 : 0 ≤ x) (h2 : 0 ≤ y) (h3 : x < W) (h4 : y < H) : b = decide (In W H (x, y)) := by
  rw [hb, eq_comm, decide_eq_true_eq]
  exact ⟨h1, h3, h2, h4⟩
theorem in_no {W H x y : Int} {b : Bool} (hb : b = false) (h : ¬ (0 ≤ x ∧ x < W ∧ 0 ≤ y ∧ y < H)) : b = decide (In W H (x, y)) := by
  rw [hb, eq_comm, decide_eq_false_iff_not]
  exact h
set_option maxHeartbeats 1000000 in
theorem inR_any (cs : Array Value) (c : Conf) (vb vp vr vs : Value) (x y : Int) (w : World) (hC : Cells cs c vb vp vr vs) :
    Calls Try.prog 33 #[.agg cs, .agg #[.int .i64 x, .int .i64 y]] w fun e w' => ∃ r, e = .returned r ∧ r = .bool (decide (In c.W c.H (x, y))) ∧ Below w.heap.size w w' := by
  obtain ⟨hz, e0, e1, e2, e3, e4, e5, e6, e7, e8, e9, e10, e11, e12, e13, e14⟩ := hC
  clear hz e2 e3 e4 e5 e6 e7 e8 e9 e10 e11 e12 e13 e14
  have bW := fun o1 o2 => below_two w o1 o2
  have k0 : ∀ o, ((w.alloc (.cells cs 26)).alloc o).cell? ⟨w.heap.size, 0, none⟩ = some (.int .i64 c.W) := fun o => by rw [cell_same (p := ⟨w.heap.size, 0, none⟩) (alloc_old _ _ _ (by simp)), new_cell]; exact e0
  have k1 : ∀ o, ((w.alloc (.cells cs 26)).alloc o).cell? ⟨w.heap.size, 1, none⟩ = some (.int .i64 c.H) := fun o => by rw [cell_same (p := ⟨w.heap.size, 1, none⟩) (alloc_old _ _ _ (by simp)), new_cell]; exact e1
  generalize c.W = W at *
  generalize c.H = H at *
  by_cases h1 : 0 ≤ x
  · by_cases h2 : 0 ≤ y
    · by_cases h3 : x < W
      · by_cases h4 : y < H
        · go_enter Try.func33, Try.ntmps33
          go_wp2
          go_ret
          exact ⟨_, rfl, congrArg Value.bool (in_yes (by simp [h4]) h1 h2 h3 h4), bW _ _⟩
        · go_enter Try.func33, Try.ntmps33
          go_wp2
          go_ret
          exact ⟨_, rfl, congrArg Value.bool (in_no (by simp [h4]) (by omega)), bW _ _⟩
      · go_enter Try.func33, Try.ntmps33
        go_wp2
        go_ret
        exact ⟨_, rfl, congrArg Value.bool (in_no rfl (by omega)), bW _ _⟩
    · go_enter Try.func33, Try.ntmps33
      go_wp2
      go_ret
      exact ⟨_, rfl, congrArg Value.bool (in_no rfl (by omega)), bW _ _⟩
  · go_enter Try.func33, Try.ntmps33
    go_wp2
    go_ret
    exact ⟨_, rfl, congrArg Value.bool (in_no rfl (by omega)), bW _ _⟩
/- BEHIND -/
theorem cell_below {w u : World} {p : Addr} {v : Value} (h : w.cell? p = some v) (hb : Below w.heap.size w u) : u.cell? p = some v := (hb.cell (World.block_lt_of_cell? w _ h)).trans h
set_option maxHeartbeats 2000000 in
theorem among_any (F : Nat → Prop) (l : List Cell) (v : Value) (x y : Int) (w : World) (hL : ListAt 2 cellEl F l v w) (hF : ∀ b, F b → b < w.heap.size) (hm : l.length ≤ 9223372036854775807) :
    Calls Try.prog 34 #[v, .agg #[.int .i64 x, .int .i64 y]] w fun e w' => ∃ r, e = .returned r ∧ r = .int .i64 (l.count (x, y) : Nat) ∧ Below w.heap.size w w' := by
  obtain ⟨a, cap, hv, h0⟩ := hL.form
  subst hv
  obtain ⟨n, hn⟩ : ∃ n, l.length = n := ⟨_, rfl⟩
  have Hn : Hid (l.length = n) := hn
  rw [hn] at hm hL h0 ⊢
  clear hn
  have hFw : ∀ wr, Below w.heap.size w wr → ListAt 2 cellEl F l (.slice a n cap) wr := fun wr b => hL.go heldCell hF b
  have b0 : Below w.heap.size w (w.alloc (.cells #[.int .i64 x, .int .i64 y] 39)) := below_new (Below.refl _ _) _
  have H0 : Hid ((w.alloc (.cells #[.int .i64 x, .int .i64 y] 39)).heap[w.heap.size]? = some (.cells #[.int .i64 x, .int .i64 y] 39 (0, 0))) := heap_alloc_new w _
  have HE : Hid (((l.take n).count (x, y) : Nat) = l.count (x, y)) := by show ((l.take n).count (x, y) : Nat) = l.count (x, y); rw [← Hn.out, List.take_length]
  generalize hW0 : w.alloc (.cells #[.int .i64 x, .int .i64 y] 39) = W0 at *
  go_enter Try.func34, Try.ntmps34
  go_wp2_with (rw [hW0])
  go_loopw [5, 6] (fun s i wr => ∃ k : Nat, k ≤ n ∧ i = .int .i64 k ∧ Hid (s = .int .i64 ((l.take k).count (x, y) : Nat)) ∧ Below w.heap.size w wr ∧ Hid (wr.heap[w.heap.size]? = some (.cells #[.int .i64 x, .int .i64 y] 39 (0, 0)))) (fun _ i _ => n - (intOf i).toNat)
  case atStart => exact ⟨0, Nat.zero_le _, rfl, rfl, b0, H0⟩
  case round =>
    obtain ⟨k, hk, rfl, HS, B, HB⟩ := hrel
    obtain rfl := HS.out
    have hcl : (l.take k).count (x, y) ≤ k := Nat.le_trans List.count_le_length (by rw [List.length_take]; omega)
    by_cases hlt : k < n
    · have hlt' : k < l.length := by rw [Hn.out]; exact hlt
      have HC : Hid (((l.take (k + 1)).count (x, y)) = (l.take k).count (x, y) + if l[k]'hlt' = (x, y) then 1 else 0) := count_take l (x, y) k hlt'
      obtain ⟨p, cs, cap', hv, hpF, hcs, hrd⟩ := (hFw wr B).item hlt'
      generalize l[k]'hlt' = qr at *
      obtain ⟨q, r⟩ := qr
      obtain rfl := hcs
      obtain ⟨rfl, rfl⟩ : a = some p ∧ cap = cap' := by injection hv with h1 h2 h3; exact ⟨h1, h3⟩
      clear hv
      have HR : Hid (∀ u, Below wr.heap.size wr u → ∀ j z, #[Value.int .i64 q, .int .i64 r][j]? = some z → u.cell? ((p.add (k * 2)).add j) = some z) := fun u hu j z hj => cell_below (hrd j z hj) hu
      have HX : Hid (∀ u, Below wr.heap.size wr u → ∀ j z, #[Value.int .i64 x, .int .i64 y][j]? = some z → u.cell? ((⟨w.heap.size, 0, none⟩ : Addr).add j) = some z) := fun u hu j z hj => cell_below (by rw [Addr.add_lit, Nat.zero_add, cell_of HB.out]; exact hj) hu
      clear hrd
      go_wp2
      obtain ⟨IH, hIH⟩ : ∃ I : World → Prop, I = Below wr.heap.size wr := ⟨_, rfl⟩
      have kI : ∀ u, IH u → Below wr.heap.size wr u := fun u hu => by rw [hIH] at hu; exact hu
      have hS : IH wr.drew := by rw [hIH]; exact (Below.refl _ _).drew
      refine start_held (S := IH) 6 rfl (by kernel_rfl) (hS) ?_
      simp only [Array.replicate_succ, Array.replicate_zero, List.push_toArray, List.nil_append, List.cons_append]
      refine take_held 0 (by assumption) rfl (by kernel_rfl) (by kernel_rfl) (by kernel_rfl) (fun _ _ _ h => h) (by kernel_rfl) (v := ?v0) ?y0 ?r0
      case y0 => (intro u hu; go_simp; try rfl)
      simp only [Act.put, List.setIfInBounds_toArray, List.set_cons_zero, List.set_cons_succ]
      refine take_held 1 (by assumption) rfl (by kernel_rfl) (by kernel_rfl) (by kernel_rfl) (fun _ _ _ h => h) (by kernel_rfl) (v := ?v1) ?y1 ?r1
      case y1 => (intro u hu; go_simp; try rfl)
      simp only [Act.put, List.setIfInBounds_toArray, List.set_cons_zero, List.set_cons_succ]
      refine take_held 2 (by assumption) rfl (by kernel_rfl) (by kernel_rfl) (by kernel_rfl) (fun _ _ _ h => h) (by kernel_rfl) (v := ?v2) ?y2 ?r2
      case y2 => (intro u hu; go_simp; try rfl)
      simp only [Act.put, List.setIfInBounds_toArray, List.set_cons_zero, List.set_cons_succ]
      refine take_held 3 (by assumption) rfl (by kernel_rfl) (by kernel_rfl) (by kernel_rfl) (fun _ _ _ h => h) (by kernel_rfl) (v := .agg #[.int .i64 q, .int .i64 r]) ?y3 ?r3
      case y3 => (intro u hu; exact run_load_op 39 _ rfl (p.add (k * 2)) _ rfl (HR.out u (kI u hu)) (aggCell u) infoCell2)
      simp only [Act.put, List.setIfInBounds_toArray, List.set_cons_zero, List.set_cons_succ]
      refine take_held 4 (by assumption) rfl (by kernel_rfl) (by kernel_rfl) (by kernel_rfl) (fun _ _ _ h => h) (by kernel_rfl) (v := .agg #[.int .i64 x, .int .i64 y]) ?y4 ?r4
      case y4 => (intro u hu; exact run_load_op 39 _ rfl ⟨w.heap.size, 0, none⟩ _ rfl (HX.out u (kI u hu)) (aggCell u) infoCell2)
      simp only [Act.put, List.setIfInBounds_toArray, List.set_cons_zero, List.set_cons_succ]
      refine take_held 5 (by assumption) rfl (by kernel_rfl) (by kernel_rfl) (by kernel_rfl) (fun _ _ _ h => h) (by kernel_rfl) (v := .bool (decide ((q, r) = (x, y)))) ?y5 ?r5
      case y5 => (intro u hu; exact run_eql_cell _ _ rfl q r x y rfl rfl)
      simp only [Act.put, List.setIfInBounds_toArray, List.set_cons_zero, List.set_cons_succ]
      refine done_held (by kernel_rfl) ?_ _
      by_cases he : (q, r) = (x, y)
      · rw [if_pos he] at HC
        rw [decide_eq_true he]
        go_wp2
        go_roundw
        case rel => exact ⟨k + 1, by omega, by go_num, by rw [HC.out]; exact (by go_num), bcat B (Below.refl _ _).drew (Nat.le_refl _), HB⟩
        case measure => simp [intOf]; omega
      · rw [if_neg he] at HC
        rw [decide_eq_false he]
        go_wp2
        go_roundw
        case rel => exact ⟨k + 1, by omega, by go_num, by rw [HC.out]; rfl, bcat B (Below.refl _ _).drew (Nat.le_refl _), HB⟩
        case measure => simp [intOf]; omega
    · obtain rfl : k = n := by omega
      rw [HE.out] at *
      go_wp2
      go_ret
      exact ⟨_, rfl, rfl, B⟩
end Go.Proofs.Ytabbdclpjghdbaa.Grid
namespace Go.Proofs.Ytabbdclpjghdbaa.Grid
set_option linter.unusedVariables false
set_option linter.unusedSimpArgs false
open Go Go.RowKit Go.Shelf Go.Proofs
attribute [local go_sem] Oper.semAt_some

/- A config and a cell, in boxes of the call's own. -/
structure Two (w : World) (cs ds : Array Value) (td : TypeId) (W : World) : Prop where
  below : Below w.heap.size w W
  a : W.heap[w.heap.size]? = some (.cells cs 26 (0, 0))
  b : W.heap[w.heap.size + 1]? = some (.cells ds td (0, 0))
section
variable {w : World} {cs ds : Array Value} {td : TypeId} {W W' : World}
theorem Two.go (h : Two w cs ds td W) (hb : Below W.heap.size W W') : Two w cs ds td W' :=
  ⟨bcat h.below hb (Nat.le_refl _), (hb.block _ (lt_of_heap h.a)).trans h.a, (hb.block _ (lt_of_heap h.b)).trans h.b⟩
theorem two_new (w : World) (cs ds : Array Value) (td : TypeId) : Two w cs ds td ((w.alloc (.cells cs 26)).alloc (.cells ds td)) :=
  ⟨below_two _ _ _, (alloc_old _ _ _ (by simp)).trans (heap_alloc_new w _), heap_new2 _ _ _⟩
end
theorem Two.at_ {w : World} {c : Conf} {vb vp vr vs : Value} {x y : Int} {W : World} (h : Two w #[.int .i64 c.W, .int .i64 c.H, .int .i64 c.height, vb, vp, vr, vs, .int .i64 c.unit, .int .i64 c.accel, .int .i64 c.speed, .int .i64 c.turn, .int .i64 c.hoist, .int .i64 c.queue, .int .i64 c.resend, .int .i64 c.budget, .bool c.back] #[.int .i64 x, .int .i64 y] 39 W) :
    W.cell? ⟨w.heap.size, 0, none⟩ = some (.int .i64 c.W) ∧ W.cell? ⟨w.heap.size, 1, none⟩ = some (.int .i64 c.H) ∧ W.cell? ⟨w.heap.size, 2, none⟩ = some (.int .i64 c.height) ∧ W.cell? ⟨w.heap.size, 3, none⟩ = some (vb) ∧ W.cell? ⟨w.heap.size, 4, none⟩ = some (vp) ∧ W.cell? ⟨w.heap.size, 5, none⟩ = some (vr) ∧ W.cell? ⟨w.heap.size, 6, none⟩ = some (vs) ∧ W.cell? ⟨w.heap.size, 7, none⟩ = some (.int .i64 c.unit) ∧ W.cell? ⟨w.heap.size, 8, none⟩ = some (.int .i64 c.accel) ∧ W.cell? ⟨w.heap.size, 9, none⟩ = some (.int .i64 c.speed) ∧ W.cell? ⟨w.heap.size, 10, none⟩ = some (.int .i64 c.turn) ∧ W.cell? ⟨w.heap.size, 11, none⟩ = some (.int .i64 c.hoist) ∧ W.cell? ⟨w.heap.size, 12, none⟩ = some (.int .i64 c.queue) ∧ W.cell? ⟨w.heap.size, 13, none⟩ = some (.int .i64 c.resend) ∧ W.cell? ⟨w.heap.size, 14, none⟩ = some (.int .i64 c.budget) ∧ W.cell? ⟨w.heap.size, 15, none⟩ = some (.bool c.back) ∧ W.cell? ⟨w.heap.size + 1, 0, none⟩ = some (.int .i64 x) ∧ W.cell? ⟨w.heap.size + 1, 1, none⟩ = some (.int .i64 y) :=
  ⟨cell_of h.a 0, cell_of h.a 1, cell_of h.a 2, cell_of h.a 3, cell_of h.a 4, cell_of h.a 5, cell_of h.a 6, cell_of h.a 7, cell_of h.a 8, cell_of h.a 9, cell_of h.a 10, cell_of h.a 11, cell_of h.a 12, cell_of h.a 13, cell_of h.a 14, cell_of h.a 15, cell_of h.b 0, cell_of h.b 1⟩
theorem dec_iff {p : Prop} [Decidable p] {b : Bool} (h : p ↔ b = true) : decide p = b := by
  rw [Bool.eq_iff_iff, decide_eq_true_eq]
  exact h
theorem openR_dec (c : Conf) (x y : Int) : decide (openR c (x, y)) = (decide (In c.W c.H (x, y)) && decide (c.blocked.count (x, y) = 0)) := by
  refine dec_iff ?_
  unfold openR
  simp [List.count_eq_zero]
set_option maxRecDepth 100000 in
set_option maxHeartbeats 4000000 in
theorem openR_any (F : Nat → Prop) (c : Conf) (vb vp vr vs : Value) (x y : Int) (w : World) (hA : ConfAt F c vb vp vr vs w) (hF : ∀ b, F b → b < w.heap.size) (hm : c.blocked.length ≤ 9223372036854775807) :
    Calls Try.prog 41 #[.agg #[.int .i64 c.W, .int .i64 c.H, .int .i64 c.height, vb, vp, vr, vs, .int .i64 c.unit, .int .i64 c.accel, .int .i64 c.speed, .int .i64 c.turn, .int .i64 c.hoist, .int .i64 c.queue, .int .i64 c.resend, .int .i64 c.budget, .bool c.back], .agg #[.int .i64 x, .int .i64 y]] w fun e w' => ∃ r, e = .returned r ∧ r = .bool (decide (openR c (x, y))) ∧ Below w.heap.size w w' := by
  have cI := fun u => inR_any #[.int .i64 c.W, .int .i64 c.H, .int .i64 c.height, vb, vp, vr, vs, .int .i64 c.unit, .int .i64 c.accel, .int .i64 c.speed, .int .i64 c.turn, .int .i64 c.hoist, .int .i64 c.queue, .int .i64 c.resend, .int .i64 c.budget, .bool c.back] c vb vp vr vs x y u (cells_conf c vb vp vr vs)
  have cM := fun u (b : Below w.heap.size w u) => among_any F c.blocked vb x y u (hA.b.go heldCell hF b) (fun g hg => Nat.lt_of_lt_of_le (hF g hg) b.size) hm
  have HO : Hid (decide (openR c (x, y)) = (decide (In c.W c.H (x, y)) && decide (c.blocked.count (x, y) = 0))) := openR_dec c x y
  generalize decide (openR c (x, y)) = R at *
  generalize decide (In c.W c.H (x, y)) = I at *
  generalize c.blocked.count (x, y) = m at *
  have Q0 := two_new w #[.int .i64 c.W, .int .i64 c.H, .int .i64 c.height, vb, vp, vr, vs, .int .i64 c.unit, .int .i64 c.accel, .int .i64 c.speed, .int .i64 c.turn, .int .i64 c.hoist, .int .i64 c.queue, .int .i64 c.resend, .int .i64 c.budget, .bool c.back] #[.int .i64 x, .int .i64 y] 39
  obtain ⟨p0, p1, p2, p3, p4, p5, p6, p7, p8, p9, p10, p11, p12, p13, p14, p15, p16, p17⟩ := Q0.at_
  clear hA
  cases I
  · go_enter Try.func41, Try.ntmps41
    go_wp2_with (first
      | (go_at_call 33; refine (cI _).mono ?_; rintro e w1 ⟨r1, rfl, rfl, b1⟩; have Q1 := Q0.go b1))
    go_ret
    exact ⟨_, rfl, congrArg Value.bool (by rw [HO.out]; rfl), Q1.below⟩
  · go_enter Try.func41, Try.ntmps41
    go_wp2_with (first
      | (go_at_call 33; refine (cI _).mono ?_; rintro e w1 ⟨r1, rfl, rfl, b1⟩; have Q1 := Q0.go b1; clear p0 p1 p2 p3 p4 p5 p6 p7 p8 p9 p10 p11 p12 p13 p14 p15 p16 p17; obtain ⟨q0, q1, q2, q3, q4, q5, q6, q7, q8, q9, q10, q11, q12, q13, q14, q15, q16, q17⟩ := Q1.at_)
      | (go_at_call 34; refine (cM _ Q1.below).mono ?_; rintro e w2 ⟨r2, rfl, rfl, b2⟩; have Q2 := Q1.go b2))
    go_ret
    exact ⟨_, rfl, congrArg Value.bool (by rw [HO.out, eq_dec, Bool.true_and]; exact decide_eq_decide.2 (by omega)), Q2.below⟩
set_option maxRecDepth 100000 in
set_option maxHeartbeats 4000000 in
theorem besideR_any (F : Nat → Prop) (c : Conf) (vb vp vr vs : Value) (x y : Int) (w : World) (hA : ConfAt F c vb vp vr vs w) (hF : ∀ b, F b → b < w.heap.size) (hm : c.blocked.length ≤ 9223372036854775807) :
    Calls Try.prog 36 #[.agg #[.int .i64 c.W, .int .i64 c.H, .int .i64 c.height, vb, vp, vr, vs, .int .i64 c.unit, .int .i64 c.accel, .int .i64 c.speed, .int .i64 c.turn, .int .i64 c.hoist, .int .i64 c.queue, .int .i64 c.resend, .int .i64 c.budget, .bool c.back], .agg #[.int .i64 x, .int .i64 y]] w fun e w' => ∃ r, e = .returned r ∧ r = .bool (decide (besideR c (x, y))) ∧ Below w.heap.size w w' := by
  have cE := fun u (b : Below w.heap.size w u) => openR_any F c vb vp vr vs (w64 (x + 1)) y u (hA.go hF b) (fun g hg => Nat.lt_of_lt_of_le (hF g hg) b.size) hm
  have cS := fun u (b : Below w.heap.size w u) => openR_any F c vb vp vr vs x (w64 (y + 1)) u (hA.go hF b) (fun g hg => Nat.lt_of_lt_of_le (hF g hg) b.size) hm
  have HO : Hid (decide (besideR c (x, y)) = (decide (openR c (w64 (x + 1), y)) || decide (openR c (x, w64 (y + 1))))) := by
    show decide (besideR c (x, y)) = (decide (openR c (w64 (x + 1), y)) || decide (openR c (x, w64 (y + 1))))
    refine dec_iff ?_
    unfold besideR east south
    simp
  generalize decide (besideR c (x, y)) = R at *
  generalize decide (openR c (w64 (x + 1), y)) = I at *
  generalize decide (openR c (x, w64 (y + 1))) = J at *
  generalize hx1 : w64 (x + 1) = x1 at *
  generalize hy1 : w64 (y + 1) = y1 at *
  rw [w64_wrap] at hx1 hy1
  have Q0 := two_new w #[.int .i64 c.W, .int .i64 c.H, .int .i64 c.height, vb, vp, vr, vs, .int .i64 c.unit, .int .i64 c.accel, .int .i64 c.speed, .int .i64 c.turn, .int .i64 c.hoist, .int .i64 c.queue, .int .i64 c.resend, .int .i64 c.budget, .bool c.back] #[.int .i64 x, .int .i64 y] 39
  obtain ⟨p0, p1, p2, p3, p4, p5, p6, p7, p8, p9, p10, p11, p12, p13, p14, p15, p16, p17⟩ := Q0.at_
  clear hA
  cases I
  · go_enter Try.func36, Try.ntmps36
    go_wp2_with (first
      | (have X' := b1; go_at_call 41; refine (cS _ Q1.below).mono ?_; rintro e w2 ⟨r2, rfl, rfl, b2⟩; have Q2 := Q1.go b2)
      | (go_at_call 41; refine (cE _ Q0.below).mono ?_; rintro e w1 ⟨r1, rfl, rfl, b1⟩; have Q1 := Q0.go b1; clear p0 p1 p2 p3 p4 p5 p6 p7 p8 p9 p10 p11 p12 p13 p14 p15 p16 p17; obtain ⟨q0, q1, q2, q3, q4, q5, q6, q7, q8, q9, q10, q11, q12, q13, q14, q15, q16, q17⟩ := Q1.at_))
    go_ret
    exact ⟨_, rfl, congrArg Value.bool (by rw [HO.out]; simp), Q2.below⟩
  · go_enter Try.func36, Try.ntmps36
    go_wp2_with (first
      | (go_at_call 41; refine (cE _ Q0.below).mono ?_; rintro e w1 ⟨r1, rfl, rfl, b1⟩; have Q1 := Q0.go b1))
    go_ret
    exact ⟨_, rfl, congrArg Value.bool (by rw [HO.out]; simp), Q1.below⟩
/- The cells of a pose, in a block of their own. -/
set_option maxRecDepth 100000 in
set_option maxHeartbeats 2000000 in
theorem cellsR_any (x y : Int) (d : Bool) (w : World) : Calls Try.prog 38 #[.agg #[.int .i64 x, .int .i64 y, .bool d]] w fun e w' => ∃ r, e = .returned r ∧
    (∃ g, r = .slice (some ⟨g, 0, none⟩) 2 2 ∧ w.heap.size ≤ g ∧ w'.heap[g]? = some (.cells #[.int .i64 x, .int .i64 y, .int .i64 (second ((x, y), d)).1, .int .i64 (second ((x, y), d)).2] 39 (0, 0))) ∧ Below w.heap.size w w' := by
  obtain ⟨x1, hx1⟩ : ∃ x1, w64 (x + 1) = x1 := ⟨_, rfl⟩
  obtain ⟨y1, hy1⟩ : ∃ y1, w64 (y + 1) = y1 := ⟨_, rfl⟩
  cases d
  · have HS : Hid (second ((x, y), false) = (x1, y)) := by show second ((x, y), false) = (x1, y); rw [← hx1]; rfl
    rw [w64_wrap] at hx1 hy1
    go_enter Try.func38, Try.ntmps38
    go_wp2
    go_ret
    exact ⟨_, rfl, ⟨_, rfl, by simp, by rw [HS.out]; exact heap_new2 _ _ _⟩, below_two _ _ _⟩
  · have HS : Hid (second ((x, y), true) = (x, y1)) := by show second ((x, y), true) = (x, y1); rw [← hy1]; rfl
    rw [w64_wrap] at hx1 hy1
    go_enter Try.func38, Try.ntmps38
    go_wp2
    go_ret
    exact ⟨_, rfl, ⟨_, rfl, by simp, by rw [HS.out]; exact heap_new2 _ _ _⟩, below_two _ _ _⟩
theorem list_two {w : World} {g : Nat} {p q p' q' : Int} (h : w.heap[g]? = some (.cells #[.int .i64 p, .int .i64 q, .int .i64 p', .int .i64 q'] 39 (0, 0))) : ListAt 2 cellEl (fun b => b = g) [(p, q), (p', q')] (.slice (some ⟨g, 0, none⟩) 2 2) w := by
  refine ⟨some ⟨g, 0, none⟩, 2, [((p, q), #[.int .i64 p, .int .i64 q]), ((p', q'), #[.int .i64 p', .int .i64 q'])], rfl, rfl, fun y hy => ?_, fun i hi => ⟨_, rfl, rfl, fun j u hj => ?_⟩, fun h => by cases h⟩
  · simp at hy
    rcases hy with rfl | rfl <;> rfl
  · rw [Addr.add_lit, Nat.zero_add, cell_of h]
    match i, hi with
    | 0, _ =>
      match j with
      | 0 => simpa using hj
      | 1 => simpa using hj
      | j + 2 => simp at hj
    | 1, _ =>
      match j with
      | 0 => simpa using hj
      | 1 => simpa using hj
      | j + 2 => simp at hj
end Go.Proofs.Ytabbdclpjghdbaa.Grid
