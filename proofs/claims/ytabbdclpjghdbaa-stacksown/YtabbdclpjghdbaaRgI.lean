/-
  The chapter's own May, in plain words: each of its tests, and what all of them come to.
  Which port a cell is: slices.Index, Port; the chapter's own number of a cell.
  Poses: their cells, where they are when they are shifted, by the chapter's own words too; whether two lists of cells are the same.
-/
import Derived.Test.YtabbdclpjghdbaaGridRef8
import Derived.Test.YtabbdclpjghdbaaRgF
namespace Go.Proofs.Ytabbdclpjghdbaa.Grid
set_option linter.unusedVariables false
set_option linter.unusedSimpArgs false
open Go Go.RowKit Go.Shelf Go.Proofs

theorem may_iff (c : Conf) : mayR c ↔ (newP c).isSome = true := by
  refine ⟨fun h => ?_, fun h => ?_⟩
  · cases e : newP c with
    | none => exact absurd h (new_none e)
    | some G => rfl
  · cases e : newP c with
    | none => rw [e] at h; cases h
    | some G => exact (new_some e).1
theorem may_not {c : Conf} (h : ¬ mayR c) : (newP c).isSome = false := by
  cases e : (newP c).isSome
  · rfl
  · exact absurd ((may_iff c).2 e) h
section
variable {c : Conf}
theorem may_limited (h : limited c = false) : (newP c).isSome = false := may_not fun q => by rw [q.1] at h; cases h
theorem may_ports (h : ¬ c.ports.length ≤ 8) : (newP c).isSome = false := may_not fun q => h q.2.1
theorem may_robots (h : ¬ c.robots.length ≤ 8) : (newP c).isSome = false := may_not fun q => h q.2.2.1
theorem may_blocked (h : ¬ c.blocked.length ≤ 256) : (newP c).isSome = false := may_not fun q => h (new_few q).1
theorem may_b {b : Cell} (hb : b ∈ c.blocked) (h : ¬ (In c.W c.H b ∧ c.blocked.count b ≤ 1 ∧ c.ports.count b = 0)) : (newP c).isSome = false := may_not fun q => h ⟨(q.2.2.2.1 b hb).1, List.nodup_iff_count.1 q.2.2.2.2.1 b, List.count_eq_zero.2 (q.2.2.2.1 b hb).2⟩
theorem may_p {b : Cell} (hb : b ∈ c.ports) (h : ¬ (In c.W c.H b ∧ c.ports.count b ≤ 1 ∧ b ∉ homes c ∧ besideR c b)) : (newP c).isSome = false := may_not fun q => h ⟨(q.2.2.2.2.2.1 b hb).1, List.nodup_iff_count.1 q.2.2.2.2.2.2.1 b, (q.2.2.2.2.2.1 b hb).2⟩
theorem may_r {r : Pose} (hr : r ∈ c.robots) (h : ¬ fitsR c r) : (newP c).isSome = false := may_not fun q => h (q.2.2.2.2.2.2.2.1 r hr)
theorem may_h {b : Cell} (h : ¬ (homes c).count b ≤ 1) : (newP c).isSome = false := may_not fun q => h (List.nodup_iff_count.1 q.2.2.2.2.2.2.2.2.1 b)
theorem nodup_of {l : List Cell} (h : ∀ b ∈ l, l.count b ≤ 1) : l.Nodup := List.nodup_iff_count.2 fun b => by
  by_cases q : b ∈ l
  · exact h b q
  · rw [List.count_eq_zero.2 q]; omega
theorem may_all (h1 : limited c = true) (h2 : c.ports.length ≤ 8) (h3 : c.robots.length ≤ 8) (h4 : ∀ b ∈ c.blocked, In c.W c.H b ∧ c.blocked.count b ≤ 1 ∧ c.ports.count b = 0)
    (h5 : ∀ b ∈ c.ports, In c.W c.H b ∧ c.ports.count b ≤ 1 ∧ b ∉ homes c ∧ besideR c b) (h6 : ∀ r ∈ c.robots, fitsR c r) (h7 : ∀ b ∈ homes c, (homes c).count b ≤ 1) : (newP c).isSome = decide (binsP c) := by
  rw [Bool.eq_iff_iff, ← may_iff, decide_eq_true_eq]
  refine ⟨fun q => ⟨by have := (new_few q).2; omega, q.2.2.2.2.2.2.2.2.2.1, q.2.2.2.2.2.2.2.2.2.2.1, q.2.2.2.2.2.2.2.2.2.2.2⟩, fun q => ⟨h1, h2, h3, fun b hb => ⟨(h4 b hb).1, List.count_eq_zero.1 (h4 b hb).2.2⟩, nodup_of fun b hb => (h4 b hb).2.1, fun b hb => ⟨(h5 b hb).1, (h5 b hb).2.2⟩, nodup_of fun b hb => (h5 b hb).2.1, h6, nodup_of h7, q.2.1, q.2.2.1, q.2.2.2⟩⟩
end
end Go.Proofs.Ytabbdclpjghdbaa.Grid
namespace Go.Proofs.Ytabbdclpjghdbaa.Grid
set_option linter.unusedVariables false
set_option linter.unusedSimpArgs false
open Go Go.RowKit Go.Shelf Go.Proofs
attribute [local go_sem] Oper.semAt_some

set_option maxRecDepth 100000 in
set_option maxHeartbeats 2000000 in
theorem index_any (F : Nat → Prop) (l : List Cell) (v : Value) (x y : Int) (w : World) (hL : ListAt 2 cellEl F l v w) (hF : ∀ b, F b → b < w.heap.size) (hm : l.length ≤ 9223372036854775807) :
    Calls Try.prog 75 #[v, .agg #[.int .i64 x, .int .i64 y]] w fun e w' => ∃ r, e = .returned r ∧ r = .int .i64 (portP l (x, y) 0) ∧ Below w.heap.size w w' := by
  obtain ⟨a, cap, hv, h0⟩ := hL.form
  subst hv
  obtain ⟨n, hn⟩ : ∃ n, l.length = n := ⟨_, rfl⟩
  have Hn : Hid (l.length = n) := hn
  rw [hn] at hm hL h0 ⊢
  clear hn
  have hFw : ∀ wr, Below w.heap.size w wr → ListAt 2 cellEl F l (.slice a n cap) wr := fun wr b => hL.go heldCell hF b
  generalize hR : portP l (x, y) 0 = R
  have HR : Hid (portP (l.drop 0) (x, y) 0 = R) := hR
  clear hR
  have b0 : Below w.heap.size w (w.alloc (.cells #[.int .i64 x, .int .i64 y] 39)) := below_new (Below.refl _ _) _
  have H0 : Hid ((w.alloc (.cells #[.int .i64 x, .int .i64 y] 39)).heap[w.heap.size]? = some (.cells #[.int .i64 x, .int .i64 y] 39 (0, 0))) := heap_alloc_new w _
  go_enter Try.func75, Try.ntmps75
  go_wp2
  go_loopw [8] (fun i wr => ∃ k : Nat, k ≤ n ∧ i = .int .i64 k ∧ Below w.heap.size w wr ∧ Hid (wr.heap[w.heap.size]? = some (.cells #[.int .i64 x, .int .i64 y] 39 (0, 0))) ∧ Hid (portP (l.drop k) (x, y) k = R)) (fun i _ => n - (intOf i).toNat)
  case atStart => exact ⟨0, Nat.zero_le _, rfl, b0, H0, HR⟩
  case round =>
    obtain ⟨k, hk, rfl, B, HB, HN⟩ := hrel
    clear HR H0 b0
    by_cases hlt : k < n
    · have hlt' : k < l.length := by rw [Hn.out]; exact hlt
      have HC : Hid (l.drop k = l[k]'hlt' :: l.drop (k + 1)) := drop_item l hlt'
      obtain ⟨p, cs, cap', hv, hpF, hcs, hrd⟩ := (hFw wr B).item hlt'
      generalize l[k]'hlt' = qr at *
      obtain ⟨q, r⟩ := qr
      obtain rfl := hcs
      obtain ⟨rfl, rfl⟩ : a = some p ∧ cap = cap' := by injection hv with h1 h2 h3; exact ⟨h1, h3⟩
      clear hv
      have eB := HB.out
      go_wp2
      obtain ⟨IH, hIH⟩ : ∃ I : World → Prop, I = Below wr.heap.size wr := ⟨_, rfl⟩
      have kI : ∀ u, IH u → Below wr.heap.size wr u := fun u hu => by rw [hIH] at hu; exact hu
      have hS : IH wr.drew := by rw [hIH]; exact (Below.refl _ _).drew
      have HP : Hid (∀ u, IH u → ∀ j z, #[Value.int .i64 q, .int .i64 r][j]? = some z → u.cell? ((p.add (k * 2)).add j) = some z) := fun u hu j z hj => cell_below (hrd j z hj) (kI u hu)
      have HX : Hid (∀ u, IH u → ∀ j z, #[Value.int .i64 x, .int .i64 y][j]? = some z → u.cell? ((⟨w.heap.size, 0, none⟩ : Addr).add j) = some z) := fun u hu => row_below eB (kI u hu)
      clear hrd eB
      refine start_held (S := IH) 6 rfl (by kernel_rfl) (hS) ?_
      simp only [Array.replicate_succ, Array.replicate_zero, List.push_toArray, List.nil_append, List.cons_append]
      refine take_held 0 (by assumption) rfl (by kernel_rfl) (by kernel_rfl) (by kernel_rfl) (fun _ _ _ h => h) (by kernel_rfl) (v := .agg #[.int .i64 x, .int .i64 y]) ?y0 ?r0
      case y0 => (intro u hu; exact run_load_op 39 _ rfl ⟨w.heap.size, 0, none⟩ _ rfl (HX.out u hu) (aggCell u) infoCell2)
      simp only [Act.put, List.setIfInBounds_toArray, List.set_cons_zero, List.set_cons_succ]
      refine take_held 1 (by assumption) rfl (by kernel_rfl) (by kernel_rfl) (by kernel_rfl) (fun _ _ _ h => h) (by kernel_rfl) (v := ?v1) ?y1 ?r1
      case y1 => (intro u hu; go_simp; try rfl)
      simp only [Act.put, List.setIfInBounds_toArray, List.set_cons_zero, List.set_cons_succ]
      refine take_held 2 (by assumption) rfl (by kernel_rfl) (by kernel_rfl) (by kernel_rfl) (fun _ _ _ h => h) (by kernel_rfl) (v := ?v2) ?y2 ?r2
      case y2 => (intro u hu; go_simp; try rfl)
      simp only [Act.put, List.setIfInBounds_toArray, List.set_cons_zero, List.set_cons_succ]
      refine take_held 3 (by assumption) rfl (by kernel_rfl) (by kernel_rfl) (by kernel_rfl) (fun _ _ _ h => h) (by kernel_rfl) (v := ?v3) ?y3 ?r3
      case y3 => (intro u hu; go_simp; try rfl)
      simp only [Act.put, List.setIfInBounds_toArray, List.set_cons_zero, List.set_cons_succ]
      refine take_held 4 (by assumption) rfl (by kernel_rfl) (by kernel_rfl) (by kernel_rfl) (fun _ _ _ h => h) (by kernel_rfl) (v := .agg #[.int .i64 q, .int .i64 r]) ?y4 ?r4
      case y4 => (intro u hu; exact run_load_op 39 _ rfl (p.add (k * 2)) _ rfl (HP.out u hu) (aggCell u) infoCell2)
      simp only [Act.put, List.setIfInBounds_toArray, List.set_cons_zero, List.set_cons_succ]
      refine take_held 5 (by assumption) rfl (by kernel_rfl) (by kernel_rfl) (by kernel_rfl) (fun _ _ _ h => h) (by kernel_rfl) (v := .bool (decide ((x, y) = (q, r)))) ?y5 ?r5
      case y5 => (intro u hu; exact run_eql_cell _ _ rfl x y q r rfl rfl)
      simp only [Act.put, List.setIfInBounds_toArray, List.set_cons_zero, List.set_cons_succ]
      refine done_held (by kernel_rfl) ?_ _
      have B7 : Below w.heap.size w wr.drew := bcat B (Below.refl _ _).drew (Nat.le_refl _)
      by_cases hz : (x, y) = (q, r)
      · have HT : Hid (R = (k : Int)) := by
          show R = (k : Int)
          rw [← HN.out, HC.out]
          unfold portP
          rw [if_pos hz.symm]
        rw [decide_eq_true hz]
        go_wp2
        go_ret
        exact ⟨_, rfl, by rw [HT.out]; rfl, B7⟩
      · have HT : Hid (portP (l.drop (k + 1)) (x, y) (k + 1) = R) := by
          show portP (l.drop (k + 1)) (x, y) (k + 1) = R
          rw [← HN.out, HC.out]
          conv => rhs; unfold portP
          rw [if_neg (fun e => hz e.symm)]
        rw [decide_eq_false hz]
        go_wp2
        go_roundw
        case rel => exact ⟨k + 1, by omega, by go_num, B7, HB, HT⟩
        case measure => simp [intOf]; omega
    · obtain rfl : n = k := by omega
      have HF : Hid (R = -1) := by
        show R = -1
        rw [← HN.out, ← Hn.out, List.drop_length]
        rfl
      go_wp2
      go_ret
      exact ⟨_, rfl, by rw [HF.out]; rfl, B⟩
set_option maxRecDepth 100000 in
set_option maxHeartbeats 2000000 in
theorem port_any (g u0 : Nat) (W H : Int) (us : List Int) (vp : Value) (F : Nat → Prop) (ps : List Cell) (x y : Int) (w : World) (hG : GridAt w g u0 W H us vp) (hL : ListAt 2 cellEl F ps vp w) (hF : ∀ b, F b → b < w.heap.size) (hm : ps.length ≤ 9223372036854775807) :
    Calls Try.prog 64 #[.pointer (some ⟨g, 0, none⟩), .agg #[.int .i64 x, .int .i64 y]] w fun e w' => ∃ r, e = .returned r ∧ r = .int .i64 (portP ps (x, y) 0) ∧ Below w.heap.size w w' := by
  have cX := fun u (b : Below w.heap.size w u) => index_any F ps vp x y u (hL.go heldCell hF b) (fun g hg => Nat.lt_of_lt_of_le (hF g hg) b.size) hm
  obtain ⟨w0, hw0⟩ : ∃ w0, w0 = w.alloc (.cells #[.int .i64 x, .int .i64 y] 39) := ⟨_, rfl⟩
  have B : Below w.heap.size w w0 := by rw [hw0]; exact below_new (Below.refl _ _) _
  have eB : w0.heap[w.heap.size]? = some (.cells #[.int .i64 x, .int .i64 y] 39 (0, 0)) := by rw [hw0]; exact heap_alloc_new w _
  have k3 := (hG.go B).c3
  clear hG hL
  go_enter Try.func64, Try.ntmps64
  go_wp2
  rw [← hw0]
  obtain ⟨IH, hIH⟩ : ∃ I : World → Prop, I = Below w0.heap.size w0 := ⟨_, rfl⟩
  have kI : ∀ u, IH u → Below w0.heap.size w0 u := fun u hu => by rw [hIH] at hu; exact hu
  have hS : IH w0.drew := by rw [hIH]; exact (Below.refl _ _).drew
  have D0 : Below w0.heap.size w0 w0.drew := (Below.refl _ _).drew
  have HX : Hid (∀ u, IH u → ∀ j z, #[Value.int .i64 x, .int .i64 y][j]? = some z → u.cell? ((⟨w.heap.size, 0, none⟩ : Addr).add j) = some z) := fun u hu => row_below eB (kI u hu)
  have z3 : ∀ u, IH u → u.cell? ⟨g, 3, none⟩ = some vp := fun u hu => cell_below k3 (kI u hu)
  clear eB k3 hw0
  refine start_held (S := IH) 7 rfl (by kernel_rfl) (hS) ?_
  simp only [Array.replicate_succ, Array.replicate_zero, List.push_toArray, List.nil_append, List.cons_append]
  refine take_held 0 (by assumption) rfl (by kernel_rfl) (by kernel_rfl) (by kernel_rfl) (fun _ _ _ h => h) (by kernel_rfl) (v := ?v6) ?y6 ?r6
  case y6 => (intro u hu; go_simp; try rfl)
  simp only [Act.put, List.setIfInBounds_toArray, List.set_cons_zero, List.set_cons_succ]
  refine take_held 1 (by assumption) rfl (by kernel_rfl) (by kernel_rfl) (by kernel_rfl) (fun _ _ _ h => h) (by kernel_rfl) (v := ?v7) ?y7 ?r7
  case y7 => (intro u hu; go_simp; try rfl)
  simp only [Act.put, List.setIfInBounds_toArray, List.set_cons_zero, List.set_cons_succ]
  refine take_held 2 (by assumption) rfl (by kernel_rfl) (by kernel_rfl) (by kernel_rfl) (fun _ _ _ h => h) (by kernel_rfl) (v := ?v8) ?y8 ?r8
  case y8 => (intro u hu; go_simp; try rfl)
  simp only [Act.put, List.setIfInBounds_toArray, List.set_cons_zero, List.set_cons_succ]
  refine take_held 3 (by assumption) rfl (by kernel_rfl) (by kernel_rfl) (by kernel_rfl) (fun _ _ _ h => h) (by kernel_rfl) (v := ?v9) ?y9 ?r9
  case y9 => (intro u hu; have zz0 := z3 u hu; go_simp; try rfl)
  simp only [Act.put, List.setIfInBounds_toArray, List.set_cons_zero, List.set_cons_succ]
  refine take_held 4 (by assumption) rfl (by kernel_rfl) (by kernel_rfl) (by kernel_rfl) (fun _ _ _ h => h) (by kernel_rfl) (v := .agg #[.int .i64 x, .int .i64 y]) ?y10 ?r10
  case y10 => (intro u hu; exact run_load_op 39 _ rfl ⟨w.heap.size, 0, none⟩ _ rfl (HX.out u hu) (aggCell u) infoCell2)
  simp only [Act.put, List.setIfInBounds_toArray, List.set_cons_zero, List.set_cons_succ]
  refine wpAnyH_ready (rs := [5]) (by kernel_rfl) (by simp) (AllReadyH.cons ((nth_eq _ 5).trans rfl) ?_ AllReadyH.nil)
  intro K' hK
  refine call_in hK (by kernel_rfl) 75 #[vp, .agg #[.int .i64 x, .int .i64 y]] (by go_simp) _ (cX _ (bcat B D0 (Nat.le_refl _))) ?_
  rintro v w5 ⟨rfl, b5⟩
  have D5 := bcat D0 b5 (Nat.le_refl _)
  have hS5 : IH w5 := by rw [hIH]; exact D5
  refine ⟨hS5, ?_⟩
  simp only [Act.put, List.setIfInBounds_toArray, List.set_cons_zero, List.set_cons_succ]
  refine take_held 6 (by assumption) rfl (by kernel_rfl) (by kernel_rfl) (by kernel_rfl) (fun _ _ _ h => h) (by kernel_rfl) (v := ?v11) ?y11 ?r11
  case y11 => (intro u hu; go_simp; try rfl)
  simp only [Act.put, List.setIfInBounds_toArray, List.set_cons_zero, List.set_cons_succ]
  refine done_held (by kernel_rfl) ?_ _
  go_wp2
  go_ret
  exact ⟨_, rfl, rfl, bcat B D5 (Nat.le_refl _)⟩
/- What the grid tells of a cell is what the chapter says. -/
section
variable {c : Conf} {G : GS} (h : newP c = some G) (x : Cell)
include h
theorem open_same : openU c.W c.H G.uses x = decide (openR c x) := by
  obtain ⟨hm, _, _, _, hU⟩ := new_some h
  rw [Bool.eq_iff_iff, decide_eq_true_eq, openU_iff hU]
  unfold openF openR
  refine and_congr Iff.rfl ?_
  have h4 := hm.2.2.2.1
  unfold useR
  by_cases q1 : x ∈ homes c
  · rw [if_pos q1]
    refine iff_of_true (by decide) fun hb => ?_
    obtain ⟨r, hr, e⟩ := flat_mem.1 q1
    have hf := hm.2.2.2.2.2.2.2.1 r hr
    rcases e with e | e
    · exact hf.1.2 (e ▸ hb)
    · exact hf.2.2 (e ▸ hb)
  · rw [if_neg q1]
    by_cases q2 : x ∈ c.ports
    · rw [if_pos q2]
      exact iff_of_true (by decide) fun hb => (h4 x hb).2 q2
    · rw [if_neg q2]
      by_cases q3 : x ∈ c.blocked
      · rw [if_pos q3]; simp [q3]
      · rw [if_neg q3]
        refine iff_of_true ?_ q3
        split <;> decide
theorem stacked_same : stackedU c.W c.H G.uses x = decide (stackedR c x) := by
  obtain ⟨hm, _, _, _, hU⟩ := new_some h
  rw [Bool.eq_iff_iff, decide_eq_true_eq, stackedU_iff hU]
  unfold stackedR openR useR
  by_cases q1 : x ∈ homes c
  · rw [if_pos q1]
    exact iff_of_false (fun q => absurd q.2 (by decide)) fun q => q.2.2.1 q1
  · rw [if_neg q1]
    by_cases q2 : x ∈ c.ports
    · rw [if_pos q2]
      exact iff_of_false (fun q => absurd q.2 (by decide)) fun q => q.2.1 q2
    · rw [if_neg q2]
      by_cases q3 : x ∈ c.blocked
      · rw [if_pos q3]
        exact iff_of_false (fun q => absurd q.2 (by decide)) fun q => q.1.2 q3
      · rw [if_neg q3]
        by_cases q4 : besideR c x
        · rw [if_pos q4]
          exact ⟨fun q => ⟨⟨q.1, q3⟩, q2, q1, q4⟩, fun q => ⟨q.1.1, rfl⟩⟩
        · rw [if_neg q4]
          exact iff_of_false (fun q => absurd q.2 (by decide)) fun q => q4 q.2.2.2
end
end Go.Proofs.Ytabbdclpjghdbaa.Grid
namespace Go.Proofs.Ytabbdclpjghdbaa.Grid
set_option linter.unusedVariables false
set_option linter.unusedSimpArgs false
open Go Go.RowKit Go.Shelf Go.Proofs
attribute [local go_sem] Oper.semAt_some

theorem second_call2 (x y : Int) (d : Bool) (w : World) : Calls Try.prog 72 #[.agg #[.int .i64 x, .int .i64 y, .bool d]] w fun e w' => ∃ r, e = .returned r ∧ r = .agg #[.int .i64 (second ((x, y), d)).1, .int .i64 (second ((x, y), d)).2] ∧ Below w.heap.size w w' := (second_any x y d w).mono fun e w' ⟨h, b⟩ => ⟨_, h, rfl, b⟩
theorem run_neq_cell {o : Oper} {a : Act} {w : World} (x y : Operand) (ho : o.op = .binOp .neq 39 x y 39) (p q p' q' : Int) (hx : a.eval x = .agg #[.int .i64 p, .int .i64 q]) (hy : a.eval y = .agg #[.int .i64 p', .int .i64 q']) :
    (execOp a.eval o).run Try.prog w = .ok (.value (.bool (!decide ((p, q) = (p', q'))))) w := by
  unfold execOp
  simp only [ho, hx, hy, Sem.run_bind, Sem.run_pure, Result.andThen_ok, run_eqGuard_agg _ _ _ _ _ _ _ guardCell, run_neq_struct, eqCell]
theorem take_next {α : Type} {l m : List α} {k : Nat} (h : l.take k = m.take k) (h1 : k < l.length) (h2 : k < m.length) (e : l[k]'h1 = m[k]'h2) : l.take (k + 1) = m.take (k + 1) := by
  rw [List.take_add_one, List.take_add_one, h, List.getElem?_eq_getElem h1, List.getElem?_eq_getElem h2, e]
theorem ne_at {α : Type} {l m : List α} {k : Nat} (h1 : k < l.length) (h2 : k < m.length) (e : l[k]'h1 ≠ m[k]'h2) : l ≠ m := fun h => e (by subst h; rfl)
end Go.Proofs.Ytabbdclpjghdbaa.Grid
