/-
  The chapter's own answer, further: whether a cell is a robot's.
  The chapter's own answer, further: which port a cell is.
-/
import Derived.Test.YtabbdclpjghdbaaGridRef3
namespace Go.Proofs.Ytabbdclpjghdbaa.Grid
set_option linter.unusedVariables false
set_option linter.unusedSimpArgs false
open Go Go.RowKit Go.Shelf Go.Proofs
attribute [local go_sem] Oper.semAt_some

theorem flat_take {α β : Type} (l : List α) (f : α → List β) (k : Nat) (h : k < l.length) : (l.take (k + 1)).flatMap f = (l.take k).flatMap f ++ f (l[k]'h) := by
  rw [List.take_add_one, List.flatMap_append, List.getElem?_eq_getElem h]
  simp
set_option maxRecDepth 100000 in
set_option maxHeartbeats 4000000 in
theorem homeR_any (F : Nat → Prop) (c : Conf) (vb vp vr vs : Value) (x y : Int) (w : World) (hA : ConfAt F c vb vp vr vs w) (hF : ∀ b, F b → b < w.heap.size) (hm : c.robots.length ≤ 9223372036854775807) :
    Calls Try.prog 35 #[.agg #[.int .i64 c.W, .int .i64 c.H, .int .i64 c.height, vb, vp, vr, vs, .int .i64 c.unit, .int .i64 c.accel, .int .i64 c.speed, .int .i64 c.turn, .int .i64 c.hoist, .int .i64 c.queue, .int .i64 c.resend, .int .i64 c.budget, .bool c.back], .agg #[.int .i64 x, .int .i64 y]] w fun e w' => ∃ r, e = .returned r ∧ r = .bool (decide ((x, y) ∈ homes c)) ∧ Below w.heap.size w w' := by
  obtain ⟨a, cap, hv, h0⟩ := hA.r.form
  subst hv
  obtain ⟨n, hn⟩ : ∃ n, c.robots.length = n := ⟨_, rfl⟩
  have Hn : Hid (c.robots.length = n) := hn
  have hL := hA.r
  rw [hn] at hm hL h0 ⊢
  clear hn hA
  have hFw : ∀ wr, Below w.heap.size w wr → ListAt 3 poseEl F c.robots (.slice a n cap) wr := fun wr b => hL.go heldPose hF b
  clear hL
  have HD : Hid (homes c = (c.robots.take n).flatMap cellsOf) := by show homes c = _; unfold homes; rw [← Hn.out, List.take_length]
  generalize hR : decide ((x, y) ∈ homes c) = R
  have HR : Hid (decide ((x, y) ∈ homes c) = R) := hR
  clear hR
  have HM : Hid (∀ j, j ≤ n → (x, y) ∈ (c.robots.take j).flatMap cellsOf → R = true) := fun j hj hx => by
    rw [← HR.out, decide_eq_true_eq]
    unfold homes
    rw [List.mem_flatMap] at hx ⊢
    obtain ⟨q, hq, hx⟩ := hx
    exact ⟨q, List.mem_of_mem_take hq, hx⟩
  have Q0 : Hid (Two w #[.int .i64 c.W, .int .i64 c.H, .int .i64 c.height, vb, vp, .slice a n cap, vs, .int .i64 c.unit, .int .i64 c.accel, .int .i64 c.speed, .int .i64 c.turn, .int .i64 c.hoist, .int .i64 c.queue, .int .i64 c.resend, .int .i64 c.budget, .bool c.back] #[.int .i64 x, .int .i64 y] 39 ((w.alloc (.cells #[.int .i64 c.W, .int .i64 c.H, .int .i64 c.height, vb, vp, .slice a n cap, vs, .int .i64 c.unit, .int .i64 c.accel, .int .i64 c.speed, .int .i64 c.turn, .int .i64 c.hoist, .int .i64 c.queue, .int .i64 c.resend, .int .i64 c.budget, .bool c.back] 26)).alloc (.cells #[.int .i64 x, .int .i64 y] 39))) := two_new w #[.int .i64 c.W, .int .i64 c.H, .int .i64 c.height, vb, vp, .slice a n cap, vs, .int .i64 c.unit, .int .i64 c.accel, .int .i64 c.speed, .int .i64 c.turn, .int .i64 c.hoist, .int .i64 c.queue, .int .i64 c.resend, .int .i64 c.budget, .bool c.back] #[.int .i64 x, .int .i64 y] 39
  go_enter Try.func35, Try.ntmps35
  go_wp2
  go_loopw [5] (fun i wr => ∃ k : Nat, k ≤ n ∧ i = .int .i64 k ∧ Hid (Two w #[.int .i64 c.W, .int .i64 c.H, .int .i64 c.height, vb, vp, .slice a n cap, vs, .int .i64 c.unit, .int .i64 c.accel, .int .i64 c.speed, .int .i64 c.turn, .int .i64 c.hoist, .int .i64 c.queue, .int .i64 c.resend, .int .i64 c.budget, .bool c.back] #[.int .i64 x, .int .i64 y] 39 wr) ∧ Hid ((x, y) ∉ (c.robots.take k).flatMap cellsOf)) (fun i _ => n - (intOf i).toNat)
  case atStart => exact ⟨0, Nat.zero_le _, rfl, Q0, fun h => by simp at h⟩
  case round =>
    obtain ⟨k, hk, rfl, HQ, HN⟩ := hrel
    clear Q0
    have k5 : wr.cell? ⟨w.heap.size, 5, none⟩ = some (.slice a n cap) := cell_of HQ.out.a 5
    by_cases hlt : k < n
    · have hlt' : k < c.robots.length := by rw [Hn.out]; exact hlt
      have HC : Hid ((c.robots.take (k + 1)).flatMap cellsOf = (c.robots.take k).flatMap cellsOf ++ cellsOf (c.robots[k]'hlt')) := flat_take c.robots cellsOf k hlt'
      obtain ⟨p, cs, cap', hv, hpF, hcs, hrd⟩ := (hFw wr HQ.out.below).item hlt'
      generalize c.robots[k]'hlt' = qr at *
      obtain ⟨⟨q, r⟩, d⟩ := qr
      obtain rfl := hcs
      obtain ⟨rfl, rfl⟩ : a = some p ∧ cap = cap' := by injection hv with h1 h2 h3; exact ⟨h1, h3⟩
      clear hv
      have eA := HQ.out.a
      have eB := HQ.out.b
      have B := HQ.out.below
      obtain ⟨x2, hx2⟩ : ∃ x2, (second ((q, r), d)).1 = x2 := ⟨_, rfl⟩
      obtain ⟨y2, hy2⟩ : ∃ y2, (second ((q, r), d)).2 = y2 := ⟨_, rfl⟩
      have HE : Hid (cellsOf ((q, r), d) = [(q, r), (x2, y2)]) := by show cellsOf ((q, r), d) = _; unfold cellsOf; rw [← hx2, ← hy2]
      have cC := fun u => cellsR_any q r d u
      rw [hx2, hy2] at cC
      clear hx2 hy2
      obtain ⟨m, hmm⟩ : ∃ m, [(q, r), (x2, y2)].count (x, y) = m := ⟨_, rfl⟩
      have HMM : Hid ([(q, r), (x2, y2)].count (x, y) = m) := hmm
      clear hmm
      have hm2 : m ≤ 2 := by rw [← HMM.out]; exact List.count_le_length
      go_wp2
      obtain ⟨IH, hIH⟩ : ∃ I : World → Prop, I = Below wr.heap.size wr := ⟨_, rfl⟩
      have kI : ∀ u, IH u → Below wr.heap.size wr u := fun u hu => by rw [hIH] at hu; exact hu
      have hS : IH wr.drew := by rw [hIH]; exact (Below.refl _ _).drew
      have HP : Hid (∀ u, IH u → ∀ j z, #[Value.int .i64 q, .int .i64 r, .bool d][j]? = some z → u.cell? ((p.add (k * 3)).add j) = some z) := fun u hu j z hj => cell_below (hrd j z hj) (kI u hu)
      have HX : Hid (∀ u, IH u → ∀ j z, #[Value.int .i64 x, .int .i64 y][j]? = some z → u.cell? ((⟨w.heap.size + 1, 0, none⟩ : Addr).add j) = some z) := fun u hu => row_below eB (kI u hu)
      have z5 : ∀ u, IH u → u.cell? ⟨w.heap.size, 5, none⟩ = some (.slice (some p) n cap) := fun u hu => cell_below k5 (kI u hu)
      clear hrd eA eB k5
      refine start_held (S := IH) 9 rfl (by kernel_rfl) (hS) ?_
      simp only [Array.replicate_succ, Array.replicate_zero, List.push_toArray, List.nil_append, List.cons_append]
      refine take_held 0 (by assumption) rfl (by kernel_rfl) (by kernel_rfl) (by kernel_rfl) (fun _ _ _ h => h) (by kernel_rfl) (v := ?v0) ?y0 ?r0
      case y0 => (intro u hu; go_simp; try rfl)
      simp only [Act.put, List.setIfInBounds_toArray, List.set_cons_zero, List.set_cons_succ]
      refine take_held 1 (by assumption) rfl (by kernel_rfl) (by kernel_rfl) (by kernel_rfl) (fun _ _ _ h => h) (by kernel_rfl) (v := ?v1) ?y1 ?r1
      case y1 => (intro u hu; have zz0 := z5 u hu; go_simp; try rfl)
      simp only [Act.put, List.setIfInBounds_toArray, List.set_cons_zero, List.set_cons_succ]
      refine take_held 2 (by assumption) rfl (by kernel_rfl) (by kernel_rfl) (by kernel_rfl) (fun _ _ _ h => h) (by kernel_rfl) (v := ?v2) ?y2 ?r2
      case y2 => (intro u hu; go_simp; try rfl)
      simp only [Act.put, List.setIfInBounds_toArray, List.set_cons_zero, List.set_cons_succ]
      refine take_held 3 (by assumption) rfl (by kernel_rfl) (by kernel_rfl) (by kernel_rfl) (fun _ _ _ h => h) (by kernel_rfl) (v := ?v3) ?y3 ?r3
      case y3 => (intro u hu; go_simp; try rfl)
      simp only [Act.put, List.setIfInBounds_toArray, List.set_cons_zero, List.set_cons_succ]
      refine take_held 4 (by assumption) rfl (by kernel_rfl) (by kernel_rfl) (by kernel_rfl) (fun _ _ _ h => h) (by kernel_rfl) (v := .agg #[.int .i64 q, .int .i64 r, .bool d]) ?y4 ?r4
      case y4 => (intro u hu; exact run_load_op 72 _ rfl (p.add (k * 3)) _ rfl (HP.out u hu) (aggPose u) infoPose2)
      simp only [Act.put, List.setIfInBounds_toArray, List.set_cons_zero, List.set_cons_succ]
      refine take_held 6 (by assumption) rfl (by kernel_rfl) (by kernel_rfl) (by kernel_rfl) (fun _ _ _ h => h) (by kernel_rfl) (v := .agg #[.int .i64 x, .int .i64 y]) ?y5 ?r5
      case y5 => (intro u hu; exact run_load_op 39 _ rfl ⟨w.heap.size + 1, 0, none⟩ _ rfl (HX.out u hu) (aggCell u) infoCell2)
      simp only [Act.put, List.setIfInBounds_toArray, List.set_cons_zero, List.set_cons_succ]
      refine wpAnyH_ready (rs := [5]) (by kernel_rfl) (by simp) (AllReadyH.cons ((nth_eq _ 5).trans rfl) ?_ AllReadyH.nil)
      intro K' hK
      refine call_in hK (by kernel_rfl) 38 #[.agg #[.int .i64 q, .int .i64 r, .bool d]] (by go_simp) _ (cC _) ?_
      rintro v w6 ⟨⟨g, rfl, hg, hG⟩, b6⟩
      have B6 := bcat (bcat B (Below.refl _ _).drew (Nat.le_refl _)) b6 (Nat.le_refl _)
      have D6 := bcat (Below.refl wr.heap.size wr).drew b6 (Nat.le_refl _)
      have hS6 : IH w6 := by rw [hIH]; exact D6
      have cA := among_any (fun b => b = g) [(q, r), (x2, y2)] (.slice (some ⟨g, 0, none⟩) 2 2) x y w6 (list_two hG) (fun b hb => by rw [hb]; exact lt_of_heap hG) (by simp)
      rw [HMM.out] at cA
      refine ⟨hS6, ?_⟩
      simp only [Act.put, List.setIfInBounds_toArray, List.set_cons_zero, List.set_cons_succ]
      refine wpAnyH_ready (rs := [7]) (by kernel_rfl) (by simp) (AllReadyH.cons ((nth_eq _ 7).trans rfl) ?_ AllReadyH.nil)
      intro K' hK
      refine call_in hK (by kernel_rfl) 34 #[.slice (some ⟨g, 0, none⟩) 2 2, .agg #[.int .i64 x, .int .i64 y]] (by go_simp) _ (cA) ?_
      rintro v w7 ⟨rfl, b7⟩
      have D7 := bcat D6 b7 (Nat.le_refl _)
      have hS7 : IH w7 := by rw [hIH]; exact D7
      have Q7 : Hid (Two w #[.int .i64 c.W, .int .i64 c.H, .int .i64 c.height, vb, vp, .slice (some p) n cap, vs, .int .i64 c.unit, .int .i64 c.accel, .int .i64 c.speed, .int .i64 c.turn, .int .i64 c.hoist, .int .i64 c.queue, .int .i64 c.resend, .int .i64 c.budget, .bool c.back] #[.int .i64 x, .int .i64 y] 39 w7) := HQ.out.go D7
      refine ⟨hS7, ?_⟩
      simp only [Act.put, List.setIfInBounds_toArray, List.set_cons_zero, List.set_cons_succ]
      refine take_held 8 (by assumption) rfl (by kernel_rfl) (by kernel_rfl) (by kernel_rfl) (fun _ _ _ h => h) (by kernel_rfl) (v := ?v6) ?y6 ?r6
      case y6 => (intro u hu; go_simp; try rfl)
      simp only [Act.put, List.setIfInBounds_toArray, List.set_cons_zero, List.set_cons_succ]
      refine done_held (by kernel_rfl) ?_ _
      by_cases hz : m = 0
      · subst hz
        have HN2 : Hid ((x, y) ∉ (c.robots.take (k + 1)).flatMap cellsOf) := by
          show (x, y) ∉ (c.robots.take (k + 1)).flatMap cellsOf
          rw [HC.out, HE.out, List.mem_append]
          exact fun h => h.elim HN.out (List.count_eq_zero.1 HMM.out)
        go_wp2
        go_roundw
        case rel => exact ⟨k + 1, by omega, by go_num, Q7, HN2⟩
        case measure => simp [intOf]; omega
      · have HT : Hid (R = true) := HM.out (k + 1) (by omega) (by
          rw [HC.out, HE.out, List.mem_append]
          exact Or.inr (List.count_pos_iff.1 (by rw [HMM.out]; omega)))
        have hz' : (m : Int) > 0 := by omega
        go_wp2
        go_ret
        exact ⟨_, rfl, congrArg Value.bool HT.out.symm, Q7.out.below⟩
    · obtain rfl : k = n := by omega
      have HF : Hid (R = false) := by
        show R = false
        rw [← HR.out, decide_eq_false_iff_not, HD.out]
        exact HN.out
      go_wp2
      go_ret
      exact ⟨_, rfl, congrArg Value.bool HF.out.symm, HQ.out.below⟩
end Go.Proofs.Ytabbdclpjghdbaa.Grid
namespace Go.Proofs.Ytabbdclpjghdbaa.Grid
set_option linter.unusedVariables false
set_option linter.unusedSimpArgs false
open Go Go.RowKit Go.Shelf Go.Proofs
attribute [local go_sem] Oper.semAt_some

def portP : List Cell → Cell → Nat → Int
  | [], _, _ => -1
  | q :: l, x, i => if q = x then (i : Int) else portP l x (i + 1)
theorem portP_neg : ∀ (l : List Cell) (x : Cell) (i : Nat), (portP l x i < 0 ↔ x ∉ l)
  | [], x, i => by simp [portP]
  | q :: l, x, i => by
    unfold portP
    by_cases h : q = x
    · subst h; simp
    · rw [if_neg h, portP_neg l x (i + 1), List.mem_cons, not_or]
      exact ⟨fun k => ⟨fun e => h e.symm, k⟩, fun k => k.2⟩
set_option maxRecDepth 100000 in
set_option maxHeartbeats 4000000 in
theorem portR_any (F : Nat → Prop) (c : Conf) (vb vp vr vs : Value) (x y : Int) (w : World) (hA : ConfAt F c vb vp vr vs w) (hF : ∀ b, F b → b < w.heap.size) (hm : c.ports.length ≤ 9223372036854775807) :
    Calls Try.prog 65 #[.agg #[.int .i64 c.W, .int .i64 c.H, .int .i64 c.height, vb, vp, vr, vs, .int .i64 c.unit, .int .i64 c.accel, .int .i64 c.speed, .int .i64 c.turn, .int .i64 c.hoist, .int .i64 c.queue, .int .i64 c.resend, .int .i64 c.budget, .bool c.back], .agg #[.int .i64 x, .int .i64 y]] w fun e w' => ∃ r, e = .returned r ∧ r = .int .i64 (portP c.ports (x, y) 0) ∧ Below w.heap.size w w' := by
  obtain ⟨a, cap, hv, h0⟩ := hA.p.form
  subst hv
  obtain ⟨n, hn⟩ : ∃ n, c.ports.length = n := ⟨_, rfl⟩
  have Hn : Hid (c.ports.length = n) := hn
  have hL := hA.p
  rw [hn] at hm hL h0 ⊢
  clear hn hA
  have hFw : ∀ wr, Below w.heap.size w wr → ListAt 2 cellEl F c.ports (.slice a n cap) wr := fun wr b => hL.go heldCell hF b
  clear hL
  generalize hR : portP c.ports (x, y) 0 = R
  have HR : Hid (portP (c.ports.drop 0) (x, y) 0 = R) := hR
  clear hR
  have Q0 : Hid (Two w #[.int .i64 c.W, .int .i64 c.H, .int .i64 c.height, vb, .slice a n cap, vr, vs, .int .i64 c.unit, .int .i64 c.accel, .int .i64 c.speed, .int .i64 c.turn, .int .i64 c.hoist, .int .i64 c.queue, .int .i64 c.resend, .int .i64 c.budget, .bool c.back] #[.int .i64 x, .int .i64 y] 39 ((w.alloc (.cells #[.int .i64 c.W, .int .i64 c.H, .int .i64 c.height, vb, .slice a n cap, vr, vs, .int .i64 c.unit, .int .i64 c.accel, .int .i64 c.speed, .int .i64 c.turn, .int .i64 c.hoist, .int .i64 c.queue, .int .i64 c.resend, .int .i64 c.budget, .bool c.back] 26)).alloc (.cells #[.int .i64 x, .int .i64 y] 39))) := two_new w #[.int .i64 c.W, .int .i64 c.H, .int .i64 c.height, vb, .slice a n cap, vr, vs, .int .i64 c.unit, .int .i64 c.accel, .int .i64 c.speed, .int .i64 c.turn, .int .i64 c.hoist, .int .i64 c.queue, .int .i64 c.resend, .int .i64 c.budget, .bool c.back] #[.int .i64 x, .int .i64 y] 39
  go_enter Try.func65, Try.ntmps65
  go_wp2
  go_loopw [5] (fun i wr => ∃ k : Nat, k ≤ n ∧ i = .int .i64 k ∧ Hid (Two w #[.int .i64 c.W, .int .i64 c.H, .int .i64 c.height, vb, .slice a n cap, vr, vs, .int .i64 c.unit, .int .i64 c.accel, .int .i64 c.speed, .int .i64 c.turn, .int .i64 c.hoist, .int .i64 c.queue, .int .i64 c.resend, .int .i64 c.budget, .bool c.back] #[.int .i64 x, .int .i64 y] 39 wr) ∧ Hid (portP (c.ports.drop k) (x, y) k = R)) (fun i _ => n - (intOf i).toNat)
  case atStart => exact ⟨0, Nat.zero_le _, rfl, Q0, HR⟩
  case round =>
    obtain ⟨k, hk, rfl, HQ, HN⟩ := hrel
    clear Q0 HR
    have k4 : wr.cell? ⟨w.heap.size, 4, none⟩ = some (.slice a n cap) := cell_of HQ.out.a 4
    by_cases hlt : k < n
    · have hlt' : k < c.ports.length := by rw [Hn.out]; exact hlt
      have HC : Hid (c.ports.drop k = c.ports[k]'hlt' :: c.ports.drop (k + 1)) := drop_item c.ports hlt'
      obtain ⟨p, cs, cap', hv, hpF, hcs, hrd⟩ := (hFw wr HQ.out.below).item hlt'
      generalize c.ports[k]'hlt' = qr at *
      obtain ⟨q, r⟩ := qr
      obtain rfl := hcs
      obtain ⟨rfl, rfl⟩ : a = some p ∧ cap = cap' := by injection hv with h1 h2 h3; exact ⟨h1, h3⟩
      clear hv
      have eB := HQ.out.b
      have B := HQ.out.below
      go_wp2
      obtain ⟨IH, hIH⟩ : ∃ I : World → Prop, I = Below wr.heap.size wr := ⟨_, rfl⟩
      have kI : ∀ u, IH u → Below wr.heap.size wr u := fun u hu => by rw [hIH] at hu; exact hu
      have hS : IH wr.drew := by rw [hIH]; exact (Below.refl _ _).drew
      have HP : Hid (∀ u, IH u → ∀ j z, #[Value.int .i64 q, .int .i64 r][j]? = some z → u.cell? ((p.add (k * 2)).add j) = some z) := fun u hu j z hj => cell_below (hrd j z hj) (kI u hu)
      have HX : Hid (∀ u, IH u → ∀ j z, #[Value.int .i64 x, .int .i64 y][j]? = some z → u.cell? ((⟨w.heap.size + 1, 0, none⟩ : Addr).add j) = some z) := fun u hu => row_below eB (kI u hu)
      have z4 : ∀ u, IH u → u.cell? ⟨w.heap.size, 4, none⟩ = some (.slice (some p) n cap) := fun u hu => cell_below k4 (kI u hu)
      clear hrd eB k4
      refine start_held (S := IH) 7 rfl (by kernel_rfl) (hS) ?_
      simp only [Array.replicate_succ, Array.replicate_zero, List.push_toArray, List.nil_append, List.cons_append]
      refine take_held 0 (by assumption) rfl (by kernel_rfl) (by kernel_rfl) (by kernel_rfl) (fun _ _ _ h => h) (by kernel_rfl) (v := ?v7) ?y7 ?r7
      case y7 => (intro u hu; go_simp; try rfl)
      simp only [Act.put, List.setIfInBounds_toArray, List.set_cons_zero, List.set_cons_succ]
      refine take_held 1 (by assumption) rfl (by kernel_rfl) (by kernel_rfl) (by kernel_rfl) (fun _ _ _ h => h) (by kernel_rfl) (v := ?v8) ?y8 ?r8
      case y8 => (intro u hu; have zz0 := z4 u hu; go_simp; try rfl)
      simp only [Act.put, List.setIfInBounds_toArray, List.set_cons_zero, List.set_cons_succ]
      refine take_held 2 (by assumption) rfl (by kernel_rfl) (by kernel_rfl) (by kernel_rfl) (fun _ _ _ h => h) (by kernel_rfl) (v := ?v9) ?y9 ?r9
      case y9 => (intro u hu; go_simp; try rfl)
      simp only [Act.put, List.setIfInBounds_toArray, List.set_cons_zero, List.set_cons_succ]
      refine take_held 3 (by assumption) rfl (by kernel_rfl) (by kernel_rfl) (by kernel_rfl) (fun _ _ _ h => h) (by kernel_rfl) (v := ?v10) ?y10 ?r10
      case y10 => (intro u hu; go_simp; try rfl)
      simp only [Act.put, List.setIfInBounds_toArray, List.set_cons_zero, List.set_cons_succ]
      refine take_held 4 (by assumption) rfl (by kernel_rfl) (by kernel_rfl) (by kernel_rfl) (fun _ _ _ h => h) (by kernel_rfl) (v := .agg #[.int .i64 q, .int .i64 r]) ?y11 ?r11
      case y11 => (intro u hu; exact run_load_op 39 _ rfl (p.add (k * 2)) _ rfl (HP.out u hu) (aggCell u) infoCell2)
      simp only [Act.put, List.setIfInBounds_toArray, List.set_cons_zero, List.set_cons_succ]
      refine take_held 5 (by assumption) rfl (by kernel_rfl) (by kernel_rfl) (by kernel_rfl) (fun _ _ _ h => h) (by kernel_rfl) (v := .agg #[.int .i64 x, .int .i64 y]) ?y12 ?r12
      case y12 => (intro u hu; exact run_load_op 39 _ rfl ⟨w.heap.size + 1, 0, none⟩ _ rfl (HX.out u hu) (aggCell u) infoCell2)
      simp only [Act.put, List.setIfInBounds_toArray, List.set_cons_zero, List.set_cons_succ]
      refine take_held 6 (by assumption) rfl (by kernel_rfl) (by kernel_rfl) (by kernel_rfl) (fun _ _ _ h => h) (by kernel_rfl) (v := .bool (decide ((q, r) = (x, y)))) ?yE ?rE
      case yE => (intro u hu; exact run_eql_cell _ _ rfl q r x y rfl rfl)
      simp only [Act.put, List.setIfInBounds_toArray, List.set_cons_zero, List.set_cons_succ]
      refine done_held (by kernel_rfl) ?_ _
      have Q7 : Hid (Two w #[.int .i64 c.W, .int .i64 c.H, .int .i64 c.height, vb, .slice (some p) n cap, vr, vs, .int .i64 c.unit, .int .i64 c.accel, .int .i64 c.speed, .int .i64 c.turn, .int .i64 c.hoist, .int .i64 c.queue, .int .i64 c.resend, .int .i64 c.budget, .bool c.back] #[.int .i64 x, .int .i64 y] 39 wr.drew) := HQ.out.go (Below.refl _ _).drew
      by_cases hz : (q, r) = (x, y)
      · have HT : Hid (R = (k : Int)) := by
          show R = (k : Int)
          rw [← HN.out, HC.out]
          unfold portP
          rw [if_pos hz]
        rw [decide_eq_true hz]
        go_wp2
        go_ret
        exact ⟨_, rfl, by rw [HT.out]; rfl, Q7.out.below⟩
      · have HT : Hid (portP (c.ports.drop (k + 1)) (x, y) (k + 1) = R) := by
          show portP (c.ports.drop (k + 1)) (x, y) (k + 1) = R
          rw [← HN.out, HC.out]
          conv => rhs; unfold portP
          rw [if_neg hz]
        rw [decide_eq_false hz]
        go_wp2
        go_roundw
        case rel => exact ⟨k + 1, by omega, by go_num, Q7, HT⟩
        case measure => simp [intOf]; omega
    · obtain rfl : k = n := by omega
      have HF : Hid (R = -1) := by
        show R = -1
        rw [← HN.out, ← Hn.out, List.drop_length]
        rfl
      go_wp2
      go_ret
      exact ⟨_, rfl, by rw [HF.out]; rfl, HQ.out.below⟩
end Go.Proofs.Ytabbdclpjghdbaa.Grid
