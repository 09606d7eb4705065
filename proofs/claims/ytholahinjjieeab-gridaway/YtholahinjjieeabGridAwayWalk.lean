/-
  The law GridAway: how far two cells are apart.
-/
import Derived.Test.YtholahinjjieeabGridAwayCalls
import Derived.Test.YtholahinjjieeabGridAwake
namespace Go.Proofs.Ytholahinjjieeab.Grid
set_option linter.unusedVariables false
set_option linter.unusedSimpArgs false
open Go Go.RowKit Go.Proofs

theorem gap_comm (a b : Int) : gapP a b = gapP b a := by unfold gapP; split <;> split <;> omega
theorem gap_tri (a b c : Int) : gapP a b ≤ gapP a c + gapP c b := by unfold gapP; split <;> split <;> split <;> omega
theorem gap_self (a : Int) : gapP a a = 0 := by unfold gapP; split <;> omega
theorem away_comm (a b : Cell) : awayP a b = awayP b a := by
  unfold awayP
  rw [gap_comm a.1, gap_comm a.2]
  cases near a.1 <;> cases near a.2 <;> cases near b.1 <;> cases near b.2 <;> rfl
theorem away_self (a : Cell) : awayP a a = 0 := by
  unfold awayP
  rw [gap_self, gap_self]
  split <;> rfl
theorem away_small (a b : Cell) : 0 ≤ awayP a b ∧ awayP a b ≤ 4398046511104 := by
  unfold awayP
  split
  · rename_i h
    simp only [Bool.and_eq_true] at h
    have h1 := gap_bd h.1.1.1 h.1.2
    have h2 := gap_bd h.1.1.2 h.2
    omega
  · omega
theorem away_tri (a b c : Cell) (ha : near a.1 = true ∧ near a.2 = true) (hb : near b.1 = true ∧ near b.2 = true) (hc : near c.1 = true ∧ near c.2 = true) : awayP a b ≤ awayP a c + awayP c b := by
  unfold awayP
  simp only [ha.1, ha.2, hb.1, hb.2, hc.1, hc.2, Bool.and_self, if_true]
  have := gap_tri a.1 b.1 c.1
  have := gap_tri a.2 b.2 c.2
  omega
/- Three cells in boxes of the call's own. -/
structure Box3 (w : World) (ax ay bx by_ cx cy : Int) (W : World) : Prop where
  below : Below w.heap.size w W
  a : W.heap[w.heap.size]? = some (.cells #[.int .i64 ax, .int .i64 ay] 28 (0, 0))
  b : W.heap[w.heap.size + 1]? = some (.cells #[.int .i64 bx, .int .i64 by_] 28 (0, 0))
  c : W.heap[w.heap.size + 1 + 1]? = some (.cells #[.int .i64 cx, .int .i64 cy] 28 (0, 0))
section
variable {w : World} {ax ay bx by_ cx cy : Int} {W W' : World}
theorem Box3.go (h : Box3 w ax ay bx by_ cx cy W) (hb : Below W.heap.size W W') : Box3 w ax ay bx by_ cx cy W' :=
  ⟨bcat h.below hb (Nat.le_refl _), (hb.block _ (lt_of_heap h.a)).trans h.a, (hb.block _ (lt_of_heap h.b)).trans h.b, (hb.block _ (lt_of_heap h.c)).trans h.c⟩
theorem Box3.c0 (h : Box3 w ax ay bx by_ cx cy W) : W.cell? ⟨w.heap.size, 0, none⟩ = some (.int .i64 ax) := cell_of h.a 0
theorem Box3.c1 (h : Box3 w ax ay bx by_ cx cy W) : W.cell? ⟨w.heap.size, 1, none⟩ = some (.int .i64 ay) := cell_of h.a 1
theorem Box3.c2 (h : Box3 w ax ay bx by_ cx cy W) : W.cell? ⟨w.heap.size + 1, 0, none⟩ = some (.int .i64 bx) := cell_of h.b 0
theorem Box3.c3 (h : Box3 w ax ay bx by_ cx cy W) : W.cell? ⟨w.heap.size + 1, 1, none⟩ = some (.int .i64 by_) := cell_of h.b 1
theorem Box3.c4 (h : Box3 w ax ay bx by_ cx cy W) : W.cell? ⟨w.heap.size + 1 + 1, 0, none⟩ = some (.int .i64 cx) := cell_of h.c 0
theorem Box3.c5 (h : Box3 w ax ay bx by_ cx cy W) : W.cell? ⟨w.heap.size + 1 + 1, 1, none⟩ = some (.int .i64 cy) := cell_of h.c 1
end
theorem awake_call (w : World) : Calls Try.prog 11 #[] w fun e w' => ∃ v, e = .returned v ∧ v = .bool true ∧ Below w.heap.size w w' := (awake_any w).mono fun e w' ⟨h, b⟩ => ⟨_, h, rfl, b⟩
def mx (x y : Int) : Int := if y > x then y else x
def mn (x y : Int) : Int := if y < x then y else x
theorem run_max6 (ts : Array TypeId) (t : TypeId) (a b c d e f : Int) (w : World) : (Builtin.max_ ts t #[.int .i64 a, .int .i64 b, .int .i64 c, .int .i64 d, .int .i64 e, .int .i64 f]).run Try.prog w = .ok (.int .i64 (mx (mx (mx (mx (mx a b) c) d) e) f)) w := by
  simp [Builtin.max_, Builtin.max2, mx]
theorem run_min6 (ts : Array TypeId) (t : TypeId) (a b c d e f : Int) (w : World) : (Builtin.min_ ts t #[.int .i64 a, .int .i64 b, .int .i64 c, .int .i64 d, .int .i64 e, .int .i64 f]).run Try.prog w = .ok (.int .i64 (mn (mn (mn (mn (mn a b) c) d) e) f)) w := by
  unfold mn
  simp [Builtin.min_, Builtin.min2]
theorem mx_le {x y k : Int} : mx x y ≤ k ↔ x ≤ k ∧ y ≤ k := by unfold mx; split <;> omega
theorem le_mn {x y k : Int} : k ≤ mn x y ↔ k ≤ x ∧ k ≤ y := by unfold mn; split <;> omega
set_option maxRecDepth 100000 in
set_option maxHeartbeats 4000000 in
theorem away_all (ax ay bx by_ cx cy : Int) (w : World) : Calls Try.prog 5 #[.agg #[.int .i64 ax, .int .i64 ay], .agg #[.int .i64 bx, .int .i64 by_], .agg #[.int .i64 cx, .int .i64 cy]] w fun e w' => e = .returned (.bool true) ∧ Below w.heap.size w w' := by
  have cAB := fun u => away_any ax ay bx by_ u
  have cBA := fun u => away_any bx by_ ax ay u
  have cAA := fun u => away_any ax ay ax ay u
  have cR := fun u => refAway_any ax ay bx by_ u
  have cAC := fun u => away_any ax ay cx cy u
  have cCB := fun u => away_any cx cy bx by_ u
  have hcm := away_comm (bx, by_) (ax, ay)
  have hsf := away_self (ax, ay)
  rw [hcm] at cBA
  rw [hsf] at cAA
  obtain ⟨d1, d2⟩ := away_small (ax, ay) (bx, by_)
  obtain ⟨d3, d4⟩ := away_small (ax, ay) (cx, cy)
  obtain ⟨d5, d6⟩ := away_small (cx, cy) (bx, by_)
  have HT := away_tri (ax, ay) (bx, by_) (cx, cy)
  generalize awayP (ax, ay) (bx, by_) = D at *
  generalize awayP (ax, ay) (cx, cy) = E at *
  generalize awayP (cx, cy) (bx, by_) = F at *
  have HTR : Hid ((near ax = true ∧ near ay = true) ∧ (near bx = true ∧ near by_ = true) ∧ (near cx = true ∧ near cy = true) → D ≤ E + F) := fun h => HT h.1 h.2.1 h.2.2
  clear hcm hsf HT
  have cW := awake_any
  have cW2 := fun u => awake_call u
  have hdd : (D != D) = false := by simp
  have eMx := fun ts t u => run_max6 ts t ax ay bx by_ cx cy u
  have eMn := fun ts t u => run_min6 ts t ax ay bx by_ cx cy u
  have HNR : Hid (mx (mx (mx (mx (mx ax ay) bx) by_) cx) cy ≤ 1099511627776 → -1099511627776 ≤ mn (mn (mn (mn (mn ax ay) bx) by_) cx) cy → D ≤ E + F) := fun h1 h2 => by
    simp only [mx_le] at h1
    simp only [le_mn] at h2
    refine HTR.out ?_
    simp only [near_iff]
    omega
  generalize mx (mx (mx (mx (mx ax ay) bx) by_) cx) cy = MX at *
  generalize mn (mn (mn (mn (mn ax ay) bx) by_) cx) cy = MN at *
  clear HTR
  go_enter Try.func5, Try.ntmps5
  go_wp2_with (first
    | (have X' := b3; go_at_call 18; refine (cAA _).mono ?_; rintro e w4 ⟨v4, rfl, rfl, b4⟩; have Q4 := Q3.go b4; have s0 : w4.cell? ⟨w.heap.size, 0, none⟩ = some (.int .i64 ax) := Q4.c0; have s1 : w4.cell? ⟨w.heap.size, 1, none⟩ = some (.int .i64 ay) := Q4.c1; have s2 : w4.cell? ⟨w.heap.size + 1, 0, none⟩ = some (.int .i64 bx) := Q4.c2; have s3 : w4.cell? ⟨w.heap.size + 1, 1, none⟩ = some (.int .i64 by_) := Q4.c3; have s4 : w4.cell? ⟨w.heap.size + 1 + 1, 0, none⟩ = some (.int .i64 cx) := Q4.c4; have s5 : w4.cell? ⟨w.heap.size + 1 + 1, 1, none⟩ = some (.int .i64 cy) := Q4.c5)
    | (have X' := b2; go_at_call 18; refine (cBA _).mono ?_; rintro e w3 ⟨v3, rfl, rfl, b3⟩; have Q3 := Q2.go b3; have r0 : w3.cell? ⟨w.heap.size, 0, none⟩ = some (.int .i64 ax) := Q3.c0; have r1 : w3.cell? ⟨w.heap.size, 1, none⟩ = some (.int .i64 ay) := Q3.c1; have r2 : w3.cell? ⟨w.heap.size + 1, 0, none⟩ = some (.int .i64 bx) := Q3.c2; have r3 : w3.cell? ⟨w.heap.size + 1, 1, none⟩ = some (.int .i64 by_) := Q3.c3; have r4 : w3.cell? ⟨w.heap.size + 1 + 1, 0, none⟩ = some (.int .i64 cx) := Q3.c4; have r5 : w3.cell? ⟨w.heap.size + 1 + 1, 1, none⟩ = some (.int .i64 cy) := Q3.c5)
    | (have X' := b1; go_at_call 19; refine (cR _).mono ?_; rintro e w2 ⟨rfl, b2⟩; have Q2 := Q1.go b2; have q0 : w2.cell? ⟨w.heap.size, 0, none⟩ = some (.int .i64 ax) := Q2.c0; have q1 : w2.cell? ⟨w.heap.size, 1, none⟩ = some (.int .i64 ay) := Q2.c1; have q2 : w2.cell? ⟨w.heap.size + 1, 0, none⟩ = some (.int .i64 bx) := Q2.c2; have q3 : w2.cell? ⟨w.heap.size + 1, 1, none⟩ = some (.int .i64 by_) := Q2.c3; have q4 : w2.cell? ⟨w.heap.size + 1 + 1, 0, none⟩ = some (.int .i64 cx) := Q2.c4; have q5 : w2.cell? ⟨w.heap.size + 1 + 1, 1, none⟩ = some (.int .i64 cy) := Q2.c5)
    | (go_at_call 18; refine (cAB _).mono ?_; rintro e w1 ⟨v1, rfl, rfl, b1⟩; have Q1 : Box3 w ax ay bx by_ cx cy w1 := (fun h => ⟨h.1, h.2.1, h.2.2.1, h.2.2.2.1⟩) (three_frame w _ _ _ _ _ _ w1 b1); have p0 : w1.cell? ⟨w.heap.size, 0, none⟩ = some (.int .i64 ax) := Q1.c0; have p1 : w1.cell? ⟨w.heap.size, 1, none⟩ = some (.int .i64 ay) := Q1.c1; have p2 : w1.cell? ⟨w.heap.size + 1, 0, none⟩ = some (.int .i64 bx) := Q1.c2; have p3 : w1.cell? ⟨w.heap.size + 1, 1, none⟩ = some (.int .i64 by_) := Q1.c3; have p4 : w1.cell? ⟨w.heap.size + 1 + 1, 0, none⟩ = some (.int .i64 cx) := Q1.c4; have p5 : w1.cell? ⟨w.heap.size + 1 + 1, 1, none⟩ = some (.int .i64 cy) := Q1.c5)
    | (go_at_call 11; refine (cW _).mono ?_; rintro e w9 ⟨rfl, b9⟩))
  · have hmx : MX ≤ 1099511627776 := by assumption
    have hmn : -1099511627776 ≤ MN := by assumption
    have HLE : Hid (D ≤ IntKind.i64.wrap (E + F)) := by
      show D ≤ _
      rw [IntKind.wrap_i64]
      have := HNR.out hmx hmn
      omega
    obtain ⟨IH, hIH⟩ : ∃ I : World → Prop, I = Box3 w ax ay bx by_ cx cy := ⟨_, rfl⟩
    have k0 : ∀ u, IH u → u.cell? ⟨w.heap.size, 0, none⟩ = some (.int .i64 ax) := fun u hu => by rw [hIH] at hu; exact hu.c0
    have k1 : ∀ u, IH u → u.cell? ⟨w.heap.size, 1, none⟩ = some (.int .i64 ay) := fun u hu => by rw [hIH] at hu; exact hu.c1
    have k2 : ∀ u, IH u → u.cell? ⟨w.heap.size + 1, 0, none⟩ = some (.int .i64 bx) := fun u hu => by rw [hIH] at hu; exact hu.c2
    have k3 : ∀ u, IH u → u.cell? ⟨w.heap.size + 1, 1, none⟩ = some (.int .i64 by_) := fun u hu => by rw [hIH] at hu; exact hu.c3
    have k4 : ∀ u, IH u → u.cell? ⟨w.heap.size + 1 + 1, 0, none⟩ = some (.int .i64 cx) := fun u hu => by rw [hIH] at hu; exact hu.c4
    have k5 : ∀ u, IH u → u.cell? ⟨w.heap.size + 1 + 1, 1, none⟩ = some (.int .i64 cy) := fun u hu => by rw [hIH] at hu; exact hu.c5
    have Q5 := Q4.go (Below.refl _ _).drew
    have hS : IH w4.drew := by rw [hIH]; exact Q5
    clear s0 s1 s2 s3 s4 s5 r0 r1 r2 r3 r4 r5 q0 q1 q2 q3 q4 q5 p0 p1 p2 p3 p4 p5
    refine start_held (S := IH) 13 rfl (by kernel_rfl) (hS) ?_
    simp only [Array.replicate_succ, Array.replicate_zero, List.push_toArray, List.nil_append, List.cons_append]
    refine take_held 0 (by assumption) rfl (by kernel_rfl) (by kernel_rfl) (by kernel_rfl) (fun _ _ _ h => h) (by kernel_rfl) (v := ?v0) ?y0 ?r0
    case y0 => (intro u hu; go_simp; try rfl)
    simp only [Act.put, List.setIfInBounds_toArray, List.set_cons_zero, List.set_cons_succ]
    refine take_held 1 (by assumption) rfl (by kernel_rfl) (by kernel_rfl) (by kernel_rfl) (fun _ _ _ h => h) (by kernel_rfl) (v := ?v1) ?y1 ?r1
    case y1 => (intro u hu; have z0 := k0 u hu; have z1 := k1 u hu; go_simp; try rfl)
    simp only [Act.put, List.setIfInBounds_toArray, List.set_cons_zero, List.set_cons_succ]
    refine take_held 2 (by assumption) rfl (by kernel_rfl) (by kernel_rfl) (by kernel_rfl) (fun _ _ _ h => h) (by kernel_rfl) (v := ?v2) ?y2 ?r2
    case y2 => (intro u hu; have z0 := k4 u hu; have z1 := k5 u hu; go_simp; try rfl)
    simp only [Act.put, List.setIfInBounds_toArray, List.set_cons_zero, List.set_cons_succ]
    refine take_held 4 (by assumption) rfl (by kernel_rfl) (by kernel_rfl) (by kernel_rfl) (fun _ _ _ h => h) (by kernel_rfl) (v := ?v3) ?y3 ?r3
    case y3 => (intro u hu; have z0 := k4 u hu; have z1 := k5 u hu; go_simp; try rfl)
    simp only [Act.put, List.setIfInBounds_toArray, List.set_cons_zero, List.set_cons_succ]
    refine take_held 5 (by assumption) rfl (by kernel_rfl) (by kernel_rfl) (by kernel_rfl) (fun _ _ _ h => h) (by kernel_rfl) (v := ?v4) ?y4 ?r4
    case y4 => (intro u hu; have z0 := k2 u hu; have z1 := k3 u hu; go_simp; try rfl)
    simp only [Act.put, List.setIfInBounds_toArray, List.set_cons_zero, List.set_cons_succ]
    refine wpAnyH_ready (rs := [3]) (by kernel_rfl) (by simp) (AllReadyH.cons ((nth_eq _ 3).trans rfl) ?_ AllReadyH.nil)
    intro K' hK
    refine call_in hK (by kernel_rfl) 18 #[.agg #[.int .i64 ax, .int .i64 ay], .agg #[.int .i64 cx, .int .i64 cy]] (by go_simp) _ (cAC _) ?_
    rintro v w6 ⟨rfl, b6⟩
    have Q6 := Q5.go b6
    have hS6 : IH w6 := by rw [hIH]; exact Q6
    refine ⟨hS6, ?_⟩
    simp only [Act.put, List.setIfInBounds_toArray, List.set_cons_zero, List.set_cons_succ]
    refine wpAnyH_ready (rs := [6]) (by kernel_rfl) (by simp) (AllReadyH.cons ((nth_eq _ 6).trans rfl) ?_ AllReadyH.nil)
    intro K' hK
    refine call_in hK (by kernel_rfl) 18 #[.agg #[.int .i64 cx, .int .i64 cy], .agg #[.int .i64 bx, .int .i64 by_]] (by go_simp) _ (cCB _) ?_
    rintro v w7 ⟨rfl, b7⟩
    have Q7 := Q6.go b7
    have hS7 : IH w7 := by rw [hIH]; exact Q7
    refine ⟨hS7, ?_⟩
    simp only [Act.put, List.setIfInBounds_toArray, List.set_cons_zero, List.set_cons_succ]
    refine take_held 7 (by assumption) rfl (by kernel_rfl) (by kernel_rfl) (by kernel_rfl) (fun _ _ _ h => h) (by kernel_rfl) (v := ?v5) ?y5 ?r5
    case y5 => (intro u hu; go_simp; try rfl)
    simp only [Act.put, List.setIfInBounds_toArray, List.set_cons_zero, List.set_cons_succ]
    refine take_held 8 (by assumption) rfl (by kernel_rfl) (by kernel_rfl) (by kernel_rfl) (fun _ _ _ h => h) (by kernel_rfl) (v := .bool true) ?yLe ?rLe
    case yLe => (intro u hu; have hq := HLE.out; go_simp; try simp [hq])
    simp only [Act.put, List.setIfInBounds_toArray, List.set_cons_zero, List.set_cons_succ]
    refine take_held 9 (by assumption) rfl (by kernel_rfl) (by kernel_rfl) (by kernel_rfl) (fun _ _ _ h => h) (by kernel_rfl) (v := ?v6) ?y6 ?r6
    case y6 => (intro u hu; go_simp; try rfl)
    simp only [Act.put, List.setIfInBounds_toArray, List.set_cons_zero, List.set_cons_succ]
    refine wpAnyH_ready (rs := [10]) (by kernel_rfl) (by simp) (AllReadyH.cons ((nth_eq _ 10).trans rfl) ?_ AllReadyH.nil)
    intro K' hK
    refine call_in hK (by kernel_rfl) 11 #[] (by go_simp) _ (cW2 _) ?_
    rintro v w8 ⟨rfl, b8⟩
    have Q8 := Q7.go b8
    have hS8 : IH w8 := by rw [hIH]; exact Q8
    refine ⟨hS8, ?_⟩
    simp only [Act.put, List.setIfInBounds_toArray, List.set_cons_zero, List.set_cons_succ]
    refine take_held 11 (by assumption) rfl (by kernel_rfl) (by kernel_rfl) (by kernel_rfl) (fun _ _ _ h => h) (by kernel_rfl) (v := ?v7) ?y7 ?r7
    case y7 => (intro u hu; go_simp; try rfl)
    simp only [Act.put, List.setIfInBounds_toArray, List.set_cons_zero, List.set_cons_succ]
    refine take_held 12 (by assumption) rfl (by kernel_rfl) (by kernel_rfl) (by kernel_rfl) (fun _ _ _ h => h) (by kernel_rfl) (v := ?v8) ?y8 ?r8
    case y8 => (intro u hu; go_simp; try rfl)
    simp only [Act.put, List.setIfInBounds_toArray, List.set_cons_zero, List.set_cons_succ]
    refine done_held (by kernel_rfl) ?_ _
    go_wp2
    go_ret
    exact ⟨rfl, Q8.below⟩
  · go_ret
    exact ⟨rfl, bcat Q4.below b9 (Nat.le_refl _)⟩
  · go_ret
    exact ⟨rfl, bcat Q4.below b9 (Nat.le_refl _)⟩
end Go.Proofs.Ytholahinjjieeab.Grid
