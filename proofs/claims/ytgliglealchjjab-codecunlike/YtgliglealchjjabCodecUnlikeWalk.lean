/-
  The law CodecUnlike: two operations, two telegrams have the same bytes just if they are the same.
-/
import Derived.Test.YtgliglealchjjabCodecFace
import Derived.Deep.DeepCutAuto
namespace Go.Proofs.Ytgliglealchjjab.Codec
set_option linter.unusedVariables false
set_option linter.unusedSimpArgs false
open Go Go.RowKit

theorem run_load_op2 {o : Oper} {a : Act} {w : World} (ty : TypeId) (x : Operand) (ho : o.op = .load ty x) (g : Nat) (cs : Array Value) (hx : a.eval x = .pointer (some ⟨g, 0, none⟩))
    (h : (loadVar ty ⟨g, 0, none⟩).run Try.prog w = .ok (.agg cs) w) : (execOp a.eval o).run Try.prog w = .ok (.value (.agg cs)) w := by
  unfold execOp
  simp only [ho, hx, Instr.loadAt, Instr.sureAddr, Sem.run_bind, Sem.run_pure, Result.andThen_ok, h]
theorem run_eql_op {o : Oper} {a : Act} {w : World} (T R : TypeId) (x y : Operand) (ho : o.op = .binOp .eql T x y R) (xs ys : Array Value) (hx : a.eval x = .agg xs) (hy : a.eval y = .agg ys) (b : Bool)
    (h : (Op.equalIn 10000 T (.agg xs) (.agg ys)).run Try.prog w = .ok b w) (hg : Try.prog.eqGuardType Try.prog.depth T = false) : (execOp a.eval o).run Try.prog w = .ok (.value (.bool b)) w := by
  unfold execOp
  simp only [ho, hx, hy, Sem.run_bind, Sem.run_pure, Result.andThen_ok, run_eqGuard_agg _ _ _ _ _ _ _ hg, run_eql_struct, h]
theorem if_ok (c : Prop) [Decidable c] (b : Bool) (w : World) : (if c then (Result.ok b w : Result Bool) else .ok false w) = .ok (decide c && b) w := by
  by_cases h : c
  · rw [if_pos h, decide_eq_true h, Bool.true_and]
  · rw [if_neg h, decide_eq_false h, Bool.false_and]
theorem eqOp_flat (x y z x' y' z' : Int) (w : World) : (Op.equalIn 10000 43 (.agg #[.int .i64 x, .int .i64 y, .int .i64 z]) (.agg #[.int .i64 x', .int .i64 y', .int .i64 z'])).run Try.prog w = .ok (decide ((x, y, z) = (x', y', z'))) w := by
  go_simp
  repeat' split
  all_goals simp_all
theorem eqOp (a b : TOper) (w : World) : (Op.equalIn 10000 43 (.agg (opCells a)) (.agg (opCells b))).run Try.prog w = .ok (decide (a = b)) w := eqOp_flat a.1 a.2.1 a.2.2 b.1 b.2.1 b.2.2 w
def sameTele : TTele → TTele → Bool
  | (q1, r1, p1, s1, (k1, d1, n1, ((fx1, fy1), fd1), ((tx1, ty1), td1), a1, e1), ((x1, y1), pd1), l1), (q2, r2, p2, s2, (k2, d2, n2, ((fx2, fy2), fd2), ((tx2, ty2), td2), a2, e2), ((x2, y2), pd2), l2) => (q1 == q2 && (r1 == r2 && (p1 == p2 && (s1 == s2 && (k1 == k2 && (d1 == d2 && (n1 == n2 && (fx1 == fx2 && (fy1 == fy2 && (fd1 == fd2 && (tx1 == tx2 && (ty1 == ty2 && (td1 == td2 && (a1 == a2 && (e1 == e2 && (x1 == x2 && (y1 == y2 && (pd1 == pd2 && (l1 == l2)))))))))))))))))))
theorem sameTele_iff (t u : TTele) : sameTele t u = true ↔ t = u := by
  obtain ⟨q, r, p, s, ⟨k, d, n, ⟨⟨fx, fy⟩, fd⟩, ⟨⟨tx, ty⟩, td⟩, a, e⟩, ⟨⟨x, y⟩, pd⟩, l⟩ := t
  obtain ⟨q', r', p', s', ⟨k', d', n', ⟨⟨fx', fy'⟩, fd'⟩, ⟨⟨tx', ty'⟩, td'⟩, a', e'⟩, ⟨⟨x', y'⟩, pd'⟩, l'⟩ := u
  unfold sameTele
  simp only [Bool.and_eq_true, beq_iff_eq, Prod.mk.injEq, and_assoc]
set_option maxHeartbeats 2000000 in
set_option maxRecDepth 100000 in
theorem eqTele_flat (q1 r1 p1 s1 k1 d1 n1 fx1 fy1 tx1 ty1 a1 e1 x1 y1 l1 q2 r2 p2 s2 k2 d2 n2 fx2 fy2 tx2 ty2 a2 e2 x2 y2 l2 : Int) (fd1 td1 pd1 fd2 td2 pd2 : Bool) (w : World) : (Op.equalIn 10000 38 (.agg #[.int .i64 q1, .int .i64 r1, .int .i64 p1, .int .i64 s1, .int .i64 k1, .int .i64 d1, .int .i64 n1, .int .i64 fx1, .int .i64 fy1, .bool fd1, .int .i64 tx1, .int .i64 ty1, .bool td1, .int .i64 a1, .int .i64 e1, .int .i64 x1, .int .i64 y1, .bool pd1, .int .i64 l1]) (.agg #[.int .i64 q2, .int .i64 r2, .int .i64 p2, .int .i64 s2, .int .i64 k2, .int .i64 d2, .int .i64 n2, .int .i64 fx2, .int .i64 fy2, .bool fd2, .int .i64 tx2, .int .i64 ty2, .bool td2, .int .i64 a2, .int .i64 e2, .int .i64 x2, .int .i64 y2, .bool pd2, .int .i64 l2])).run Try.prog w = .ok (sameTele (q1, r1, p1, s1, (k1, d1, n1, ((fx1, fy1), fd1), ((tx1, ty1), td1), a1, e1), ((x1, y1), pd1), l1) (q2, r2, p2, s2, (k2, d2, n2, ((fx2, fy2), fd2), ((tx2, ty2), td2), a2, e2), ((x2, y2), pd2), l2)) w := by
  unfold sameTele
  go_simp
  simp only [if_ok, Bool.and_true]
  rfl
theorem eqTele (t u : TTele) (w : World) : (Op.equalIn 10000 38 (tVal t) (tVal u)).run Try.prog w = .ok (sameTele t u) w := by
  obtain ⟨q, r, p, s, ⟨k, d, n, ⟨⟨fx, fy⟩, fd⟩, ⟨⟨tx, ty⟩, td⟩, a, e⟩, ⟨⟨x, y⟩, pd⟩, l⟩ := t
  obtain ⟨q', r', p', s', ⟨k', d', n', ⟨⟨fx', fy'⟩, fd'⟩, ⟨⟨tx', ty'⟩, td'⟩, a', e'⟩, ⟨⟨x', y'⟩, pd'⟩, l'⟩ := u
  exact eqTele_flat q r p s k d n fx fy tx ty a e x y l q' r' p' s' k' d' n' fx' fy' tx' ty' a' e' x' y' l' fd td pd fd' td' pd' w
theorem gOpT : Try.prog.eqGuardType Try.prog.depth 43 = false := by kernel_rfl
theorem gTeleT : Try.prog.eqGuardType Try.prog.depth 38 = false := by kernel_rfl
theorem drew_below2 (w : World) : Below w.heap.size w w.drew := below_drewN w 1
/- Bytes are the same just if the things are. -/
theorem same_put {α : Type} {c : Cod α} (g : Good c) (a b : α) (ha : c.ok a) (hb : c.ok b) (B : Bool) (hB : B = true ↔ a = b) (s1 : Bytes (c.put a)) (s2 : Bytes (c.put b)) : ((strOfNums (c.put a)).toList == (strOfNums (c.put b)).toList) = B := by
  by_cases h : a = b
  · subst h
    rw [hB.2 rfl]
    simp
  · rw [str_ne _ _ s1 s2 fun e => h (g.inj a b ha hb e)]
    cases B
    · rfl
    · exact absurd (hB.1 rfl) h

set_option maxRecDepth 100000 in
set_option maxHeartbeats 8000000 in
theorem unlike_all (a b : TOper) (t u : TTele) (w : World) (ha : cOp.ok a) (hb : cOp.ok b) (ht : cTele.ok t) (hu : cTele.ok u) :
    Calls Try.prog 4 #[.agg (opCells a), .agg (opCells b), tVal t, tVal u] w fun e w' => e = .returned (.bool true) ∧ Below w.heap.size w w' := by
  have cA := fun x : World => PutOp_any x a.1 a.2.1 a.2.2 ha
  have cB := fun x : World => PutOp_any x b.1 b.2.1 b.2.2 hb
  have cT := fun x : World => PutTele_any x t ht
  have cU := fun x : World => PutTele_any x u hu
  have eO := fun x : World => eqOp a b x
  have eT := fun x : World => eqTele t u x
  have cW := awake_any
  have pO := same_put gOp a b ha hb (decide (a = b)) decide_eq_true_iff
  have pT := same_put gTele t u ht hu (sameTele t u) (sameTele_iff t u)
  change ∀ x : World, Calls Try.prog _ #[.agg (opCells a)] x (Made (cOp.put a) x) at cA
  change ∀ x : World, Calls Try.prog _ #[.agg (opCells b)] x (Made (cOp.put b) x) at cB
  change ∀ x : World, Calls Try.prog _ #[.agg (tCells t).toArray] x (Made (cTele.put t) x) at cT
  change ∀ x : World, Calls Try.prog _ #[.agg (tCells u).toArray] x (Made (cTele.put u) x) at cU
  change ∀ x : World, (Op.equalIn 10000 38 (.agg (tCells t).toArray) (.agg (tCells u).toArray)).run Try.prog x = _ at eT
  change Calls Try.prog _ #[.agg (opCells a), .agg (opCells b), .agg (tCells t).toArray, .agg (tCells u).toArray] w _
  have zA : (Try.prog.info? 43).map (·.size) = some (opCells a).size := by kernel_rfl
  have zB : (Try.prog.info? 43).map (·.size) = some (opCells b).size := by kernel_rfl
  have zT : (Try.prog.info? 38).map (·.size) = some (tCells t).toArray.size := by kernel_rfl
  have zU : (Try.prog.info? 38).map (·.size) = some (tCells u).toArray.size := by kernel_rfl
  generalize opCells a = csA at *
  generalize opCells b = csB at *
  generalize (tCells t).toArray = csT at *
  generalize (tCells u).toArray = csU at *
  generalize decide (a = b) = bO at *
  generalize sameTele t u = bT at *
  generalize cOp.put a = zsA at *
  generalize cOp.put b = zsB at *
  generalize cTele.put t = zsT at *
  generalize cTele.put u = zsU at *
  go_enter Try.func4, Try.ntmps4
  obtain ⟨wc, hwc⟩ : ∃ wc, wc = (((w.alloc (.cells csA 43)).alloc (.cells csB 43)).alloc (.cells csT 38)).alloc (.cells csU 38) := ⟨_, rfl⟩
  have B0 : Below w.heap.size w wc := by
    rw [hwc]
    exact ((((Below.refl _ _).alloc (Nat.le_refl _) _).alloc (by simp) _).alloc (by simp; omega) _).alloc (by simp; omega) _
  have hA : wc.heap[w.heap.size]? = some (.cells csA 43 (0, 0)) := by
    rw [hwc, alloc_old _ _ _ (by simp; omega), alloc_old _ _ _ (by simp; omega), alloc_old _ _ _ (by simp)]
    exact heap_alloc_new _ _
  have hB : wc.heap[w.heap.size + 1]? = some (.cells csB 43 (0, 0)) := by
    rw [hwc, alloc_old _ _ _ (by simp), alloc_old _ _ _ (by simp)]
    have := heap_alloc_new (w.alloc (.cells csA 43)) (.cells csB 43)
    simp only [World.size_alloc] at this
    exact this
  have hT : wc.heap[w.heap.size + 1 + 1]? = some (.cells csT 38 (0, 0)) := by
    rw [hwc, alloc_old _ _ _ (by simp)]
    have := heap_alloc_new ((w.alloc (.cells csA 43)).alloc (.cells csB 43)) (.cells csT 38)
    simp only [World.size_alloc] at this
    exact this
  have hU : wc.heap[w.heap.size + 1 + 1 + 1]? = some (.cells csU 38 (0, 0)) := by
    rw [hwc]
    have := heap_alloc_new (((w.alloc (.cells csA 43)).alloc (.cells csB 43)).alloc (.cells csT 38)) (.cells csU 38)
    simp only [World.size_alloc] at this
    exact this
  go_upto_region 1 with fail
  rw [← hwc]
  clear hwc
  go_cut [8] (fun v wx => v = .bool true ∧ Below w.heap.size w wx)
  case first =>
    have S0 : Below wc.heap.size wc wc.drew := drew_below2 wc
    refine start_held (S := fun u => Below wc.heap.size wc u) 28 rfl (by kernel_rfl) S0 ?_
    simp only [Array.replicate_succ, Array.replicate_zero, List.push_toArray, List.nil_append, List.cons_append]
    refine take_held 0 S0 rfl (by kernel_rfl) (by kernel_rfl) (by kernel_rfl) (fun _ _ _ h => h) (by kernel_rfl) (v := .agg csA) ?yu0 ?ru0
    case yu0 => (intro x hx; exact run_load_op2 43 (.tmp 4) rfl w.heap.size csA rfl (run_loadVar_row _ _ _ _ csA (0, 0) _ ((hx.block _ (lt_of_heap hA)).trans hA) Try.underlying43 rfl zA))
    simp only [Act.put, List.setIfInBounds_toArray, List.set_cons_zero, List.set_cons_succ]
    refine take_held 3 S0 rfl (by kernel_rfl) (by kernel_rfl) (by kernel_rfl) (fun _ _ _ h => h) (by kernel_rfl) (v := .agg csB) ?yu1 ?ru1
    case yu1 => (intro x hx; exact run_load_op2 43 (.tmp 5) rfl (w.heap.size + 1) csB rfl (run_loadVar_row _ _ _ _ csB (0, 0) _ ((hx.block _ (lt_of_heap hB)).trans hB) Try.underlying43 rfl zB))
    simp only [Act.put, List.setIfInBounds_toArray, List.set_cons_zero, List.set_cons_succ]
    refine take_held 7 S0 rfl (by kernel_rfl) (by kernel_rfl) (by kernel_rfl) (fun _ _ _ h => h) (by kernel_rfl) (v := .agg csA) ?yu2 ?ru2
    case yu2 => (intro x hx; exact run_load_op2 43 (.tmp 4) rfl w.heap.size csA rfl (run_loadVar_row _ _ _ _ csA (0, 0) _ ((hx.block _ (lt_of_heap hA)).trans hA) Try.underlying43 rfl zA))
    simp only [Act.put, List.setIfInBounds_toArray, List.set_cons_zero, List.set_cons_succ]
    refine take_held 8 S0 rfl (by kernel_rfl) (by kernel_rfl) (by kernel_rfl) (fun _ _ _ h => h) (by kernel_rfl) (v := .agg csB) ?yu3 ?ru3
    case yu3 => (intro x hx; exact run_load_op2 43 (.tmp 5) rfl (w.heap.size + 1) csB rfl (run_loadVar_row _ _ _ _ csB (0, 0) _ ((hx.block _ (lt_of_heap hB)).trans hB) Try.underlying43 rfl zB))
    simp only [Act.put, List.setIfInBounds_toArray, List.set_cons_zero, List.set_cons_succ]
    refine take_held 9 S0 rfl (by kernel_rfl) (by kernel_rfl) (by kernel_rfl) (fun _ _ _ h => h) (by kernel_rfl) (v := .bool bO) ?yu4 ?ru4
    case yu4 => (intro x hx; exact run_eql_op 43 43 (.tmp 16) (.tmp 17) rfl csA csB rfl rfl bO (eO x) gOpT)
    simp only [Act.put, List.setIfInBounds_toArray, List.set_cons_zero, List.set_cons_succ]
    refine call_held 1 rfl (by kernel_rfl) (by kernel_rfl) 12 #[.agg csA] (by go_simp) _ (cA _) ?_
    rintro e1 x1 ⟨b1, rfl, m1, l1, n1⟩
    have S1 : Below wc.heap.size wc x1 := bcat S0 l1 (Nat.le_refl _)
    refine Or.inl ⟨_, rfl, S1, ?_⟩
    simp only [Act.put, List.setIfInBounds_toArray, List.set_cons_zero, List.set_cons_succ]
    refine rebase (S' := fun u => Below x1.heap.size x1 u) (fun u hu => bcat S1 hu (Nat.le_refl _)) ?_
    refine take_held 2 (Below.refl _ _) rfl (by kernel_rfl) (by kernel_rfl) (by kernel_rfl) (fun _ _ _ h => h) (by kernel_rfl) (v := .string (strOfNums zsA)) ?yu5 ?ru5
    case yu5 => (intro x hx; have hq := (m1.later hx).conv; clear eO eT; go_simp; try rfl)
    simp only [Act.put, List.setIfInBounds_toArray, List.set_cons_zero, List.set_cons_succ]
    refine call_held 4 rfl (by kernel_rfl) (by kernel_rfl) 12 #[.agg csB] (by go_simp) _ (cB _) ?_
    rintro e2 x2 ⟨b2, rfl, m2, l2, n2⟩
    have S2 : Below wc.heap.size wc x2 := bcat S1 l2 (Nat.le_refl _)
    refine Or.inl ⟨_, rfl, l2, ?_⟩
    simp only [Act.put, List.setIfInBounds_toArray, List.set_cons_zero, List.set_cons_succ]
    refine rebase (S' := fun u => Below x2.heap.size x2 u) (fun u hu => bcat l2 hu (Nat.le_refl _)) ?_
    refine take_held 5 (Below.refl _ _) rfl (by kernel_rfl) (by kernel_rfl) (by kernel_rfl) (fun _ _ _ h => h) (by kernel_rfl) (v := .string (strOfNums zsB)) ?yu6 ?ru6
    case yu6 => (intro x hx; have hq := (m2.later hx).conv; clear eO eT; go_simp; try rfl)
    simp only [Act.put, List.setIfInBounds_toArray, List.set_cons_zero, List.set_cons_succ]
    have pO := pO m1.small m2.small
    refine take_held 6 (Below.refl _ _) rfl (by kernel_rfl) (by kernel_rfl) (by kernel_rfl) (fun _ _ _ h => h) (by kernel_rfl) (v := .bool bO) ?yu7 ?ru7
    case yu7 => (intro x hx; clear eO eT; go_simp; try rfl)
    simp only [Act.put, List.setIfInBounds_toArray, List.set_cons_zero, List.set_cons_succ]
    refine take_held 10 (Below.refl _ _) rfl (by kernel_rfl) (by kernel_rfl) (by kernel_rfl) (fun _ _ _ h => h) (by kernel_rfl) (v := .bool true) ?yu8 ?ru8
    case yu8 => (intro x hx; clear eO eT; go_simp; try rfl)
    simp only [Act.put, List.setIfInBounds_toArray, List.set_cons_zero, List.set_cons_succ]
    refine take_held 11 (Below.refl _ _) rfl (by kernel_rfl) (by kernel_rfl) (by kernel_rfl) (fun _ _ _ h => h) (by kernel_rfl) (v := .bool true) ?yu9 ?ru9
    case yu9 => (intro x hx; clear eO eT; go_simp; try rfl)
    simp only [Act.put, List.setIfInBounds_toArray, List.set_cons_zero, List.set_cons_succ]
    refine take_held 12 (Below.refl _ _) rfl (by kernel_rfl) (by kernel_rfl) (by kernel_rfl) (fun _ _ _ h => h) (by kernel_rfl) (v := .agg csT) ?yu10 ?ru10
    case yu10 => (intro x hx; exact run_load_op2 38 (.tmp 6) rfl (w.heap.size + 1 + 1) csT rfl (run_loadVar_row _ _ _ _ csT (0, 0) _ (((bcat S2 hx (Nat.le_refl _)).block _ (lt_of_heap hT)).trans hT) Try.underlying38 rfl zT))
    simp only [Act.put, List.setIfInBounds_toArray, List.set_cons_zero, List.set_cons_succ]
    refine take_held 15 (Below.refl _ _) rfl (by kernel_rfl) (by kernel_rfl) (by kernel_rfl) (fun _ _ _ h => h) (by kernel_rfl) (v := .agg csU) ?yu11 ?ru11
    case yu11 => (intro x hx; exact run_load_op2 38 (.tmp 7) rfl (w.heap.size + 1 + 1 + 1) csU rfl (run_loadVar_row _ _ _ _ csU (0, 0) _ (((bcat S2 hx (Nat.le_refl _)).block _ (lt_of_heap hU)).trans hU) Try.underlying38 rfl zU))
    simp only [Act.put, List.setIfInBounds_toArray, List.set_cons_zero, List.set_cons_succ]
    refine take_held 19 (Below.refl _ _) rfl (by kernel_rfl) (by kernel_rfl) (by kernel_rfl) (fun _ _ _ h => h) (by kernel_rfl) (v := .agg csT) ?yu12 ?ru12
    case yu12 => (intro x hx; exact run_load_op2 38 (.tmp 6) rfl (w.heap.size + 1 + 1) csT rfl (run_loadVar_row _ _ _ _ csT (0, 0) _ (((bcat S2 hx (Nat.le_refl _)).block _ (lt_of_heap hT)).trans hT) Try.underlying38 rfl zT))
    simp only [Act.put, List.setIfInBounds_toArray, List.set_cons_zero, List.set_cons_succ]
    refine take_held 20 (Below.refl _ _) rfl (by kernel_rfl) (by kernel_rfl) (by kernel_rfl) (fun _ _ _ h => h) (by kernel_rfl) (v := .agg csU) ?yu13 ?ru13
    case yu13 => (intro x hx; exact run_load_op2 38 (.tmp 7) rfl (w.heap.size + 1 + 1 + 1) csU rfl (run_loadVar_row _ _ _ _ csU (0, 0) _ (((bcat S2 hx (Nat.le_refl _)).block _ (lt_of_heap hU)).trans hU) Try.underlying38 rfl zU))
    simp only [Act.put, List.setIfInBounds_toArray, List.set_cons_zero, List.set_cons_succ]
    refine take_held 21 (Below.refl _ _) rfl (by kernel_rfl) (by kernel_rfl) (by kernel_rfl) (fun _ _ _ h => h) (by kernel_rfl) (v := .bool bT) ?yu14 ?ru14
    case yu14 => (intro x hx; exact run_eql_op 38 38 (.tmp 28) (.tmp 29) rfl csT csU rfl rfl bT (eT x) gTeleT)
    simp only [Act.put, List.setIfInBounds_toArray, List.set_cons_zero, List.set_cons_succ]
    refine call_held 13 rfl (by kernel_rfl) (by kernel_rfl) 10 #[.agg csT] (by go_simp) _ (cT _) ?_
    rintro e3 x3 ⟨b3, rfl, m3, l3, n3⟩
    have S3 : Below wc.heap.size wc x3 := bcat S2 l3 (Nat.le_refl _)
    refine Or.inl ⟨_, rfl, l3, ?_⟩
    simp only [Act.put, List.setIfInBounds_toArray, List.set_cons_zero, List.set_cons_succ]
    refine rebase (S' := fun u => Below x3.heap.size x3 u) (fun u hu => bcat l3 hu (Nat.le_refl _)) ?_
    refine take_held 14 (Below.refl _ _) rfl (by kernel_rfl) (by kernel_rfl) (by kernel_rfl) (fun _ _ _ h => h) (by kernel_rfl) (v := .string (strOfNums zsT)) ?yu15 ?ru15
    case yu15 => (intro x hx; have hq := (m3.later hx).conv; clear eO eT; go_simp; try rfl)
    simp only [Act.put, List.setIfInBounds_toArray, List.set_cons_zero, List.set_cons_succ]
    refine call_held 16 rfl (by kernel_rfl) (by kernel_rfl) 10 #[.agg csU] (by go_simp) _ (cU _) ?_
    rintro e4 x4 ⟨b4, rfl, m4, l4, n4⟩
    have S4 : Below wc.heap.size wc x4 := bcat S3 l4 (Nat.le_refl _)
    refine Or.inl ⟨_, rfl, l4, ?_⟩
    simp only [Act.put, List.setIfInBounds_toArray, List.set_cons_zero, List.set_cons_succ]
    refine rebase (S' := fun u => Below x4.heap.size x4 u) (fun u hu => bcat l4 hu (Nat.le_refl _)) ?_
    refine take_held 17 (Below.refl _ _) rfl (by kernel_rfl) (by kernel_rfl) (by kernel_rfl) (fun _ _ _ h => h) (by kernel_rfl) (v := .string (strOfNums zsU)) ?yu16 ?ru16
    case yu16 => (intro x hx; have hq := (m4.later hx).conv; clear eO eT; go_simp; try rfl)
    simp only [Act.put, List.setIfInBounds_toArray, List.set_cons_zero, List.set_cons_succ]
    have pT := pT m3.small m4.small
    refine take_held 18 (Below.refl _ _) rfl (by kernel_rfl) (by kernel_rfl) (by kernel_rfl) (fun _ _ _ h => h) (by kernel_rfl) (v := .bool bT) ?yu17 ?ru17
    case yu17 => (intro x hx; clear eO eT; go_simp; try rfl)
    simp only [Act.put, List.setIfInBounds_toArray, List.set_cons_zero, List.set_cons_succ]
    refine take_held 22 (Below.refl _ _) rfl (by kernel_rfl) (by kernel_rfl) (by kernel_rfl) (fun _ _ _ h => h) (by kernel_rfl) (v := .bool true) ?yu18 ?ru18
    case yu18 => (intro x hx; clear eO eT; go_simp; try rfl)
    simp only [Act.put, List.setIfInBounds_toArray, List.set_cons_zero, List.set_cons_succ]
    refine take_held 23 (Below.refl _ _) rfl (by kernel_rfl) (by kernel_rfl) (by kernel_rfl) (fun _ _ _ h => h) (by kernel_rfl) (v := .bool true) ?yu19 ?ru19
    case yu19 => (intro x hx; clear eO eT; go_simp; try rfl)
    simp only [Act.put, List.setIfInBounds_toArray, List.set_cons_zero, List.set_cons_succ]
    refine take_held 24 (Below.refl _ _) rfl (by kernel_rfl) (by kernel_rfl) (by kernel_rfl) (fun _ _ _ h => h) (by kernel_rfl) (v := .bool true) ?yu20 ?ru20
    case yu20 => (intro x hx; clear eO eT; go_simp; try rfl)
    simp only [Act.put, List.setIfInBounds_toArray, List.set_cons_zero, List.set_cons_succ]
    refine call_held 25 rfl (by kernel_rfl) (by kernel_rfl) 17 #[] (by go_simp) _ (cW _) ?_
    rintro e5 x5 ⟨rfl, l5⟩
    have S5 : Below wc.heap.size wc x5 := bcat S4 l5 (Nat.le_refl _)
    refine Or.inl ⟨_, rfl, l5, ?_⟩
    simp only [Act.put, List.setIfInBounds_toArray, List.set_cons_zero, List.set_cons_succ]
    refine read_held 26 rfl (by kernel_rfl) (by kernel_rfl) (.bool true) (by go_simp) l5 ?_
    simp only [Act.put, List.setIfInBounds_toArray, List.set_cons_zero, List.set_cons_succ]
    refine read_held 27 rfl (by kernel_rfl) (by kernel_rfl) (.bool true) (by go_simp) l5 ?_
    simp only [Act.put, List.setIfInBounds_toArray, List.set_cons_zero, List.set_cons_succ]
    refine done_held (by kernel_rfl) ?_ _
    go_wp2_with fail
    go_meet
    exact ⟨rfl, bcat B0 S5 (Nat.le_refl _)⟩
  case rest =>
  obtain ⟨rfl, D⟩ := hcut
  go_wp2_with fail
  go_ret
  exact ⟨rfl, D⟩
end Go.Proofs.Ytgliglealchjjab.Codec
