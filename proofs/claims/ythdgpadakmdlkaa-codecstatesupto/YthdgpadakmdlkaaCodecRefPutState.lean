/-
  The chapter's own answer: a state's bytes.
-/
import Derived.Test.YthdgpadakmdlkaaCodecRefInts
import Derived.Test.YthdgpadakmdlkaaCodecSameStacks
namespace Go.Proofs.Ythdgpadakmdlkaa.Codec
set_option linter.unusedVariables false
set_option linter.unusedSimpArgs false
open Go Go.RowKit

/- What is read while a state is put: the memory of w, the state's box, an item's box. -/
def Sx (w : World) (row : Array Value) (P : Nat) (T : TypeId) (irow : Array Value) (u : World) : Prop :=
  Below w.heap.size w u ∧ u.heap[w.heap.size]? = some (.cells row 57 (0, 0)) ∧ u.heap[P]? = some (.cells irow T (0, 0))
/- The bytes so far, of one's own, beside them. -/
structure Bs (w : World) (row : Array Value) (P : Nat) (T : TypeId) (irow : Array Value) (u : World) (b : Value) (zs : List Int) : Prop where
  s : Sx w row P T irow u
  mine : Mine u b zs
  own : ∀ g, b.ownBlock = some g → w.heap.size < g ∧ g ≠ P
theorem Bs.old {w : World} {row : Array Value} {P : Nat} {T : TypeId} {irow : Array Value} {u : World} {b : Value} {zs : List Int} (h : Bs w row P T irow u b zs) : Fresh w b := fun g hg => Nat.le_of_lt (h.own g hg).1
theorem Bs.put {w : World} {row : Array Value} {P : Nat} {T : TypeId} {irow : Array Value} {u u' : World} {b b' : Value} {zs zs' : List Int} (h : Bs w row P T irow u b zs) (m : Mine u' b' zs') (g : Goes b u b' u') : Bs w row P T irow u' b' zs' := by
  have h1 := lt_of_heap h.s.2.1
  have h2 := lt_of_heap h.s.2.2
  refine ⟨⟨Goes.below_of h.s.1 g h.old, (g.block _ h1 (fun e => by have := (h.own _ e).1; omega)).trans h.s.2.1, (g.block _ h2 (fun e => (h.own _ e).2 rfl)).trans h.s.2.2⟩, m, fun k hk => ?_⟩
  rcases g.at_ k hk with e | e
  · exact h.own k e
  · exact ⟨by omega, by omega⟩
theorem Bs.drew {w : World} {row : Array Value} {P : Nat} {T : TypeId} {irow : Array Value} {u : World} {b : Value} {zs : List Int} (h : Bs w row P T irow u b zs) : Bs w row P T irow u.drew b zs :=
  ⟨⟨bcat h.s.1 (drew_below4 u) (Nat.le_refl _), h.s.2.1, h.s.2.2⟩, h.mine.later (drew_below4 _), h.own⟩
theorem Bs.boxed {w : World} {row : Array Value} {P : Nat} {T : TypeId} {irow : Array Value} {u : World} {b : Value} {zs : List Int} (h : Bs w row P T irow u b zs) (Z cs : Array Value) (T' : TypeId) : Bs w row u.heap.size T' cs ((u.alloc (.cells Z T')).setRow u.heap.size cs) b zs := by
  have bA : Below u.heap.size u ((u.alloc (.cells Z T')).setRow u.heap.size cs) := below_row ((Below.refl _ _).alloc (Nat.le_refl _) _) (Nat.le_refl _) _
  refine ⟨⟨bcat h.s.1 bA (Nat.le_refl _), (bA.block _ (lt_of_heap h.s.2.1)).trans h.s.2.1, setRow_heap _ _ _ _ _ _ (heap_alloc_new u _)⟩, h.mine.later bA, fun g hg => ⟨(h.own g hg).1, ?_⟩⟩
  have := h.mine.lt g hg
  omega
theorem Bs.plain {w : World} {row : Array Value} {P : Nat} {T : TypeId} {irow : Array Value} {u : World} {b : Value} {zs : List Int} (h : Bs w row P T irow u b zs) : Bs w row w.heap.size 57 row u b zs :=
  ⟨⟨h.s.1, h.s.2.1, h.s.2.1⟩, h.mine, fun g hg => ⟨(h.own g hg).1, by have := (h.own g hg).1; omega⟩⟩
theorem mid_of {w : World} {P : Nat} {cs : Array Value} {t : TypeId} (h : w.heap[P]? = some (.cells cs t (0, 0))) (o : Nat) {a b c : Value} (e : (cs[o]?, cs[o + 1]?, cs[o + 2]?) = (some a, some b, some c)) : ∀ j z, (#[a, b, c] : Array Value)[j]? = some z → w.cell? ((⟨P, o, none⟩ : Addr).add j) = some z := by
  simp only [Prod.mk.injEq] at e
  intro j z hj
  rw [Addr.add_lit]
  match j with
  | 0 => simp at hj; rw [← hj]; exact (cell_of h _).trans e.1
  | 1 => simp at hj; rw [← hj]; exact (cell_of h _).trans e.2.1
  | 2 => simp at hj; rw [← hj]; exact (cell_of h _).trans e.2.2
  | j + 3 => simp at hj
theorem mid_two {w : World} {P : Nat} {cs : Array Value} {t : TypeId} (h : w.heap[P]? = some (.cells cs t (0, 0))) (o : Nat) {a b : Value} (e1 : cs[o]? = some a) (e2 : cs[o + 1]? = some b) : ∀ j z, (#[a, b] : Array Value)[j]? = some z → w.cell? ((⟨P, o, none⟩ : Addr).add j) = some z := by
  intro j z hj
  rw [Addr.add_lit]
  match j with
  | 0 => simp at hj; rw [← hj]; exact (cell_of h _).trans e1
  | 1 => simp at hj; rw [← hj]; exact (cell_of h _).trans e2
  | j + 2 => simp at hj
theorem aggPose3 (w : World) : (isAgg 25).run Try.prog w = .ok true w := by unfold isAgg; rw [Sem.run_bind, run_underlying Try.underlying25 w]; rfl
theorem zPose4 : (Try.prog.info? 25).map (·.size) = some 3 := by kernel_rfl
set_option maxRecDepth 100000 in
set_option maxHeartbeats 16000000 in
theorem refPutHeldState (w : World) (x : TState) (cs : Array Value) (F : Nat → Prop) (hx : stateEl F x cs w) (hF : ∀ g, F g → g < w.heap.size) (ho : cState.ok x) (hl : (cState.put x).length ≤ 10485760) :
    Calls Try.prog 21 #[.agg cs] w (Made (cState.put x) w) := by
  obtain ⟨sq, ep, he, xs0, xs1, xs2, xs3, xs4, no, nj⟩ := x
  obtain ⟨v0, v1, v2, v3, v4, rfl, A0, A1, A2, A3, A4⟩ := hx
  obtain ⟨o0, o1, _, l0, l1, l2, l3, l4, o8, o9⟩ := ho
  dsimp only at A0 A1 A2 A3 A4 o0 o1 l0 l1 l2 l3 l4 o8 o9 ⊢
  have e : cState.put (sq, ep, he, xs0, xs1, xs2, xs3, xs4, no, nj) = num sq ++ (num ep ++ (cFlag.put he ++ ((list cStack).put xs0 ++ ((list cRobot).put xs1 ++ ((list cPort).put xs2 ++ ((list cOrder).put xs3 ++ ((list cJob).put xs4 ++ (num no ++ num nj)))))))) := rfl
  rw [e] at hl ⊢
  clear e
  simp only [List.length_append] at hl
  obtain ⟨a0, c0, ys0, e1_0, e2_0, hel0, hcell0, _⟩ := A0
  obtain ⟨n0, hn0⟩ : ∃ n, n = xs0.length := ⟨_, rfl⟩
  have M0 : Hid (∃ ys : List (_ × Array Value), (ys.map Prod.fst = xs0 ∧ n0 = ys.length) ∧ (∀ y ∈ ys, stackEl F y.1 y.2 w) ∧ (∀ i (h : i < ys.length), ∃ p, a0 = some p ∧ F p.block ∧ ∀ jj u, ((ys[i]'h).2)[jj]? = some u → w.cell? (p.add (i * 3 + jj)) = some u)) := ⟨ys0, ⟨e1_0.symm, by rw [hn0, e1_0, List.length_map]⟩, hel0, hcell0⟩
  have hv0 : v0 = .slice a0 n0 c0 := by rw [e2_0, hn0, e1_0, List.length_map]
  obtain ⟨on0, oo0⟩ := l0
  rw [← hn0] at on0
  have hL0 : ((list cStack).put xs0).length = (num n0).length + (xs0.flatMap cStack.put).length := by rw [list_put, List.length_append, hn0]
  have hnh0 : Hid (n0 = xs0.length) := hn0
  have hnb0 : n0 ≤ (xs0.flatMap cStack.put).length := by rw [hn0]; exact flat_len gStack xs0
  clear e1_0 e2_0 hel0 hcell0 hn0
  subst hv0
  obtain ⟨a1, c1, ys1, e1_1, e2_1, hel1, hcell1, _⟩ := A1
  obtain ⟨n1, hn1⟩ : ∃ n, n = xs1.length := ⟨_, rfl⟩
  have M1 : Hid (∃ ys : List (_ × Array Value), (ys.map Prod.fst = xs1 ∧ n1 = ys.length) ∧ (∀ y ∈ ys, robotEl F y.1 y.2 w) ∧ (∀ i (h : i < ys.length), ∃ p, a1 = some p ∧ F p.block ∧ ∀ jj u, ((ys[i]'h).2)[jj]? = some u → w.cell? (p.add (i * 9 + jj)) = some u)) := ⟨ys1, ⟨e1_1.symm, by rw [hn1, e1_1, List.length_map]⟩, hel1, hcell1⟩
  have hv1 : v1 = .slice a1 n1 c1 := by rw [e2_1, hn1, e1_1, List.length_map]
  obtain ⟨on1, oo1⟩ := l1
  rw [← hn1] at on1
  have hL1 : ((list cRobot).put xs1).length = (num n1).length + (xs1.flatMap cRobot.put).length := by rw [list_put, List.length_append, hn1]
  have hnh1 : Hid (n1 = xs1.length) := hn1
  have hnb1 : n1 ≤ (xs1.flatMap cRobot.put).length := by rw [hn1]; exact flat_len gRobot xs1
  clear e1_1 e2_1 hel1 hcell1 hn1
  subst hv1
  obtain ⟨a2, c2, ys2, e1_2, e2_2, hel2, hcell2, _⟩ := A2
  obtain ⟨n2, hn2⟩ : ∃ n, n = xs2.length := ⟨_, rfl⟩
  have M2 : Hid (∃ ys : List (_ × Array Value), (ys.map Prod.fst = xs2 ∧ n2 = ys.length) ∧ (∀ y ∈ ys, portEl F y.1 y.2 w) ∧ (∀ i (h : i < ys.length), ∃ p, a2 = some p ∧ F p.block ∧ ∀ jj u, ((ys[i]'h).2)[jj]? = some u → w.cell? (p.add (i * 3 + jj)) = some u)) := ⟨ys2, ⟨e1_2.symm, by rw [hn2, e1_2, List.length_map]⟩, hel2, hcell2⟩
  have hv2 : v2 = .slice a2 n2 c2 := by rw [e2_2, hn2, e1_2, List.length_map]
  obtain ⟨on2, oo2⟩ := l2
  rw [← hn2] at on2
  have hL2 : ((list cPort).put xs2).length = (num n2).length + (xs2.flatMap cPort.put).length := by rw [list_put, List.length_append, hn2]
  have hnh2 : Hid (n2 = xs2.length) := hn2
  have hnb2 : n2 ≤ (xs2.flatMap cPort.put).length := by rw [hn2]; exact flat_len gPort xs2
  clear e1_2 e2_2 hel2 hcell2 hn2
  subst hv2
  obtain ⟨a3, c3, ys3, e1_3, e2_3, hel3, hcell3, _⟩ := A3
  obtain ⟨n3, hn3⟩ : ∃ n, n = xs3.length := ⟨_, rfl⟩
  have M3 : Hid (∃ ys : List (_ × Array Value), (ys.map Prod.fst = xs3 ∧ n3 = ys.length) ∧ (∀ y ∈ ys, orderEl F y.1 y.2 w) ∧ (∀ i (h : i < ys.length), ∃ p, a3 = some p ∧ F p.block ∧ ∀ jj u, ((ys[i]'h).2)[jj]? = some u → w.cell? (p.add (i * 4 + jj)) = some u)) := ⟨ys3, ⟨e1_3.symm, by rw [hn3, e1_3, List.length_map]⟩, hel3, hcell3⟩
  have hv3 : v3 = .slice a3 n3 c3 := by rw [e2_3, hn3, e1_3, List.length_map]
  obtain ⟨on3, oo3⟩ := l3
  rw [← hn3] at on3
  have hL3 : ((list cOrder).put xs3).length = (num n3).length + (xs3.flatMap cOrder.put).length := by rw [list_put, List.length_append, hn3]
  have hnh3 : Hid (n3 = xs3.length) := hn3
  have hnb3 : n3 ≤ (xs3.flatMap cOrder.put).length := by rw [hn3]; exact flat_len gOrder xs3
  clear e1_3 e2_3 hel3 hcell3 hn3
  subst hv3
  obtain ⟨a4, c4, ys4, e1_4, e2_4, hel4, hcell4, _⟩ := A4
  obtain ⟨n4, hn4⟩ : ∃ n, n = xs4.length := ⟨_, rfl⟩
  have M4 : Hid (∃ ys : List (_ × Array Value), (ys.map Prod.fst = xs4 ∧ n4 = ys.length) ∧ (∀ y ∈ ys, jobEl F y.1 y.2 w) ∧ (∀ i (h : i < ys.length), ∃ p, a4 = some p ∧ F p.block ∧ ∀ jj u, ((ys[i]'h).2)[jj]? = some u → w.cell? (p.add (i * 9 + jj)) = some u)) := ⟨ys4, ⟨e1_4.symm, by rw [hn4, e1_4, List.length_map]⟩, hel4, hcell4⟩
  have hv4 : v4 = .slice a4 n4 c4 := by rw [e2_4, hn4, e1_4, List.length_map]
  obtain ⟨on4, oo4⟩ := l4
  rw [← hn4] at on4
  have hL4 : ((list cJob).put xs4).length = (num n4).length + (xs4.flatMap cJob.put).length := by rw [list_put, List.length_append, hn4]
  have hnh4 : Hid (n4 = xs4.length) := hn4
  have hnb4 : n4 ≤ (xs4.flatMap cJob.put).length := by rw [hn4]; exact flat_len gJob xs4
  clear e1_4 e2_4 hel4 hcell4 hn4
  subst hv4
  obtain ⟨Y0, hY0⟩ : ∃ Y, Y = num sq ++ (num ep ++ cFlag.put he) := ⟨_, rfl⟩
  have hYl0 : Y0.length = (num sq).length + ((num ep).length + (cFlag.put he).length) := by rw [hY0, List.length_append, List.length_append]
  obtain ⟨row, hrow⟩ : ∃ r : Array Value, r = #[.int .i64 sq, .int .i64 ep, .bool he, .slice a0 n0 c0, .slice a1 n1 c1, .slice a2 n2 c2, .slice a3 n3 c3, .slice a4 n4 c4, .int .i64 no, .int .i64 nj] := ⟨_, rfl⟩
  have X0 : Hid (∀ P T irow u, Sx w row P T irow u → u.cell? ⟨w.heap.size, 0, none⟩ = some (.int .i64 sq)) := fun P T irow u hu => (cell_of hu.2.1 0).trans (by rw [hrow]; rfl)
  have X1 : Hid (∀ P T irow u, Sx w row P T irow u → u.cell? ⟨w.heap.size, 1, none⟩ = some (.int .i64 ep)) := fun P T irow u hu => (cell_of hu.2.1 1).trans (by rw [hrow]; rfl)
  have X2 : Hid (∀ P T irow u, Sx w row P T irow u → u.cell? ⟨w.heap.size, 2, none⟩ = some (.bool he)) := fun P T irow u hu => (cell_of hu.2.1 2).trans (by rw [hrow]; rfl)
  have X3 : Hid (∀ P T irow u, Sx w row P T irow u → u.cell? ⟨w.heap.size, 3, none⟩ = some (.slice a0 n0 c0)) := fun P T irow u hu => (cell_of hu.2.1 3).trans (by rw [hrow]; rfl)
  have X4 : Hid (∀ P T irow u, Sx w row P T irow u → u.cell? ⟨w.heap.size, 4, none⟩ = some (.slice a1 n1 c1)) := fun P T irow u hu => (cell_of hu.2.1 4).trans (by rw [hrow]; rfl)
  have X5 : Hid (∀ P T irow u, Sx w row P T irow u → u.cell? ⟨w.heap.size, 5, none⟩ = some (.slice a2 n2 c2)) := fun P T irow u hu => (cell_of hu.2.1 5).trans (by rw [hrow]; rfl)
  have X6 : Hid (∀ P T irow u, Sx w row P T irow u → u.cell? ⟨w.heap.size, 6, none⟩ = some (.slice a3 n3 c3)) := fun P T irow u hu => (cell_of hu.2.1 6).trans (by rw [hrow]; rfl)
  have X7 : Hid (∀ P T irow u, Sx w row P T irow u → u.cell? ⟨w.heap.size, 7, none⟩ = some (.slice a4 n4 c4)) := fun P T irow u hu => (cell_of hu.2.1 7).trans (by rw [hrow]; rfl)
  have X8 : Hid (∀ P T irow u, Sx w row P T irow u → u.cell? ⟨w.heap.size, 8, none⟩ = some (.int .i64 no)) := fun P T irow u hu => (cell_of hu.2.1 8).trans (by rw [hrow]; rfl)
  have X9 : Hid (∀ P T irow u, Sx w row P T irow u → u.cell? ⟨w.heap.size, 9, none⟩ = some (.int .i64 nj)) := fun P T irow u hu => (cell_of hu.2.1 9).trans (by rw [hrow]; rfl)
  have q : Bs w row w.heap.size 57 row (w.alloc (.cells row 57)) (.slice none 0 0) [] := ⟨⟨(Below.refl _ _).alloc (Nat.le_refl _) _, heap_alloc_new w _, heap_alloc_new w _⟩, Mine.nil _, fun g hg => by cases hg⟩
  rw [← hrow]
  obtain ⟨wc, hwc⟩ : ∃ wc, wc = w.alloc (.cells row 57) := ⟨_, rfl⟩
  rw [← hwc] at q
  clear hrow
  go_enter Try.func21, Try.ntmps21
  go_upto_region 1 with fail
  rw [← hwc]
  clear hwc
  go_upto_region 1 with fail
  go_cut [3] (fun v wx => Bs w row w.heap.size 57 row wx v (num sq ++ (num ep ++ cFlag.put he)))
  case first =>
    have q0 := q.drew
    have m0 := q0.mine
    refine start_held (S := Sx w row w.heap.size 57 row) 10 rfl (by kernel_rfl) (q0.s) ?_
    simp only [Array.replicate_succ, Array.replicate_zero, List.push_toArray, List.nil_append, List.cons_append]
    refine take_held 0 q0.s rfl (by kernel_rfl) (by kernel_rfl) (by kernel_rfl) (fun _ _ _ h => h) (by kernel_rfl) (v := ?v86) ?y86 ?r86
    case y86 => (intro u hu; go_simp; try rfl)
    simp only [Act.put, List.setIfInBounds_toArray, List.set_cons_zero, List.set_cons_succ]
    refine take_held 1 q0.s rfl (by kernel_rfl) (by kernel_rfl) (by kernel_rfl) (fun _ _ _ h => h) (by kernel_rfl) (v := ?v87) ?y87 ?r87
    case y87 => (intro u hu; have zz0 := X0.out _ _ _ u hu; go_simp; try rfl)
    simp only [Act.put, List.setIfInBounds_toArray, List.set_cons_zero, List.set_cons_succ]
    refine take_held 3 q0.s rfl (by kernel_rfl) (by kernel_rfl) (by kernel_rfl) (fun _ _ _ h => h) (by kernel_rfl) (v := ?v88) ?y88 ?r88
    case y88 => (intro u hu; go_simp; try rfl)
    simp only [Act.put, List.setIfInBounds_toArray, List.set_cons_zero, List.set_cons_succ]
    refine take_held 4 q0.s rfl (by kernel_rfl) (by kernel_rfl) (by kernel_rfl) (fun _ _ _ h => h) (by kernel_rfl) (v := ?v89) ?y89 ?r89
    case y89 => (intro u hu; have zz0 := X1.out _ _ _ u hu; go_simp; try rfl)
    simp only [Act.put, List.setIfInBounds_toArray, List.set_cons_zero, List.set_cons_succ]
    refine take_held 6 q0.s rfl (by kernel_rfl) (by kernel_rfl) (by kernel_rfl) (fun _ _ _ h => h) (by kernel_rfl) (v := ?v90) ?y90 ?r90
    case y90 => (intro u hu; go_simp; try rfl)
    simp only [Act.put, List.setIfInBounds_toArray, List.set_cons_zero, List.set_cons_succ]
    refine take_held 7 q0.s rfl (by kernel_rfl) (by kernel_rfl) (by kernel_rfl) (fun _ _ _ h => h) (by kernel_rfl) (v := ?v91) ?y91 ?r91
    case y91 => (intro u hu; have zz0 := X2.out _ _ _ u hu; go_simp; try rfl)
    simp only [Act.put, List.setIfInBounds_toArray, List.set_cons_zero, List.set_cons_succ]
    refine call_held 2 rfl (by kernel_rfl) (by kernel_rfl) 33 #[.slice none 0 0, .int .i64 sq] (by go_simp) _ (refnum_any _ _ _ sq m0 o0 (by (try simp only [List.length_append, List.length_nil]); omega)) ?_
    rintro e1 y1 ⟨b1, rfl, m1, g1⟩
    have q1 := q0.put m1 g1
    refine Or.inl ⟨_, rfl, q1.s, ?_⟩
    simp only [Act.put, List.setIfInBounds_toArray, List.set_cons_zero, List.set_cons_succ]
    refine call_held 5 rfl (by kernel_rfl) (by kernel_rfl) 33 #[b1, .int .i64 ep] (by go_simp) _ (refnum_any _ _ _ ep m1 o1 (by (try simp only [List.length_append, List.length_nil]); omega)) ?_
    rintro e2 y2 ⟨b2, rfl, m2, g2⟩
    have q2 := q1.put m2 g2
    refine Or.inl ⟨_, rfl, q2.s, ?_⟩
    simp only [Act.put, List.setIfInBounds_toArray, List.set_cons_zero, List.set_cons_succ]
    refine call_held 8 rfl (by kernel_rfl) (by kernel_rfl) 54 #[b2, .bool he] (by go_simp) _ (refflag_any _ _ _ he m2 (by (try simp only [List.length_append, List.length_nil]); omega)) ?_
    rintro e3 y3 ⟨b3, rfl, m3, g3⟩
    have q3 := q2.put m3 g3
    refine Or.inl ⟨_, rfl, q3.s, ?_⟩
    simp only [Act.put, List.setIfInBounds_toArray, List.set_cons_zero, List.set_cons_succ]
    refine take_held 9 q3.s rfl (by kernel_rfl) (by kernel_rfl) (by kernel_rfl) (fun _ _ _ h => h) (by kernel_rfl) (v := ?v92) ?y92 ?r92
    case y92 => (intro u hu; go_simp; try rfl)
    simp only [Act.put, List.setIfInBounds_toArray, List.set_cons_zero, List.set_cons_succ]
    refine done_held (by kernel_rfl) ?_ _
    go_wp2_with fail
    go_meet
    have qq := q3
    simp only [List.append_assoc, List.nil_append] at qq ⊢
    exact qq
  case rest =>
  have q := hcut
  rw [← hY0] at q
  clear hcut
  have c1 := refnum_any _ _ _ n0 q.mine on0 (by omega)
  obtain ⟨ys, hys0, hel, hcell⟩ := M0.out
  have hys : Hid _ := hys0
  clear hys0
  have xb := X3.out _ _ _ _ q.s
  go_wp2_with (go_at_call 33; refine c1.mono ?_; rintro e1 w1 ⟨b1, rfl, m1, g1⟩)
  have q9 := q.put m1 g1
  clear q c1 xb
  have HP := fun k h => flat_part cStack ys k h
  obtain ⟨Z0, hZ0⟩ : ∃ Z, Z = Y0 ++ num n0 := ⟨_, rfl⟩
  rw [← hZ0] at q9
  have hzl : Z0.length = Y0.length + (num n0).length := by rw [hZ0, List.length_append]
  have HN : Hid (ys.length = n0) := hys.out.2.symm
  have HQ : Hid _ := q9
  clear q9
  go_loopw [3, 4] (fun b' i wr => ∃ (k : Nat), k ≤ n0 ∧ i = .int .i64 k ∧ Hid (Bs w row w.heap.size 57 row wr b' (Z0 ++ ((ys.take k).map Prod.fst).flatMap cStack.put))) (fun _ i _ => n0 - (intOf i).toNat)
  case atStart => exact ⟨0, Nat.zero_le _, rfl, by simpa using HQ⟩
  case round =>
    clear HQ
    obtain ⟨k, hk, rfl, hQ⟩ := hrel
    have q := hQ.out
    clear hQ
    have xb := X3.out _ _ _ wr q.s
    by_cases hlt : k < n0
    · have hlt' : k < ys.length := by rw [HN.out]; exact hlt
      obtain ⟨p, hpa, hpF, hpc⟩ := hcell k hlt'
      have hq := HP k hlt'
      rw [hys.out.1] at hq
      have HS : Hid (((ys.take (k + 1)).map Prod.fst).flatMap cStack.put = ((ys.take k).map Prod.fst).flatMap cStack.put ++ cStack.put (ys[k]'hlt').1) := flat_snoc cStack ys k hlt'
      have hy := hel _ (List.getElem_mem hlt')
      have hok := oo0 _ (by rw [← hys.out.1]; exact List.mem_map.2 ⟨_, List.getElem_mem hlt', rfl⟩)
      generalize hyk : ys[k]'hlt' = y at *
      obtain ⟨x, cs⟩ := y
      subst hpa
      have K1 : ∀ u, Below w.heap.size w u → ∀ j z, cs[j]? = some z → u.cell? ((p.add (k * 3)).add j) = some z := fun u hu j z hj => by
        rw [add_add, hu.cell (by rw [block_add]; exact hF _ hpF)]
        exact hpc j z hj
      have hd : decide ((k : Int) < (n0 : Int)) = true := decide_eq_true (by omega)
      have i1 : (k : Int) < (n0 : Int) := by omega
      clear hcell hel HP hyk hlt' HN hpc hpF
      dsimp only at HS hq hy hok
      have hzb : (Z0 ++ ((ys.take k).map Prod.fst).flatMap cStack.put).length = Z0.length + (((ys.take k).map Prod.fst).flatMap cStack.put).length := by rw [List.length_append]
      obtain ⟨⟨cx, cy⟩, bs⟩ := x
      obtain ⟨vb, rfl, lb⟩ := hy
      obtain ⟨oc, ob⟩ := hok
      dsimp only at lb oc ob
      have hp : cStack.put ((cx, cy), bs) = cCell.put (cx, cy) ++ (list cNum).put bs := rfl
      rw [hp] at HS hq
      simp only [List.length_append] at hq
      obtain ⟨va, vc, hv, _⟩ := lb.form
      subst hv
      have H0 : Hid (∀ u, Sx w row w.heap.size 57 row u → ∀ j z, (#[.int .i64 cx, .int .i64 cy] : Array Value)[j]? = some z → u.cell? ((p.add (k * 3)).add j) = some z) := fun u hu j z hj => K1 u hu.1 j z (two_of_three hj)
      have H1 : Hid (∀ u, Sx w row w.heap.size 57 row u → u.cell? ⟨(p.add (k * 3)).block, (p.add (k * 3)).off + 2, none⟩ = some (.slice va bs.length vc)) := fun u hu => K1 u hu.1 2 _ rfl
      clear K1
      go_upto_region 6 with fail
      have q0 := q.drew
      have m0 := q0.mine
      refine start_held (S := Sx w row w.heap.size 57 row) 16 rfl (by kernel_rfl) (q0.s) ?_
      simp only [Array.replicate_succ, Array.replicate_zero, List.push_toArray, List.nil_append, List.cons_append]
      refine take_held 0 q0.s rfl (by kernel_rfl) (by kernel_rfl) (by kernel_rfl) (fun _ _ _ h => h) (by kernel_rfl) (v := ?v72) ?y72 ?r72
      case y72 => (intro u hu; go_simp; try rfl)
      simp only [Act.put, List.setIfInBounds_toArray, List.set_cons_zero, List.set_cons_succ]
      refine take_held 1 q0.s rfl (by kernel_rfl) (by kernel_rfl) (by kernel_rfl) (fun _ _ _ h => h) (by kernel_rfl) (v := ?v73) ?y73 ?r73
      case y73 => (intro u hu; go_simp; try rfl)
      simp only [Act.put, List.setIfInBounds_toArray, List.set_cons_zero, List.set_cons_succ]
      refine take_held 2 q0.s rfl (by kernel_rfl) (by kernel_rfl) (by kernel_rfl) (fun _ _ _ h => h) (by kernel_rfl) (v := ?v74) ?y74 ?r74
      case y74 => (intro u hu; have zz0 := X3.out _ _ _ u hu; go_simp; try rfl)
      simp only [Act.put, List.setIfInBounds_toArray, List.set_cons_zero, List.set_cons_succ]
      refine take_held 3 q0.s rfl (by kernel_rfl) (by kernel_rfl) (by kernel_rfl) (fun _ _ _ h => h) (by kernel_rfl) (v := ?v75) ?y75 ?r75
      case y75 => (intro u hu; go_simp; try rfl)
      simp only [Act.put, List.setIfInBounds_toArray, List.set_cons_zero, List.set_cons_succ]
      refine take_held 4 q0.s rfl (by kernel_rfl) (by kernel_rfl) (by kernel_rfl) (fun _ _ _ h => h) (by kernel_rfl) (v := ?v76) ?y76 ?r76
      case y76 => (intro u hu; go_simp; try rfl)
      simp only [Act.put, List.setIfInBounds_toArray, List.set_cons_zero, List.set_cons_succ]
      refine take_held 5 q0.s rfl (by kernel_rfl) (by kernel_rfl) (by kernel_rfl) (fun _ _ _ h => h) (by kernel_rfl) (v := ?v77) ?y77 ?r77
      case y77 => (intro u hu; go_simp; try rfl)
      simp only [Act.put, List.setIfInBounds_toArray, List.set_cons_zero, List.set_cons_succ]
      refine take_held 6 q0.s rfl (by kernel_rfl) (by kernel_rfl) (by kernel_rfl) (fun _ _ _ h => h) (by kernel_rfl) (v := .agg #[.int .i64 cx, .int .i64 cy]) ?y78 ?r78
      case y78 => (intro u hu; exact run_load_at 23 _ rfl (p.add (k * 3)) #[.int .i64 cx, .int .i64 cy] rfl (run_loadVar_at _ _ _ _ (H0.out u hu) (aggCell3 _) zCell4))
      simp only [Act.put, List.setIfInBounds_toArray, List.set_cons_zero, List.set_cons_succ]
      refine take_held 8 q0.s rfl (by kernel_rfl) (by kernel_rfl) (by kernel_rfl) (fun _ _ _ h => h) (by kernel_rfl) (v := ?v79) ?y79 ?r79
      case y79 => (intro u hu; go_simp; try rfl)
      simp only [Act.put, List.setIfInBounds_toArray, List.set_cons_zero, List.set_cons_succ]
      refine take_held 9 q0.s rfl (by kernel_rfl) (by kernel_rfl) (by kernel_rfl) (fun _ _ _ h => h) (by kernel_rfl) (v := ?v80) ?y80 ?r80
      case y80 => (intro u hu; have zz0 := X3.out _ _ _ u hu; go_simp; try rfl)
      simp only [Act.put, List.setIfInBounds_toArray, List.set_cons_zero, List.set_cons_succ]
      refine take_held 10 q0.s rfl (by kernel_rfl) (by kernel_rfl) (by kernel_rfl) (fun _ _ _ h => h) (by kernel_rfl) (v := ?v81) ?y81 ?r81
      case y81 => (intro u hu; go_simp; try rfl)
      simp only [Act.put, List.setIfInBounds_toArray, List.set_cons_zero, List.set_cons_succ]
      refine take_held 11 q0.s rfl (by kernel_rfl) (by kernel_rfl) (by kernel_rfl) (fun _ _ _ h => h) (by kernel_rfl) (v := ?v82) ?y82 ?r82
      case y82 => (intro u hu; go_simp; try rfl)
      simp only [Act.put, List.setIfInBounds_toArray, List.set_cons_zero, List.set_cons_succ]
      refine take_held 12 q0.s rfl (by kernel_rfl) (by kernel_rfl) (by kernel_rfl) (fun _ _ _ h => h) (by kernel_rfl) (v := ?v83) ?y83 ?r83
      case y83 => (intro u hu; go_simp; try rfl)
      simp only [Act.put, List.setIfInBounds_toArray, List.set_cons_zero, List.set_cons_succ]
      refine take_held 13 q0.s rfl (by kernel_rfl) (by kernel_rfl) (by kernel_rfl) (fun _ _ _ h => h) (by kernel_rfl) (v := ?v84) ?y84 ?r84
      case y84 => (intro u hu; have zz0 := H1.out u hu; go_simp; try rfl)
      simp only [Act.put, List.setIfInBounds_toArray, List.set_cons_zero, List.set_cons_succ]
      refine call_held 7 rfl (by kernel_rfl) (by kernel_rfl) 56 #[u3, .agg #[.int .i64 cx, .int .i64 cy]] (by go_simp) _ (refcell_any _ _ _ cx cy m0 oc (by (try simp only [List.length_append, List.length_nil]); omega)) ?_
      rintro e1 y1 ⟨b1, rfl, m1, g1⟩
      have q1 := q0.put m1 g1
      refine Or.inl ⟨_, rfl, q1.s, ?_⟩
      simp only [Act.put, List.setIfInBounds_toArray, List.set_cons_zero, List.set_cons_succ]
      refine call_held 14 rfl (by kernel_rfl) (by kernel_rfl) 55 #[b1, .slice va bs.length vc] (by go_simp) _ (refnumbers_any w F hF _ _ _ bs (.slice va bs.length vc) q1.s.1 q1.old m1 lb ob (by (try simp only [List.length_append, List.length_nil]); omega)) ?_
      rintro e2 y2 ⟨b2, rfl, m2, g2⟩
      have q2 := q1.put m2 g2
      refine Or.inl ⟨_, rfl, q2.s, ?_⟩
      simp only [Act.put, List.setIfInBounds_toArray, List.set_cons_zero, List.set_cons_succ]
      refine take_held 15 q2.s rfl (by kernel_rfl) (by kernel_rfl) (by kernel_rfl) (fun _ _ _ h => h) (by kernel_rfl) (v := ?v85) ?y85 ?r85
      case y85 => (intro u hu; go_simp; try rfl)
      simp only [Act.put, List.setIfInBounds_toArray, List.set_cons_zero, List.set_cons_succ]
      refine done_held (by kernel_rfl) ?_ _
      have q9 : Bs w row w.heap.size 57 row y2 b2 ((Z0 ++ ((ys.take k).map Prod.fst).flatMap cStack.put) ++ (cCell.put (cx, cy) ++ (list cNum).put bs)) := by
        have qq := q2
        simp only [List.append_assoc, List.nil_append] at qq ⊢
        exact qq
      have q3 := q9
      go_wp2_with fail
      go_roundw
      case rel => exact ⟨k + 1, by omega, by go_num, by rw [HS.out, ← List.append_assoc]; exact q3⟩
      case measure => simp [intOf]; omega
    · obtain rfl : n0 = k := by omega
      have hd : decide ((n0 : Int) < (n0 : Int)) = false := decide_eq_false (by omega)
      rw [List.take_of_length_le (by rw [HN.out]; omega), hys.out.1] at q
      obtain ⟨Y1, hY1⟩ : ∃ Y, Y = Y0 ++ (list cStack).put xs0 := ⟨_, rfl⟩
      have hYe : Z0 ++ xs0.flatMap cStack.put = Y1 := by rw [hY1, hZ0, list_put, List.append_assoc, ← hnh0.out]
      rw [hYe] at q
      have hYl : Y1.length = Y0.length + ((list cStack).put xs0).length := by rw [hY1, List.length_append]
      clear hYe HN HP hcell hel hzl hk
      have c1 := refnum_any _ _ _ n1 q.mine on1 (by omega)
      obtain ⟨ys, hys0, hel, hcell⟩ := M1.out
      have hys : Hid _ := hys0
      clear hys0
      have xb := X4.out _ _ _ _ q.s
      go_wp2_with (go_at_call 33; refine c1.mono ?_; rintro e1 w1 ⟨b1, rfl, m1, g1⟩)
      have q9 := q.put m1 g1
      clear q c1 xb
      have HP := fun k h => flat_part cRobot ys k h
      obtain ⟨Z1, hZ1⟩ : ∃ Z, Z = Y1 ++ num n1 := ⟨_, rfl⟩
      rw [← hZ1] at q9
      have hzl : Z1.length = Y1.length + (num n1).length := by rw [hZ1, List.length_append]
      have HN : Hid (ys.length = n1) := hys.out.2.symm
      have HQ : Hid _ := q9
      clear q9
      go_loopw [3, 5] (fun b' i wr => ∃ (k : Nat), k ≤ n1 ∧ i = .int .i64 k ∧ Hid (Bs w row w.heap.size 57 row wr b' (Z1 ++ ((ys.take k).map Prod.fst).flatMap cRobot.put))) (fun _ i _ => n1 - (intOf i).toNat)
      case atStart => exact ⟨0, Nat.zero_le _, rfl, by simpa using HQ⟩
      case round =>
        clear HQ
        obtain ⟨k, hk, rfl, hQ⟩ := hrel
        have q := hQ.out
        clear hQ
        have xb := X4.out _ _ _ wr q.s
        by_cases hlt : k < n1
        · have hlt' : k < ys.length := by rw [HN.out]; exact hlt
          obtain ⟨p, hpa, hpF, hpc⟩ := hcell k hlt'
          have hq := HP k hlt'
          rw [hys.out.1] at hq
          have HS : Hid (((ys.take (k + 1)).map Prod.fst).flatMap cRobot.put = ((ys.take k).map Prod.fst).flatMap cRobot.put ++ cRobot.put (ys[k]'hlt').1) := flat_snoc cRobot ys k hlt'
          have hy := hel _ (List.getElem_mem hlt')
          have hok := oo1 _ (by rw [← hys.out.1]; exact List.mem_map.2 ⟨_, List.getElem_mem hlt', rfl⟩)
          generalize hyk : ys[k]'hlt' = y at *
          obtain ⟨x, cs⟩ := y
          subst hpa
          have K1 : ∀ u, Below w.heap.size w u → ∀ j z, cs[j]? = some z → u.cell? ((p.add (k * 9)).add j) = some z := fun u hu j z hj => by
            rw [add_add, hu.cell (by rw [block_add]; exact hF _ hpF)]
            exact hpc j z hj
          have hd : decide ((k : Int) < (n1 : Int)) = true := decide_eq_true (by omega)
          have i1 : (k : Int) < (n1 : Int) := by omega
          clear hcell hel HP hyk hlt' HN hpc hpF
          dsimp only at HS hq hy hok
          have hzb : (Z1 ++ ((ys.take k).map Prod.fst).flatMap cRobot.put).length = Z1.length + (((ys.take k).map Prod.fst).flatMap cRobot.put).length := by rw [List.length_append]
          obtain ⟨⟨⟨px, py⟩, pd⟩, lo, jo, ms, ou, nu, st⟩ := x
          obtain ⟨vb, rfl, lb⟩ := hy
          obtain ⟨o1, o2, o3, o4, _, o6, _⟩ := hok
          dsimp only at lb o1 o2 o3 o4 o6
          have hp : cRobot.put (((px, py), pd), lo, jo, ms, ou, nu, st) = cPose.put ((px, py), pd) ++ (num lo ++ (num jo ++ ((list cMove).put ms ++ (cFlag.put ou ++ (num nu ++ cFlag.put st))))) := rfl
          rw [hp] at HS hq
          simp only [List.length_append] at hq
          obtain ⟨ma, mc, hv, _⟩ := lb.form
          subst hv
          generalize hml : ms.length = ml at *
          have K2 := K1 wr q.s.1
          have q1 : Bs w row wr.heap.size 101 #[.int .i64 px, .int .i64 py, .bool pd, .int .i64 lo, .int .i64 jo, .slice ma ml mc, .bool ou, .int .i64 nu, .bool st] ((wr.alloc (.cells #[.int .i64 0, .int .i64 0, .bool false, .int .i64 0, .int .i64 0, .slice none 0 0, .bool false, .int .i64 0, .bool false] 101)).setRow wr.heap.size #[.int .i64 px, .int .i64 py, .bool pd, .int .i64 lo, .int .i64 jo, .slice ma ml mc, .bool ou, .int .i64 nu, .bool st]) u3 (Z1 ++ ((ys.take k).map Prod.fst).flatMap cRobot.put) := q.boxed _ _ _
          have xb := X4.out _ _ _ wr q.s
          clear K1
          go_upto_region 12 with (first
            | (refine wpList_load_at rfl 101 (.tmp 63) rfl (p.add (k * 9)) rfl #[.int .i64 px, .int .i64 py, .bool pd, .int .i64 lo, .int .i64 jo, .slice ma ml mc, .bool ou, .int .i64 nu, .bool st] K2 (aggRobot _) iszRobot ?_)
            | (refine wpList_store_row rfl 101 (.tmp 6) (.tmp 64) rfl wr.heap.size #[.int .i64 px, .int .i64 py, .bool pd, .int .i64 lo, .int .i64 jo, .slice ma ml mc, .bool ou, .int .i64 nu, .bool st] rfl rfl 101 #[.int .i64 0, .int .i64 0, .bool false, .int .i64 0, .int .i64 0, .slice none 0 0, .bool false, .int .i64 0, .bool false] (heap_alloc_new wr _) iszRobot rfl (by simp [Value.oneCell']) ?_))
          simp only [Act.put]
          obtain ⟨P, hP⟩ : ∃ P, P = wr.heap.size := ⟨_, rfl⟩
          generalize hwb : (wr.alloc (.cells #[.int .i64 0, .int .i64 0, .bool false, .int .i64 0, .int .i64 0, .slice none 0 0, .bool false, .int .i64 0, .bool false] 101)).setRow wr.heap.size #[.int .i64 px, .int .i64 py, .bool pd, .int .i64 lo, .int .i64 jo, .slice ma ml mc, .bool ou, .int .i64 nu, .bool st] = wb at *
          rw [← hP] at q1 ⊢
          clear hwb hP K2 xb
          go_upto_region 12 with fail
          go_cut [3] from 53 to 87 (fun v wx => Bs w row P 101 #[.int .i64 px, .int .i64 py, .bool pd, .int .i64 lo, .int .i64 jo, .slice ma ml mc, .bool ou, .int .i64 nu, .bool st] wx v ((Z1 ++ ((ys.take k).map Prod.fst).flatMap cRobot.put) ++ (cPose.put ((px, py), pd) ++ (num lo ++ (num jo ++ (list cMove).put ms)))))
          case first =>
            have q0 := q1.drew
            have m0 := q0.mine
            refine start_held (S := Sx w row P 101 #[.int .i64 px, .int .i64 py, .bool pd, .int .i64 lo, .int .i64 jo, .slice ma ml mc, .bool ou, .int .i64 nu, .bool st]) 14 rfl (by kernel_rfl) (q0.s) ?_
            simp only [Array.replicate_succ, Array.replicate_zero, List.push_toArray, List.nil_append, List.cons_append]
            refine take_held 0 q0.s rfl (by kernel_rfl) (by kernel_rfl) (by kernel_rfl) (fun _ _ _ h => h) (by kernel_rfl) (v := ?v54) ?y54 ?r54
            case y54 => (intro u hu; go_simp; try rfl)
            simp only [Act.put, List.setIfInBounds_toArray, List.set_cons_zero, List.set_cons_succ]
            refine take_held 1 q0.s rfl (by kernel_rfl) (by kernel_rfl) (by kernel_rfl) (fun _ _ _ h => h) (by kernel_rfl) (v := ?v55) ?y55 ?r55
            case y55 => (intro u hu; go_simp; try rfl)
            simp only [Act.put, List.setIfInBounds_toArray, List.set_cons_zero, List.set_cons_succ]
            refine take_held 2 q0.s rfl (by kernel_rfl) (by kernel_rfl) (by kernel_rfl) (fun _ _ _ h => h) (by kernel_rfl) (v := .agg #[.int .i64 px, .int .i64 py, .bool pd]) ?y56 ?r56
            case y56 => (intro u hu; exact run_load_at 25 _ rfl ⟨P, 0, none⟩ #[.int .i64 px, .int .i64 py, .bool pd] rfl (run_loadVar_at _ _ _ _ (mid_of hu.2.2 0 rfl) (aggPose3 _) zPose4))
            simp only [Act.put, List.setIfInBounds_toArray, List.set_cons_zero, List.set_cons_succ]
            refine take_held 4 q0.s rfl (by kernel_rfl) (by kernel_rfl) (by kernel_rfl) (fun _ _ _ h => h) (by kernel_rfl) (v := ?v57) ?y57 ?r57
            case y57 => (intro u hu; go_simp; try rfl)
            simp only [Act.put, List.setIfInBounds_toArray, List.set_cons_zero, List.set_cons_succ]
            refine take_held 5 q0.s rfl (by kernel_rfl) (by kernel_rfl) (by kernel_rfl) (fun _ _ _ h => h) (by kernel_rfl) (v := ?v58) ?y58 ?r58
            case y58 => (intro u hu; have zz0 := (cell_of hu.2.2 3).trans rfl; go_simp; try rfl)
            simp only [Act.put, List.setIfInBounds_toArray, List.set_cons_zero, List.set_cons_succ]
            refine take_held 7 q0.s rfl (by kernel_rfl) (by kernel_rfl) (by kernel_rfl) (fun _ _ _ h => h) (by kernel_rfl) (v := ?v59) ?y59 ?r59
            case y59 => (intro u hu; go_simp; try rfl)
            simp only [Act.put, List.setIfInBounds_toArray, List.set_cons_zero, List.set_cons_succ]
            refine take_held 8 q0.s rfl (by kernel_rfl) (by kernel_rfl) (by kernel_rfl) (fun _ _ _ h => h) (by kernel_rfl) (v := ?v60) ?y60 ?r60
            case y60 => (intro u hu; have zz0 := (cell_of hu.2.2 4).trans rfl; go_simp; try rfl)
            simp only [Act.put, List.setIfInBounds_toArray, List.set_cons_zero, List.set_cons_succ]
            refine take_held 10 q0.s rfl (by kernel_rfl) (by kernel_rfl) (by kernel_rfl) (fun _ _ _ h => h) (by kernel_rfl) (v := ?v61) ?y61 ?r61
            case y61 => (intro u hu; go_simp; try rfl)
            simp only [Act.put, List.setIfInBounds_toArray, List.set_cons_zero, List.set_cons_succ]
            refine take_held 11 q0.s rfl (by kernel_rfl) (by kernel_rfl) (by kernel_rfl) (fun _ _ _ h => h) (by kernel_rfl) (v := ?v62) ?y62 ?r62
            case y62 => (intro u hu; have zz0 := (cell_of hu.2.2 5).trans rfl; go_simp; try rfl)
            simp only [Act.put, List.setIfInBounds_toArray, List.set_cons_zero, List.set_cons_succ]
            refine call_held 3 rfl (by kernel_rfl) (by kernel_rfl) 32 #[u3, .agg #[.int .i64 px, .int .i64 py, .bool pd]] (by go_simp) _ (refpose_any _ _ _ px py pd m0 o1 (by (try simp only [List.length_append, List.length_nil]); omega)) ?_
            rintro e1 y1 ⟨b1, rfl, m1, g1⟩
            have q1 := q0.put m1 g1
            refine Or.inl ⟨_, rfl, q1.s, ?_⟩
            simp only [Act.put, List.setIfInBounds_toArray, List.set_cons_zero, List.set_cons_succ]
            refine call_held 6 rfl (by kernel_rfl) (by kernel_rfl) 33 #[b1, .int .i64 lo] (by go_simp) _ (refnum_any _ _ _ lo m1 o2 (by (try simp only [List.length_append, List.length_nil]); omega)) ?_
            rintro e2 y2 ⟨b2, rfl, m2, g2⟩
            have q2 := q1.put m2 g2
            refine Or.inl ⟨_, rfl, q2.s, ?_⟩
            simp only [Act.put, List.setIfInBounds_toArray, List.set_cons_zero, List.set_cons_succ]
            refine call_held 9 rfl (by kernel_rfl) (by kernel_rfl) 33 #[b2, .int .i64 jo] (by go_simp) _ (refnum_any _ _ _ jo m2 o3 (by (try simp only [List.length_append, List.length_nil]); omega)) ?_
            rintro e3 y3 ⟨b3, rfl, m3, g3⟩
            have q3 := q2.put m3 g3
            refine Or.inl ⟨_, rfl, q3.s, ?_⟩
            simp only [Act.put, List.setIfInBounds_toArray, List.set_cons_zero, List.set_cons_succ]
            refine call_held 12 rfl (by kernel_rfl) (by kernel_rfl) 31 #[b3, .slice ma ml mc] (by go_simp) _ (refmoves_any w F hF _ _ _ ms (.slice ma ml mc) q3.s.1 q3.old m3 lb o4 (by (try simp only [List.length_append, List.length_nil]); omega)) ?_
            rintro e4 y4 ⟨b4, rfl, m4, g4⟩
            have q4 := q3.put m4 g4
            refine Or.inl ⟨_, rfl, q4.s, ?_⟩
            simp only [Act.put, List.setIfInBounds_toArray, List.set_cons_zero, List.set_cons_succ]
            refine take_held 13 q4.s rfl (by kernel_rfl) (by kernel_rfl) (by kernel_rfl) (fun _ _ _ h => h) (by kernel_rfl) (v := ?v63) ?y63 ?r63
            case y63 => (intro u hu; go_simp; try rfl)
            simp only [Act.put, List.setIfInBounds_toArray, List.set_cons_zero, List.set_cons_succ]
            refine done_held (by kernel_rfl) ?_ _
            go_wp2_with fail
            go_meet
            have qq := q4
            simp only [List.append_assoc, List.nil_append] at qq ⊢
            exact qq
          case rest =>
          have q2 := hcut
          clear hcut
          go_upto_region 13 with fail
          have q0 := q2.drew
          have m0 := q0.mine
          refine start_held (S := Sx w row P 101 #[.int .i64 px, .int .i64 py, .bool pd, .int .i64 lo, .int .i64 jo, .slice ma ml mc, .bool ou, .int .i64 nu, .bool st]) 11 rfl (by kernel_rfl) (q0.s) ?_
          simp only [Array.replicate_succ, Array.replicate_zero, List.push_toArray, List.nil_append, List.cons_append]
          refine take_held 0 q0.s rfl (by kernel_rfl) (by kernel_rfl) (by kernel_rfl) (fun _ _ _ h => h) (by kernel_rfl) (v := ?v64) ?y64 ?r64
          case y64 => (intro u hu; go_simp; try rfl)
          simp only [Act.put, List.setIfInBounds_toArray, List.set_cons_zero, List.set_cons_succ]
          refine take_held 1 q0.s rfl (by kernel_rfl) (by kernel_rfl) (by kernel_rfl) (fun _ _ _ h => h) (by kernel_rfl) (v := ?v65) ?y65 ?r65
          case y65 => (intro u hu; go_simp; try rfl)
          simp only [Act.put, List.setIfInBounds_toArray, List.set_cons_zero, List.set_cons_succ]
          refine take_held 2 q0.s rfl (by kernel_rfl) (by kernel_rfl) (by kernel_rfl) (fun _ _ _ h => h) (by kernel_rfl) (v := ?v66) ?y66 ?r66
          case y66 => (intro u hu; have zz0 := (cell_of hu.2.2 6).trans rfl; go_simp; try rfl)
          simp only [Act.put, List.setIfInBounds_toArray, List.set_cons_zero, List.set_cons_succ]
          refine take_held 4 q0.s rfl (by kernel_rfl) (by kernel_rfl) (by kernel_rfl) (fun _ _ _ h => h) (by kernel_rfl) (v := ?v67) ?y67 ?r67
          case y67 => (intro u hu; go_simp; try rfl)
          simp only [Act.put, List.setIfInBounds_toArray, List.set_cons_zero, List.set_cons_succ]
          refine take_held 5 q0.s rfl (by kernel_rfl) (by kernel_rfl) (by kernel_rfl) (fun _ _ _ h => h) (by kernel_rfl) (v := ?v68) ?y68 ?r68
          case y68 => (intro u hu; have zz0 := (cell_of hu.2.2 7).trans rfl; go_simp; try rfl)
          simp only [Act.put, List.setIfInBounds_toArray, List.set_cons_zero, List.set_cons_succ]
          refine take_held 7 q0.s rfl (by kernel_rfl) (by kernel_rfl) (by kernel_rfl) (fun _ _ _ h => h) (by kernel_rfl) (v := ?v69) ?y69 ?r69
          case y69 => (intro u hu; go_simp; try rfl)
          simp only [Act.put, List.setIfInBounds_toArray, List.set_cons_zero, List.set_cons_succ]
          refine take_held 8 q0.s rfl (by kernel_rfl) (by kernel_rfl) (by kernel_rfl) (fun _ _ _ h => h) (by kernel_rfl) (v := ?v70) ?y70 ?r70
          case y70 => (intro u hu; have zz0 := (cell_of hu.2.2 8).trans rfl; go_simp; try rfl)
          simp only [Act.put, List.setIfInBounds_toArray, List.set_cons_zero, List.set_cons_succ]
          refine call_held 3 rfl (by kernel_rfl) (by kernel_rfl) 54 #[u3, .bool ou] (by go_simp) _ (refflag_any _ _ _ ou m0 (by (try simp only [List.length_append, List.length_nil]); omega)) ?_
          rintro e1 y1 ⟨b1, rfl, m1, g1⟩
          have q1 := q0.put m1 g1
          refine Or.inl ⟨_, rfl, q1.s, ?_⟩
          simp only [Act.put, List.setIfInBounds_toArray, List.set_cons_zero, List.set_cons_succ]
          refine call_held 6 rfl (by kernel_rfl) (by kernel_rfl) 33 #[b1, .int .i64 nu] (by go_simp) _ (refnum_any _ _ _ nu m1 o6 (by (try simp only [List.length_append, List.length_nil]); omega)) ?_
          rintro e2 y2 ⟨b2, rfl, m2, g2⟩
          have q2 := q1.put m2 g2
          refine Or.inl ⟨_, rfl, q2.s, ?_⟩
          simp only [Act.put, List.setIfInBounds_toArray, List.set_cons_zero, List.set_cons_succ]
          refine call_held 9 rfl (by kernel_rfl) (by kernel_rfl) 54 #[b2, .bool st] (by go_simp) _ (refflag_any _ _ _ st m2 (by (try simp only [List.length_append, List.length_nil]); omega)) ?_
          rintro e3 y3 ⟨b3, rfl, m3, g3⟩
          have q3 := q2.put m3 g3
          refine Or.inl ⟨_, rfl, q3.s, ?_⟩
          simp only [Act.put, List.setIfInBounds_toArray, List.set_cons_zero, List.set_cons_succ]
          refine take_held 10 q3.s rfl (by kernel_rfl) (by kernel_rfl) (by kernel_rfl) (fun _ _ _ h => h) (by kernel_rfl) (v := ?v71) ?y71 ?r71
          case y71 => (intro u hu; go_simp; try rfl)
          simp only [Act.put, List.setIfInBounds_toArray, List.set_cons_zero, List.set_cons_succ]
          refine done_held (by kernel_rfl) ?_ _
          have q9 : Bs w row P 101 #[.int .i64 px, .int .i64 py, .bool pd, .int .i64 lo, .int .i64 jo, .slice ma ml mc, .bool ou, .int .i64 nu, .bool st] y3 b3 ((Z1 ++ ((ys.take k).map Prod.fst).flatMap cRobot.put) ++ (cPose.put ((px, py), pd) ++ (num lo ++ (num jo ++ ((list cMove).put ms ++ (cFlag.put ou ++ (num nu ++ cFlag.put st))))))) := by
            have qq := q3
            simp only [List.append_assoc, List.nil_append] at qq ⊢
            exact qq
          have q3 := q9.plain
          go_wp2_with fail
          go_roundw
          case rel => exact ⟨k + 1, by omega, by go_num, by rw [HS.out, ← List.append_assoc]; exact q3⟩
          case measure => simp [intOf]; omega
        · obtain rfl : n1 = k := by omega
          have hd : decide ((n1 : Int) < (n1 : Int)) = false := decide_eq_false (by omega)
          rw [List.take_of_length_le (by rw [HN.out]; omega), hys.out.1] at q
          obtain ⟨Y2, hY2⟩ : ∃ Y, Y = Y1 ++ (list cRobot).put xs1 := ⟨_, rfl⟩
          have hYe : Z1 ++ xs1.flatMap cRobot.put = Y2 := by rw [hY2, hZ1, list_put, List.append_assoc, ← hnh1.out]
          rw [hYe] at q
          have hYl : Y2.length = Y1.length + ((list cRobot).put xs1).length := by rw [hY2, List.length_append]
          clear hYe HN HP hcell hel hzl hk
          have c1 := refnum_any _ _ _ n2 q.mine on2 (by omega)
          obtain ⟨ys, hys0, hel, hcell⟩ := M2.out
          have hys : Hid _ := hys0
          clear hys0
          have xb := X5.out _ _ _ _ q.s
          go_wp2_with (go_at_call 33; refine c1.mono ?_; rintro e1 w1 ⟨b1, rfl, m1, g1⟩)
          have q9 := q.put m1 g1
          clear q c1 xb
          have HP := fun k h => flat_part cPort ys k h
          obtain ⟨Z2, hZ2⟩ : ∃ Z, Z = Y2 ++ num n2 := ⟨_, rfl⟩
          rw [← hZ2] at q9
          have hzl : Z2.length = Y2.length + (num n2).length := by rw [hZ2, List.length_append]
          have HN : Hid (ys.length = n2) := hys.out.2.symm
          have HQ : Hid _ := q9
          clear q9
          go_loopw [3, 7] (fun b' i wr => ∃ (k : Nat), k ≤ n2 ∧ i = .int .i64 k ∧ Hid (Bs w row w.heap.size 57 row wr b' (Z2 ++ ((ys.take k).map Prod.fst).flatMap cPort.put))) (fun _ i _ => n2 - (intOf i).toNat)
          case atStart => exact ⟨0, Nat.zero_le _, rfl, by simpa using HQ⟩
          case round =>
            clear HQ
            obtain ⟨k, hk, rfl, hQ⟩ := hrel
            have q := hQ.out
            clear hQ
            have xb := X5.out _ _ _ wr q.s
            by_cases hlt : k < n2
            · have hlt' : k < ys.length := by rw [HN.out]; exact hlt
              obtain ⟨p, hpa, hpF, hpc⟩ := hcell k hlt'
              have hq := HP k hlt'
              rw [hys.out.1] at hq
              have HS : Hid (((ys.take (k + 1)).map Prod.fst).flatMap cPort.put = ((ys.take k).map Prod.fst).flatMap cPort.put ++ cPort.put (ys[k]'hlt').1) := flat_snoc cPort ys k hlt'
              have hy := hel _ (List.getElem_mem hlt')
              have hok := oo2 _ (by rw [← hys.out.1]; exact List.mem_map.2 ⟨_, List.getElem_mem hlt', rfl⟩)
              generalize hyk : ys[k]'hlt' = y at *
              obtain ⟨x, cs⟩ := y
              subst hpa
              have K1 : ∀ u, Below w.heap.size w u → ∀ j z, cs[j]? = some z → u.cell? ((p.add (k * 3)).add j) = some z := fun u hu j z hj => by
                rw [add_add, hu.cell (by rw [block_add]; exact hF _ hpF)]
                exact hpc j z hj
              have hd : decide ((k : Int) < (n2 : Int)) = true := decide_eq_true (by omega)
              have i1 : (k : Int) < (n2 : Int) := by omega
              clear hcell hel HP hyk hlt' HN hpc hpF
              dsimp only at HS hq hy hok
              have hzb : (Z2 ++ ((ys.take k).map Prod.fst).flatMap cPort.put).length = Z2.length + (((ys.take k).map Prod.fst).flatMap cPort.put).length := by rw [List.length_append]
              obtain ⟨pb, pa, bs⟩ := x
              obtain ⟨vb, rfl, lb⟩ := hy
              obtain ⟨o1, o2, ob⟩ := hok
              dsimp only at lb o1 o2 ob
              have hp : cPort.put (pb, pa, bs) = num pb ++ (num pa ++ (list cNum).put bs) := rfl
              rw [hp] at HS hq
              simp only [List.length_append] at hq
              obtain ⟨va, vc, hv, _⟩ := lb.form
              subst hv
              have H0 : Hid (∀ u, Sx w row w.heap.size 57 row u → u.cell? (p.add (k * 3)) = some (.int .i64 pb)) := fun u hu => K1 u hu.1 0 _ rfl
              have H1 : Hid (∀ u, Sx w row w.heap.size 57 row u → u.cell? ⟨(p.add (k * 3)).block, (p.add (k * 3)).off + 1, none⟩ = some (.int .i64 pa)) := fun u hu => K1 u hu.1 1 _ rfl
              have H2 : Hid (∀ u, Sx w row w.heap.size 57 row u → u.cell? ⟨(p.add (k * 3)).block, (p.add (k * 3)).off + 2, none⟩ = some (.slice va bs.length vc)) := fun u hu => K1 u hu.1 2 _ rfl
              clear K1
              go_upto_region 18 with fail
              have q0 := q.drew
              have m0 := q0.mine
              refine start_held (S := Sx w row w.heap.size 57 row) 23 rfl (by kernel_rfl) (q0.s) ?_
              simp only [Array.replicate_succ, Array.replicate_zero, List.push_toArray, List.nil_append, List.cons_append]
              refine take_held 0 q0.s rfl (by kernel_rfl) (by kernel_rfl) (by kernel_rfl) (fun _ _ _ h => h) (by kernel_rfl) (v := ?v34) ?y34 ?r34
              case y34 => (intro u hu; go_simp; try rfl)
              simp only [Act.put, List.setIfInBounds_toArray, List.set_cons_zero, List.set_cons_succ]
              refine take_held 1 q0.s rfl (by kernel_rfl) (by kernel_rfl) (by kernel_rfl) (fun _ _ _ h => h) (by kernel_rfl) (v := ?v35) ?y35 ?r35
              case y35 => (intro u hu; go_simp; try rfl)
              simp only [Act.put, List.setIfInBounds_toArray, List.set_cons_zero, List.set_cons_succ]
              refine take_held 2 q0.s rfl (by kernel_rfl) (by kernel_rfl) (by kernel_rfl) (fun _ _ _ h => h) (by kernel_rfl) (v := ?v36) ?y36 ?r36
              case y36 => (intro u hu; have zz0 := X5.out _ _ _ u hu; go_simp; try rfl)
              simp only [Act.put, List.setIfInBounds_toArray, List.set_cons_zero, List.set_cons_succ]
              refine take_held 3 q0.s rfl (by kernel_rfl) (by kernel_rfl) (by kernel_rfl) (fun _ _ _ h => h) (by kernel_rfl) (v := ?v37) ?y37 ?r37
              case y37 => (intro u hu; go_simp; try rfl)
              simp only [Act.put, List.setIfInBounds_toArray, List.set_cons_zero, List.set_cons_succ]
              refine take_held 4 q0.s rfl (by kernel_rfl) (by kernel_rfl) (by kernel_rfl) (fun _ _ _ h => h) (by kernel_rfl) (v := ?v38) ?y38 ?r38
              case y38 => (intro u hu; go_simp; try rfl)
              simp only [Act.put, List.setIfInBounds_toArray, List.set_cons_zero, List.set_cons_succ]
              refine take_held 5 q0.s rfl (by kernel_rfl) (by kernel_rfl) (by kernel_rfl) (fun _ _ _ h => h) (by kernel_rfl) (v := ?v39) ?y39 ?r39
              case y39 => (intro u hu; go_simp; try rfl)
              simp only [Act.put, List.setIfInBounds_toArray, List.set_cons_zero, List.set_cons_succ]
              refine take_held 6 q0.s rfl (by kernel_rfl) (by kernel_rfl) (by kernel_rfl) (fun _ _ _ h => h) (by kernel_rfl) (v := ?v40) ?y40 ?r40
              case y40 => (intro u hu; have zz0 := H0.out u hu; go_simp; try rfl)
              simp only [Act.put, List.setIfInBounds_toArray, List.set_cons_zero, List.set_cons_succ]
              refine take_held 8 q0.s rfl (by kernel_rfl) (by kernel_rfl) (by kernel_rfl) (fun _ _ _ h => h) (by kernel_rfl) (v := ?v41) ?y41 ?r41
              case y41 => (intro u hu; go_simp; try rfl)
              simp only [Act.put, List.setIfInBounds_toArray, List.set_cons_zero, List.set_cons_succ]
              refine take_held 9 q0.s rfl (by kernel_rfl) (by kernel_rfl) (by kernel_rfl) (fun _ _ _ h => h) (by kernel_rfl) (v := ?v42) ?y42 ?r42
              case y42 => (intro u hu; have zz0 := X5.out _ _ _ u hu; go_simp; try rfl)
              simp only [Act.put, List.setIfInBounds_toArray, List.set_cons_zero, List.set_cons_succ]
              refine take_held 10 q0.s rfl (by kernel_rfl) (by kernel_rfl) (by kernel_rfl) (fun _ _ _ h => h) (by kernel_rfl) (v := ?v43) ?y43 ?r43
              case y43 => (intro u hu; go_simp; try rfl)
              simp only [Act.put, List.setIfInBounds_toArray, List.set_cons_zero, List.set_cons_succ]
              refine take_held 11 q0.s rfl (by kernel_rfl) (by kernel_rfl) (by kernel_rfl) (fun _ _ _ h => h) (by kernel_rfl) (v := ?v44) ?y44 ?r44
              case y44 => (intro u hu; go_simp; try rfl)
              simp only [Act.put, List.setIfInBounds_toArray, List.set_cons_zero, List.set_cons_succ]
              refine take_held 12 q0.s rfl (by kernel_rfl) (by kernel_rfl) (by kernel_rfl) (fun _ _ _ h => h) (by kernel_rfl) (v := ?v45) ?y45 ?r45
              case y45 => (intro u hu; go_simp; try rfl)
              simp only [Act.put, List.setIfInBounds_toArray, List.set_cons_zero, List.set_cons_succ]
              refine take_held 13 q0.s rfl (by kernel_rfl) (by kernel_rfl) (by kernel_rfl) (fun _ _ _ h => h) (by kernel_rfl) (v := ?v46) ?y46 ?r46
              case y46 => (intro u hu; have zz0 := H1.out u hu; go_simp; try rfl)
              simp only [Act.put, List.setIfInBounds_toArray, List.set_cons_zero, List.set_cons_succ]
              refine take_held 15 q0.s rfl (by kernel_rfl) (by kernel_rfl) (by kernel_rfl) (fun _ _ _ h => h) (by kernel_rfl) (v := ?v47) ?y47 ?r47
              case y47 => (intro u hu; go_simp; try rfl)
              simp only [Act.put, List.setIfInBounds_toArray, List.set_cons_zero, List.set_cons_succ]
              refine take_held 16 q0.s rfl (by kernel_rfl) (by kernel_rfl) (by kernel_rfl) (fun _ _ _ h => h) (by kernel_rfl) (v := ?v48) ?y48 ?r48
              case y48 => (intro u hu; have zz0 := X5.out _ _ _ u hu; go_simp; try rfl)
              simp only [Act.put, List.setIfInBounds_toArray, List.set_cons_zero, List.set_cons_succ]
              refine take_held 17 q0.s rfl (by kernel_rfl) (by kernel_rfl) (by kernel_rfl) (fun _ _ _ h => h) (by kernel_rfl) (v := ?v49) ?y49 ?r49
              case y49 => (intro u hu; go_simp; try rfl)
              simp only [Act.put, List.setIfInBounds_toArray, List.set_cons_zero, List.set_cons_succ]
              refine take_held 18 q0.s rfl (by kernel_rfl) (by kernel_rfl) (by kernel_rfl) (fun _ _ _ h => h) (by kernel_rfl) (v := ?v50) ?y50 ?r50
              case y50 => (intro u hu; go_simp; try rfl)
              simp only [Act.put, List.setIfInBounds_toArray, List.set_cons_zero, List.set_cons_succ]
              refine take_held 19 q0.s rfl (by kernel_rfl) (by kernel_rfl) (by kernel_rfl) (fun _ _ _ h => h) (by kernel_rfl) (v := ?v51) ?y51 ?r51
              case y51 => (intro u hu; go_simp; try rfl)
              simp only [Act.put, List.setIfInBounds_toArray, List.set_cons_zero, List.set_cons_succ]
              refine take_held 20 q0.s rfl (by kernel_rfl) (by kernel_rfl) (by kernel_rfl) (fun _ _ _ h => h) (by kernel_rfl) (v := ?v52) ?y52 ?r52
              case y52 => (intro u hu; have zz0 := H2.out u hu; go_simp; try rfl)
              simp only [Act.put, List.setIfInBounds_toArray, List.set_cons_zero, List.set_cons_succ]
              refine call_held 7 rfl (by kernel_rfl) (by kernel_rfl) 33 #[u3, .int .i64 pb] (by go_simp) _ (refnum_any _ _ _ pb m0 o1 (by (try simp only [List.length_append, List.length_nil]); omega)) ?_
              rintro e1 y1 ⟨b1, rfl, m1, g1⟩
              have q1 := q0.put m1 g1
              refine Or.inl ⟨_, rfl, q1.s, ?_⟩
              simp only [Act.put, List.setIfInBounds_toArray, List.set_cons_zero, List.set_cons_succ]
              refine call_held 14 rfl (by kernel_rfl) (by kernel_rfl) 33 #[b1, .int .i64 pa] (by go_simp) _ (refnum_any _ _ _ pa m1 o2 (by (try simp only [List.length_append, List.length_nil]); omega)) ?_
              rintro e2 y2 ⟨b2, rfl, m2, g2⟩
              have q2 := q1.put m2 g2
              refine Or.inl ⟨_, rfl, q2.s, ?_⟩
              simp only [Act.put, List.setIfInBounds_toArray, List.set_cons_zero, List.set_cons_succ]
              refine call_held 21 rfl (by kernel_rfl) (by kernel_rfl) 55 #[b2, .slice va bs.length vc] (by go_simp) _ (refnumbers_any w F hF _ _ _ bs (.slice va bs.length vc) q2.s.1 q2.old m2 lb ob (by (try simp only [List.length_append, List.length_nil]); omega)) ?_
              rintro e3 y3 ⟨b3, rfl, m3, g3⟩
              have q3 := q2.put m3 g3
              refine Or.inl ⟨_, rfl, q3.s, ?_⟩
              simp only [Act.put, List.setIfInBounds_toArray, List.set_cons_zero, List.set_cons_succ]
              refine take_held 22 q3.s rfl (by kernel_rfl) (by kernel_rfl) (by kernel_rfl) (fun _ _ _ h => h) (by kernel_rfl) (v := ?v53) ?y53 ?r53
              case y53 => (intro u hu; go_simp; try rfl)
              simp only [Act.put, List.setIfInBounds_toArray, List.set_cons_zero, List.set_cons_succ]
              refine done_held (by kernel_rfl) ?_ _
              have q9 : Bs w row w.heap.size 57 row y3 b3 ((Z2 ++ ((ys.take k).map Prod.fst).flatMap cPort.put) ++ (num pb ++ (num pa ++ (list cNum).put bs))) := by
                have qq := q3
                simp only [List.append_assoc, List.nil_append] at qq ⊢
                exact qq
              have q3 := q9
              go_wp2_with fail
              go_roundw
              case rel => exact ⟨k + 1, by omega, by go_num, by rw [HS.out, ← List.append_assoc]; exact q3⟩
              case measure => simp [intOf]; omega
            · obtain rfl : n2 = k := by omega
              have hd : decide ((n2 : Int) < (n2 : Int)) = false := decide_eq_false (by omega)
              rw [List.take_of_length_le (by rw [HN.out]; omega), hys.out.1] at q
              obtain ⟨Y3, hY3⟩ : ∃ Y, Y = Y2 ++ (list cPort).put xs2 := ⟨_, rfl⟩
              have hYe : Z2 ++ xs2.flatMap cPort.put = Y3 := by rw [hY3, hZ2, list_put, List.append_assoc, ← hnh2.out]
              rw [hYe] at q
              have hYl : Y3.length = Y2.length + ((list cPort).put xs2).length := by rw [hY3, List.length_append]
              clear hYe HN HP hcell hel hzl hk
              have c1 := refnum_any _ _ _ n3 q.mine on3 (by omega)
              obtain ⟨ys, hys0, hel, hcell⟩ := M3.out
              have hys : Hid _ := hys0
              clear hys0
              have xb := X6.out _ _ _ _ q.s
              go_wp2_with (go_at_call 33; refine c1.mono ?_; rintro e1 w1 ⟨b1, rfl, m1, g1⟩)
              have q9 := q.put m1 g1
              clear q c1 xb
              have HP := fun k h => flat_part cOrder ys k h
              obtain ⟨Z3, hZ3⟩ : ∃ Z, Z = Y3 ++ num n3 := ⟨_, rfl⟩
              rw [← hZ3] at q9
              have hzl : Z3.length = Y3.length + (num n3).length := by rw [hZ3, List.length_append]
              have HN : Hid (ys.length = n3) := hys.out.2.symm
              have HQ : Hid _ := q9
              clear q9
              go_loopw [3, 8] (fun b' i wr => ∃ (k : Nat), k ≤ n3 ∧ i = .int .i64 k ∧ Hid (Bs w row w.heap.size 57 row wr b' (Z3 ++ ((ys.take k).map Prod.fst).flatMap cOrder.put))) (fun _ i _ => n3 - (intOf i).toNat)
              case atStart => exact ⟨0, Nat.zero_le _, rfl, by simpa using HQ⟩
              case round =>
                clear HQ
                obtain ⟨k, hk, rfl, hQ⟩ := hrel
                have q := hQ.out
                clear hQ
                have xb := X6.out _ _ _ wr q.s
                by_cases hlt : k < n3
                · have hlt' : k < ys.length := by rw [HN.out]; exact hlt
                  obtain ⟨p, hpa, hpF, hpc⟩ := hcell k hlt'
                  have hq := HP k hlt'
                  rw [hys.out.1] at hq
                  have HS : Hid (((ys.take (k + 1)).map Prod.fst).flatMap cOrder.put = ((ys.take k).map Prod.fst).flatMap cOrder.put ++ cOrder.put (ys[k]'hlt').1) := flat_snoc cOrder ys k hlt'
                  have hy := hel _ (List.getElem_mem hlt')
                  have hok := oo3 _ (by rw [← hys.out.1]; exact List.mem_map.2 ⟨_, List.getElem_mem hlt', rfl⟩)
                  generalize hyk : ys[k]'hlt' = y at *
                  obtain ⟨x, cs⟩ := y
                  subst hpa
                  have K1 : ∀ u, Below w.heap.size w u → ∀ j z, cs[j]? = some z → u.cell? ((p.add (k * 4)).add j) = some z := fun u hu j z hj => by
                    rw [add_add, hu.cell (by rw [block_add]; exact hF _ hpF)]
                    exact hpc j z hj
                  have hd : decide ((k : Int) < (n3 : Int)) = true := decide_eq_true (by omega)
                  have i1 : (k : Int) < (n3 : Int) := by omega
                  clear hcell hel HP hyk hlt' HN hpc hpF
                  dsimp only at HS hq hy hok
                  have hzb : (Z3 ++ ((ys.take k).map Prod.fst).flatMap cOrder.put).length = Z3.length + (((ys.take k).map Prod.fst).flatMap cOrder.put).length := by rw [List.length_append]
                  obtain ⟨oa, ob, oc, od⟩ := x
                  obtain rfl : cs = #[.int .i64 oa, .int .i64 ob, .int .i64 oc, .int .i64 od] := hy
                  obtain ⟨o1, o2, o3, o4⟩ := hok
                  dsimp only at o1 o2 o3 o4
                  have hp : cOrder.put (oa, ob, oc, od) = num oa ++ (num ob ++ (num oc ++ num od)) := rfl
                  rw [hp] at HS hq
                  simp only [List.length_append] at hq
                  have K2 := K1 wr q.s.1
                  have q1 : Bs w row wr.heap.size 106 #[.int .i64 oa, .int .i64 ob, .int .i64 oc, .int .i64 od] ((wr.alloc (.cells #[.int .i64 0, .int .i64 0, .int .i64 0, .int .i64 0] 106)).setRow wr.heap.size #[.int .i64 oa, .int .i64 ob, .int .i64 oc, .int .i64 od]) u3 (Z3 ++ ((ys.take k).map Prod.fst).flatMap cOrder.put) := q.boxed _ _ _
                  have xb := X6.out _ _ _ wr q.s
                  clear K1
                  go_upto_region 24 with (first
                    | (refine wpList_load_at rfl 106 (.tmp 137) rfl (p.add (k * 4)) rfl #[.int .i64 oa, .int .i64 ob, .int .i64 oc, .int .i64 od] K2 (aggOrder _) iszOrder ?_)
                    | (refine wpList_store_row rfl 106 (.tmp 9) (.tmp 138) rfl wr.heap.size #[.int .i64 oa, .int .i64 ob, .int .i64 oc, .int .i64 od] rfl rfl 106 #[.int .i64 0, .int .i64 0, .int .i64 0, .int .i64 0] (heap_alloc_new wr _) iszOrder rfl (by simp [Value.oneCell']) ?_))
                  simp only [Act.put]
                  obtain ⟨P, hP⟩ : ∃ P, P = wr.heap.size := ⟨_, rfl⟩
                  generalize hwb : (wr.alloc (.cells #[.int .i64 0, .int .i64 0, .int .i64 0, .int .i64 0] 106)).setRow wr.heap.size #[.int .i64 oa, .int .i64 ob, .int .i64 oc, .int .i64 od] = wb at *
                  rw [← hP] at q1 ⊢
                  clear hwb hP K2 xb
                  go_upto_region 24 with fail
                  have q0 := q1.drew
                  have m0 := q0.mine
                  refine start_held (S := Sx w row P 106 #[.int .i64 oa, .int .i64 ob, .int .i64 oc, .int .i64 od]) 14 rfl (by kernel_rfl) (q0.s) ?_
                  simp only [Array.replicate_succ, Array.replicate_zero, List.push_toArray, List.nil_append, List.cons_append]
                  refine take_held 0 q0.s rfl (by kernel_rfl) (by kernel_rfl) (by kernel_rfl) (fun _ _ _ h => h) (by kernel_rfl) (v := ?v24) ?y24 ?r24
                  case y24 => (intro u hu; go_simp; try rfl)
                  simp only [Act.put, List.setIfInBounds_toArray, List.set_cons_zero, List.set_cons_succ]
                  refine take_held 1 q0.s rfl (by kernel_rfl) (by kernel_rfl) (by kernel_rfl) (fun _ _ _ h => h) (by kernel_rfl) (v := ?v25) ?y25 ?r25
                  case y25 => (intro u hu; go_simp; try rfl)
                  simp only [Act.put, List.setIfInBounds_toArray, List.set_cons_zero, List.set_cons_succ]
                  refine take_held 2 q0.s rfl (by kernel_rfl) (by kernel_rfl) (by kernel_rfl) (fun _ _ _ h => h) (by kernel_rfl) (v := ?v26) ?y26 ?r26
                  case y26 => (intro u hu; have zz0 := (cell_of hu.2.2 0).trans rfl; go_simp; try rfl)
                  simp only [Act.put, List.setIfInBounds_toArray, List.set_cons_zero, List.set_cons_succ]
                  refine take_held 4 q0.s rfl (by kernel_rfl) (by kernel_rfl) (by kernel_rfl) (fun _ _ _ h => h) (by kernel_rfl) (v := ?v27) ?y27 ?r27
                  case y27 => (intro u hu; go_simp; try rfl)
                  simp only [Act.put, List.setIfInBounds_toArray, List.set_cons_zero, List.set_cons_succ]
                  refine take_held 5 q0.s rfl (by kernel_rfl) (by kernel_rfl) (by kernel_rfl) (fun _ _ _ h => h) (by kernel_rfl) (v := ?v28) ?y28 ?r28
                  case y28 => (intro u hu; have zz0 := (cell_of hu.2.2 1).trans rfl; go_simp; try rfl)
                  simp only [Act.put, List.setIfInBounds_toArray, List.set_cons_zero, List.set_cons_succ]
                  refine take_held 7 q0.s rfl (by kernel_rfl) (by kernel_rfl) (by kernel_rfl) (fun _ _ _ h => h) (by kernel_rfl) (v := ?v29) ?y29 ?r29
                  case y29 => (intro u hu; go_simp; try rfl)
                  simp only [Act.put, List.setIfInBounds_toArray, List.set_cons_zero, List.set_cons_succ]
                  refine take_held 8 q0.s rfl (by kernel_rfl) (by kernel_rfl) (by kernel_rfl) (fun _ _ _ h => h) (by kernel_rfl) (v := ?v30) ?y30 ?r30
                  case y30 => (intro u hu; have zz0 := (cell_of hu.2.2 2).trans rfl; go_simp; try rfl)
                  simp only [Act.put, List.setIfInBounds_toArray, List.set_cons_zero, List.set_cons_succ]
                  refine take_held 10 q0.s rfl (by kernel_rfl) (by kernel_rfl) (by kernel_rfl) (fun _ _ _ h => h) (by kernel_rfl) (v := ?v31) ?y31 ?r31
                  case y31 => (intro u hu; go_simp; try rfl)
                  simp only [Act.put, List.setIfInBounds_toArray, List.set_cons_zero, List.set_cons_succ]
                  refine take_held 11 q0.s rfl (by kernel_rfl) (by kernel_rfl) (by kernel_rfl) (fun _ _ _ h => h) (by kernel_rfl) (v := ?v32) ?y32 ?r32
                  case y32 => (intro u hu; have zz0 := (cell_of hu.2.2 3).trans rfl; go_simp; try rfl)
                  simp only [Act.put, List.setIfInBounds_toArray, List.set_cons_zero, List.set_cons_succ]
                  refine call_held 3 rfl (by kernel_rfl) (by kernel_rfl) 33 #[u3, .int .i64 oa] (by go_simp) _ (refnum_any _ _ _ oa m0 o1 (by (try simp only [List.length_append, List.length_nil]); omega)) ?_
                  rintro e1 y1 ⟨b1, rfl, m1, g1⟩
                  have q1 := q0.put m1 g1
                  refine Or.inl ⟨_, rfl, q1.s, ?_⟩
                  simp only [Act.put, List.setIfInBounds_toArray, List.set_cons_zero, List.set_cons_succ]
                  refine call_held 6 rfl (by kernel_rfl) (by kernel_rfl) 33 #[b1, .int .i64 ob] (by go_simp) _ (refnum_any _ _ _ ob m1 o2 (by (try simp only [List.length_append, List.length_nil]); omega)) ?_
                  rintro e2 y2 ⟨b2, rfl, m2, g2⟩
                  have q2 := q1.put m2 g2
                  refine Or.inl ⟨_, rfl, q2.s, ?_⟩
                  simp only [Act.put, List.setIfInBounds_toArray, List.set_cons_zero, List.set_cons_succ]
                  refine call_held 9 rfl (by kernel_rfl) (by kernel_rfl) 33 #[b2, .int .i64 oc] (by go_simp) _ (refnum_any _ _ _ oc m2 o3 (by (try simp only [List.length_append, List.length_nil]); omega)) ?_
                  rintro e3 y3 ⟨b3, rfl, m3, g3⟩
                  have q3 := q2.put m3 g3
                  refine Or.inl ⟨_, rfl, q3.s, ?_⟩
                  simp only [Act.put, List.setIfInBounds_toArray, List.set_cons_zero, List.set_cons_succ]
                  refine call_held 12 rfl (by kernel_rfl) (by kernel_rfl) 33 #[b3, .int .i64 od] (by go_simp) _ (refnum_any _ _ _ od m3 o4 (by (try simp only [List.length_append, List.length_nil]); omega)) ?_
                  rintro e4 y4 ⟨b4, rfl, m4, g4⟩
                  have q4 := q3.put m4 g4
                  refine Or.inl ⟨_, rfl, q4.s, ?_⟩
                  simp only [Act.put, List.setIfInBounds_toArray, List.set_cons_zero, List.set_cons_succ]
                  refine take_held 13 q4.s rfl (by kernel_rfl) (by kernel_rfl) (by kernel_rfl) (fun _ _ _ h => h) (by kernel_rfl) (v := ?v33) ?y33 ?r33
                  case y33 => (intro u hu; go_simp; try rfl)
                  simp only [Act.put, List.setIfInBounds_toArray, List.set_cons_zero, List.set_cons_succ]
                  refine done_held (by kernel_rfl) ?_ _
                  have q9 : Bs w row P 106 #[.int .i64 oa, .int .i64 ob, .int .i64 oc, .int .i64 od] y4 b4 ((Z3 ++ ((ys.take k).map Prod.fst).flatMap cOrder.put) ++ (num oa ++ (num ob ++ (num oc ++ num od)))) := by
                    have qq := q4
                    simp only [List.append_assoc, List.nil_append] at qq ⊢
                    exact qq
                  have q3 := q9.plain
                  go_wp2_with fail
                  go_roundw
                  case rel => exact ⟨k + 1, by omega, by go_num, by rw [HS.out, ← List.append_assoc]; exact q3⟩
                  case measure => simp [intOf]; omega
                · obtain rfl : n3 = k := by omega
                  have hd : decide ((n3 : Int) < (n3 : Int)) = false := decide_eq_false (by omega)
                  rw [List.take_of_length_le (by rw [HN.out]; omega), hys.out.1] at q
                  obtain ⟨Y4, hY4⟩ : ∃ Y, Y = Y3 ++ (list cOrder).put xs3 := ⟨_, rfl⟩
                  have hYe : Z3 ++ xs3.flatMap cOrder.put = Y4 := by rw [hY4, hZ3, list_put, List.append_assoc, ← hnh3.out]
                  rw [hYe] at q
                  have hYl : Y4.length = Y3.length + ((list cOrder).put xs3).length := by rw [hY4, List.length_append]
                  clear hYe HN HP hcell hel hzl hk
                  have c1 := refnum_any _ _ _ n4 q.mine on4 (by omega)
                  obtain ⟨ys, hys0, hel, hcell⟩ := M4.out
                  have hys : Hid _ := hys0
                  clear hys0
                  have xb := X7.out _ _ _ _ q.s
                  go_wp2_with (go_at_call 33; refine c1.mono ?_; rintro e1 w1 ⟨b1, rfl, m1, g1⟩)
                  have q9 := q.put m1 g1
                  clear q c1 xb
                  have HP := fun k h => flat_part cJob ys k h
                  obtain ⟨Z4, hZ4⟩ : ∃ Z, Z = Y4 ++ num n4 := ⟨_, rfl⟩
                  rw [← hZ4] at q9
                  have hzl : Z4.length = Y4.length + (num n4).length := by rw [hZ4, List.length_append]
                  have HN : Hid (ys.length = n4) := hys.out.2.symm
                  have HQ : Hid _ := q9
                  clear q9
                  go_loopw [3, 10] (fun b' i wr => ∃ (k : Nat), k ≤ n4 ∧ i = .int .i64 k ∧ Hid (Bs w row w.heap.size 57 row wr b' (Z4 ++ ((ys.take k).map Prod.fst).flatMap cJob.put))) (fun _ i _ => n4 - (intOf i).toNat)
                  case atStart => exact ⟨0, Nat.zero_le _, rfl, by simpa using HQ⟩
                  case round =>
                    clear HQ
                    obtain ⟨k, hk, rfl, hQ⟩ := hrel
                    have q := hQ.out
                    clear hQ
                    have xb := X7.out _ _ _ wr q.s
                    by_cases hlt : k < n4
                    · have hlt' : k < ys.length := by rw [HN.out]; exact hlt
                      obtain ⟨p, hpa, hpF, hpc⟩ := hcell k hlt'
                      have hq := HP k hlt'
                      rw [hys.out.1] at hq
                      have HS : Hid (((ys.take (k + 1)).map Prod.fst).flatMap cJob.put = ((ys.take k).map Prod.fst).flatMap cJob.put ++ cJob.put (ys[k]'hlt').1) := flat_snoc cJob ys k hlt'
                      have hy := hel _ (List.getElem_mem hlt')
                      have hok := oo4 _ (by rw [← hys.out.1]; exact List.mem_map.2 ⟨_, List.getElem_mem hlt', rfl⟩)
                      generalize hyk : ys[k]'hlt' = y at *
                      obtain ⟨x, cs⟩ := y
                      subst hpa
                      have K1 : ∀ u, Below w.heap.size w u → ∀ j z, cs[j]? = some z → u.cell? ((p.add (k * 9)).add j) = some z := fun u hu j z hj => by
                        rw [add_add, hu.cell (by rw [block_add]; exact hF _ hpF)]
                        exact hpc j z hj
                      have hd : decide ((k : Int) < (n4 : Int)) = true := decide_eq_true (by omega)
                      have i1 : (k : Int) < (n4 : Int) := by omega
                      clear hcell hel HP hyk hlt' HN hpc hpF
                      dsimp only at HS hq hy hok
                      have hzb : (Z4 ++ ((ys.take k).map Prod.fst).flatMap cJob.put).length = Z4.length + (((ys.take k).map Prod.fst).flatMap cJob.put).length := by rw [List.length_append]
                      obtain ⟨ja, jb, jc, jd, ⟨fx, fy⟩, ⟨tx, ty⟩, jr⟩ := x
                      obtain rfl : cs = #[.int .i64 ja, .int .i64 jb, .int .i64 jc, .int .i64 jd, .int .i64 fx, .int .i64 fy, .int .i64 tx, .int .i64 ty, .int .i64 jr] := hy
                      obtain ⟨o1, o2, o3, o4, o5, o6, o7⟩ := hok
                      dsimp only at o1 o2 o3 o4 o5 o6 o7
                      have hp : cJob.put (ja, jb, jc, jd, (fx, fy), (tx, ty), jr) = num ja ++ (num jb ++ (num jc ++ (num jd ++ (cCell.put (fx, fy) ++ (cCell.put (tx, ty) ++ num jr))))) := rfl
                      rw [hp] at HS hq
                      simp only [List.length_append] at hq
                      have K2 := K1 wr q.s.1
                      have q1 : Bs w row wr.heap.size 108 #[.int .i64 ja, .int .i64 jb, .int .i64 jc, .int .i64 jd, .int .i64 fx, .int .i64 fy, .int .i64 tx, .int .i64 ty, .int .i64 jr] ((wr.alloc (.cells #[.int .i64 0, .int .i64 0, .int .i64 0, .int .i64 0, .int .i64 0, .int .i64 0, .int .i64 0, .int .i64 0, .int .i64 0] 108)).setRow wr.heap.size #[.int .i64 ja, .int .i64 jb, .int .i64 jc, .int .i64 jd, .int .i64 fx, .int .i64 fy, .int .i64 tx, .int .i64 ty, .int .i64 jr]) u3 (Z4 ++ ((ys.take k).map Prod.fst).flatMap cJob.put) := q.boxed _ _ _
                      have xb := X7.out _ _ _ wr q.s
                      clear K1
                      go_upto_region 30 with (first
                        | (refine wpList_load_at rfl 108 (.tmp 167) rfl (p.add (k * 9)) rfl #[.int .i64 ja, .int .i64 jb, .int .i64 jc, .int .i64 jd, .int .i64 fx, .int .i64 fy, .int .i64 tx, .int .i64 ty, .int .i64 jr] K2 (aggJob _) iszJob ?_)
                        | (refine wpList_store_row rfl 108 (.tmp 11) (.tmp 168) rfl wr.heap.size #[.int .i64 ja, .int .i64 jb, .int .i64 jc, .int .i64 jd, .int .i64 fx, .int .i64 fy, .int .i64 tx, .int .i64 ty, .int .i64 jr] rfl rfl 108 #[.int .i64 0, .int .i64 0, .int .i64 0, .int .i64 0, .int .i64 0, .int .i64 0, .int .i64 0, .int .i64 0, .int .i64 0] (heap_alloc_new wr _) iszJob rfl (by simp [Value.oneCell']) ?_))
                      simp only [Act.put]
                      obtain ⟨P, hP⟩ : ∃ P, P = wr.heap.size := ⟨_, rfl⟩
                      generalize hwb : (wr.alloc (.cells #[.int .i64 0, .int .i64 0, .int .i64 0, .int .i64 0, .int .i64 0, .int .i64 0, .int .i64 0, .int .i64 0, .int .i64 0] 108)).setRow wr.heap.size #[.int .i64 ja, .int .i64 jb, .int .i64 jc, .int .i64 jd, .int .i64 fx, .int .i64 fy, .int .i64 tx, .int .i64 ty, .int .i64 jr] = wb at *
                      rw [← hP] at q1 ⊢
                      clear hwb hP K2 xb
                      go_upto_region 30 with fail
                      go_cut [3] from 157 to 191 (fun v wx => Bs w row P 108 #[.int .i64 ja, .int .i64 jb, .int .i64 jc, .int .i64 jd, .int .i64 fx, .int .i64 fy, .int .i64 tx, .int .i64 ty, .int .i64 jr] wx v ((Z4 ++ ((ys.take k).map Prod.fst).flatMap cJob.put) ++ (num ja ++ (num jb ++ (num jc ++ num jd)))))
                      case first =>
                        have q0 := q1.drew
                        have m0 := q0.mine
                        refine start_held (S := Sx w row P 108 #[.int .i64 ja, .int .i64 jb, .int .i64 jc, .int .i64 jd, .int .i64 fx, .int .i64 fy, .int .i64 tx, .int .i64 ty, .int .i64 jr]) 14 rfl (by kernel_rfl) (q0.s) ?_
                        simp only [Array.replicate_succ, Array.replicate_zero, List.push_toArray, List.nil_append, List.cons_append]
                        refine take_held 0 q0.s rfl (by kernel_rfl) (by kernel_rfl) (by kernel_rfl) (fun _ _ _ h => h) (by kernel_rfl) (v := ?v6) ?y6 ?r6
                        case y6 => (intro u hu; go_simp; try rfl)
                        simp only [Act.put, List.setIfInBounds_toArray, List.set_cons_zero, List.set_cons_succ]
                        refine take_held 1 q0.s rfl (by kernel_rfl) (by kernel_rfl) (by kernel_rfl) (fun _ _ _ h => h) (by kernel_rfl) (v := ?v7) ?y7 ?r7
                        case y7 => (intro u hu; go_simp; try rfl)
                        simp only [Act.put, List.setIfInBounds_toArray, List.set_cons_zero, List.set_cons_succ]
                        refine take_held 2 q0.s rfl (by kernel_rfl) (by kernel_rfl) (by kernel_rfl) (fun _ _ _ h => h) (by kernel_rfl) (v := ?v8) ?y8 ?r8
                        case y8 => (intro u hu; have zz0 := (cell_of hu.2.2 0).trans rfl; go_simp; try rfl)
                        simp only [Act.put, List.setIfInBounds_toArray, List.set_cons_zero, List.set_cons_succ]
                        refine take_held 4 q0.s rfl (by kernel_rfl) (by kernel_rfl) (by kernel_rfl) (fun _ _ _ h => h) (by kernel_rfl) (v := ?v9) ?y9 ?r9
                        case y9 => (intro u hu; go_simp; try rfl)
                        simp only [Act.put, List.setIfInBounds_toArray, List.set_cons_zero, List.set_cons_succ]
                        refine take_held 5 q0.s rfl (by kernel_rfl) (by kernel_rfl) (by kernel_rfl) (fun _ _ _ h => h) (by kernel_rfl) (v := ?v10) ?y10 ?r10
                        case y10 => (intro u hu; have zz0 := (cell_of hu.2.2 1).trans rfl; go_simp; try rfl)
                        simp only [Act.put, List.setIfInBounds_toArray, List.set_cons_zero, List.set_cons_succ]
                        refine take_held 7 q0.s rfl (by kernel_rfl) (by kernel_rfl) (by kernel_rfl) (fun _ _ _ h => h) (by kernel_rfl) (v := ?v11) ?y11 ?r11
                        case y11 => (intro u hu; go_simp; try rfl)
                        simp only [Act.put, List.setIfInBounds_toArray, List.set_cons_zero, List.set_cons_succ]
                        refine take_held 8 q0.s rfl (by kernel_rfl) (by kernel_rfl) (by kernel_rfl) (fun _ _ _ h => h) (by kernel_rfl) (v := ?v12) ?y12 ?r12
                        case y12 => (intro u hu; have zz0 := (cell_of hu.2.2 2).trans rfl; go_simp; try rfl)
                        simp only [Act.put, List.setIfInBounds_toArray, List.set_cons_zero, List.set_cons_succ]
                        refine take_held 10 q0.s rfl (by kernel_rfl) (by kernel_rfl) (by kernel_rfl) (fun _ _ _ h => h) (by kernel_rfl) (v := ?v13) ?y13 ?r13
                        case y13 => (intro u hu; go_simp; try rfl)
                        simp only [Act.put, List.setIfInBounds_toArray, List.set_cons_zero, List.set_cons_succ]
                        refine take_held 11 q0.s rfl (by kernel_rfl) (by kernel_rfl) (by kernel_rfl) (fun _ _ _ h => h) (by kernel_rfl) (v := ?v14) ?y14 ?r14
                        case y14 => (intro u hu; have zz0 := (cell_of hu.2.2 3).trans rfl; go_simp; try rfl)
                        simp only [Act.put, List.setIfInBounds_toArray, List.set_cons_zero, List.set_cons_succ]
                        refine call_held 3 rfl (by kernel_rfl) (by kernel_rfl) 33 #[u3, .int .i64 ja] (by go_simp) _ (refnum_any _ _ _ ja m0 o1 (by (try simp only [List.length_append, List.length_nil]); omega)) ?_
                        rintro e1 y1 ⟨b1, rfl, m1, g1⟩
                        have q1 := q0.put m1 g1
                        refine Or.inl ⟨_, rfl, q1.s, ?_⟩
                        simp only [Act.put, List.setIfInBounds_toArray, List.set_cons_zero, List.set_cons_succ]
                        refine call_held 6 rfl (by kernel_rfl) (by kernel_rfl) 33 #[b1, .int .i64 jb] (by go_simp) _ (refnum_any _ _ _ jb m1 o2 (by (try simp only [List.length_append, List.length_nil]); omega)) ?_
                        rintro e2 y2 ⟨b2, rfl, m2, g2⟩
                        have q2 := q1.put m2 g2
                        refine Or.inl ⟨_, rfl, q2.s, ?_⟩
                        simp only [Act.put, List.setIfInBounds_toArray, List.set_cons_zero, List.set_cons_succ]
                        refine call_held 9 rfl (by kernel_rfl) (by kernel_rfl) 33 #[b2, .int .i64 jc] (by go_simp) _ (refnum_any _ _ _ jc m2 o3 (by (try simp only [List.length_append, List.length_nil]); omega)) ?_
                        rintro e3 y3 ⟨b3, rfl, m3, g3⟩
                        have q3 := q2.put m3 g3
                        refine Or.inl ⟨_, rfl, q3.s, ?_⟩
                        simp only [Act.put, List.setIfInBounds_toArray, List.set_cons_zero, List.set_cons_succ]
                        refine call_held 12 rfl (by kernel_rfl) (by kernel_rfl) 33 #[b3, .int .i64 jd] (by go_simp) _ (refnum_any _ _ _ jd m3 o4 (by (try simp only [List.length_append, List.length_nil]); omega)) ?_
                        rintro e4 y4 ⟨b4, rfl, m4, g4⟩
                        have q4 := q3.put m4 g4
                        refine Or.inl ⟨_, rfl, q4.s, ?_⟩
                        simp only [Act.put, List.setIfInBounds_toArray, List.set_cons_zero, List.set_cons_succ]
                        refine take_held 13 q4.s rfl (by kernel_rfl) (by kernel_rfl) (by kernel_rfl) (fun _ _ _ h => h) (by kernel_rfl) (v := ?v15) ?y15 ?r15
                        case y15 => (intro u hu; go_simp; try rfl)
                        simp only [Act.put, List.setIfInBounds_toArray, List.set_cons_zero, List.set_cons_succ]
                        refine done_held (by kernel_rfl) ?_ _
                        go_wp2_with fail
                        go_meet
                        have qq := q4
                        simp only [List.append_assoc, List.nil_append] at qq ⊢
                        exact qq
                      case rest =>
                      have q2 := hcut
                      clear hcut
                      go_upto_region 31 with fail
                      have q0 := q2.drew
                      have m0 := q0.mine
                      refine start_held (S := Sx w row P 108 #[.int .i64 ja, .int .i64 jb, .int .i64 jc, .int .i64 jd, .int .i64 fx, .int .i64 fy, .int .i64 tx, .int .i64 ty, .int .i64 jr]) 11 rfl (by kernel_rfl) (q0.s) ?_
                      simp only [Array.replicate_succ, Array.replicate_zero, List.push_toArray, List.nil_append, List.cons_append]
                      refine take_held 0 q0.s rfl (by kernel_rfl) (by kernel_rfl) (by kernel_rfl) (fun _ _ _ h => h) (by kernel_rfl) (v := ?v16) ?y16 ?r16
                      case y16 => (intro u hu; go_simp; try rfl)
                      simp only [Act.put, List.setIfInBounds_toArray, List.set_cons_zero, List.set_cons_succ]
                      refine take_held 1 q0.s rfl (by kernel_rfl) (by kernel_rfl) (by kernel_rfl) (fun _ _ _ h => h) (by kernel_rfl) (v := ?v17) ?y17 ?r17
                      case y17 => (intro u hu; go_simp; try rfl)
                      simp only [Act.put, List.setIfInBounds_toArray, List.set_cons_zero, List.set_cons_succ]
                      refine take_held 2 q0.s rfl (by kernel_rfl) (by kernel_rfl) (by kernel_rfl) (fun _ _ _ h => h) (by kernel_rfl) (v := .agg #[.int .i64 fx, .int .i64 fy]) ?y18 ?r18
                      case y18 => (intro u hu; exact run_load_at 23 _ rfl ⟨P, 4, none⟩ #[.int .i64 fx, .int .i64 fy] rfl (run_loadVar_at _ _ _ _ (mid_two hu.2.2 4 rfl rfl) (aggCell3 _) zCell4))
                      simp only [Act.put, List.setIfInBounds_toArray, List.set_cons_zero, List.set_cons_succ]
                      refine take_held 4 q0.s rfl (by kernel_rfl) (by kernel_rfl) (by kernel_rfl) (fun _ _ _ h => h) (by kernel_rfl) (v := ?v19) ?y19 ?r19
                      case y19 => (intro u hu; go_simp; try rfl)
                      simp only [Act.put, List.setIfInBounds_toArray, List.set_cons_zero, List.set_cons_succ]
                      refine take_held 5 q0.s rfl (by kernel_rfl) (by kernel_rfl) (by kernel_rfl) (fun _ _ _ h => h) (by kernel_rfl) (v := .agg #[.int .i64 tx, .int .i64 ty]) ?y20 ?r20
                      case y20 => (intro u hu; exact run_load_at 23 _ rfl ⟨P, 6, none⟩ #[.int .i64 tx, .int .i64 ty] rfl (run_loadVar_at _ _ _ _ (mid_two hu.2.2 6 rfl rfl) (aggCell3 _) zCell4))
                      simp only [Act.put, List.setIfInBounds_toArray, List.set_cons_zero, List.set_cons_succ]
                      refine take_held 7 q0.s rfl (by kernel_rfl) (by kernel_rfl) (by kernel_rfl) (fun _ _ _ h => h) (by kernel_rfl) (v := ?v21) ?y21 ?r21
                      case y21 => (intro u hu; go_simp; try rfl)
                      simp only [Act.put, List.setIfInBounds_toArray, List.set_cons_zero, List.set_cons_succ]
                      refine take_held 8 q0.s rfl (by kernel_rfl) (by kernel_rfl) (by kernel_rfl) (fun _ _ _ h => h) (by kernel_rfl) (v := ?v22) ?y22 ?r22
                      case y22 => (intro u hu; have zz0 := (cell_of hu.2.2 8).trans rfl; go_simp; try rfl)
                      simp only [Act.put, List.setIfInBounds_toArray, List.set_cons_zero, List.set_cons_succ]
                      refine call_held 3 rfl (by kernel_rfl) (by kernel_rfl) 56 #[u3, .agg #[.int .i64 fx, .int .i64 fy]] (by go_simp) _ (refcell_any _ _ _ fx fy m0 o5 (by (try simp only [List.length_append, List.length_nil]); omega)) ?_
                      rintro e1 y1 ⟨b1, rfl, m1, g1⟩
                      have q1 := q0.put m1 g1
                      refine Or.inl ⟨_, rfl, q1.s, ?_⟩
                      simp only [Act.put, List.setIfInBounds_toArray, List.set_cons_zero, List.set_cons_succ]
                      refine call_held 6 rfl (by kernel_rfl) (by kernel_rfl) 56 #[b1, .agg #[.int .i64 tx, .int .i64 ty]] (by go_simp) _ (refcell_any _ _ _ tx ty m1 o6 (by (try simp only [List.length_append, List.length_nil]); omega)) ?_
                      rintro e2 y2 ⟨b2, rfl, m2, g2⟩
                      have q2 := q1.put m2 g2
                      refine Or.inl ⟨_, rfl, q2.s, ?_⟩
                      simp only [Act.put, List.setIfInBounds_toArray, List.set_cons_zero, List.set_cons_succ]
                      refine call_held 9 rfl (by kernel_rfl) (by kernel_rfl) 33 #[b2, .int .i64 jr] (by go_simp) _ (refnum_any _ _ _ jr m2 o7 (by (try simp only [List.length_append, List.length_nil]); omega)) ?_
                      rintro e3 y3 ⟨b3, rfl, m3, g3⟩
                      have q3 := q2.put m3 g3
                      refine Or.inl ⟨_, rfl, q3.s, ?_⟩
                      simp only [Act.put, List.setIfInBounds_toArray, List.set_cons_zero, List.set_cons_succ]
                      refine take_held 10 q3.s rfl (by kernel_rfl) (by kernel_rfl) (by kernel_rfl) (fun _ _ _ h => h) (by kernel_rfl) (v := ?v23) ?y23 ?r23
                      case y23 => (intro u hu; go_simp; try rfl)
                      simp only [Act.put, List.setIfInBounds_toArray, List.set_cons_zero, List.set_cons_succ]
                      refine done_held (by kernel_rfl) ?_ _
                      have q9 : Bs w row P 108 #[.int .i64 ja, .int .i64 jb, .int .i64 jc, .int .i64 jd, .int .i64 fx, .int .i64 fy, .int .i64 tx, .int .i64 ty, .int .i64 jr] y3 b3 ((Z4 ++ ((ys.take k).map Prod.fst).flatMap cJob.put) ++ (num ja ++ (num jb ++ (num jc ++ (num jd ++ (cCell.put (fx, fy) ++ (cCell.put (tx, ty) ++ num jr))))))) := by
                        have qq := q3
                        simp only [List.append_assoc, List.nil_append] at qq ⊢
                        exact qq
                      have q3 := q9.plain
                      go_wp2_with fail
                      go_roundw
                      case rel => exact ⟨k + 1, by omega, by go_num, by rw [HS.out, ← List.append_assoc]; exact q3⟩
                      case measure => simp [intOf]; omega
                    · obtain rfl : n4 = k := by omega
                      have hd : decide ((n4 : Int) < (n4 : Int)) = false := decide_eq_false (by omega)
                      rw [List.take_of_length_le (by rw [HN.out]; omega), hys.out.1] at q
                      obtain ⟨Y5, hY5⟩ : ∃ Y, Y = Y4 ++ (list cJob).put xs4 := ⟨_, rfl⟩
                      have hYe : Z4 ++ xs4.flatMap cJob.put = Y5 := by rw [hY5, hZ4, list_put, List.append_assoc, ← hnh4.out]
                      rw [hYe] at q
                      have hYl : Y5.length = Y4.length + ((list cJob).put xs4).length := by rw [hY5, List.length_append]
                      clear hYe HN HP hcell hel hzl hk
                      go_upto_region 32 with fail
                      go_cut [2] (fun v wx => Bs w row w.heap.size 57 row wx v (Y5 ++ (num no ++ num nj)))
                      case first =>
                        have q0 := q.drew
                        have m0 := q0.mine
                        refine start_held (S := Sx w row w.heap.size 57 row) 8 rfl (by kernel_rfl) (q0.s) ?_
                        simp only [Array.replicate_succ, Array.replicate_zero, List.push_toArray, List.nil_append, List.cons_append]
                        refine take_held 0 q0.s rfl (by kernel_rfl) (by kernel_rfl) (by kernel_rfl) (fun _ _ _ h => h) (by kernel_rfl) (v := ?v0) ?y0 ?r0
                        case y0 => (intro u hu; go_simp; try rfl)
                        simp only [Act.put, List.setIfInBounds_toArray, List.set_cons_zero, List.set_cons_succ]
                        refine take_held 1 q0.s rfl (by kernel_rfl) (by kernel_rfl) (by kernel_rfl) (fun _ _ _ h => h) (by kernel_rfl) (v := ?v1) ?y1 ?r1
                        case y1 => (intro u hu; go_simp; try rfl)
                        simp only [Act.put, List.setIfInBounds_toArray, List.set_cons_zero, List.set_cons_succ]
                        refine take_held 2 q0.s rfl (by kernel_rfl) (by kernel_rfl) (by kernel_rfl) (fun _ _ _ h => h) (by kernel_rfl) (v := ?v2) ?y2 ?r2
                        case y2 => (intro u hu; have zz0 := X8.out _ _ _ u hu; go_simp; try rfl)
                        simp only [Act.put, List.setIfInBounds_toArray, List.set_cons_zero, List.set_cons_succ]
                        refine take_held 4 q0.s rfl (by kernel_rfl) (by kernel_rfl) (by kernel_rfl) (fun _ _ _ h => h) (by kernel_rfl) (v := ?v3) ?y3 ?r3
                        case y3 => (intro u hu; go_simp; try rfl)
                        simp only [Act.put, List.setIfInBounds_toArray, List.set_cons_zero, List.set_cons_succ]
                        refine take_held 5 q0.s rfl (by kernel_rfl) (by kernel_rfl) (by kernel_rfl) (fun _ _ _ h => h) (by kernel_rfl) (v := ?v4) ?y4 ?r4
                        case y4 => (intro u hu; have zz0 := X9.out _ _ _ u hu; go_simp; try rfl)
                        simp only [Act.put, List.setIfInBounds_toArray, List.set_cons_zero, List.set_cons_succ]
                        refine call_held 3 rfl (by kernel_rfl) (by kernel_rfl) 33 #[u3, .int .i64 no] (by go_simp) _ (refnum_any _ _ _ no m0 o8 (by (try simp only [List.length_append, List.length_nil]); omega)) ?_
                        rintro e1 y1 ⟨b1, rfl, m1, g1⟩
                        have q1 := q0.put m1 g1
                        refine Or.inl ⟨_, rfl, q1.s, ?_⟩
                        simp only [Act.put, List.setIfInBounds_toArray, List.set_cons_zero, List.set_cons_succ]
                        refine call_held 6 rfl (by kernel_rfl) (by kernel_rfl) 33 #[b1, .int .i64 nj] (by go_simp) _ (refnum_any _ _ _ nj m1 o9 (by (try simp only [List.length_append, List.length_nil]); omega)) ?_
                        rintro e2 y2 ⟨b2, rfl, m2, g2⟩
                        have q2 := q1.put m2 g2
                        refine Or.inl ⟨_, rfl, q2.s, ?_⟩
                        simp only [Act.put, List.setIfInBounds_toArray, List.set_cons_zero, List.set_cons_succ]
                        refine take_held 7 q2.s rfl (by kernel_rfl) (by kernel_rfl) (by kernel_rfl) (fun _ _ _ h => h) (by kernel_rfl) (v := ?v5) ?y5 ?r5
                        case y5 => (intro u hu; go_simp; try rfl)
                        simp only [Act.put, List.setIfInBounds_toArray, List.set_cons_zero, List.set_cons_succ]
                        refine done_held (by kernel_rfl) ?_ _
                        go_wp2_with fail
                        go_meet
                        have qq := q2
                        simp only [List.append_assoc, List.nil_append] at qq ⊢
                        exact qq
                      case rest =>
                      have q2 := hcut
                      have eT : num sq ++ (num ep ++ (cFlag.put he ++ ((list cStack).put xs0 ++ ((list cRobot).put xs1 ++ ((list cPort).put xs2 ++ ((list cOrder).put xs3 ++ ((list cJob).put xs4 ++ (num no ++ num nj)))))))) = Y5 ++ (num no ++ num nj) := by
                        rw [hY5, hY4, hY3, hY2, hY1, hY0]
                        simp only [List.append_assoc]
                      go_wp2_with fail
                      go_ret
                      rw [eT]
                      exact ⟨_, rfl, q2.mine, q2.s.1, fun g hg => Nat.le_of_lt (q2.own g hg).1⟩
end Go.Proofs.Ythdgpadakmdlkaa.Codec
