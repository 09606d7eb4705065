/-
  inOrder: all items in the order in which they are taken, out of a copy, to whatever loop ranges over it.
-/
import Derived.Test.YtpbmkflkggeggaaHeapLaw
import Derived.Test.YtpbmkflkggeggaaHeapRange
import Derived.Maps.AppendAt
import Derived.Lib.AppendZeros
import Derived.WideLaws
namespace Go.Proofs.Ytpbmkflkggeggaa.Hp
set_option linter.unusedVariables false
set_option linter.unusedSimpArgs false
open Go Go.RowKit Go.Shelf Go.Proofs
attribute [local go_sem] Oper.semAt_some

theorem run_store_fn (P : Program) (w : World) (a : Addr) (m : Mode) (f : Fn) (x y : Array Value) : (store a (.func f x y) m).run P w = stored P w a (.func f x y) m := run_store P w a _ m rfl
attribute [local go_sem] run_store_fn
set_option maxRecDepth 100000 in
set_option maxHeartbeats 1000000 in
theorem clone_any (B : Nat) (x : Value) (l : List It) (w : World) (hr : w.ownsRow B 65 3 x l.length (rowL itL l)) (hm : l.length ≤ 1000000) :
    Calls Try.prog 51 #[x] w fun e w' => ∃ x', e = .returned x' ∧ w'.ownsRow w.heap.size 65 3 x' l.length (rowL itL l) ∧ Below w.heap.size w w' := by
  have hu := fun w a l c => eql_nil w 61 65 a l c Try.underlying61
  obtain ⟨i0, hi, hz0, hz1, hz2⟩ := info_parts infoIt
  rcases hr.2 with ⟨rfl, h0⟩ | ⟨g, cap, cur, rfl, hb, hg, hnc, hcm, hcs, htake⟩
  · obtain rfl : l = [] := List.eq_nil_of_length_eq_zero h0
    go_enter Try.func51, Try.ntmps51
    go_wp2
    go_ret
    exact ⟨_, rfl, World.ownsRow_nil _ _ _ _, Below.refl _ _⟩
  · have bA : Below w.heap.size w (w.alloc (.cells #[] 65)) := (Below.refl _ _).alloc (Nat.le_refl _) _
    have hrA := owns_go hr bA
    obtain ⟨v6, w6, hrun, o6, g6, _⟩ := run_append_own_at (P := Try.prog) (w.alloc (.cells #[] 65)) w.heap.size 61 61 65 i0 _ 3 24 Try.underlying61 hi hz0 hz1 hz2 rfl (by decide) (.slice (some ⟨w.heap.size, 0, none⟩) 0 0) 0 []
      (World.ownsRow_made w #[] 0 (Nat.le_refl _) (by decide) (by decide)) ⟨g, 0, none⟩ l.length cap (rowL itL l) (rowL_len itL_len l)
      (fun j z hj => by
        have hlt : j < l.length * 3 := by have := (List.getElem?_eq_some_iff.1 hj).1; rw [rowL_len itL_len] at this; exact this
        rw [Addr.add_lit, Nat.zero_add, hrA.cellAt j hlt]
        exact hj)
      (fun u hu => by
        obtain ⟨x, _, hx⟩ := List.mem_flatMap.1 hu
        simp [itL] at hx
        rcases hx with rfl | rfl | rfl <;> rfl) (by unfold maxLen; omega) (by omega) (by simp)
    have bR : Below w.heap.size w w6 := bA.grown g6 (by simp) (by intro k hk; simp [Value.ownBlock] at hk; omega)
    rw [Nat.zero_add, List.nil_append] at o6
    obtain ⟨xa, xc, rfl, _⟩ := own_form o6
    have HO : Hid (w6.ownsRow w.heap.size 65 3 (.slice xa l.length xc) l.length (rowL itL l)) := o6
    clear o6 hrA hg htake hcs hr g6
    generalize hn : l.length = n at *
    have HN : Hid (l.length = n) := hn
    clear hn
    go_enter Try.func51, Try.ntmps51
    go_wp2_with (at_builtin; refine Lib.wpList_append_run _ rfl _ _ 61 61 rfl _ _ rfl rfl _ _ hrun ?_)
    go_ret
    exact ⟨_, rfl, HO.out, bR⟩
/- What the iterator has of its own: the copy, its row, the item that is told. -/
structure Mine (N r : Nat) (v : Value) (l : List It) (q : Nat) (x : It) (V : World) : Prop where
  rest : HAt N V r v l 0
  box : V.heap[q]? = some (.cells #[.int .i64 x.k, .int .i64 x.n, .int .i64 (x.t : Nat)] 65 (0, 0))
  qN : N ≤ q
  qr : q ≠ r
  qv : v.ownBlock ≠ some q
theorem cells_at {V : World} {k o : Nat} {x : Value} (h : V.cell? ⟨k, o, none⟩ = some x) : ∃ ob, V.heap[k]? = some ob ∧ ob.isCells = true := by
  unfold World.cell? at h
  cases e : V.heap[k]? with
  | none => simp [e] at h
  | some ob =>
    refine ⟨ob, rfl, ?_⟩
    simp only [e] at h
    cases ob <;> first | rfl | simp at h
theorem row_at {V : World} {B : Nat} {e : TypeId} {S : Nat} {v : Value} {n : Nat} {xs : List Value} (h : V.ownsRow B e S v n xs) {k : Nat} (hk : v.ownBlock = some k) : ∃ ob, V.heap[k]? = some ob ∧ ob.isCells = true := by
  rcases h.2 with ⟨rfl, _⟩ | ⟨g, cap, cur, rfl, _, hg, _⟩
  · cases hk
  · cases hk
    exact ⟨_, hg, rfl⟩
theorem btw_tn {Cm : World → Nat → Prop} {N r : Nat} {v v' : Value} {l : List It} {c : Nat} {V V' : World} (h : HAt N V r v l c) (t : Tn r v v' V V') (hr : ¬ Cm V r) (hv : ∀ k, v.ownBlock = some k → ¬ Cm V k) : Btw Cm N V V' := by
  have hN := h.low
  obtain ⟨ob, ho1, ho2⟩ := cells_at h.less
  refine ⟨⟨t.size, fun k o hk hc => ?_⟩, t.os, t.tape, t.output, fun k hk q => t.block k hk (fun e => ?_) (fun e => ?_), by have := h.lt; omega⟩
  · refine (t.block k (lt_some hk) (fun e => ?_) (fun e => ?_)).trans hk
    · subst e
      rw [ho1] at hk
      exact not_cells ho2 hc (Option.some.inj hk)
    · obtain ⟨ob2, h1, h2⟩ := row_at h.row e
      rw [h1] at hk
      exact not_cells h2 hc (Option.some.inj hk)
  · subst e
    rcases q with q | q
    · omega
    · exact hr q
  · have := (own_since h.row k e).1
    rcases q with q | q
    · omega
    · exact hv k e q
theorem btw_set {Cm : World → Nat → Prop} {N q o : Nat} {x : Value} {V : World} (hq : ∃ ob, V.heap[q]? = some ob ∧ ob.isCells = true) (hN : N ≤ q) (hc : ¬ Cm V q) : Btw Cm N V (V.setCell ⟨q, o, none⟩ x) := by
  obtain ⟨ob, h1, h2⟩ := hq
  refine ⟨⟨by simp [World.setCell], fun k ob2 hk hb => ?_⟩, rfl, rfl, rfl, fun k hk w => Below.heap_setCell _ _ _ k (fun e => ?_), by have := lt_some h1; omega⟩
  · refine (Below.heap_setCell _ _ _ k (fun e => ?_)).trans hk
    have e' : k = q := e
    subst e'
    rw [h1] at hk
    exact not_cells h2 hb (Option.some.inj hk)
  · have e' : k = q := e
    subst e'
    rcases w with w | w
    · omega
    · exact hc w
/- How many are left; whether there is one. -/
def lenW (w : World) (r : Nat) : Nat := match w.cell? ⟨r, 1, none⟩ with
  | some (.slice _ n _) => n
  | _ => 0
def onB (v : Value) : Nat := match v with
  | .bool true => 1
  | _ => 0
theorem HAt.left {N r : Nat} {v : Value} {l : List It} {c : Nat} {V : World} (h : HAt N V r v l c) : lenW V r = l.length := by
  obtain ⟨a, cp, rfl, _⟩ := own_form h.row
  unfold lenW
  rw [h.items]
theorem take_next (N r : Nat) (v : Value) (l : List It) (p c : Nat) (s : List It) (V : World) (h : HAt N V r v l p) (hm : l.length ≤ 1000000) (hh : Holds l s c) :
    Calls Try.prog 38 #[.pointer (some ⟨r, 0, none⟩)] V fun e V' => ∃ (x : It) (o : Bool), e = .returned (.tuple #[.agg #[.int .i64 x.k, .int .i64 x.n, .int .i64 (x.t : Nat)], .bool o]) ∧ ∃ l' v', HAt N V' r v' l' p ∧ Tn r v v' V V' ∧ ((o = true ∧ ∃ s', s = x :: s' ∧ Holds l' s' c) ∨ (o = false ∧ s = [] ∧ l' = [])) := by
  cases s with
  | nil =>
    obtain rfl : l = [] := List.eq_nil_of_length_eq_zero hh.len
    refine (take_none N r v p V h).mono ?_
    rintro e V' ⟨rfl, b⟩
    exact ⟨⟨0, 0, 0⟩, false, rfl, [], v, h.go b, Tn.below b, Or.inr ⟨rfl, rfl, rfl⟩⟩
  | cons x s =>
    have hl0 : 0 < l.length := by rw [hh.len]; simp
    refine (take_any N r v l p V h hm hl0 hh.heap).mono ?_
    rintro e V' ⟨rfl, l', v', h', q1, q2, t⟩
    rw [hh.first hl0]
    exact ⟨x, true, rfl, l', v', h', t, Or.inl ⟨rfl, s, rfl, hh.out hl0 q1 q2⟩⟩
theorem box_put {V : World} {q : Nat} {a b c : Value} {t : TypeId} (h : V.heap[q]? = some (.cells #[a, b, c] t (0, 0))) (x : It) :
    (((V.setCell ⟨q, 0, none⟩ (.int .i64 x.k)).setCell ⟨q, 1, none⟩ (.int .i64 x.n)).setCell ⟨q, 2, none⟩ (.int .i64 (x.t : Nat))).heap[q]? = some (.cells #[.int .i64 x.k, .int .i64 x.n, .int .i64 (x.t : Nat)] t (0, 0)) := by
  have hl := lt_some h
  simp [World.setCell, Array.getElem?_modify, h]
theorem btw_put {Cm : World → Nat → Prop} {N q : Nat} {V : World} {ob : Obj} (hN : N ≤ q) (h : V.heap[q]? = some ob) (hc : ¬ Cm V q) (x : It) (hb : ob.isCells = true := by rfl) :
    Btw Cm N V (((V.setCell ⟨q, 0, none⟩ (.int .i64 x.k)).setCell ⟨q, 1, none⟩ (.int .i64 x.n)).setCell ⟨q, 2, none⟩ (.int .i64 (x.t : Nat))) := by
  have o : ∀ k, k ≠ q → (((V.setCell ⟨q, 0, none⟩ (.int .i64 x.k)).setCell ⟨q, 1, none⟩ (.int .i64 x.n)).setCell ⟨q, 2, none⟩ (.int .i64 (x.t : Nat))).heap[k]? = V.heap[k]? := fun k hk => (Below.heap_setCell _ _ _ k hk).trans ((Below.heap_setCell _ _ _ k hk).trans (Below.heap_setCell _ _ _ k hk))
  refine ⟨⟨by simp [World.setCell], fun k ob2 hk h2 => (o k fun e => ?_).trans hk⟩, rfl, rfl, rfl, fun k hk z => o k fun e => ?_, by have := lt_some h; omega⟩
  · subst e
    rw [h] at hk
    exact not_cells hb h2 (Option.some.inj hk)
  · subst e
    rcases z with z | z
    · omega
    · exact hc z
theorem rest_at {N r : Nat} {V : World} {v x0 x1 x2 : Value} {l : List It} (o : V.ownsRow N 65 3 v l.length (rowL itL l)) (c0 : V.cell? ⟨r, 0, none⟩ = some x0) (c1 : V.cell? ⟨r, 1, none⟩ = some x1) (c2 : V.cell? ⟨r, 2, none⟩ = some x2) (f : ∀ o, V.frozen? ⟨r, o, none⟩ = false) (ap : v.ownBlock ≠ some r) (hr : N ≤ r) :
    HAt N (((V.setCell ⟨r, 0, none⟩ (.func (.func 12) #[] #[])).setCell ⟨r, 1, none⟩ v).setCell ⟨r, 2, none⟩ (.int .i64 0)) r v l 0 := by
  refine ⟨?_, ?_, ?_, fun o => by rw [World.frozen?_setCell, World.frozen?_setCell, World.frozen?_setCell]; exact f o, ?_, ap, hr⟩
  · exact (World.cell?_setCell_other _ _ _ _ (by intro e; cases e)).trans ((World.cell?_setCell_other _ _ _ _ (by intro e; cases e)).trans (World.cell?_setCell_same _ _ _ c0))
  · exact (World.cell?_setCell_other _ _ _ _ (by intro e; cases e)).trans (World.cell?_setCell_same _ _ _ ((World.cell?_setCell_other _ _ _ _ (by intro e; cases e)).trans c1))
  · exact World.cell?_setCell_same _ _ _ ((World.cell?_setCell_other _ _ _ _ (by intro e; cases e)).trans ((World.cell?_setCell_other _ _ _ _ (by intro e; cases e)).trans c2))
  · exact owns_same o fun k hk => (Below.heap_setCell _ _ _ k (fun e => ap (by rw [hk]; exact congrArg some e))).trans ((Below.heap_setCell _ _ _ k (fun e => ap (by rw [hk]; exact congrArg some e))).trans (Below.heap_setCell _ _ _ k (fun e => ap (by rw [hk]; exact congrArg some e))))
set_option maxRecDepth 100000 in
set_option maxHeartbeats 4000000 in
theorem inorder_in (n y Bh b B : Nat) (v : Value) (s : List It) (c : Nat) (Cm : World → Nat → Prop) (N : Nat) (J Jx : List It → World → Prop) (W : World) (hN : N ≤ W.heap.size) (hn : 1 ≤ n)
    (hJ : ∀ p V V', J p V → Btw Cm N V V' → J p V') (hC1 : ∀ V V' k, Btw Cm N V V' → Cm V' k → Cm V k) (hC0 : ∀ p V k, J p V → Cm V k → k < V.heap.size)
    (hY : ∀ pre x W1, J pre W1 → pre.length < s.length → YieldAt Fence.wide (n - 1) Try.prog y #[.agg #[.int .i64 x.k, .int .i64 x.n, .int .i64 (x.t : Nat)]] W1 fun e W' => (e = .returned (.bool true) ∧ J (pre ++ [x]) W' ∧ Rnd Cm N W1 W') ∨ (e = .returned (.bool false) ∧ Jx (pre ++ [x]) W'))
    (hH : HpAt B W b v s c) (hm : s.length ≤ 1000000) (hBh : W.cell? ⟨Bh, 0, none⟩ = some (.pointer (some ⟨b, 0, none⟩))) (h0 : J [] W) :
    CallsIn Fence.wide n Try.prog 50 #[.func (.yield y) #[] #[], .pointer (some ⟨Bh, 0, none⟩)] W fun e W' => (∃ v, e = .returned v) ∧ ((J s W') ∨ ∃ pre, (∃ m, m < s.length ∧ pre = s.take (m + 1)) ∧ Jx pre W') := by
  obtain ⟨l, hA, hh⟩ := hH
  have hbl := hA.lt
  have h1 := hA.less
  have h2 := hA.items
  unfold LessV at h1
  have hll : l.length ≤ 1000000 := by rw [hh.len]; exact hm
  have cC := fun (u : World) (hu : Below W.heap.size W u) => (clone_any B v l u (hA.go hu).row hll)
  obtain ⟨va, vc, rfl, _⟩ := own_form hA.row
  have hBl := World.block_lt_of_cell? W _ hBh
  simp only at hBl
  refine callsIn_of_wp Try.func50 rfl trivial ?_ rfl
  simp only [Try.ntmps50, List.size_toArray, List.length_cons, List.length_nil, Nat.reduceAdd, Nat.reduceSub, Array.replicate_succ, Array.replicate_zero, List.push_toArray, List.append_toArray, List.nil_append, List.cons_append]
  gi_wp2
  refine wpIn_wide.2 ?_
  obtain ⟨IH, hIH⟩ : ∃ I : World → Prop, I = Below W.heap.size W := ⟨_, rfl⟩
  have kI : ∀ u, IH u → Below W.heap.size W u := fun u hu => by rw [hIH] at hu; exact hu
  have hS : IH W.drew := by rw [hIH]; exact (Below.refl _ _).drew
  have L0 := fun u hu => ((kI u hu).cell (p := ⟨Bh, 0, none⟩) hBl).trans hBh
  have L1 := fun u hu => ((kI u hu).cell (p := ⟨b, 0, none⟩) hbl).trans h1
  have L2 := fun u hu => ((kI u hu).cell (p := ⟨b, 1, none⟩) hbl).trans h2
  refine calm_wp ?_
  refine start_held (S := IH) 12 rfl (by kernel_rfl) (hS) ?_
  simp only [Array.replicate_succ, Array.replicate_zero, List.push_toArray, List.nil_append, List.cons_append]
  refine take_held 0 (by assumption) rfl (by kernel_rfl) (by kernel_rfl) (by kernel_rfl) (fun _ _ _ h => h) (by kernel_rfl) (v := ?v0) ?y0 ?r0
  case y0 => (intro u hu; have zz0 := L0 u hu; go_simp; try rfl)
  simp only [Act.put, List.setIfInBounds_toArray, List.set_cons_zero, List.set_cons_succ]
  refine take_held 1 (by assumption) rfl (by kernel_rfl) (by kernel_rfl) (by kernel_rfl) (fun _ _ _ h => h) (by kernel_rfl) (v := ?v1) ?y1 ?r1
  case y1 => (intro u hu; go_simp; try rfl)
  simp only [Act.put, List.setIfInBounds_toArray, List.set_cons_zero, List.set_cons_succ]
  refine take_held 2 (by assumption) rfl (by kernel_rfl) (by kernel_rfl) (by kernel_rfl) (fun _ _ _ h => h) (by kernel_rfl) (v := ?v2) ?y2 ?r2
  case y2 => (intro u hu; go_simp; try rfl)
  simp only [Act.put, List.setIfInBounds_toArray, List.set_cons_zero, List.set_cons_succ]
  refine take_held 3 (by assumption) rfl (by kernel_rfl) (by kernel_rfl) (by kernel_rfl) (fun _ _ _ h => h) (by kernel_rfl) (v := ?v3) ?y3 ?r3
  case y3 => (intro u hu; have zz0 := L1 u hu; go_simp; try rfl)
  simp only [Act.put, List.setIfInBounds_toArray, List.set_cons_zero, List.set_cons_succ]
  refine take_held 4 (by assumption) rfl (by kernel_rfl) (by kernel_rfl) (by kernel_rfl) (fun _ _ _ h => h) (by kernel_rfl) (v := ?v4) ?y4 ?r4
  case y4 => (intro u hu; have zz0 := L0 u hu; go_simp; try rfl)
  simp only [Act.put, List.setIfInBounds_toArray, List.set_cons_zero, List.set_cons_succ]
  refine take_held 5 (by assumption) rfl (by kernel_rfl) (by kernel_rfl) (by kernel_rfl) (fun _ _ _ h => h) (by kernel_rfl) (v := ?v5) ?y5 ?r5
  case y5 => (intro u hu; go_simp; try rfl)
  simp only [Act.put, List.setIfInBounds_toArray, List.set_cons_zero, List.set_cons_succ]
  refine take_held 6 (by assumption) rfl (by kernel_rfl) (by kernel_rfl) (by kernel_rfl) (fun _ _ _ h => h) (by kernel_rfl) (v := ?v6) ?y6 ?r6
  case y6 => (intro u hu; go_simp; try rfl)
  simp only [Act.put, List.setIfInBounds_toArray, List.set_cons_zero, List.set_cons_succ]
  refine take_held 7 (by assumption) rfl (by kernel_rfl) (by kernel_rfl) (by kernel_rfl) (fun _ _ _ h => h) (by kernel_rfl) (v := ?v7) ?y7 ?r7
  case y7 => (intro u hu; have zz0 := L2 u hu; go_simp; try rfl)
  simp only [Act.put, List.setIfInBounds_toArray, List.set_cons_zero, List.set_cons_succ]
  refine wpAnyH_ready (rs := [8, 10]) (by kernel_rfl) (by simp) (AllReadyH.cons ((nth_eq _ 8).trans rfl) ?_ (AllReadyH.cons ((nth_eq _ 10).trans rfl) ?_ AllReadyH.nil))
  · intro K' hK
    refine call_in hK (by kernel_rfl) 51 #[.slice va l.length vc] (by go_simp) _ (cC _ (Below.refl _ _).drew) ?_
    rintro v wC ⟨oC, bC⟩
    obtain ⟨xa, xc, rfl, _⟩ := own_form oC
    have BC : Below W.heap.size W wC := (Below.refl _ _).drew.trans (bC.mono (by simp))
    have SC : IH wC := by rw [hIH]; exact BC
    refine ⟨SC, ?_⟩
    simp only [Act.put, List.setIfInBounds_toArray, List.set_cons_zero, List.set_cons_succ]
    refine take_held 9 (by assumption) rfl (by kernel_rfl) (by kernel_rfl) (by kernel_rfl) (fun _ _ _ h => h) (by kernel_rfl) (v := ?v8) ?y8 ?r8
    case y8 => (intro u hu; go_simp; try rfl)
    simp only [Act.put, List.setIfInBounds_toArray, List.set_cons_zero, List.set_cons_succ]
    refine wpAnyH_ready (rs := [10]) (by kernel_rfl) (by simp) (AllReadyH.cons ((nth_eq _ 10).trans rfl) ?_ AllReadyH.nil)
    intro K' hK
    refine value_in hK (by kernel_rfl) (.pointer (some ⟨wC.heap.size, 0, none⟩)) (wC.alloc (.cells #[.nilFunc, .slice none 0 0, .int .i64 0] 63)) (by go_simp; try rfl) (by rw [hIH]; exact BC.alloc BC.size _) ?_
    simp only [Act.put, List.setIfInBounds_toArray, List.set_cons_zero, List.set_cons_succ]
    refine wpAnyH_ready (rs := [11]) (by kernel_rfl) (by simp) (AllReadyH.cons ((nth_eq _ 11).trans rfl) ?_ AllReadyH.nil)
    intro K' hK
    refine skip_in hK (by kernel_rfl) ((((wC.alloc (.cells #[.nilFunc, .slice none 0 0, .int .i64 0] 63)).setCell ⟨wC.heap.size, 0, none⟩ (.func (.func 12) #[] #[])).setCell ⟨wC.heap.size, 1, none⟩ (.slice xa l.length xc)).setCell ⟨wC.heap.size, 2, none⟩ (.int .i64 0)) (by go_simp; try rfl) (by rw [hIH]; exact (((BC.alloc BC.size _).setCell (p := ⟨wC.heap.size, 0, none⟩) (BC.size) _).setCell (p := ⟨wC.heap.size, 1, none⟩) (BC.size) _).setCell (p := ⟨wC.heap.size, 2, none⟩) (BC.size) _) ?_
    simp only [Act.put, List.setIfInBounds_toArray, List.set_cons_zero, List.set_cons_succ]
    refine done_held (by kernel_rfl) ?_ _
    obtain ⟨X, hX⟩ : ∃ X, (((wC.alloc (.cells #[.nilFunc, .slice none 0 0, .int .i64 0] 63)).setCell ⟨wC.heap.size, 0, none⟩ (.func (.func 12) #[] #[])).setCell ⟨wC.heap.size, 1, none⟩ (.slice xa l.length xc)).setCell ⟨wC.heap.size, 2, none⟩ (.int .i64 0) = X := ⟨_, rfl⟩
    have bX : Below W.heap.size W X := by rw [← hX]; exact (((BC.alloc BC.size _).setCell (p := ⟨wC.heap.size, 0, none⟩) (BC.size) _).setCell (p := ⟨wC.heap.size, 1, none⟩) (BC.size) _).setCell (p := ⟨wC.heap.size, 2, none⟩) (BC.size) _
    have HX : HAt N X wC.heap.size (.slice xa l.length xc) l 0 := by rw [← hX]; exact rest_at (x0 := .nilFunc) (x1 := .slice none 0 0) (x2 := .int .i64 0) (owns_go (owns_base hN oC) ((Below.refl _ _).alloc (Nat.le_refl _) _)) (by simp) (by simp) (by simp) (fun o => by simp) (fun e => by have := (own_since oC _ e).2; omega) (Nat.le_trans hN BC.size)
    obtain ⟨r, hr⟩ : ∃ r, wC.heap.size = r := ⟨_, rfl⟩
    have hrW : W.heap.size ≤ r := by rw [← hr]; exact BC.size
    have hoW : ∀ k, (Value.slice xa l.length xc).ownBlock = some k → W.heap.size ≤ k := fun k hk => (own_since oC k hk).1
    rw [hr] at HX
    simp only [calm]
    rw [hX, hr]
    try rw [hr]
    clear hX hr oC bC SC BC hIH kI hS L0 L1 L2
    generalize Value.slice xa l.length xc = v1 at HX hoW ⊢
    have jX : J [] X := hJ _ _ _ h0 (Btw.below bX hN)
    have cX : ∀ k, Cm X k → k < W.heap.size := fun k hk => hC0 _ _ k h0 (hC1 _ _ k (Btw.below bX hN) hk)
    have rX : ¬ Cm X r := fun q => by have := cX r q; omega
    have vX : ∀ k, v1.ownBlock = some k → ¬ Cm X k := fun k hk q => by have := cX k q; have := hoW k hk; omega
    have cT := take_next N r v1 l 0 c s X HX hll hh
    gi_wp2_with (refine ⟨trivial, ?_⟩; gi_at_call 38; refine (callsIn_wide.2 cT).mono ?_; rintro e w1 ⟨x1, o1, rfl, l1, v2, h1', t1, st1⟩)
    have B1 := btw_tn HX t1 rX vX
    have j1 := hJ _ _ _ jX B1
    have r1 : ¬ Cm w1 r := fun q => rX (hC1 _ _ _ B1 q)
    have vv1 : ∀ k, v2.ownBlock = some k → ¬ Cm w1 k := fun k hk q => by
      rcases t1.own k hk with e | e
      · exact vX k e (hC1 _ _ _ B1 q)
      · have := hC0 _ _ _ jX (hC1 _ _ _ B1 q); omega
    obtain ⟨X2, hX2⟩ : ∃ X2, w1.alloc (.cells #[.int .i64 x1.k, .int .i64 x1.n, .int .i64 (x1.t : Nat)] 65) = X2 := ⟨_, rfl⟩
    have b2 : Below w1.heap.size w1 X2 := by rw [← hX2]; exact (Below.refl _ _).alloc (Nat.le_refl _) _
    have hN2 : N ≤ w1.heap.size := by have := bX.size; have := t1.size; omega
    have q2 : X2.heap[w1.heap.size]? = some (.cells #[.int .i64 x1.k, .int .i64 x1.n, .int .i64 (x1.t : Nat)] 65 (0, 0)) := by rw [← hX2]; exact World.alloc_heap_new _ _
    have M2 : Hid (Mine N r v2 l1 w1.heap.size x1 X2) := ⟨h1'.go b2, q2, by have := bX.size; have := t1.size; omega, by have := h1'.lt; omega, fun e => by have := (own_since h1'.row _ e).2; omega⟩
    have C2 : Hid (¬ Cm X2 r ∧ ¬ Cm X2 w1.heap.size ∧ ∀ k, v2.ownBlock = some k → ¬ Cm X2 k) := ⟨fun q => r1 (hC1 _ _ _ (Btw.below b2 hN2) q), fun q => by have := hC0 _ _ _ j1 (hC1 _ _ _ (Btw.below b2 hN2) q); omega, fun k hk q => vv1 k hk (hC1 _ _ _ (Btw.below b2 hN2) q)⟩
    have S2 : Hid ((o1 = true ∧ 0 < s.length ∧ s[0]? = some x1 ∧ Holds l1 (s.drop (0 + 1)) c) ∨ (o1 = false ∧ 0 = s.length)) := by
      rcases st1 with ⟨e1, s', e2, e3⟩ | ⟨e1, e2, _⟩
      · exact Or.inl ⟨e1, by rw [e2]; simp, by rw [e2]; rfl, by rw [e2]; exact e3⟩
      · exact Or.inr ⟨e1, by rw [e2]; rfl⟩
    have J2 : J (s.take 0) X2 := hJ _ _ _ j1 (Btw.below b2 hN2)
    try rw [hX2]
    clear hX2 b2 q2 j1 r1 vv1 B1 jX cX rX vX cT hoW HX t1 st1 h1' hA h1 h2 hBh hbl cC bX hrW
    gi_loopw [4, 5] (fun a4 a5 wr => ∃ (j q : Nat) (x : It) (o : Bool) (v : Value) (l : List It), a4 = .pointer (some ⟨q, 0, none⟩) ∧ a5 = .bool o ∧ Hid (Mine N r v l q x wr) ∧ Hid (¬ Cm wr r ∧ ¬ Cm wr q ∧ ∀ k, v.ownBlock = some k → ¬ Cm wr k) ∧ Hid ((o = true ∧ j < s.length ∧ s[j]? = some x ∧ Holds l (s.drop (j + 1)) c) ∨ (o = false ∧ j = s.length)) ∧ J (s.take j) wr) (fun a4 a5 wr => lenW wr r + onB a5)
    case atStart => exact ⟨0, _, x1, o1, v2, l1, rfl, rfl, M2.out, C2.out, S2.out, J2⟩
    case round =>
      obtain ⟨j, q, x, o, v, l2, rfl, rfl, M, C, ST, hJr⟩ := hrel
      rcases ST.out with ⟨rfl, hj, hx, hl⟩ | ⟨rfl, hj⟩
      · have bx := M.out.box
        have c0 : wr.cell? ⟨q, 0, none⟩ = some (.int .i64 x.k) := by simp [World.cell?, bx]
        have c1 : wr.cell? ⟨q, 1, none⟩ = some (.int .i64 x.n) := by simp [World.cell?, bx]
        have c2 : wr.cell? ⟨q, 2, none⟩ = some (.int .i64 (x.t : Nat)) := by simp [World.cell?, bx]
        obtain ⟨fn, tmps, assign, body, hyy, hR⟩ := hY (s.take j) x wr hJr (by rw [List.length_take]; omega)
        have HM : Hid (lenW wr r = l2.length) := M.out.rest.left
        clear J2 S2 C2 M2
        gi_wp2
        all_goals
          refine hR.mono ?_
          rintro e W3 (⟨rfl, hJ3, hk3⟩ | ⟨rfl, hJx3⟩)
          · have eT : s.take j ++ [x] = s.take (j + 1) := by rw [List.take_add_one, hx]; rfl
            rw [eT] at hJ3
            have k1 : W3.heap[r]? = wr.heap[r]? := by
              obtain ⟨ob, h1, h2⟩ := cells_at M.out.rest.less
              rw [h1]
              exact hk3.cells r ob h1 h2 M.out.rest.low C.out.1
            have k2 : ∀ k, v.ownBlock = some k → W3.heap[k]? = wr.heap[k]? := fun k hk => by
              obtain ⟨ob, h1, h2⟩ := row_at M.out.rest.row hk
              rw [h1]
              exact hk3.cells k ob h1 h2 (own_since M.out.rest.row k hk).1 (C.out.2.2 k hk)
            have H3 : HAt N W3 r v l2 0 := M.out.rest.same k1 k2
            have bx3 := hk3.cells q _ bx rfl M.out.qN C.out.2.1
            have n3 : ¬ Cm W3 r := fun z => by
              rcases hk3.foot _ z with z | z
              · exact C.out.1 z
              · have := M.out.rest.lt; omega
            have m3 : ∀ k, v.ownBlock = some k → ¬ Cm W3 k := fun k hk z => by
              rcases hk3.foot _ z with z | z
              · exact C.out.2.2 k hk z
              · have := (own_since M.out.rest.row k hk).2; omega
            have d0 : W3.cell? ⟨q, 0, none⟩ = some (.int .i64 x.k) := by simp [World.cell?, bx3]
            have d1 : W3.cell? ⟨q, 1, none⟩ = some (.int .i64 x.n) := by simp [World.cell?, bx3]
            have d2 : W3.cell? ⟨q, 2, none⟩ = some (.int .i64 (x.t : Nat)) := by simp [World.cell?, bx3]
            have nb : N ≤ W3.heap.size := by have := M.out.rest.low; have := H3.lt; omega
            have b4 : Below W3.heap.size W3 (W3.alloc (.cells #[.int .i64 x.k, .int .i64 x.n, .int .i64 (x.t : Nat)] 65)) := (Below.refl _ _).alloc (Nat.le_refl _) _
            have H4 := H3.go b4
            have hl2 : l2.length = s.length - (j + 1) := by rw [hl.len, List.length_drop]
            have cT := take_next N r v l2 0 c (s.drop (j + 1)) (W3.alloc (.cells #[.int .i64 x.k, .int .i64 x.n, .int .i64 (x.t : Nat)] 65)) H4 (by omega) hl
            have rb := H3.lt
            have vb := fun k hk => (own_since H3.row k hk).2
            have n4 : ¬ Cm (W3.alloc (.cells #[.int .i64 x.k, .int .i64 x.n, .int .i64 (x.t : Nat)] 65)) r := fun z => n3 (hC1 _ _ _ (Btw.below b4 nb) z)
            have m4 : ∀ k, v.ownBlock = some k → ¬ Cm (W3.alloc (.cells #[.int .i64 x.k, .int .i64 x.n, .int .i64 (x.t : Nat)] 65)) k := fun k hk z => m3 k hk (hC1 _ _ _ (Btw.below b4 nb) z)
            have p4 : ¬ Cm (W3.alloc (.cells #[.int .i64 x.k, .int .i64 x.n, .int .i64 (x.t : Nat)] 65)) W3.heap.size := fun z => by have := hC0 _ _ _ hJ3 (hC1 _ _ _ (Btw.below b4 nb) z); omega
            have J4 := hJ _ _ _ hJ3 (Btw.below b4 nb)
            clear hR hyy c0 c1 c2 bx k1 k2 bx3 M C ST H3 n3 m3 hJr hk3
            gi_wp2
            refine ⟨trivial, ?_⟩
            refine (callsIn_wide.2 cT).mono ?_
            rintro e w5 ⟨x5, o5, rfl, l5, v5, h5, t5, st5⟩
            have e5 : w5.heap[W3.heap.size]? = some (.cells #[.int .i64 x.k, .int .i64 x.n, .int .i64 (x.t : Nat)] 65 (0, 0)) := (t5.block _ (by simp) (by omega) (fun e => by have := vb _ e; omega)).trans (World.alloc_heap_new _ _)
            have g0 : w5.cell? ⟨W3.heap.size, 0, none⟩ = some (.int .i64 x.k) := by simp [World.cell?, e5]
            have g1 : w5.cell? ⟨W3.heap.size, 1, none⟩ = some (.int .i64 x.n) := by simp [World.cell?, e5]
            have g2 : w5.cell? ⟨W3.heap.size, 2, none⟩ = some (.int .i64 (x.t : Nat)) := by simp [World.cell?, e5]
            have f5 : ∀ o, w5.frozen? ⟨W3.heap.size, o, none⟩ = false := fun o => by simp [World.frozen?, e5]
            have f50 := f5 0
            have f51 := f5 1
            have f52 := f5 2
            gi_wp2
            have B5 := btw_tn H4 t5 n4 m4
            have J5 := hJ _ _ _ J4 B5
            have p5 : ¬ Cm w5 W3.heap.size := fun z => p4 (hC1 _ _ _ B5 z)
            have n5 : ¬ Cm w5 r := fun z => n4 (hC1 _ _ _ B5 z)
            have m5 : ∀ k, v5.ownBlock = some k → ¬ Cm w5 k := fun k hk z => by
              rcases t5.own k hk with e | e
              · exact m4 k e (hC1 _ _ _ B5 z)
              · have := hC0 _ _ _ J4 (hC1 _ _ _ B5 z); omega
            have q5 : v5.ownBlock ≠ some W3.heap.size := fun e => by
              rcases t5.own _ e with z | z
              · have := vb _ z; omega
              · rw [World.size_alloc] at z; omega
            have w6 := box_put e5 x5
            obtain ⟨X6, hX6⟩ : ∃ X, ((w5.setCell ⟨W3.heap.size, 0, none⟩ (.int .i64 x5.k)).setCell ⟨W3.heap.size, 1, none⟩ (.int .i64 x5.n)).setCell ⟨W3.heap.size, 2, none⟩ (.int .i64 (x5.t : Nat)) = X := ⟨_, rfl⟩
            rw [hX6] at w6
            have B6 : Btw Cm N w5 X6 := by rw [← hX6]; exact btw_put nb e5 p5 x5
            have o6 : ∀ k, k ≠ W3.heap.size → X6.heap[k]? = w5.heap[k]? := fun k hk => by rw [← hX6]; exact (Below.heap_setCell _ _ _ k hk).trans ((Below.heap_setCell _ _ _ k hk).trans (Below.heap_setCell _ _ _ k hk))
            have H6 : HAt N X6 r v5 l5 0 := h5.same (o6 r (by omega)) (fun k hk => o6 k (fun e => q5 (by rw [hk, e])))
            have J6 := hJ _ _ _ J5 B6
            have L6 : lenW X6 r = l5.length := H6.left
            try rw [hX6]
            go_roundw
            case rel =>
              refine ⟨j + 1, W3.heap.size, x5, o5, v5, l5, rfl, rfl, ⟨H6, w6, nb, by omega, q5⟩, ⟨fun z => n5 (hC1 _ _ _ B6 z), fun z => p5 (hC1 _ _ _ B6 z), fun k hk z => m5 k hk (hC1 _ _ _ B6 z)⟩, ?_, J6⟩
              rcases st5 with ⟨z1, s', z2, z3⟩ | ⟨z1, z2, z4⟩
              · have hlt : j + 1 < s.length := by
                  have := congrArg List.length z2
                  rw [List.length_drop] at this
                  simp at this
                  omega
                refine Or.inl ⟨z1, hlt, ?_, ?_⟩
                · have := congrArg (fun t => t[0]?) z2
                  simpa using this
                · have := congrArg List.tail z2
                  rw [List.tail_drop] at this
                  rw [this]
                  exact z3
              · refine Or.inr ⟨z1, ?_⟩
                have := congrArg List.length z2
                rw [List.length_drop] at this
                simp at this
                omega
            case measure =>
              rw [L6, HM.out, hl2]
              rcases st5 with ⟨z1, s', z2, z3⟩ | ⟨z1, z2, z4⟩
              · have := congrArg List.length z2
                rw [List.length_drop] at this
                simp at this
                have h5l := z3.len
                rw [z1]
                simp only [onB]
                omega
              · rw [z1, z4]
                simp only [onB, List.length_nil]
                omega
          · gi_wp2
            refine bodyPost_ret (results_none rfl _ _ _) rfl ?_
            refine ⟨⟨_, rfl⟩, Or.inr ⟨_, ⟨j, hj, ?_⟩, hJx3⟩⟩
            rw [List.take_add_one, hx]
            rfl
      · gi_wp2
        go_end0
        refine ⟨⟨_, rfl⟩, Or.inl ?_⟩
        rw [hj, List.take_length] at hJr
        exact hJr
  · intro K' hK
    refine value_in hK (by kernel_rfl) (.pointer (some ⟨W.heap.size, 0, none⟩)) (W.drew.alloc (.cells #[.nilFunc, .slice none 0 0, .int .i64 0] 63)) (by go_simp; try rfl) (by rw [hIH]; exact (Below.refl _ _).drew.alloc (Nat.le_refl _) _) ?_
    simp only [Act.put, List.setIfInBounds_toArray, List.set_cons_zero, List.set_cons_succ]
    refine wpAnyH_ready (rs := [8]) (by kernel_rfl) (by simp) (AllReadyH.cons ((nth_eq _ 8).trans rfl) ?_ AllReadyH.nil)
    intro K' hK
    refine call_in hK (by kernel_rfl) 51 #[.slice va l.length vc] (by go_simp) _ (cC _ ((Below.refl _ _).drew.alloc (Nat.le_refl _) _)) ?_
    rintro v wC ⟨oC, bC⟩
    obtain ⟨xa, xc, rfl, _⟩ := own_form oC
    have BC : Below W.heap.size W wC := ((Below.refl _ _).drew.alloc (Nat.le_refl _) _).trans (bC.mono (by simp))
    have SC : IH wC := by rw [hIH]; exact BC
    refine ⟨SC, ?_⟩
    simp only [Act.put, List.setIfInBounds_toArray, List.set_cons_zero, List.set_cons_succ]
    refine take_held 9 (by assumption) rfl (by kernel_rfl) (by kernel_rfl) (by kernel_rfl) (fun _ _ _ h => h) (by kernel_rfl) (v := ?v9) ?y9 ?r9
    case y9 => (intro u hu; go_simp; try rfl)
    simp only [Act.put, List.setIfInBounds_toArray, List.set_cons_zero, List.set_cons_succ]
    refine wpAnyH_ready (rs := [11]) (by kernel_rfl) (by simp) (AllReadyH.cons ((nth_eq _ 11).trans rfl) ?_ AllReadyH.nil)
    intro K' hK
    have eZ : wC.heap[W.heap.size]? = some (.cells #[.nilFunc, .slice none 0 0, .int .i64 0] 63 (0, 0)) := (bC.block _ (by rw [World.size_alloc]; exact Nat.lt_succ_self _)).trans (World.alloc_heap_new W.drew _)
    have zc0 : wC.cell? ⟨W.heap.size, 0, none⟩ = some .nilFunc := by simp [World.cell?, eZ]
    have zc1 : wC.cell? ⟨W.heap.size, 1, none⟩ = some (.slice none 0 0) := by simp [World.cell?, eZ]
    have zc2 : wC.cell? ⟨W.heap.size, 2, none⟩ = some (.int .i64 0) := by simp [World.cell?, eZ]
    have zf : ∀ o, wC.frozen? ⟨W.heap.size, o, none⟩ = false := fun o => by simp [World.frozen?, eZ]
    have zf0 := zf 0
    have zf1 := zf 1
    have zf2 := zf 2
    refine skip_in hK (by kernel_rfl) (((wC.setCell ⟨W.heap.size, 0, none⟩ (.func (.func 12) #[] #[])).setCell ⟨W.heap.size, 1, none⟩ (.slice xa l.length xc)).setCell ⟨W.heap.size, 2, none⟩ (.int .i64 0)) (by go_simp; try rfl) (by rw [hIH]; exact ((BC.setCell (p := ⟨W.heap.size, 0, none⟩) (Nat.le_refl _) _).setCell (p := ⟨W.heap.size, 1, none⟩) (Nat.le_refl _) _).setCell (p := ⟨W.heap.size, 2, none⟩) (Nat.le_refl _) _) ?_
    simp only [Act.put, List.setIfInBounds_toArray, List.set_cons_zero, List.set_cons_succ]
    refine done_held (by kernel_rfl) ?_ _
    obtain ⟨X, hX⟩ : ∃ X, ((wC.setCell ⟨W.heap.size, 0, none⟩ (.func (.func 12) #[] #[])).setCell ⟨W.heap.size, 1, none⟩ (.slice xa l.length xc)).setCell ⟨W.heap.size, 2, none⟩ (.int .i64 0) = X := ⟨_, rfl⟩
    have bX : Below W.heap.size W X := by rw [← hX]; exact ((BC.setCell (p := ⟨W.heap.size, 0, none⟩) (Nat.le_refl _) _).setCell (p := ⟨W.heap.size, 1, none⟩) (Nat.le_refl _) _).setCell (p := ⟨W.heap.size, 2, none⟩) (Nat.le_refl _) _
    have HX : HAt N X W.heap.size (.slice xa l.length xc) l 0 := by rw [← hX]; exact rest_at (owns_base (Nat.le_trans hN (by simp)) oC) zc0 zc1 zc2 zf (fun e => by have := (own_since oC _ e).1; rw [World.size_alloc] at this; exact absurd this (Nat.not_succ_le_self _)) hN
    obtain ⟨r, hr⟩ : ∃ r, W.heap.size = r := ⟨_, rfl⟩
    have hrW : W.heap.size ≤ r := Nat.le_of_eq hr
    have hoW : ∀ k, (Value.slice xa l.length xc).ownBlock = some k → W.heap.size ≤ k := fun k hk => by have := (own_since oC k hk).1; rw [World.size_alloc] at this; exact Nat.le_of_succ_le this
    rw [hr] at HX
    simp only [calm]
    rw [hX]
    try rw [hr]
    clear hX hr oC bC SC BC hIH kI hS L0 L1 L2
    generalize Value.slice xa l.length xc = v1 at HX hoW ⊢
    have jX : J [] X := hJ _ _ _ h0 (Btw.below bX hN)
    have cX : ∀ k, Cm X k → k < W.heap.size := fun k hk => hC0 _ _ k h0 (hC1 _ _ k (Btw.below bX hN) hk)
    have rX : ¬ Cm X r := fun q => by have := cX r q; omega
    have vX : ∀ k, v1.ownBlock = some k → ¬ Cm X k := fun k hk q => by have := cX k q; have := hoW k hk; omega
    have cT := take_next N r v1 l 0 c s X HX hll hh
    gi_wp2_with (refine ⟨trivial, ?_⟩; gi_at_call 38; refine (callsIn_wide.2 cT).mono ?_; rintro e w1 ⟨x1, o1, rfl, l1, v2, h1', t1, st1⟩)
    have B1 := btw_tn HX t1 rX vX
    have j1 := hJ _ _ _ jX B1
    have r1 : ¬ Cm w1 r := fun q => rX (hC1 _ _ _ B1 q)
    have vv1 : ∀ k, v2.ownBlock = some k → ¬ Cm w1 k := fun k hk q => by
      rcases t1.own k hk with e | e
      · exact vX k e (hC1 _ _ _ B1 q)
      · have := hC0 _ _ _ jX (hC1 _ _ _ B1 q); omega
    obtain ⟨X2, hX2⟩ : ∃ X2, w1.alloc (.cells #[.int .i64 x1.k, .int .i64 x1.n, .int .i64 (x1.t : Nat)] 65) = X2 := ⟨_, rfl⟩
    have b2 : Below w1.heap.size w1 X2 := by rw [← hX2]; exact (Below.refl _ _).alloc (Nat.le_refl _) _
    have hN2 : N ≤ w1.heap.size := by have := bX.size; have := t1.size; omega
    have q2 : X2.heap[w1.heap.size]? = some (.cells #[.int .i64 x1.k, .int .i64 x1.n, .int .i64 (x1.t : Nat)] 65 (0, 0)) := by rw [← hX2]; exact World.alloc_heap_new _ _
    have M2 : Hid (Mine N r v2 l1 w1.heap.size x1 X2) := ⟨h1'.go b2, q2, by have := bX.size; have := t1.size; omega, by have := h1'.lt; omega, fun e => by have := (own_since h1'.row _ e).2; omega⟩
    have C2 : Hid (¬ Cm X2 r ∧ ¬ Cm X2 w1.heap.size ∧ ∀ k, v2.ownBlock = some k → ¬ Cm X2 k) := ⟨fun q => r1 (hC1 _ _ _ (Btw.below b2 hN2) q), fun q => by have := hC0 _ _ _ j1 (hC1 _ _ _ (Btw.below b2 hN2) q); omega, fun k hk q => vv1 k hk (hC1 _ _ _ (Btw.below b2 hN2) q)⟩
    have S2 : Hid ((o1 = true ∧ 0 < s.length ∧ s[0]? = some x1 ∧ Holds l1 (s.drop (0 + 1)) c) ∨ (o1 = false ∧ 0 = s.length)) := by
      rcases st1 with ⟨e1, s', e2, e3⟩ | ⟨e1, e2, _⟩
      · exact Or.inl ⟨e1, by rw [e2]; simp, by rw [e2]; rfl, by rw [e2]; exact e3⟩
      · exact Or.inr ⟨e1, by rw [e2]; rfl⟩
    have J2 : J (s.take 0) X2 := hJ _ _ _ j1 (Btw.below b2 hN2)
    try rw [hX2]
    clear hX2 b2 q2 j1 r1 vv1 B1 jX cX rX vX cT hoW HX t1 st1 h1' hA h1 h2 hBh hbl cC bX hrW
    gi_loopw [4, 5] (fun a4 a5 wr => ∃ (j q : Nat) (x : It) (o : Bool) (v : Value) (l : List It), a4 = .pointer (some ⟨q, 0, none⟩) ∧ a5 = .bool o ∧ Hid (Mine N r v l q x wr) ∧ Hid (¬ Cm wr r ∧ ¬ Cm wr q ∧ ∀ k, v.ownBlock = some k → ¬ Cm wr k) ∧ Hid ((o = true ∧ j < s.length ∧ s[j]? = some x ∧ Holds l (s.drop (j + 1)) c) ∨ (o = false ∧ j = s.length)) ∧ J (s.take j) wr) (fun a4 a5 wr => lenW wr r + onB a5)
    case atStart => exact ⟨0, _, x1, o1, v2, l1, rfl, rfl, M2.out, C2.out, S2.out, J2⟩
    case round =>
      obtain ⟨j, q, x, o, v, l2, rfl, rfl, M, C, ST, hJr⟩ := hrel
      rcases ST.out with ⟨rfl, hj, hx, hl⟩ | ⟨rfl, hj⟩
      · have bx := M.out.box
        have c0 : wr.cell? ⟨q, 0, none⟩ = some (.int .i64 x.k) := by simp [World.cell?, bx]
        have c1 : wr.cell? ⟨q, 1, none⟩ = some (.int .i64 x.n) := by simp [World.cell?, bx]
        have c2 : wr.cell? ⟨q, 2, none⟩ = some (.int .i64 (x.t : Nat)) := by simp [World.cell?, bx]
        obtain ⟨fn, tmps, assign, body, hyy, hR⟩ := hY (s.take j) x wr hJr (by rw [List.length_take]; omega)
        have HM : Hid (lenW wr r = l2.length) := M.out.rest.left
        clear J2 S2 C2 M2
        gi_wp2
        all_goals
          refine hR.mono ?_
          rintro e W3 (⟨rfl, hJ3, hk3⟩ | ⟨rfl, hJx3⟩)
          · have eT : s.take j ++ [x] = s.take (j + 1) := by rw [List.take_add_one, hx]; rfl
            rw [eT] at hJ3
            have k1 : W3.heap[r]? = wr.heap[r]? := by
              obtain ⟨ob, h1, h2⟩ := cells_at M.out.rest.less
              rw [h1]
              exact hk3.cells r ob h1 h2 M.out.rest.low C.out.1
            have k2 : ∀ k, v.ownBlock = some k → W3.heap[k]? = wr.heap[k]? := fun k hk => by
              obtain ⟨ob, h1, h2⟩ := row_at M.out.rest.row hk
              rw [h1]
              exact hk3.cells k ob h1 h2 (own_since M.out.rest.row k hk).1 (C.out.2.2 k hk)
            have H3 : HAt N W3 r v l2 0 := M.out.rest.same k1 k2
            have bx3 := hk3.cells q _ bx rfl M.out.qN C.out.2.1
            have n3 : ¬ Cm W3 r := fun z => by
              rcases hk3.foot _ z with z | z
              · exact C.out.1 z
              · have := M.out.rest.lt; omega
            have m3 : ∀ k, v.ownBlock = some k → ¬ Cm W3 k := fun k hk z => by
              rcases hk3.foot _ z with z | z
              · exact C.out.2.2 k hk z
              · have := (own_since M.out.rest.row k hk).2; omega
            have d0 : W3.cell? ⟨q, 0, none⟩ = some (.int .i64 x.k) := by simp [World.cell?, bx3]
            have d1 : W3.cell? ⟨q, 1, none⟩ = some (.int .i64 x.n) := by simp [World.cell?, bx3]
            have d2 : W3.cell? ⟨q, 2, none⟩ = some (.int .i64 (x.t : Nat)) := by simp [World.cell?, bx3]
            have nb : N ≤ W3.heap.size := by have := M.out.rest.low; have := H3.lt; omega
            have b4 : Below W3.heap.size W3 (W3.alloc (.cells #[.int .i64 x.k, .int .i64 x.n, .int .i64 (x.t : Nat)] 65)) := (Below.refl _ _).alloc (Nat.le_refl _) _
            have H4 := H3.go b4
            have hl2 : l2.length = s.length - (j + 1) := by rw [hl.len, List.length_drop]
            have cT := take_next N r v l2 0 c (s.drop (j + 1)) (W3.alloc (.cells #[.int .i64 x.k, .int .i64 x.n, .int .i64 (x.t : Nat)] 65)) H4 (by omega) hl
            have rb := H3.lt
            have vb := fun k hk => (own_since H3.row k hk).2
            have n4 : ¬ Cm (W3.alloc (.cells #[.int .i64 x.k, .int .i64 x.n, .int .i64 (x.t : Nat)] 65)) r := fun z => n3 (hC1 _ _ _ (Btw.below b4 nb) z)
            have m4 : ∀ k, v.ownBlock = some k → ¬ Cm (W3.alloc (.cells #[.int .i64 x.k, .int .i64 x.n, .int .i64 (x.t : Nat)] 65)) k := fun k hk z => m3 k hk (hC1 _ _ _ (Btw.below b4 nb) z)
            have p4 : ¬ Cm (W3.alloc (.cells #[.int .i64 x.k, .int .i64 x.n, .int .i64 (x.t : Nat)] 65)) W3.heap.size := fun z => by have := hC0 _ _ _ hJ3 (hC1 _ _ _ (Btw.below b4 nb) z); omega
            have J4 := hJ _ _ _ hJ3 (Btw.below b4 nb)
            clear hR hyy c0 c1 c2 bx k1 k2 bx3 M C ST H3 n3 m3 hJr hk3
            gi_wp2
            refine ⟨trivial, ?_⟩
            refine (callsIn_wide.2 cT).mono ?_
            rintro e w5 ⟨x5, o5, rfl, l5, v5, h5, t5, st5⟩
            have e5 : w5.heap[W3.heap.size]? = some (.cells #[.int .i64 x.k, .int .i64 x.n, .int .i64 (x.t : Nat)] 65 (0, 0)) := (t5.block _ (by simp) (by omega) (fun e => by have := vb _ e; omega)).trans (World.alloc_heap_new _ _)
            have g0 : w5.cell? ⟨W3.heap.size, 0, none⟩ = some (.int .i64 x.k) := by simp [World.cell?, e5]
            have g1 : w5.cell? ⟨W3.heap.size, 1, none⟩ = some (.int .i64 x.n) := by simp [World.cell?, e5]
            have g2 : w5.cell? ⟨W3.heap.size, 2, none⟩ = some (.int .i64 (x.t : Nat)) := by simp [World.cell?, e5]
            have f5 : ∀ o, w5.frozen? ⟨W3.heap.size, o, none⟩ = false := fun o => by simp [World.frozen?, e5]
            have f50 := f5 0
            have f51 := f5 1
            have f52 := f5 2
            gi_wp2
            have B5 := btw_tn H4 t5 n4 m4
            have J5 := hJ _ _ _ J4 B5
            have p5 : ¬ Cm w5 W3.heap.size := fun z => p4 (hC1 _ _ _ B5 z)
            have n5 : ¬ Cm w5 r := fun z => n4 (hC1 _ _ _ B5 z)
            have m5 : ∀ k, v5.ownBlock = some k → ¬ Cm w5 k := fun k hk z => by
              rcases t5.own k hk with e | e
              · exact m4 k e (hC1 _ _ _ B5 z)
              · have := hC0 _ _ _ J4 (hC1 _ _ _ B5 z); omega
            have q5 : v5.ownBlock ≠ some W3.heap.size := fun e => by
              rcases t5.own _ e with z | z
              · have := vb _ z; omega
              · rw [World.size_alloc] at z; omega
            have w6 := box_put e5 x5
            obtain ⟨X6, hX6⟩ : ∃ X, ((w5.setCell ⟨W3.heap.size, 0, none⟩ (.int .i64 x5.k)).setCell ⟨W3.heap.size, 1, none⟩ (.int .i64 x5.n)).setCell ⟨W3.heap.size, 2, none⟩ (.int .i64 (x5.t : Nat)) = X := ⟨_, rfl⟩
            rw [hX6] at w6
            have B6 : Btw Cm N w5 X6 := by rw [← hX6]; exact btw_put nb e5 p5 x5
            have o6 : ∀ k, k ≠ W3.heap.size → X6.heap[k]? = w5.heap[k]? := fun k hk => by rw [← hX6]; exact (Below.heap_setCell _ _ _ k hk).trans ((Below.heap_setCell _ _ _ k hk).trans (Below.heap_setCell _ _ _ k hk))
            have H6 : HAt N X6 r v5 l5 0 := h5.same (o6 r (by omega)) (fun k hk => o6 k (fun e => q5 (by rw [hk, e])))
            have J6 := hJ _ _ _ J5 B6
            have L6 : lenW X6 r = l5.length := H6.left
            try rw [hX6]
            go_roundw
            case rel =>
              refine ⟨j + 1, W3.heap.size, x5, o5, v5, l5, rfl, rfl, ⟨H6, w6, nb, by omega, q5⟩, ⟨fun z => n5 (hC1 _ _ _ B6 z), fun z => p5 (hC1 _ _ _ B6 z), fun k hk z => m5 k hk (hC1 _ _ _ B6 z)⟩, ?_, J6⟩
              rcases st5 with ⟨z1, s', z2, z3⟩ | ⟨z1, z2, z4⟩
              · have hlt : j + 1 < s.length := by
                  have := congrArg List.length z2
                  rw [List.length_drop] at this
                  simp at this
                  omega
                refine Or.inl ⟨z1, hlt, ?_, ?_⟩
                · have := congrArg (fun t => t[0]?) z2
                  simpa using this
                · have := congrArg List.tail z2
                  rw [List.tail_drop] at this
                  rw [this]
                  exact z3
              · refine Or.inr ⟨z1, ?_⟩
                have := congrArg List.length z2
                rw [List.length_drop] at this
                simp at this
                omega
            case measure =>
              rw [L6, HM.out, hl2]
              rcases st5 with ⟨z1, s', z2, z3⟩ | ⟨z1, z2, z4⟩
              · have := congrArg List.length z2
                rw [List.length_drop] at this
                simp at this
                have h5l := z3.len
                rw [z1]
                simp only [onB]
                omega
              · rw [z1, z4]
                simp only [onB, List.length_nil]
                omega
          · gi_wp2
            refine bodyPost_ret (results_none rfl _ _ _) rfl ?_
            refine ⟨⟨_, rfl⟩, Or.inr ⟨_, ⟨j, hj, ?_⟩, hJx3⟩⟩
            rw [List.take_add_one, hx]
            rfl
      · gi_wp2
        go_end0
        refine ⟨⟨_, rfl⟩, Or.inl ?_⟩
        rw [hj, List.take_length] at hJr
        exact hJr
  all_goals gi_wp2
  all_goals trace_state
end Go.Proofs.Ytpbmkflkggeggaa.Hp
