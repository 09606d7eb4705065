/-
  GridBack: the walk.
-/
import Derived.Test.YtkamjbpjfgehjaaGridCellsWalk
import Derived.Test.YtkamjbpjfgehjaaGridPoseR
import Derived.Test.YtkamjbpjfgehjaaGridSwept2
import Derived.Test.YtkamjbpjfgehjaaGridBackPlain
namespace Go.Proofs.Ytkamjbpjfgehjaa.Grid
set_option linter.unusedVariables false
set_option linter.unusedSimpArgs false
open Go Go.RowKit Go.Shelf Go.Proofs
attribute [local go_sem] Oper.semAt_some


theorem eqPose3 (x y : Int) (d : Bool) (x' y' : Int) (d' : Bool) (w : World) : (Op.equalIn 10000 41 (.agg #[.int .i64 x, .int .i64 y, .bool d]) (.agg #[.int .i64 x', .int .i64 y', .bool d'])).run Try.prog w = .ok (decide (((x, y), d) = ((x', y'), d'))) w := by
  go_simp
  repeat' split
  all_goals simp_all
theorem guardPose3 : Try.prog.eqGuardType Try.prog.depth 41 = false := by kernel_rfl
theorem run_neq_pose {o : Oper} {a : Act} {w : World} (x y : Operand) (ho : o.op = .binOp .neq 41 x y 41) (p q : Int) (d : Bool) (hx : a.eval x = .agg #[.int .i64 p, .int .i64 q, .bool d]) (hy : a.eval y = .agg #[.int .i64 p, .int .i64 q, .bool d]) :
    (execOp a.eval o).run Try.prog w = .ok (.value (.bool false)) w := by
  unfold execOp
  simp only [ho, hx, hy, Sem.run_bind, Sem.run_pure, Result.andThen_ok, run_eqGuard_agg _ _ _ _ _ _ _ guardPose3, run_neq_struct, eqPose3]
  simp
/- A move, and the move back that is made of it. -/
structure Mv (w : World) (cs ds : Array Value) (W : World) : Prop where
  below : Below w.heap.size w W
  a : W.heap[w.heap.size]? = some (.cells cs 50 (0, 0))
  b : W.heap[w.heap.size + 1]? = some (.cells ds 50 (0, 0))
theorem mv_new (w : World) (cs ds : Array Value) : Mv w cs ds ((w.alloc (.cells cs 50)).alloc (.cells ds 50)) :=
  ⟨below_two _ _ _, (alloc_old _ _ _ (by simp)).trans (heap_alloc_new w _), heap_new2 _ _ _⟩
theorem Mv.set {w : World} {cs ds : Array Value} {W : World} (h : Mv w cs ds W) (j : Nat) (v : Value) : Mv w cs (ds.setIfInBounds j v) (W.setCell ⟨w.heap.size + 1, j, none⟩ v) :=
  ⟨below_set h.below (by omega) _ _, (heap_setCell_other _ _ _ _ (by simp)).trans h.a, heap_setCell_same _ _ _ _ _ _ h.b⟩
theorem run_store_pose {o : Oper} {a : Act} {w : World} (x y : Operand) (ho : o.op = .store 41 x y) (b off : Nat) (p q : Int) (d : Bool) (cs : Array Value) (t : TypeId) (hx : a.eval x = .pointer (some ⟨b, off, none⟩)) (hy : a.eval y = .agg #[.int .i64 p, .int .i64 q, .bool d]) (hb : w.heap[b]? = some (.cells cs t (0, 0))) (h1 : off + 2 < cs.size) :
    (execOp a.eval o).run Try.prog w = .ok .skip (((w.setCell ⟨b, off, none⟩ (.int .i64 p)).setCell ⟨b, off + 1, none⟩ (.int .i64 q)).setCell ⟨b, off + 2, none⟩ (.bool d)) := by
  have c1 : w.cell? ⟨b, off, none⟩ = some (cs[off]'(by omega)) := by rw [cell_of hb, Array.getElem?_eq_getElem]
  have f1 := frozen_of hb off
  have hb2 := heap_setCell_same w b off cs t (.int .i64 p) hb
  have c2 : (w.setCell ⟨b, off, none⟩ (.int .i64 p)).cell? ⟨b, off + 1, none⟩ = some (cs[off + 1]'(by omega)) := by rw [cell_of hb2, Array.getElem?_setIfInBounds_ne (by omega), Array.getElem?_eq_getElem]
  have f2 := frozen_of hb2 (off + 1)
  have hb3 := heap_setCell_same _ b (off + 1) _ t (.int .i64 q) hb2
  have c3 : ((w.setCell ⟨b, off, none⟩ (.int .i64 p)).setCell ⟨b, off + 1, none⟩ (.int .i64 q)).cell? ⟨b, off + 2, none⟩ = some (cs[off + 2]'h1) := by rw [cell_of hb3, Array.getElem?_setIfInBounds_ne (by omega), Array.getElem?_setIfInBounds_ne (by omega), Array.getElem?_eq_getElem]
  have f3 := frozen_of hb3 (off + 2)
  unfold execOp
  simp only [ho, hx, hy]
  go_simp
theorem wpList_store_mv {ops : Array Oper} {rest : List Oper} {o : Oper} {a : Act} {w w0 : World} {cs ds : Array Value} {Q : Exit → Act → World → Prop} (M : Mv w0 cs ds w) (hgd : o.guard = none) (x y : Operand) (ho : o.op = .store 41 x y) (off : Nat) (p q : Int) (d : Bool) (hx : a.eval x = .pointer (some ⟨w0.heap.size + 1, off, none⟩)) (hy : a.eval y = .agg #[.int .i64 p, .int .i64 q, .bool d]) (h1 : off + 2 < ds.size)
    (es : Array Value) (he : ((ds.setIfInBounds off (.int .i64 p)).setIfInBounds (off + 1) (.int .i64 q)).setIfInBounds (off + 2) (.bool d) = es)
    (h : ∀ w', Mv w0 cs es w' → wpList Try.prog ops Q rest (a.put o.dst undef) w') : wpList Try.prog ops Q (o :: rest) a w :=
  wpList_plain hgd fun _ hK => by
    unfold Oper.wp
    rw [run_store_pose x y ho _ off p q d _ _ hx hy M.b h1]
    subst he
    exact hK _ _ (h _ (((M.set _ _).set _ _).set _ _))
theorem pose_at {w : World} {b : Nat} {cs : Array Value} {t : TypeId} {x y : Int} {d : Bool} (h : w.heap[b]? = some (.cells cs t (0, 0))) (o : Nat) (h0 : cs[o]? = some (.int .i64 x)) (h1 : cs[o + 1]? = some (.int .i64 y)) (h2 : cs[o + 2]? = some (.bool d)) : ∀ j z, #[Value.int .i64 x, .int .i64 y, .bool d][j]? = some z → w.cell? ((⟨b, o, none⟩ : Addr).add j) = some z := by
  intro j z hj
  rw [Addr.add_lit]
  match j with
  | 0 => simp at hj; rw [← hj]; exact (cell_of h _).trans h0
  | 1 => simp at hj; rw [← hj]; exact (cell_of h _).trans h1
  | 2 => simp at hj; rw [← hj]; exact (cell_of h _).trans h2
  | j + 3 => simp at hj
theorem pose_below {w u : World} {b : Nat} {cs : Array Value} {t : TypeId} {x y : Int} {d : Bool} (h : w.heap[b]? = some (.cells cs t (0, 0))) (o : Nat) (h0 : cs[o]? = some (.int .i64 x)) (h1 : cs[o + 1]? = some (.int .i64 y)) (h2 : cs[o + 2]? = some (.bool d)) (hu : Below w.heap.size w u) : ∀ j z, #[Value.int .i64 x, .int .i64 y, .bool d][j]? = some z → u.cell? ((⟨b, o, none⟩ : Addr).add j) = some z :=
  pose_at ((hu.block _ (lt_of_heap h)).trans h) o h0 h1 h2
theorem dir_in {W H : Int} {us : List Int} {m : Move} (h : legalU W H us m = true) (h1 : m.1 = 1) : 0 ≤ m.2.1 ∧ m.2.1 ≤ 3 := by
  unfold legalU leadsP mayShift at h
  rw [if_pos h1] at h
  simp only [Bool.and_eq_true, decide_eq_true_eq] at h
  omega
theorem swept_same {W H : Int} {us : List Int} {m : Move} {vp : Value} {g u : Nat} (hW : W ≤ 16) (hH : H ≤ 16) (hl : legalU W H us m = true) (K : Nat) (Ls : List Cell) (hL : boxOf m.2.2.2.1 m.2.2.2.2.1 = Ls) (hK : Ls.length = K) (w : World) (hG : GridAt w g u W H us vp) :
    Calls Try.prog 41 #[.pointer (some ⟨g, 0, none⟩), .agg (moveCs m)] w fun e w' => ∃ v, e = .returned v ∧ (w'.ownsRow w.heap.size 35 2 v K (rowL cellL Ls) ∧ Below w.heap.size w w') := by
  subst hL hK
  exact swept_yes g u W H us vp m hW hH w hG hl
theorem same_lists (Ls : List Cell) (K : Nat) (hK : Ls.length = K) (hs : K ≤ 1000000) (b1 b2 : Nat) (v1 v2 : Value) (w : World) (h1 : w.ownsRow b1 35 2 v1 K (rowL cellL Ls)) (h2 : w.ownsRow b2 35 2 v2 K (rowL cellL Ls)) :
    Calls Try.prog 34 #[v1, v2] w fun e w' => ∃ r, e = .returned r ∧ (r = .bool true ∧ Below w.heap.size w w') := by
  subst hK
  have := sameCells_any _ _ Ls Ls v1 v2 w (list_of_own kindCell.len h1) (list_of_own kindCell.len h2) (fun b h => h.2) (fun b h => h.2) (by omega) (by omega)
  rwa [decide_eq_true (rfl : Ls = Ls)] at this
set_option maxRecDepth 100000 in
set_option maxHeartbeats 4000000 in
theorem back_all_law (c : Conf) (vb vp vr vs : Value) (w : World) (hA : ConfAt (Old w) c vb vp vr vs w) (l1 : c.blocked.length ≤ 8796093022208) (l2 : c.ports.length ≤ 8796093022208) (l3 : c.robots.length ≤ 5864062014805) (l4 : c.stacks.length ≤ 3518437208880) (l5 : ∀ s ∈ c.stacks, s.2.length ≤ 17592186044416) (fx fy : Int) (fd : Bool) : Calls Try.prog 8 #[.agg #[.int .i64 c.W, .int .i64 c.H, .int .i64 c.height, vb, vp, vr, vs, .int .i64 c.unit, .int .i64 c.accel, .int .i64 c.speed, .int .i64 c.turn, .int .i64 c.hoist, .int .i64 c.queue, .int .i64 c.resend, .int .i64 c.budget, .bool c.back], .agg #[.int .i64 fx, .int .i64 fy, .bool fd]] w fun e w' => e = .returned (.bool true) ∧ Below w.heap.size w w' := by
  have L := fun (u : World) (b : Below w.heap.size w u) g (hg : Old w g) => Nat.lt_of_lt_of_le hg b.size
  have hAu := fun u (b : Below w.heap.size w u) => hA.go (fun _ h => h) b
  have cC := fun u (b : Below w.heap.size w u) => copyConf_any (Old w) c vb vp vr vs u (hAu u b) (L u b) l1 l2 l3 l4 l5
  have cM := fun u (b : Below w.heap.size w u) => mayR_call (F := Old w) (hAu u b) (L u b) l1 l2 l3 l4 l5
  have Q0 := two_new w #[.int .i64 c.W, .int .i64 c.H, .int .i64 c.height, vb, vp, vr, vs, .int .i64 c.unit, .int .i64 c.accel, .int .i64 c.speed, .int .i64 c.turn, .int .i64 c.hoist, .int .i64 c.queue, .int .i64 c.resend, .int .i64 c.budget, .bool c.back] #[.int .i64 fx, .int .i64 fy, .bool fd] 41
  cases hN : newP c with
  | none =>
    have cN := fun {n : Nat} {u : World} {v1 v2 v3 v4 : Value} (a : ConfAt (Since n u) c v1 v2 v3 v4 u) => new_no a since_lt l1 l2 l3 l4 hN
    rw [hN] at cM
    simp only [Option.isSome_none, Option.isSome_some] at cM
    clear hA L hN hAu
    go_enter Try.func8, Try.ntmps8
    go_wp2_with (first
      | (have X' := Q2; refine wpList_load_row rfl 26 (.tmp 2) rfl w.heap.size rfl 26 #[.int .i64 c.W, .int .i64 c.H, .int .i64 c.height, vb, vp, vr, vs, .int .i64 c.unit, .int .i64 c.accel, .int .i64 c.speed, .int .i64 c.turn, .int .i64 c.hoist, .int .i64 c.queue, .int .i64 c.resend, .int .i64 c.budget, .bool c.back] (0, 0) _ Q2.a Try.underlying26 rfl info_conf ?_)
      | (refine wpList_load_row rfl 26 (.tmp 2) rfl w.heap.size rfl 26 #[.int .i64 c.W, .int .i64 c.H, .int .i64 c.height, vb, vp, vr, vs, .int .i64 c.unit, .int .i64 c.accel, .int .i64 c.speed, .int .i64 c.turn, .int .i64 c.hoist, .int .i64 c.queue, .int .i64 c.resend, .int .i64 c.budget, .bool c.back] (0, 0) _ Q0.a Try.underlying26 rfl info_conf ?_)
      | (go_at_call 20; refine (cC _ Q0.below).mono ?_; rintro e w1 ⟨r1, rfl, ⟨v1, v2, v3, v4, rfl, A1⟩, b1⟩; have Q1 := Q0.go b1)
      | (go_at_call 19; refine (cN A1).mono ?_; rintro e w2 ⟨rfl, b2⟩; have Q2 := Q1.go b2)
      | (go_at_call 21; refine (cM _ Q2.below).mono ?_; rintro e w3 ⟨r3, rfl, rfl, b3⟩; have Q3 := Q2.go b3)
      | (go_at_call 23; refine (awake_any _).mono ?_; rintro e w9 ⟨rfl, b9⟩))
    go_ret
    exact ⟨rfl, bcat Q3.below b9 (Nat.le_refl _)⟩
  | some G =>
    have cN := fun {n : Nat} {u : World} {v1 v2 v3 v4 : Value} (a : ConfAt (Since n u) c v1 v2 v3 v4 u) => new_yes a since_lt l1 l2 l3 l4 hN
    rw [hN] at cM
    simp only [Option.isSome_none, Option.isSome_some] at cM
    have hsd := limited_sides (new_some hN).1.1
    have hWW : c.W ≤ 16 := by omega
    have hHH : c.H ≤ 16 := by omega
    have hml : (movesP c.W c.H G.uses ((fx, fy), fd)).length ≤ 65 := moves_len
    have HBk : Hid (∀ m ∈ movesP c.W c.H G.uses ((fx, fy), fd), Back c.W c.H G.uses ((fx, fy), fd) m) := fun m hm => back_all hWW hHH hm
    have cMv := fun (wx : World) (g u : Nat) (vp : Value) (hG : GridAt wx g u c.W c.H G.uses vp) => lawMoves_any g u c.W c.H G.uses vp wx.heap.size (wx.heap.size + 1) fx fy fd 1000 (by decide) (by decide) _ (ctx_new hG ((fx, fy), fd))
    have htk : (movesP c.W c.H G.uses ((fx, fy), fd)).take (1000 : Int).toNat = movesP c.W c.H G.uses ((fx, fy), fd) := List.take_of_length_le (by have : (1000 : Int).toNat = 1000 := rfl; omega)
    rw [htk] at cMv
    generalize movesP c.W c.H G.uses ((fx, fy), fd) = LS at *
    clear hA hN hAu hsd htk
    obtain ⟨N, hNl⟩ : ∃ N, LS.length = N := ⟨_, rfl⟩
    have HNl : Hid (LS.length = N) := hNl
    rw [hNl] at cMv hml
    clear hNl
    go_enter Try.func8, Try.ntmps8
    go_wp2_with (first
      | (refine wpList_load_row rfl 26 (.tmp 2) rfl w.heap.size rfl 26 #[.int .i64 c.W, .int .i64 c.H, .int .i64 c.height, vb, vp, vr, vs, .int .i64 c.unit, .int .i64 c.accel, .int .i64 c.speed, .int .i64 c.turn, .int .i64 c.hoist, .int .i64 c.queue, .int .i64 c.resend, .int .i64 c.budget, .bool c.back] (0, 0) _ Q0.a Try.underlying26 rfl info_conf ?_)
      | (go_at_call 20; refine (cC _ Q0.below).mono ?_; rintro e w1 ⟨r1, rfl, ⟨v1, v2, v3, v4, rfl, A1⟩, b1⟩; have Q1 := Q0.go b1)
      | (go_at_call 19; refine (cN A1).mono ?_; rintro e w2 ⟨g, u0, v', rfl, G2, _, _, own2, b2⟩; have Q2 := Q1.go b2)
      | (have X' := Q2; refine wpList_load_row rfl 41 (.tmp 3) rfl (w.heap.size + 1) rfl 41 #[.int .i64 fx, .int .i64 fy, .bool fd] (0, 0) _ Q2.b Try.underlying41 rfl infoPose2 ?_)
      | (go_at_call 43; refine (gridMoves_any g fx fy fd _).mono ?_; rintro e w5 ⟨rfl, rfl⟩)
      | (go_at_call 49; refine (cMv w2 g u0 v' G2).mono ?_; rintro e w6 ⟨v6, rfl, o6, b6⟩; have b46 := (below_two w2 _ _).trans (b6.mono (by simp; omega)); have Q6 := Q2.go b46; have G6 := G2.go b46; obtain ⟨a6, cap6, hv6, _⟩ := own_form o6; subst hv6))
    have L6 : ListAt 11 (ElL moveL) _ LS (.slice a6 LS.length cap6) w6 := list_of_own kindMove.len (by rw [HNl.out]; exact o6)
    rw [HNl.out] at L6
    have HL6 : Hid (ListAt 11 (ElL moveL) _ LS (.slice a6 N cap6) w6) := L6
    obtain ⟨IW, hIW⟩ : ∃ I : World → Prop, I = Below w6.heap.size w6 := ⟨_, rfl⟩
    have kW : ∀ u, IW u → Below w6.heap.size w6 u := fun u hu => by rw [hIW] at hu; exact hu
    have HW0 : Hid (IW w6) := by show IW w6; rw [hIW]; exact Below.refl _ _
    clear L6 o6 b46 b6
    go_loopw [8] (fun i wq => ∃ k : Nat, k ≤ N ∧ i = .int .i64 k ∧ Hid (IW wq)) (fun i _ => N - (intOf i).toNat)
    case atStart => exact ⟨0, Nat.zero_le _, rfl, HW0⟩
    case round =>
      obtain ⟨k, hk, rfl, HI⟩ := hrel
      clear HW0
      by_cases hlt : k < N
      · have hlt' : k < LS.length := by rw [HNl.out]; exact hlt
        have hB0 := HBk.out _ (List.getElem_mem hlt')
        obtain ⟨p, cs, cap', hv, hpF, hcs, hrd⟩ := HL6.out.item hlt'
        generalize LS[k]'hlt' = qm at *
        obtain rfl := hcs
        rw [HNl.out] at hv
        obtain ⟨rfl, rfl⟩ : a6 = some p ∧ cap6 = cap' := by injection hv with h1 h2 h3; exact ⟨h1, h3⟩
        clear hv
        obtain ⟨kd, dir, n, ⟨⟨fx', fy'⟩, fd'⟩, ⟨⟨tx, ty⟩, td⟩, ma, me⟩ := qm
        obtain ⟨⟨rfl, rfl⟩, rfl⟩ : (fx = fx' ∧ fy = fy') ∧ fd = fd' := by
          have := hB0.from_
          simp only [Prod.mk.injEq] at this
          exact ⟨⟨this.1.1.symm, this.1.2.symm⟩, this.2.symm⟩
        obtain ⟨K, hKo⟩ := span_ok hWW hHH hB0.legal
        have hX : ∀ j z, #[Value.int .i64 kd, .int .i64 dir, .int .i64 n, .int .i64 fx, .int .i64 fy, .bool fd, .int .i64 tx, .int .i64 ty, .bool td, .int .i64 ma, .int .i64 me][j]? = some z → wr.cell? ((p.add (k * 11)).add j) = some z := fun j z hj => cell_below (hrd j z hj) (kW wr HI.out)
        have bW := kW _ HI.out
        have Q7 := Q6.go bW
        have G7 := G6.go bW
        have hKl := hKo.len
        have hKs := hKo.small
        have hK3 : 3 ≤ K := by rw [← hKl]; exact hB0.three
        have hb1 := hB0.legal
        have hb2 := hB0.back
        have hb3 := hB0.fits
        have hdir := fun h1 => dir_in hb1 h1
        have HKl : Hid ((boxOf ((fx, fy), fd) ((tx, ty), td)).length = K) := hKl
        have HK3 : Hid (3 ≤ K) := hK3
        have HKs : Hid (K ≤ 1000000) := hKs
        have HG7 : Hid (GridAt wr g u0 c.W c.H G.uses v') := G7
        have HQ7 : Hid (Two w #[.int .i64 c.W, .int .i64 c.H, .int .i64 c.height, vb, vp, vr, vs, .int .i64 c.unit, .int .i64 c.accel, .int .i64 c.speed, .int .i64 c.turn, .int .i64 c.hoist, .int .i64 c.queue, .int .i64 c.resend, .int .i64 c.budget, .bool c.back] #[.int .i64 fx, .int .i64 fy, .bool fd] 41 wr) := Q7
        have HB0 : Hid (Back c.W c.H G.uses ((fx, fy), fd) (kd, dir, n, ((fx, fy), fd), ((tx, ty), td), ma, me)) := hB0
        clear hrd hKl hKs hK3 hKo hB0 Q6 G6 Q7 G7 bW hb1 hb2 hb3
        by_cases hk1 : kd = 1
        · subst hk1
          obtain ⟨hd0, hd3⟩ := hdir rfl
          clear hdir
          simp only at hd0 hd3
          have HM : Hid ((dir + 2).tmod 4 = (dir + 2) % 4) := Int.tmod_eq_emod_of_nonneg (by omega)
          go_wp2_with (first
                    | (refine wpList_load_at rfl 50 (.tmp 41) rfl (p.add (k * 11)) rfl #[.int .i64 1, .int .i64 dir, .int .i64 n, .int .i64 fx, .int .i64 fy, .bool fd, .int .i64 tx, .int .i64 ty, .bool td, .int .i64 ma, .int .i64 me] hX (aggMv _) info_move ?_))
          obtain ⟨wz, hwz⟩ : ∃ wz, (wr.alloc (.cells #[.int .i64 1, .int .i64 dir, .int .i64 n, .int .i64 fx, .int .i64 fy, .bool fd, .int .i64 tx, .int .i64 ty, .bool td, .int .i64 ma, .int .i64 me] 50)).alloc (.cells #[.int .i64 1, .int .i64 ((dir + 2) % 4), .int .i64 n, .int .i64 tx, .int .i64 ty, .bool td, .int .i64 fx, .int .i64 fy, .bool fd, .int .i64 ma, .int .i64 me] 50) = wz := ⟨_, rfl⟩
          have MZ : Mv wr #[.int .i64 1, .int .i64 dir, .int .i64 n, .int .i64 fx, .int .i64 fy, .bool fd, .int .i64 tx, .int .i64 ty, .bool td, .int .i64 ma, .int .i64 me] #[.int .i64 1, .int .i64 ((dir + 2) % 4), .int .i64 n, .int .i64 tx, .int .i64 ty, .bool td, .int .i64 fx, .int .i64 fy, .bool fd, .int .i64 ma, .int .i64 me] wz := by rw [← hwz]; exact mv_new _ _ _
          try rw [hwz]
          clear hwz hX
          have hb1 := HB0.out.legal
          have hb2 : legalU c.W c.H G.uses (1, ((dir + 2) % 4), n, ((tx, ty), td), ((fx, fy), fd), ma, me) = true := by have := HB0.out.back; unfold backM at this; simp only [if_true] at this; rw [HM.out] at this; exact this
          have hb3 : fitsU c.W c.H G.uses ((tx, ty), td) = true := HB0.out.fits
          have GZ := HG7.out.go MZ.below
          have QZ := HQ7.out.go MZ.below
          have eA := MZ.a
          have eB := MZ.b
          have eP := QZ.b
          have cL1 := fun u (b : Below wz.heap.size wz u) => ret_of (legal_any g u0 c.W c.H G.uses v' (1, dir, n, ((fx, fy), fd), ((tx, ty), td), ma, me) u (GZ.go b))
          have cL2 := fun u (b : Below wz.heap.size wz u) => ret_of (legal_any g u0 c.W c.H G.uses v' (1, ((dir + 2) % 4), n, ((tx, ty), td), ((fx, fy), fd), ma, me) u (GZ.go b))
          have cFt := fun u (b : Below wz.heap.size wz u) => ret_of (fits_any g u0 c.W c.H G.uses v' tx ty td u (GZ.go b))
          have cS1 := fun u (b : Below wz.heap.size wz u) => swept_same (m := (1, dir, n, ((fx, fy), fd), ((tx, ty), td), ma, me)) hWW hHH hb1 K _ rfl HKl.out u (GZ.go b)
          have cS2 := fun u (b : Below wz.heap.size wz u) => swept_same (m := (1, ((dir + 2) % 4), n, ((tx, ty), td), ((fx, fy), fd), ma, me)) hWW hHH hb2 K _ (box_symm _ _) HKl.out u (GZ.go b)
          rw [hb1] at cL1
          rw [hb2] at cL2
          rw [hb3] at cFt
          simp only at cS1
          generalize boxOf ((fx, fy), fd) ((tx, ty), td) = Ls at cS1 cS2 HKl
          have hKi : decide (((K : Nat) : Int) < 3) = false := decide_eq_false (by have := HK3.out; omega)
          have HMZ : Hid (Mv wr #[.int .i64 1, .int .i64 dir, .int .i64 n, .int .i64 fx, .int .i64 fy, .bool fd, .int .i64 tx, .int .i64 ty, .bool td, .int .i64 ma, .int .i64 me] #[.int .i64 1, .int .i64 ((dir + 2) % 4), .int .i64 n, .int .i64 tx, .int .i64 ty, .bool td, .int .i64 fx, .int .i64 fy, .bool fd, .int .i64 ma, .int .i64 me] wz) := MZ
          clear hb1 hb2 hb3 MZ
          obtain ⟨IH, hIH⟩ : ∃ I : World → Prop, I = Below wz.heap.size wz := ⟨_, rfl⟩
          have kI : ∀ u, IH u → Below wz.heap.size wz u := fun u hu => by rw [hIH] at hu; exact hu
          have hS : IH wz.drew := by rw [hIH]; exact (Below.refl _ _).drew
          have D0 : Below wz.heap.size wz wz.drew := (Below.refl _ _).drew
          have HA : Hid (∀ u, IH u → ∀ j z, #[Value.int .i64 1, .int .i64 dir, .int .i64 n, .int .i64 fx, .int .i64 fy, .bool fd, .int .i64 tx, .int .i64 ty, .bool td, .int .i64 ma, .int .i64 me][j]? = some z → u.cell? ((⟨wr.heap.size, 0, none⟩ : Addr).add j) = some z) := fun u hu => row_below eA (kI u hu)
          have HB : Hid (∀ u, IH u → ∀ j z, #[Value.int .i64 1, .int .i64 ((dir + 2) % 4), .int .i64 n, .int .i64 tx, .int .i64 ty, .bool td, .int .i64 fx, .int .i64 fy, .bool fd, .int .i64 ma, .int .i64 me][j]? = some z → u.cell? ((⟨wr.heap.size + 1, 0, none⟩ : Addr).add j) = some z) := fun u hu => row_below eB (kI u hu)
          have HP : Hid (∀ u, IH u → ∀ j z, #[Value.int .i64 fx, .int .i64 fy, .bool fd][j]? = some z → u.cell? ((⟨w.heap.size + 1, 0, none⟩ : Addr).add j) = some z) := fun u hu => row_below eP (kI u hu)
          have HF : Hid (∀ u, IH u → ∀ j z, #[Value.int .i64 fx, .int .i64 fy, .bool fd][j]? = some z → u.cell? ((⟨wr.heap.size, 3, none⟩ : Addr).add j) = some z) := fun u hu => pose_below eA 3 rfl rfl rfl (kI u hu)
          have HT : Hid (∀ u, IH u → ∀ j z, #[Value.int .i64 tx, .int .i64 ty, .bool td][j]? = some z → u.cell? ((⟨wr.heap.size, 6, none⟩ : Addr).add j) = some z) := fun u hu => pose_below eA 6 rfl rfl rfl (kI u hu)
          clear eA eB eP
          refine start_held (S := IH) 40 rfl (by kernel_rfl) (hS) ?_
          simp only [Array.replicate_succ, Array.replicate_zero, List.push_toArray, List.nil_append, List.cons_append]
          refine take_held 0 (by assumption) rfl (by kernel_rfl) (by kernel_rfl) (by kernel_rfl) (fun _ _ _ h => h) (by kernel_rfl) (v := ?v41) ?y41 ?r41
          case y41 => (intro u hu; go_simp; try rfl)
          simp only [Act.put, List.setIfInBounds_toArray, List.set_cons_zero, List.set_cons_succ]
          refine take_held 1 (by assumption) rfl (by kernel_rfl) (by kernel_rfl) (by kernel_rfl) (fun _ _ _ h => h) (by kernel_rfl) (v := .agg #[.int .i64 fx, .int .i64 fy, .bool fd]) ?y42 ?r42
          case y42 => (intro u hu; exact run_load_op 41 _ rfl ⟨wr.heap.size, 3, none⟩ _ rfl (HF.out u hu) (aggPose u) infoPose2)
          simp only [Act.put, List.setIfInBounds_toArray, List.set_cons_zero, List.set_cons_succ]
          refine take_held 2 (by assumption) rfl (by kernel_rfl) (by kernel_rfl) (by kernel_rfl) (fun _ _ _ h => h) (by kernel_rfl) (v := .agg #[.int .i64 fx, .int .i64 fy, .bool fd]) ?y43 ?r43
          case y43 => (intro u hu; exact run_load_op 41 _ rfl ⟨w.heap.size + 1, 0, none⟩ _ rfl (HP.out u hu) (aggPose u) infoPose2)
          simp only [Act.put, List.setIfInBounds_toArray, List.set_cons_zero, List.set_cons_succ]
          refine take_held 3 (by assumption) rfl (by kernel_rfl) (by kernel_rfl) (by kernel_rfl) (fun _ _ _ h => h) (by kernel_rfl) (v := .bool false) ?y44 ?r44
          case y44 => (intro u hu; exact run_neq_pose _ _ rfl fx fy fd rfl rfl)
          simp only [Act.put, List.setIfInBounds_toArray, List.set_cons_zero, List.set_cons_succ]
          refine take_held 4 (by assumption) rfl (by kernel_rfl) (by kernel_rfl) (by kernel_rfl) (fun _ _ _ h => h) (by kernel_rfl) (v := ?v45) ?y45 ?r45
          case y45 => (intro u hu; go_simp; try rfl)
          simp only [Act.put, List.setIfInBounds_toArray, List.set_cons_zero, List.set_cons_succ]
          refine take_held 5 (by assumption) rfl (by kernel_rfl) (by kernel_rfl) (by kernel_rfl) (fun _ _ _ h => h) (by kernel_rfl) (v := ?v46) ?y46 ?r46
          case y46 => (intro u hu; go_simp; try rfl)
          simp only [Act.put, List.setIfInBounds_toArray, List.set_cons_zero, List.set_cons_succ]
          refine take_held 6 (by assumption) rfl (by kernel_rfl) (by kernel_rfl) (by kernel_rfl) (fun _ _ _ h => h) (by kernel_rfl) (v := .agg #[.int .i64 1, .int .i64 dir, .int .i64 n, .int .i64 fx, .int .i64 fy, .bool fd, .int .i64 tx, .int .i64 ty, .bool td, .int .i64 ma, .int .i64 me]) ?y47 ?r47
          case y47 => (intro u hu; exact run_load_op 50 _ rfl ⟨wr.heap.size, 0, none⟩ _ rfl (HA.out u hu) (aggMv u) info_move)
          simp only [Act.put, List.setIfInBounds_toArray, List.set_cons_zero, List.set_cons_succ]
          refine wpAnyH_ready (rs := [7]) (by kernel_rfl) (by simp) (AllReadyH.cons ((nth_eq _ 7).trans rfl) ?_ AllReadyH.nil)
          intro K' hK
          refine call_in hK (by kernel_rfl) 39 #[.pointer (some ⟨g, 0, none⟩), .agg #[.int .i64 1, .int .i64 dir, .int .i64 n, .int .i64 fx, .int .i64 fy, .bool fd, .int .i64 tx, .int .i64 ty, .bool td, .int .i64 ma, .int .i64 me]] (by go_simp) _ (cL1 _ D0) ?_
          rintro v w20 ⟨rfl, b20⟩
          have D20 := bcat D0 b20 (Nat.le_refl _)
          have hS20 : IH w20 := by rw [hIH]; exact D20
          refine ⟨hS20, ?_⟩
          simp only [Act.put, List.setIfInBounds_toArray, List.set_cons_zero, List.set_cons_succ]
          refine take_held 8 (by assumption) rfl (by kernel_rfl) (by kernel_rfl) (by kernel_rfl) (fun _ _ _ h => h) (by kernel_rfl) (v := ?v48) ?y48 ?r48
          case y48 => (intro u hu; go_simp; try rfl)
          simp only [Act.put, List.setIfInBounds_toArray, List.set_cons_zero, List.set_cons_succ]
          refine take_held 9 (by assumption) rfl (by kernel_rfl) (by kernel_rfl) (by kernel_rfl) (fun _ _ _ h => h) (by kernel_rfl) (v := ?v49) ?y49 ?r49
          case y49 => (intro u hu; go_simp; try rfl)
          simp only [Act.put, List.setIfInBounds_toArray, List.set_cons_zero, List.set_cons_succ]
          refine take_held 10 (by assumption) rfl (by kernel_rfl) (by kernel_rfl) (by kernel_rfl) (fun _ _ _ h => h) (by kernel_rfl) (v := ?v50) ?y50 ?r50
          case y50 => (intro u hu; go_simp; try rfl)
          simp only [Act.put, List.setIfInBounds_toArray, List.set_cons_zero, List.set_cons_succ]
          refine take_held 11 (by assumption) rfl (by kernel_rfl) (by kernel_rfl) (by kernel_rfl) (fun _ _ _ h => h) (by kernel_rfl) (v := ?v51) ?y51 ?r51
          case y51 => (intro u hu; go_simp; try rfl)
          simp only [Act.put, List.setIfInBounds_toArray, List.set_cons_zero, List.set_cons_succ]
          refine take_held 12 (by assumption) rfl (by kernel_rfl) (by kernel_rfl) (by kernel_rfl) (fun _ _ _ h => h) (by kernel_rfl) (v := .agg #[.int .i64 1, .int .i64 ((dir + 2) % 4), .int .i64 n, .int .i64 tx, .int .i64 ty, .bool td, .int .i64 fx, .int .i64 fy, .bool fd, .int .i64 ma, .int .i64 me]) ?y52 ?r52
          case y52 => (intro u hu; exact run_load_op 50 _ rfl ⟨wr.heap.size + 1, 0, none⟩ _ rfl (HB.out u hu) (aggMv u) info_move)
          simp only [Act.put, List.setIfInBounds_toArray, List.set_cons_zero, List.set_cons_succ]
          refine wpAnyH_ready (rs := [13]) (by kernel_rfl) (by simp) (AllReadyH.cons ((nth_eq _ 13).trans rfl) ?_ AllReadyH.nil)
          intro K' hK
          refine call_in hK (by kernel_rfl) 39 #[.pointer (some ⟨g, 0, none⟩), .agg #[.int .i64 1, .int .i64 ((dir + 2) % 4), .int .i64 n, .int .i64 tx, .int .i64 ty, .bool td, .int .i64 fx, .int .i64 fy, .bool fd, .int .i64 ma, .int .i64 me]] (by go_simp) _ (cL2 _ D20) ?_
          rintro v w21 ⟨rfl, b21⟩
          have D21 := bcat D20 b21 (Nat.le_refl _)
          have hS21 : IH w21 := by rw [hIH]; exact D21
          refine ⟨hS21, ?_⟩
          simp only [Act.put, List.setIfInBounds_toArray, List.set_cons_zero, List.set_cons_succ]
          refine take_held 14 (by assumption) rfl (by kernel_rfl) (by kernel_rfl) (by kernel_rfl) (fun _ _ _ h => h) (by kernel_rfl) (v := ?v53) ?y53 ?r53
          case y53 => (intro u hu; go_simp; try rfl)
          simp only [Act.put, List.setIfInBounds_toArray, List.set_cons_zero, List.set_cons_succ]
          refine take_held 15 (by assumption) rfl (by kernel_rfl) (by kernel_rfl) (by kernel_rfl) (fun _ _ _ h => h) (by kernel_rfl) (v := ?v54) ?y54 ?r54
          case y54 => (intro u hu; go_simp; try rfl)
          simp only [Act.put, List.setIfInBounds_toArray, List.set_cons_zero, List.set_cons_succ]
          refine take_held 16 (by assumption) rfl (by kernel_rfl) (by kernel_rfl) (by kernel_rfl) (fun _ _ _ h => h) (by kernel_rfl) (v := ?v55) ?y55 ?r55
          case y55 => (intro u hu; go_simp; try rfl)
          simp only [Act.put, List.setIfInBounds_toArray, List.set_cons_zero, List.set_cons_succ]
          refine take_held 17 (by assumption) rfl (by kernel_rfl) (by kernel_rfl) (by kernel_rfl) (fun _ _ _ h => h) (by kernel_rfl) (v := ?v56) ?y56 ?r56
          case y56 => (intro u hu; go_simp; try rfl)
          simp only [Act.put, List.setIfInBounds_toArray, List.set_cons_zero, List.set_cons_succ]
          refine take_held 18 (by assumption) rfl (by kernel_rfl) (by kernel_rfl) (by kernel_rfl) (fun _ _ _ h => h) (by kernel_rfl) (v := ?v57) ?y57 ?r57
          case y57 => (intro u hu; go_simp; try rfl)
          simp only [Act.put, List.setIfInBounds_toArray, List.set_cons_zero, List.set_cons_succ]
          refine take_held 19 (by assumption) rfl (by kernel_rfl) (by kernel_rfl) (by kernel_rfl) (fun _ _ _ h => h) (by kernel_rfl) (v := .agg #[.int .i64 tx, .int .i64 ty, .bool td]) ?y58 ?r58
          case y58 => (intro u hu; exact run_load_op 41 _ rfl ⟨wr.heap.size, 6, none⟩ _ rfl (HT.out u hu) (aggPose u) infoPose2)
          simp only [Act.put, List.setIfInBounds_toArray, List.set_cons_zero, List.set_cons_succ]
          refine wpAnyH_ready (rs := [20]) (by kernel_rfl) (by simp) (AllReadyH.cons ((nth_eq _ 20).trans rfl) ?_ AllReadyH.nil)
          intro K' hK
          refine call_in hK (by kernel_rfl) 37 #[.pointer (some ⟨g, 0, none⟩), .agg #[.int .i64 tx, .int .i64 ty, .bool td]] (by go_simp) _ (cFt _ D21) ?_
          rintro v w22 ⟨rfl, b22⟩
          have D22 := bcat D21 b22 (Nat.le_refl _)
          have hS22 : IH w22 := by rw [hIH]; exact D22
          refine ⟨hS22, ?_⟩
          simp only [Act.put, List.setIfInBounds_toArray, List.set_cons_zero, List.set_cons_succ]
          refine take_held 21 (by assumption) rfl (by kernel_rfl) (by kernel_rfl) (by kernel_rfl) (fun _ _ _ h => h) (by kernel_rfl) (v := ?v59) ?y59 ?r59
          case y59 => (intro u hu; go_simp; try rfl)
          simp only [Act.put, List.setIfInBounds_toArray, List.set_cons_zero, List.set_cons_succ]
          refine take_held 22 (by assumption) rfl (by kernel_rfl) (by kernel_rfl) (by kernel_rfl) (fun _ _ _ h => h) (by kernel_rfl) (v := ?v60) ?y60 ?r60
          case y60 => (intro u hu; go_simp; try rfl)
          simp only [Act.put, List.setIfInBounds_toArray, List.set_cons_zero, List.set_cons_succ]
          refine take_held 23 (by assumption) rfl (by kernel_rfl) (by kernel_rfl) (by kernel_rfl) (fun _ _ _ h => h) (by kernel_rfl) (v := ?v61) ?y61 ?r61
          case y61 => (intro u hu; go_simp; try rfl)
          simp only [Act.put, List.setIfInBounds_toArray, List.set_cons_zero, List.set_cons_succ]
          refine take_held 24 (by assumption) rfl (by kernel_rfl) (by kernel_rfl) (by kernel_rfl) (fun _ _ _ h => h) (by kernel_rfl) (v := ?v62) ?y62 ?r62
          case y62 => (intro u hu; go_simp; try rfl)
          simp only [Act.put, List.setIfInBounds_toArray, List.set_cons_zero, List.set_cons_succ]
          refine take_held 25 (by assumption) rfl (by kernel_rfl) (by kernel_rfl) (by kernel_rfl) (fun _ _ _ h => h) (by kernel_rfl) (v := .agg #[.int .i64 1, .int .i64 dir, .int .i64 n, .int .i64 fx, .int .i64 fy, .bool fd, .int .i64 tx, .int .i64 ty, .bool td, .int .i64 ma, .int .i64 me]) ?y63 ?r63
          case y63 => (intro u hu; exact run_load_op 50 _ rfl ⟨wr.heap.size, 0, none⟩ _ rfl (HA.out u hu) (aggMv u) info_move)
          simp only [Act.put, List.setIfInBounds_toArray, List.set_cons_zero, List.set_cons_succ]
          refine wpAnyH_ready (rs := [26]) (by kernel_rfl) (by simp) (AllReadyH.cons ((nth_eq _ 26).trans rfl) ?_ AllReadyH.nil)
          intro K' hK
          refine call_in hK (by kernel_rfl) 41 #[.pointer (some ⟨g, 0, none⟩), .agg #[.int .i64 1, .int .i64 dir, .int .i64 n, .int .i64 fx, .int .i64 fy, .bool fd, .int .i64 tx, .int .i64 ty, .bool td, .int .i64 ma, .int .i64 me]] (by go_simp) _ (cS1 _ D22) ?_
          rintro v w23 ⟨own1, b23⟩
          have D23 := bcat D22 b23 (Nat.le_refl _)
          have hS23 : IH w23 := by rw [hIH]; exact D23
          obtain ⟨a1, cap1, hv_, _⟩ := own_form own1
          subst hv_
          refine ⟨hS23, ?_⟩
          simp only [Act.put, List.setIfInBounds_toArray, List.set_cons_zero, List.set_cons_succ]
          refine take_held 27 (by assumption) rfl (by kernel_rfl) (by kernel_rfl) (by kernel_rfl) (fun _ _ _ h => h) (by kernel_rfl) (v := ?v64) ?y64 ?r64
          case y64 => (intro u hu; go_simp; try rfl)
          simp only [Act.put, List.setIfInBounds_toArray, List.set_cons_zero, List.set_cons_succ]
          refine take_held 28 (by assumption) rfl (by kernel_rfl) (by kernel_rfl) (by kernel_rfl) (fun _ _ _ h => h) (by kernel_rfl) (v := .bool false) ?y65 ?r65
          case y65 => (intro u hu; go_simp; try exact hKi)
          simp only [Act.put, List.setIfInBounds_toArray, List.set_cons_zero, List.set_cons_succ]
          refine take_held 29 (by assumption) rfl (by kernel_rfl) (by kernel_rfl) (by kernel_rfl) (fun _ _ _ h => h) (by kernel_rfl) (v := ?v66) ?y66 ?r66
          case y66 => (intro u hu; go_simp; try rfl)
          simp only [Act.put, List.setIfInBounds_toArray, List.set_cons_zero, List.set_cons_succ]
          refine take_held 30 (by assumption) rfl (by kernel_rfl) (by kernel_rfl) (by kernel_rfl) (fun _ _ _ h => h) (by kernel_rfl) (v := ?v67) ?y67 ?r67
          case y67 => (intro u hu; go_simp; try rfl)
          simp only [Act.put, List.setIfInBounds_toArray, List.set_cons_zero, List.set_cons_succ]
          refine take_held 31 (by assumption) rfl (by kernel_rfl) (by kernel_rfl) (by kernel_rfl) (fun _ _ _ h => h) (by kernel_rfl) (v := ?v68) ?y68 ?r68
          case y68 => (intro u hu; go_simp; try rfl)
          simp only [Act.put, List.setIfInBounds_toArray, List.set_cons_zero, List.set_cons_succ]
          refine take_held 32 (by assumption) rfl (by kernel_rfl) (by kernel_rfl) (by kernel_rfl) (fun _ _ _ h => h) (by kernel_rfl) (v := .agg #[.int .i64 1, .int .i64 dir, .int .i64 n, .int .i64 fx, .int .i64 fy, .bool fd, .int .i64 tx, .int .i64 ty, .bool td, .int .i64 ma, .int .i64 me]) ?y69 ?r69
          case y69 => (intro u hu; exact run_load_op 50 _ rfl ⟨wr.heap.size, 0, none⟩ _ rfl (HA.out u hu) (aggMv u) info_move)
          simp only [Act.put, List.setIfInBounds_toArray, List.set_cons_zero, List.set_cons_succ]
          refine take_held 34 (by assumption) rfl (by kernel_rfl) (by kernel_rfl) (by kernel_rfl) (fun _ _ _ h => h) (by kernel_rfl) (v := ?v70) ?y70 ?r70
          case y70 => (intro u hu; go_simp; try rfl)
          simp only [Act.put, List.setIfInBounds_toArray, List.set_cons_zero, List.set_cons_succ]
          refine take_held 35 (by assumption) rfl (by kernel_rfl) (by kernel_rfl) (by kernel_rfl) (fun _ _ _ h => h) (by kernel_rfl) (v := .agg #[.int .i64 1, .int .i64 ((dir + 2) % 4), .int .i64 n, .int .i64 tx, .int .i64 ty, .bool td, .int .i64 fx, .int .i64 fy, .bool fd, .int .i64 ma, .int .i64 me]) ?y71 ?r71
          case y71 => (intro u hu; exact run_load_op 50 _ rfl ⟨wr.heap.size + 1, 0, none⟩ _ rfl (HB.out u hu) (aggMv u) info_move)
          simp only [Act.put, List.setIfInBounds_toArray, List.set_cons_zero, List.set_cons_succ]
          refine wpAnyH_ready (rs := [33]) (by kernel_rfl) (by simp) (AllReadyH.cons ((nth_eq _ 33).trans rfl) ?_ AllReadyH.nil)
          intro K' hK
          refine call_in hK (by kernel_rfl) 41 #[.pointer (some ⟨g, 0, none⟩), .agg #[.int .i64 1, .int .i64 dir, .int .i64 n, .int .i64 fx, .int .i64 fy, .bool fd, .int .i64 tx, .int .i64 ty, .bool td, .int .i64 ma, .int .i64 me]] (by go_simp) _ (cS1 _ D23) ?_
          rintro v w24 ⟨own2, b24⟩
          have D24 := bcat D23 b24 (Nat.le_refl _)
          have hS24 : IH w24 := by rw [hIH]; exact D24
          obtain ⟨a2, cap2, hv_, _⟩ := own_form own2
          subst hv_
          refine ⟨hS24, ?_⟩
          simp only [Act.put, List.setIfInBounds_toArray, List.set_cons_zero, List.set_cons_succ]
          refine wpAnyH_ready (rs := [36]) (by kernel_rfl) (by simp) (AllReadyH.cons ((nth_eq _ 36).trans rfl) ?_ AllReadyH.nil)
          intro K' hK
          refine call_in hK (by kernel_rfl) 41 #[.pointer (some ⟨g, 0, none⟩), .agg #[.int .i64 1, .int .i64 ((dir + 2) % 4), .int .i64 n, .int .i64 tx, .int .i64 ty, .bool td, .int .i64 fx, .int .i64 fy, .bool fd, .int .i64 ma, .int .i64 me]] (by go_simp) _ (cS2 _ D24) ?_
          rintro v w25 ⟨own3, b25⟩
          have D25 := bcat D24 b25 (Nat.le_refl _)
          have hS25 : IH w25 := by rw [hIH]; exact D25
          obtain ⟨a3, cap3, hv_, _⟩ := own_form own3
          subst hv_
          have own2 := owns_go own2 b25
          refine ⟨hS25, ?_⟩
          simp only [Act.put, List.setIfInBounds_toArray, List.set_cons_zero, List.set_cons_succ]
          refine wpAnyH_ready (rs := [37]) (by kernel_rfl) (by simp) (AllReadyH.cons ((nth_eq _ 37).trans rfl) ?_ AllReadyH.nil)
          intro K' hK
          refine call_in hK (by kernel_rfl) 34 #[.slice a2 K cap2, .slice a3 K cap3] (by go_simp) _ (same_lists Ls K HKl.out HKs.out _ _ _ _ _ own2 own3) ?_
          rintro v w26 ⟨rfl, b26⟩
          have D26 := bcat D25 b26 (Nat.le_refl _)
          have hS26 : IH w26 := by rw [hIH]; exact D26
          refine ⟨hS26, ?_⟩
          simp only [Act.put, List.setIfInBounds_toArray, List.set_cons_zero, List.set_cons_succ]
          refine take_held 38 (by assumption) rfl (by kernel_rfl) (by kernel_rfl) (by kernel_rfl) (fun _ _ _ h => h) (by kernel_rfl) (v := ?v72) ?y72 ?r72
          case y72 => (intro u hu; go_simp; try rfl)
          simp only [Act.put, List.setIfInBounds_toArray, List.set_cons_zero, List.set_cons_succ]
          refine take_held 39 (by assumption) rfl (by kernel_rfl) (by kernel_rfl) (by kernel_rfl) (fun _ _ _ h => h) (by kernel_rfl) (v := ?v73) ?y73 ?r73
          case y73 => (intro u hu; go_simp; try rfl)
          simp only [Act.put, List.setIfInBounds_toArray, List.set_cons_zero, List.set_cons_succ]
          refine done_held (by kernel_rfl) ?_ _
          have HI9 : Hid (IW w26) := by
            show IW w26
            have := HI.out
            rw [hIW] at this ⊢
            exact bcat (bcat this HMZ.out.below (Nat.le_refl _)) D26 (Nat.le_refl _)
          go_wp2
          go_roundw
          case rel => exact ⟨k + 1, by omega, by go_num, HI9⟩
          case measure => simp [intOf]; omega
        · have hkb : (kd == 1) = false := by rw [beq_eq_false_iff_ne]; exact hk1
          clear hdir
          go_wp2_with (first
                    | (refine wpList_load_at rfl 50 (.tmp 41) rfl (p.add (k * 11)) rfl #[.int .i64 kd, .int .i64 dir, .int .i64 n, .int .i64 fx, .int .i64 fy, .bool fd, .int .i64 tx, .int .i64 ty, .bool td, .int .i64 ma, .int .i64 me] hX (aggMv _) info_move ?_))
          obtain ⟨wz, hwz⟩ : ∃ wz, (wr.alloc (.cells #[.int .i64 kd, .int .i64 dir, .int .i64 n, .int .i64 fx, .int .i64 fy, .bool fd, .int .i64 tx, .int .i64 ty, .bool td, .int .i64 ma, .int .i64 me] 50)).alloc (.cells #[.int .i64 kd, .int .i64 dir, .int .i64 n, .int .i64 tx, .int .i64 ty, .bool td, .int .i64 fx, .int .i64 fy, .bool fd, .int .i64 ma, .int .i64 me] 50) = wz := ⟨_, rfl⟩
          have MZ : Mv wr #[.int .i64 kd, .int .i64 dir, .int .i64 n, .int .i64 fx, .int .i64 fy, .bool fd, .int .i64 tx, .int .i64 ty, .bool td, .int .i64 ma, .int .i64 me] #[.int .i64 kd, .int .i64 dir, .int .i64 n, .int .i64 tx, .int .i64 ty, .bool td, .int .i64 fx, .int .i64 fy, .bool fd, .int .i64 ma, .int .i64 me] wz := by rw [← hwz]; exact mv_new _ _ _
          try rw [hwz]
          clear hwz hX
          have hb1 := HB0.out.legal
          have hb2 : legalU c.W c.H G.uses (kd, dir, n, ((tx, ty), td), ((fx, fy), fd), ma, me) = true := by have := HB0.out.back; unfold backM at this; simp only [if_neg hk1] at this; exact this
          have hb3 : fitsU c.W c.H G.uses ((tx, ty), td) = true := HB0.out.fits
          have GZ := HG7.out.go MZ.below
          have QZ := HQ7.out.go MZ.below
          have eA := MZ.a
          have eB := MZ.b
          have eP := QZ.b
          have cL1 := fun u (b : Below wz.heap.size wz u) => ret_of (legal_any g u0 c.W c.H G.uses v' (kd, dir, n, ((fx, fy), fd), ((tx, ty), td), ma, me) u (GZ.go b))
          have cL2 := fun u (b : Below wz.heap.size wz u) => ret_of (legal_any g u0 c.W c.H G.uses v' (kd, dir, n, ((tx, ty), td), ((fx, fy), fd), ma, me) u (GZ.go b))
          have cFt := fun u (b : Below wz.heap.size wz u) => ret_of (fits_any g u0 c.W c.H G.uses v' tx ty td u (GZ.go b))
          have cS1 := fun u (b : Below wz.heap.size wz u) => swept_same (m := (kd, dir, n, ((fx, fy), fd), ((tx, ty), td), ma, me)) hWW hHH hb1 K _ rfl HKl.out u (GZ.go b)
          have cS2 := fun u (b : Below wz.heap.size wz u) => swept_same (m := (kd, dir, n, ((tx, ty), td), ((fx, fy), fd), ma, me)) hWW hHH hb2 K _ (box_symm _ _) HKl.out u (GZ.go b)
          rw [hb1] at cL1
          rw [hb2] at cL2
          rw [hb3] at cFt
          simp only at cS1
          generalize boxOf ((fx, fy), fd) ((tx, ty), td) = Ls at cS1 cS2 HKl
          have hKi : decide (((K : Nat) : Int) < 3) = false := decide_eq_false (by have := HK3.out; omega)
          have HMZ : Hid (Mv wr #[.int .i64 kd, .int .i64 dir, .int .i64 n, .int .i64 fx, .int .i64 fy, .bool fd, .int .i64 tx, .int .i64 ty, .bool td, .int .i64 ma, .int .i64 me] #[.int .i64 kd, .int .i64 dir, .int .i64 n, .int .i64 tx, .int .i64 ty, .bool td, .int .i64 fx, .int .i64 fy, .bool fd, .int .i64 ma, .int .i64 me] wz) := MZ
          clear hb1 hb2 hb3 MZ
          obtain ⟨IH, hIH⟩ : ∃ I : World → Prop, I = Below wz.heap.size wz := ⟨_, rfl⟩
          have kI : ∀ u, IH u → Below wz.heap.size wz u := fun u hu => by rw [hIH] at hu; exact hu
          have hS : IH wz.drew := by rw [hIH]; exact (Below.refl _ _).drew
          have D0 : Below wz.heap.size wz wz.drew := (Below.refl _ _).drew
          have HA : Hid (∀ u, IH u → ∀ j z, #[Value.int .i64 kd, .int .i64 dir, .int .i64 n, .int .i64 fx, .int .i64 fy, .bool fd, .int .i64 tx, .int .i64 ty, .bool td, .int .i64 ma, .int .i64 me][j]? = some z → u.cell? ((⟨wr.heap.size, 0, none⟩ : Addr).add j) = some z) := fun u hu => row_below eA (kI u hu)
          have HB : Hid (∀ u, IH u → ∀ j z, #[Value.int .i64 kd, .int .i64 dir, .int .i64 n, .int .i64 tx, .int .i64 ty, .bool td, .int .i64 fx, .int .i64 fy, .bool fd, .int .i64 ma, .int .i64 me][j]? = some z → u.cell? ((⟨wr.heap.size + 1, 0, none⟩ : Addr).add j) = some z) := fun u hu => row_below eB (kI u hu)
          have HP : Hid (∀ u, IH u → ∀ j z, #[Value.int .i64 fx, .int .i64 fy, .bool fd][j]? = some z → u.cell? ((⟨w.heap.size + 1, 0, none⟩ : Addr).add j) = some z) := fun u hu => row_below eP (kI u hu)
          have HF : Hid (∀ u, IH u → ∀ j z, #[Value.int .i64 fx, .int .i64 fy, .bool fd][j]? = some z → u.cell? ((⟨wr.heap.size, 3, none⟩ : Addr).add j) = some z) := fun u hu => pose_below eA 3 rfl rfl rfl (kI u hu)
          have HT : Hid (∀ u, IH u → ∀ j z, #[Value.int .i64 tx, .int .i64 ty, .bool td][j]? = some z → u.cell? ((⟨wr.heap.size, 6, none⟩ : Addr).add j) = some z) := fun u hu => pose_below eA 6 rfl rfl rfl (kI u hu)
          clear eA eB eP
          refine start_held (S := IH) 40 rfl (by kernel_rfl) (hS) ?_
          simp only [Array.replicate_succ, Array.replicate_zero, List.push_toArray, List.nil_append, List.cons_append]
          refine take_held 0 (by assumption) rfl (by kernel_rfl) (by kernel_rfl) (by kernel_rfl) (fun _ _ _ h => h) (by kernel_rfl) (v := ?v74) ?y74 ?r74
          case y74 => (intro u hu; go_simp; try rfl)
          simp only [Act.put, List.setIfInBounds_toArray, List.set_cons_zero, List.set_cons_succ]
          refine take_held 1 (by assumption) rfl (by kernel_rfl) (by kernel_rfl) (by kernel_rfl) (fun _ _ _ h => h) (by kernel_rfl) (v := .agg #[.int .i64 fx, .int .i64 fy, .bool fd]) ?y75 ?r75
          case y75 => (intro u hu; exact run_load_op 41 _ rfl ⟨wr.heap.size, 3, none⟩ _ rfl (HF.out u hu) (aggPose u) infoPose2)
          simp only [Act.put, List.setIfInBounds_toArray, List.set_cons_zero, List.set_cons_succ]
          refine take_held 2 (by assumption) rfl (by kernel_rfl) (by kernel_rfl) (by kernel_rfl) (fun _ _ _ h => h) (by kernel_rfl) (v := .agg #[.int .i64 fx, .int .i64 fy, .bool fd]) ?y76 ?r76
          case y76 => (intro u hu; exact run_load_op 41 _ rfl ⟨w.heap.size + 1, 0, none⟩ _ rfl (HP.out u hu) (aggPose u) infoPose2)
          simp only [Act.put, List.setIfInBounds_toArray, List.set_cons_zero, List.set_cons_succ]
          refine take_held 3 (by assumption) rfl (by kernel_rfl) (by kernel_rfl) (by kernel_rfl) (fun _ _ _ h => h) (by kernel_rfl) (v := .bool false) ?y77 ?r77
          case y77 => (intro u hu; exact run_neq_pose _ _ rfl fx fy fd rfl rfl)
          simp only [Act.put, List.setIfInBounds_toArray, List.set_cons_zero, List.set_cons_succ]
          refine take_held 4 (by assumption) rfl (by kernel_rfl) (by kernel_rfl) (by kernel_rfl) (fun _ _ _ h => h) (by kernel_rfl) (v := ?v78) ?y78 ?r78
          case y78 => (intro u hu; go_simp; try rfl)
          simp only [Act.put, List.setIfInBounds_toArray, List.set_cons_zero, List.set_cons_succ]
          refine take_held 5 (by assumption) rfl (by kernel_rfl) (by kernel_rfl) (by kernel_rfl) (fun _ _ _ h => h) (by kernel_rfl) (v := ?v79) ?y79 ?r79
          case y79 => (intro u hu; go_simp; try rfl)
          simp only [Act.put, List.setIfInBounds_toArray, List.set_cons_zero, List.set_cons_succ]
          refine take_held 6 (by assumption) rfl (by kernel_rfl) (by kernel_rfl) (by kernel_rfl) (fun _ _ _ h => h) (by kernel_rfl) (v := .agg #[.int .i64 kd, .int .i64 dir, .int .i64 n, .int .i64 fx, .int .i64 fy, .bool fd, .int .i64 tx, .int .i64 ty, .bool td, .int .i64 ma, .int .i64 me]) ?y80 ?r80
          case y80 => (intro u hu; exact run_load_op 50 _ rfl ⟨wr.heap.size, 0, none⟩ _ rfl (HA.out u hu) (aggMv u) info_move)
          simp only [Act.put, List.setIfInBounds_toArray, List.set_cons_zero, List.set_cons_succ]
          refine wpAnyH_ready (rs := [7]) (by kernel_rfl) (by simp) (AllReadyH.cons ((nth_eq _ 7).trans rfl) ?_ AllReadyH.nil)
          intro K' hK
          refine call_in hK (by kernel_rfl) 39 #[.pointer (some ⟨g, 0, none⟩), .agg #[.int .i64 kd, .int .i64 dir, .int .i64 n, .int .i64 fx, .int .i64 fy, .bool fd, .int .i64 tx, .int .i64 ty, .bool td, .int .i64 ma, .int .i64 me]] (by go_simp) _ (cL1 _ D0) ?_
          rintro v w20 ⟨rfl, b20⟩
          have D20 := bcat D0 b20 (Nat.le_refl _)
          have hS20 : IH w20 := by rw [hIH]; exact D20
          refine ⟨hS20, ?_⟩
          simp only [Act.put, List.setIfInBounds_toArray, List.set_cons_zero, List.set_cons_succ]
          refine take_held 8 (by assumption) rfl (by kernel_rfl) (by kernel_rfl) (by kernel_rfl) (fun _ _ _ h => h) (by kernel_rfl) (v := ?v81) ?y81 ?r81
          case y81 => (intro u hu; go_simp; try rfl)
          simp only [Act.put, List.setIfInBounds_toArray, List.set_cons_zero, List.set_cons_succ]
          refine take_held 9 (by assumption) rfl (by kernel_rfl) (by kernel_rfl) (by kernel_rfl) (fun _ _ _ h => h) (by kernel_rfl) (v := ?v82) ?y82 ?r82
          case y82 => (intro u hu; go_simp; try rfl)
          simp only [Act.put, List.setIfInBounds_toArray, List.set_cons_zero, List.set_cons_succ]
          refine take_held 10 (by assumption) rfl (by kernel_rfl) (by kernel_rfl) (by kernel_rfl) (fun _ _ _ h => h) (by kernel_rfl) (v := ?v83) ?y83 ?r83
          case y83 => (intro u hu; go_simp; try rfl)
          simp only [Act.put, List.setIfInBounds_toArray, List.set_cons_zero, List.set_cons_succ]
          refine take_held 11 (by assumption) rfl (by kernel_rfl) (by kernel_rfl) (by kernel_rfl) (fun _ _ _ h => h) (by kernel_rfl) (v := ?v84) ?y84 ?r84
          case y84 => (intro u hu; go_simp; try rfl)
          simp only [Act.put, List.setIfInBounds_toArray, List.set_cons_zero, List.set_cons_succ]
          refine take_held 12 (by assumption) rfl (by kernel_rfl) (by kernel_rfl) (by kernel_rfl) (fun _ _ _ h => h) (by kernel_rfl) (v := .agg #[.int .i64 kd, .int .i64 dir, .int .i64 n, .int .i64 tx, .int .i64 ty, .bool td, .int .i64 fx, .int .i64 fy, .bool fd, .int .i64 ma, .int .i64 me]) ?y85 ?r85
          case y85 => (intro u hu; exact run_load_op 50 _ rfl ⟨wr.heap.size + 1, 0, none⟩ _ rfl (HB.out u hu) (aggMv u) info_move)
          simp only [Act.put, List.setIfInBounds_toArray, List.set_cons_zero, List.set_cons_succ]
          refine wpAnyH_ready (rs := [13]) (by kernel_rfl) (by simp) (AllReadyH.cons ((nth_eq _ 13).trans rfl) ?_ AllReadyH.nil)
          intro K' hK
          refine call_in hK (by kernel_rfl) 39 #[.pointer (some ⟨g, 0, none⟩), .agg #[.int .i64 kd, .int .i64 dir, .int .i64 n, .int .i64 tx, .int .i64 ty, .bool td, .int .i64 fx, .int .i64 fy, .bool fd, .int .i64 ma, .int .i64 me]] (by go_simp) _ (cL2 _ D20) ?_
          rintro v w21 ⟨rfl, b21⟩
          have D21 := bcat D20 b21 (Nat.le_refl _)
          have hS21 : IH w21 := by rw [hIH]; exact D21
          refine ⟨hS21, ?_⟩
          simp only [Act.put, List.setIfInBounds_toArray, List.set_cons_zero, List.set_cons_succ]
          refine take_held 14 (by assumption) rfl (by kernel_rfl) (by kernel_rfl) (by kernel_rfl) (fun _ _ _ h => h) (by kernel_rfl) (v := ?v86) ?y86 ?r86
          case y86 => (intro u hu; go_simp; try rfl)
          simp only [Act.put, List.setIfInBounds_toArray, List.set_cons_zero, List.set_cons_succ]
          refine take_held 15 (by assumption) rfl (by kernel_rfl) (by kernel_rfl) (by kernel_rfl) (fun _ _ _ h => h) (by kernel_rfl) (v := ?v87) ?y87 ?r87
          case y87 => (intro u hu; go_simp; try rfl)
          simp only [Act.put, List.setIfInBounds_toArray, List.set_cons_zero, List.set_cons_succ]
          refine take_held 16 (by assumption) rfl (by kernel_rfl) (by kernel_rfl) (by kernel_rfl) (fun _ _ _ h => h) (by kernel_rfl) (v := ?v88) ?y88 ?r88
          case y88 => (intro u hu; go_simp; try rfl)
          simp only [Act.put, List.setIfInBounds_toArray, List.set_cons_zero, List.set_cons_succ]
          refine take_held 17 (by assumption) rfl (by kernel_rfl) (by kernel_rfl) (by kernel_rfl) (fun _ _ _ h => h) (by kernel_rfl) (v := ?v89) ?y89 ?r89
          case y89 => (intro u hu; go_simp; try rfl)
          simp only [Act.put, List.setIfInBounds_toArray, List.set_cons_zero, List.set_cons_succ]
          refine take_held 18 (by assumption) rfl (by kernel_rfl) (by kernel_rfl) (by kernel_rfl) (fun _ _ _ h => h) (by kernel_rfl) (v := ?v90) ?y90 ?r90
          case y90 => (intro u hu; go_simp; try rfl)
          simp only [Act.put, List.setIfInBounds_toArray, List.set_cons_zero, List.set_cons_succ]
          refine take_held 19 (by assumption) rfl (by kernel_rfl) (by kernel_rfl) (by kernel_rfl) (fun _ _ _ h => h) (by kernel_rfl) (v := .agg #[.int .i64 tx, .int .i64 ty, .bool td]) ?y91 ?r91
          case y91 => (intro u hu; exact run_load_op 41 _ rfl ⟨wr.heap.size, 6, none⟩ _ rfl (HT.out u hu) (aggPose u) infoPose2)
          simp only [Act.put, List.setIfInBounds_toArray, List.set_cons_zero, List.set_cons_succ]
          refine wpAnyH_ready (rs := [20]) (by kernel_rfl) (by simp) (AllReadyH.cons ((nth_eq _ 20).trans rfl) ?_ AllReadyH.nil)
          intro K' hK
          refine call_in hK (by kernel_rfl) 37 #[.pointer (some ⟨g, 0, none⟩), .agg #[.int .i64 tx, .int .i64 ty, .bool td]] (by go_simp) _ (cFt _ D21) ?_
          rintro v w22 ⟨rfl, b22⟩
          have D22 := bcat D21 b22 (Nat.le_refl _)
          have hS22 : IH w22 := by rw [hIH]; exact D22
          refine ⟨hS22, ?_⟩
          simp only [Act.put, List.setIfInBounds_toArray, List.set_cons_zero, List.set_cons_succ]
          refine take_held 21 (by assumption) rfl (by kernel_rfl) (by kernel_rfl) (by kernel_rfl) (fun _ _ _ h => h) (by kernel_rfl) (v := ?v92) ?y92 ?r92
          case y92 => (intro u hu; go_simp; try rfl)
          simp only [Act.put, List.setIfInBounds_toArray, List.set_cons_zero, List.set_cons_succ]
          refine take_held 22 (by assumption) rfl (by kernel_rfl) (by kernel_rfl) (by kernel_rfl) (fun _ _ _ h => h) (by kernel_rfl) (v := ?v93) ?y93 ?r93
          case y93 => (intro u hu; go_simp; try rfl)
          simp only [Act.put, List.setIfInBounds_toArray, List.set_cons_zero, List.set_cons_succ]
          refine take_held 23 (by assumption) rfl (by kernel_rfl) (by kernel_rfl) (by kernel_rfl) (fun _ _ _ h => h) (by kernel_rfl) (v := ?v94) ?y94 ?r94
          case y94 => (intro u hu; go_simp; try rfl)
          simp only [Act.put, List.setIfInBounds_toArray, List.set_cons_zero, List.set_cons_succ]
          refine take_held 24 (by assumption) rfl (by kernel_rfl) (by kernel_rfl) (by kernel_rfl) (fun _ _ _ h => h) (by kernel_rfl) (v := ?v95) ?y95 ?r95
          case y95 => (intro u hu; go_simp; try rfl)
          simp only [Act.put, List.setIfInBounds_toArray, List.set_cons_zero, List.set_cons_succ]
          refine take_held 25 (by assumption) rfl (by kernel_rfl) (by kernel_rfl) (by kernel_rfl) (fun _ _ _ h => h) (by kernel_rfl) (v := .agg #[.int .i64 kd, .int .i64 dir, .int .i64 n, .int .i64 fx, .int .i64 fy, .bool fd, .int .i64 tx, .int .i64 ty, .bool td, .int .i64 ma, .int .i64 me]) ?y96 ?r96
          case y96 => (intro u hu; exact run_load_op 50 _ rfl ⟨wr.heap.size, 0, none⟩ _ rfl (HA.out u hu) (aggMv u) info_move)
          simp only [Act.put, List.setIfInBounds_toArray, List.set_cons_zero, List.set_cons_succ]
          refine wpAnyH_ready (rs := [26]) (by kernel_rfl) (by simp) (AllReadyH.cons ((nth_eq _ 26).trans rfl) ?_ AllReadyH.nil)
          intro K' hK
          refine call_in hK (by kernel_rfl) 41 #[.pointer (some ⟨g, 0, none⟩), .agg #[.int .i64 kd, .int .i64 dir, .int .i64 n, .int .i64 fx, .int .i64 fy, .bool fd, .int .i64 tx, .int .i64 ty, .bool td, .int .i64 ma, .int .i64 me]] (by go_simp) _ (cS1 _ D22) ?_
          rintro v w23 ⟨own1, b23⟩
          have D23 := bcat D22 b23 (Nat.le_refl _)
          have hS23 : IH w23 := by rw [hIH]; exact D23
          obtain ⟨a1, cap1, hv_, _⟩ := own_form own1
          subst hv_
          refine ⟨hS23, ?_⟩
          simp only [Act.put, List.setIfInBounds_toArray, List.set_cons_zero, List.set_cons_succ]
          refine take_held 27 (by assumption) rfl (by kernel_rfl) (by kernel_rfl) (by kernel_rfl) (fun _ _ _ h => h) (by kernel_rfl) (v := ?v97) ?y97 ?r97
          case y97 => (intro u hu; go_simp; try rfl)
          simp only [Act.put, List.setIfInBounds_toArray, List.set_cons_zero, List.set_cons_succ]
          refine take_held 28 (by assumption) rfl (by kernel_rfl) (by kernel_rfl) (by kernel_rfl) (fun _ _ _ h => h) (by kernel_rfl) (v := .bool false) ?y98 ?r98
          case y98 => (intro u hu; go_simp; try exact hKi)
          simp only [Act.put, List.setIfInBounds_toArray, List.set_cons_zero, List.set_cons_succ]
          refine take_held 29 (by assumption) rfl (by kernel_rfl) (by kernel_rfl) (by kernel_rfl) (fun _ _ _ h => h) (by kernel_rfl) (v := ?v99) ?y99 ?r99
          case y99 => (intro u hu; go_simp; try rfl)
          simp only [Act.put, List.setIfInBounds_toArray, List.set_cons_zero, List.set_cons_succ]
          refine take_held 30 (by assumption) rfl (by kernel_rfl) (by kernel_rfl) (by kernel_rfl) (fun _ _ _ h => h) (by kernel_rfl) (v := ?v100) ?y100 ?r100
          case y100 => (intro u hu; go_simp; try rfl)
          simp only [Act.put, List.setIfInBounds_toArray, List.set_cons_zero, List.set_cons_succ]
          refine take_held 31 (by assumption) rfl (by kernel_rfl) (by kernel_rfl) (by kernel_rfl) (fun _ _ _ h => h) (by kernel_rfl) (v := ?v101) ?y101 ?r101
          case y101 => (intro u hu; go_simp; try rfl)
          simp only [Act.put, List.setIfInBounds_toArray, List.set_cons_zero, List.set_cons_succ]
          refine take_held 32 (by assumption) rfl (by kernel_rfl) (by kernel_rfl) (by kernel_rfl) (fun _ _ _ h => h) (by kernel_rfl) (v := .agg #[.int .i64 kd, .int .i64 dir, .int .i64 n, .int .i64 fx, .int .i64 fy, .bool fd, .int .i64 tx, .int .i64 ty, .bool td, .int .i64 ma, .int .i64 me]) ?y102 ?r102
          case y102 => (intro u hu; exact run_load_op 50 _ rfl ⟨wr.heap.size, 0, none⟩ _ rfl (HA.out u hu) (aggMv u) info_move)
          simp only [Act.put, List.setIfInBounds_toArray, List.set_cons_zero, List.set_cons_succ]
          refine take_held 34 (by assumption) rfl (by kernel_rfl) (by kernel_rfl) (by kernel_rfl) (fun _ _ _ h => h) (by kernel_rfl) (v := ?v103) ?y103 ?r103
          case y103 => (intro u hu; go_simp; try rfl)
          simp only [Act.put, List.setIfInBounds_toArray, List.set_cons_zero, List.set_cons_succ]
          refine take_held 35 (by assumption) rfl (by kernel_rfl) (by kernel_rfl) (by kernel_rfl) (fun _ _ _ h => h) (by kernel_rfl) (v := .agg #[.int .i64 kd, .int .i64 dir, .int .i64 n, .int .i64 tx, .int .i64 ty, .bool td, .int .i64 fx, .int .i64 fy, .bool fd, .int .i64 ma, .int .i64 me]) ?y104 ?r104
          case y104 => (intro u hu; exact run_load_op 50 _ rfl ⟨wr.heap.size + 1, 0, none⟩ _ rfl (HB.out u hu) (aggMv u) info_move)
          simp only [Act.put, List.setIfInBounds_toArray, List.set_cons_zero, List.set_cons_succ]
          refine wpAnyH_ready (rs := [33]) (by kernel_rfl) (by simp) (AllReadyH.cons ((nth_eq _ 33).trans rfl) ?_ AllReadyH.nil)
          intro K' hK
          refine call_in hK (by kernel_rfl) 41 #[.pointer (some ⟨g, 0, none⟩), .agg #[.int .i64 kd, .int .i64 dir, .int .i64 n, .int .i64 fx, .int .i64 fy, .bool fd, .int .i64 tx, .int .i64 ty, .bool td, .int .i64 ma, .int .i64 me]] (by go_simp) _ (cS1 _ D23) ?_
          rintro v w24 ⟨own2, b24⟩
          have D24 := bcat D23 b24 (Nat.le_refl _)
          have hS24 : IH w24 := by rw [hIH]; exact D24
          obtain ⟨a2, cap2, hv_, _⟩ := own_form own2
          subst hv_
          refine ⟨hS24, ?_⟩
          simp only [Act.put, List.setIfInBounds_toArray, List.set_cons_zero, List.set_cons_succ]
          refine wpAnyH_ready (rs := [36]) (by kernel_rfl) (by simp) (AllReadyH.cons ((nth_eq _ 36).trans rfl) ?_ AllReadyH.nil)
          intro K' hK
          refine call_in hK (by kernel_rfl) 41 #[.pointer (some ⟨g, 0, none⟩), .agg #[.int .i64 kd, .int .i64 dir, .int .i64 n, .int .i64 tx, .int .i64 ty, .bool td, .int .i64 fx, .int .i64 fy, .bool fd, .int .i64 ma, .int .i64 me]] (by go_simp) _ (cS2 _ D24) ?_
          rintro v w25 ⟨own3, b25⟩
          have D25 := bcat D24 b25 (Nat.le_refl _)
          have hS25 : IH w25 := by rw [hIH]; exact D25
          obtain ⟨a3, cap3, hv_, _⟩ := own_form own3
          subst hv_
          have own2 := owns_go own2 b25
          refine ⟨hS25, ?_⟩
          simp only [Act.put, List.setIfInBounds_toArray, List.set_cons_zero, List.set_cons_succ]
          refine wpAnyH_ready (rs := [37]) (by kernel_rfl) (by simp) (AllReadyH.cons ((nth_eq _ 37).trans rfl) ?_ AllReadyH.nil)
          intro K' hK
          refine call_in hK (by kernel_rfl) 34 #[.slice a2 K cap2, .slice a3 K cap3] (by go_simp) _ (same_lists Ls K HKl.out HKs.out _ _ _ _ _ own2 own3) ?_
          rintro v w26 ⟨rfl, b26⟩
          have D26 := bcat D25 b26 (Nat.le_refl _)
          have hS26 : IH w26 := by rw [hIH]; exact D26
          refine ⟨hS26, ?_⟩
          simp only [Act.put, List.setIfInBounds_toArray, List.set_cons_zero, List.set_cons_succ]
          refine take_held 38 (by assumption) rfl (by kernel_rfl) (by kernel_rfl) (by kernel_rfl) (fun _ _ _ h => h) (by kernel_rfl) (v := ?v105) ?y105 ?r105
          case y105 => (intro u hu; go_simp; try rfl)
          simp only [Act.put, List.setIfInBounds_toArray, List.set_cons_zero, List.set_cons_succ]
          refine take_held 39 (by assumption) rfl (by kernel_rfl) (by kernel_rfl) (by kernel_rfl) (fun _ _ _ h => h) (by kernel_rfl) (v := ?v106) ?y106 ?r106
          case y106 => (intro u hu; go_simp; try rfl)
          simp only [Act.put, List.setIfInBounds_toArray, List.set_cons_zero, List.set_cons_succ]
          refine done_held (by kernel_rfl) ?_ _
          have HI9 : Hid (IW w26) := by
            show IW w26
            have := HI.out
            rw [hIW] at this ⊢
            exact bcat (bcat this HMZ.out.below (Nat.le_refl _)) D26 (Nat.le_refl _)
          go_wp2
          go_roundw
          case rel => exact ⟨k + 1, by omega, by go_num, HI9⟩
          case measure => simp [intOf]; omega
      · obtain rfl : N = k := by omega
        have Q7 := Q6.go (kW _ HI.out)
        go_wp2_with (first
          | (go_at_call 23; refine (awake_any _).mono ?_; rintro e w9 ⟨rfl, b9⟩))
        go_ret
        exact ⟨rfl, bcat Q7.below b9 (Nat.le_refl _)⟩
end Go.Proofs.Ytkamjbpjfgehjaa.Grid
