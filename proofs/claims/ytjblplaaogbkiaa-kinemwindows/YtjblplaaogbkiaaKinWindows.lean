/-
  From when to when a robot is on each cell.
-/
import Derived.Test.YtjblplaaogbkiaaKinWinRef
import Derived.ChangeKeysEq
namespace Go.Proofs.Ytjblplaaogbkiaa.Kin
set_option linter.unusedVariables false
set_option linter.unusedSimpArgs false
open Go Go.RowKit Go.Shelf Go.Proofs
attribute [local go_sem] Oper.semAt_some

theorem part0 (p q : Int) (w : World) : (part 3 #[.int .i64 p, .int .i64 q] 0).run Try.prog w = .ok (.int .i64 p) w := by kernel_rfl
theorem part1 (p q : Int) (w : World) : (part 3 #[.int .i64 p, .int .i64 q] 1).run Try.prog w = .ok (.int .i64 q) w := by kernel_rfl
theorem neq_same (p q : Int) (w : World) : (binOp .neq 41 (.agg #[.int .i64 p, .int .i64 q]) (.agg #[.int .i64 p, .int .i64 q])).run Try.prog w = .ok (.bool false) w := by
  obtain ⟨i0, hi, hz0, hz1, hz2⟩ := info_parts infoInt
  rw [run_neq_struct, run_equalIn_array w 9999 _ _ Try.underlying41 hi]
  have hc : Try.prog.cellsOf 3 = 1 := by kernel_rfl
  rw [hc, show List.range 2 = [0, 1] from rfl]
  simp only [Op.eqItems, Sem.run_bind, Nat.zero_mul, Nat.one_mul, part0, part1, Result.andThen_ok, run_equalIn_int w 9998 3 .i64 .i64 _ _ Try.underlying3, beq_self_eq_true, Bool.not_true, Bool.false_eq_true, if_false, Sem.run_pure]
set_option maxRecDepth 100000 in
set_option maxHeartbeats 4000000 in
theorem windows_all (u a v n len : Int) (w : World) : Calls Try.prog 6 #[.int .i64 u, .int .i64 a, .int .i64 v, .int .i64 n, .int .i64 len] w fun e w' => e = .returned (.bool true) ∧ Below w.heap.size w w' := by
  have ok := few_ok u a v
  have u60 := few_bd u 60 (by omega)
  have a20 := few_bd a 20 (by omega)
  have v40 := few_bd v 40 (by omega)
  have cF := few_any u a v w
  generalize few u 60 = U at *
  generalize few a 20 = A at *
  generalize few v 40 = V at *
  have cM := fun w1 => made_yes U A V ok w1
  have hnot : ∀ (x : Bool) (w : World), (Op.unary .not (.bool x)).run Try.prog w = .ok (.bool (!x)) w := fun _ _ => rfl
  by_cases hx : (n < 1 ∨ 16 < n) ∨ (len ≠ 1 ∧ len ≠ 2)
  · have cW := fun (g : Nat) (w1 : World) (h1 : KinAt w1 g U A V) => windows_out g U A V n len w1 h1 ok hx
    have cR := fun (w1 : World) => refWindows_out U A V n len w1 ok hx
    clear hx
    go_enter Try.func6, Try.ntmps6
    go_wp2_with (first
      | (go_at_call 17; refine cF.mono ?_; rintro e wf ⟨rfl, rfl⟩)
      | (go_at_call 13; refine (cM _).mono ?_; rintro e w1 ⟨g, rfl, hg, k1, b1⟩; have G : KGo g U A V w1 (w1.alloc (.cells #[.int .i64 U, .int .i64 A, .int .i64 V] 24)) := KGo.below k1 ((Below.refl _ _).alloc (Nat.le_refl _) _))
      | (go_at_call 30; refine (cW g _ G.kin).mono ?_; rintro e wx ⟨rfl, gq⟩; have y0 : wx.cell? ⟨w1.heap.size, 0, none⟩ = some (.int .i64 U) := (cell_same (gq.grow.block _ (by simp) (fun e => by cases e; have := k1.nums.lt; omega))).trans (by simp); have y1 : wx.cell? ⟨w1.heap.size, 1, none⟩ = some (.int .i64 A) := (cell_same (gq.grow.block _ (by simp) (fun e => by cases e; have := k1.nums.lt; omega))).trans (by simp); have y2 : wx.cell? ⟨w1.heap.size, 2, none⟩ = some (.int .i64 V) := (cell_same (gq.grow.block _ (by simp) (fun e => by cases e; have := k1.nums.lt; omega))).trans (by simp); replace G := G.trans gq; clear gq)
      | (go_at_call 31; refine (cR _).mono ?_; rintro e wy ⟨rfl, by1⟩; replace G := G.then by1; clear by1))
    go_loopw [16] (fun i wr => i = .int .i64 0 ∧ KGo g U A V w1 wr) (fun i wr => 0)
    case atStart => exact ⟨rfl, G⟩
    case round =>
      obtain ⟨rfl, G2⟩ := hrel
      clear G
      have G := G2
      go_wp2_with (go_at_call 14; refine (awake_any _).mono ?_; rintro e wz ⟨rfl, bz⟩; replace G := G.then bz; clear bz)
      go_ret
      exact ⟨rfl, b1.trans (G.since hg b1.size)⟩
  · have hn : 1 ≤ n ∧ n ≤ 16 := by omega
    obtain ⟨N, rfl⟩ := Int.eq_ofNat_of_zero_le (show 0 ≤ n by omega)
    obtain ⟨D, rfl⟩ := Int.eq_ofNat_of_zero_le (show 0 ≤ len by omega)
    have hD : D = 1 ∨ D = 2 := by omega
    have cW := fun (g : Nat) (w1 : World) (h1 : KinAt w1 g U A V) => windows_in g U A V N D w1 h1 ok (by omega) (by omega) hD
    have cR := fun (w1 : World) => refWindows_in U A V N D w1 ok (by omega) (by omega) hD
    obtain ⟨M, hM⟩ : ∃ M, N + D = M := ⟨_, rfl⟩
    have HWI : Hid (∀ i, i < M → win (onB U A V N D i) (spd U A V N).length = (loW U A V N D i, hiW U A V N i)) := fun i hi => win_is ok (by omega) (by omega) (by omega) (by omega)
    rw [hM] at cW cR
    have hM2 : M ≤ 18 := by omega
    have hM1 : 1 ≤ M := by omega
    clear hx hM ok
    go_enter Try.func6, Try.ntmps6
    go_wp2_with (first
      | (go_at_call 17; refine cF.mono ?_; rintro e wf ⟨rfl, rfl⟩)
      | (go_at_call 13; refine (cM _).mono ?_; rintro e w1 ⟨g, rfl, hg, k1, b1⟩; have G : KGo g U A V w1 (w1.alloc (.cells #[.int .i64 U, .int .i64 A, .int .i64 V] 24)) := KGo.below k1 ((Below.refl _ _).alloc (Nat.le_refl _) _))
      | (go_at_call 30; refine (cW g _ G.kin).mono ?_; rintro e w3 ⟨g3, rfl, hg3, r3, gq⟩; have y0 : w3.cell? ⟨w1.heap.size, 0, none⟩ = some (.int .i64 U) := (cell_same (gq.grow.block _ (by simp) (fun e => by cases e; have := k1.nums.lt; omega))).trans (by simp); have y1 : w3.cell? ⟨w1.heap.size, 1, none⟩ = some (.int .i64 A) := (cell_same (gq.grow.block _ (by simp) (fun e => by cases e; have := k1.nums.lt; omega))).trans (by simp); have y2 : w3.cell? ⟨w1.heap.size, 2, none⟩ = some (.int .i64 V) := (cell_same (gq.grow.block _ (by simp) (fun e => by cases e; have := k1.nums.lt; omega))).trans (by simp); replace G := G.trans gq; clear gq; have HR3 : Hid (WR w3 g3 M (fun i => win (onB U A V N D i) (spd U A V N).length)) := r3; clear r3)
      | (go_at_call 31; refine (cR _).mono ?_; rintro e w4 ⟨x, rfl, r4, by1⟩; replace G := G.then by1; obtain ⟨xa, xc, rfl, _⟩ := own_form r4; have HR4 : Hid (w4.ownsRow w3.heap.size 41 2 (.slice xa M xc) M (pairs (wins U A V N D M))) := r4; clear r4))
    obtain ⟨gr, rfl⟩ : ∃ gr, xa = some ⟨gr, 0, none⟩ := by
      rcases HR4.out.2 with ⟨e, h0⟩ | ⟨gr, cap, cur, e, _⟩
      · omega
      · cases e; exact ⟨gr, rfl⟩
    have HC : Hid (∀ i, i < M → ∃ p q : Nat, w4.cell? ⟨g3, i * 2, none⟩ = some (.int .i64 p) ∧ w4.cell? ⟨g3, i * 2 + 1, none⟩ = some (.int .i64 q) ∧ w4.cell? ⟨gr, i * 2, none⟩ = some (.int .i64 p) ∧ w4.cell? ⟨gr, i * 2 + 1, none⟩ = some (.int .i64 q)) := by
      intro i hi
      have a1 := HR3.out.lo i hi
      have a2 := HR3.out.hi i hi
      rw [HWI.out i hi] at a1 a2
      have l3 : g3 < w3.heap.size := World.block_lt_of_cell? w3 _ a1
      have pg := pairs_get (wins U A V N D M) i (by rw [wins_len]; exact hi)
      have ew : (wins U A V N D M)[i]'(by rw [wins_len]; exact hi) = (loW U A V N D i, hiW U A V N i) := by simp [wins]
      rw [ew] at pg
      refine ⟨loW U A V N D i, hiW U A V N i, (by1.cell (p := ⟨g3, i * 2, none⟩) l3).trans a1, (by1.cell (p := ⟨g3, i * 2 + 1, none⟩) l3).trans a2, ?_, ?_⟩
      · rw [HR4.out.cellAt (i * 2) (by omega)]; exact pg.1
      · rw [HR4.out.cellAt (i * 2 + 1) (by omega)]; exact pg.2
    clear HR3 HR4 HWI by1
    have b14 := b1.trans (G.since hg b1.size)
    have hne := neq_same
    go_loopw [16] (fun i wr => ∃ j : Nat, j ≤ M ∧ i = .int .i64 j ∧ Below w4.heap.size w4 wr) (fun i wr => M - (intOf i).toNat)
    case atStart => exact ⟨0, Nat.zero_le _, rfl, Below.refl _ _⟩
    case round =>
      obtain ⟨j, hj, rfl, bq⟩ := hrel
      by_cases hlt : j < M
      · obtain ⟨p, q, e1, e2, e3, e4⟩ := HC.out j hlt
        have l3 := World.block_lt_of_cell? w4 _ e1
        have l4 := World.block_lt_of_cell? w4 _ e3
        have ne : Nonempty (Cls (fun w' => Below w4.heap.size w4 w')) := ⟨⟨wr, bq⟩⟩
        have z1 : ∀ z : Cls (fun w' => Below w4.heap.size w4 w'), z.w.cell? ⟨g3, j * 2, none⟩ = some (.int .i64 p) := fun z => (z.h.cell (p := ⟨g3, j * 2, none⟩) l3).trans e1
        have z2 : ∀ z : Cls (fun w' => Below w4.heap.size w4 w'), z.w.cell? ⟨g3, j * 2 + 1, none⟩ = some (.int .i64 q) := fun z => (z.h.cell (p := ⟨g3, j * 2 + 1, none⟩) l3).trans e2
        have z3 : ∀ z : Cls (fun w' => Below w4.heap.size w4 w'), z.w.cell? ⟨gr, j * 2, none⟩ = some (.int .i64 p) := fun z => (z.h.cell (p := ⟨gr, j * 2, none⟩) l4).trans e3
        have z4 : ∀ z : Cls (fun w' => Below w4.heap.size w4 w'), z.w.cell? ⟨gr, j * 2 + 1, none⟩ = some (.int .i64 q) := fun z => (z.h.cell (p := ⟨gr, j * 2 + 1, none⟩) l4).trans e4
        clear e1 e2 e3 e4 HC
        go_wp2
        refine wp_region_cls (fun w' => Below w4.heap.size w4 w') (by kernel_rfl) (by kernel_rfl) bq.drew ?_
        repeat (go_big_quiet_step (fail))
        refine wpQuiet_nil ?_
        rintro z ⟨⟨_, bz⟩, rfl⟩
        clear z1 z2 z3 z4 ne
        go_wp2
        go_roundw
        case rel => exact ⟨j + 1, by omega, by go_num, bz⟩
        case measure => simp [intOf]; omega
      · obtain rfl : j = M := by omega
        clear G
        go_wp2_with (go_at_call 14; refine (awake_any _).mono ?_; rintro e wz ⟨rfl, bz⟩)
        go_ret
        exact ⟨rfl, b14.trans ((bq.trans (bz.mono bq.size)).mono b14.size)⟩
end Go.Proofs.Ytjblplaaogbkiaa.Kin
