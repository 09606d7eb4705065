/-
  How a grid is laid: ports, homes, stack cells.
  How a grid is laid: homes, stack cells.
  Numbers of a call's own, sorted by the library.
  Stacks, and whether their bins may be.
-/
import Derived.Test.YtabbdclpjghdbaaRgB
import Derived.Shelf.Sort.Plain
import Derived.Shelf.Slices.In.SortNone
import Derived.Sort.OwnSortedInts
namespace Go.Proofs.Ytabbdclpjghdbaa.Grid
set_option linter.unusedVariables false
set_option linter.unusedSimpArgs false
open Go Go.RowKit

/- Nothing old has turned but the grid itself. -/
structure Fr (g u : Nat) (w w' : World) : Prop where
  os : w'.os = w.os
  tape : w'.tape = w.tape
  output : w'.output = w.output
  size : w.heap.size ≤ w'.heap.size
  block : ∀ k, k < w.heap.size → k ≠ g → k ≠ u → w'.heap[k]? = w.heap[k]?
theorem Fr.of {g u : Nat} {w w' : World} (h : w.grownBy w' (some u)) : Fr g u w w' := ⟨h.os, h.tape, h.output, h.size, fun k hk _ hu => h.block k hk fun e => hu (Option.some.inj e)⟩
theorem Fr.below {g u : Nat} {w w' : World} (h : Below w.heap.size w w') : Fr g u w w' := ⟨h.os, h.tape, h.output, h.size, fun k hk _ _ => h.block k hk⟩
theorem Fr.trans {g u : Nat} {w w1 w2 : World} (h : Fr g u w w1) (h1 : Fr g u w1 w2) : Fr g u w w2 :=
  ⟨h1.os.trans h.os, h1.tape.trans h.tape, h1.output.trans h.output, Nat.le_trans h.size h1.size, fun k hk a b => (h1.block k (Nat.lt_of_lt_of_le hk h.size) a b).trans (h.block k hk a b)⟩
theorem Fr.setg {g u : Nat} {w w' : World} (h : Fr g u w w') (j : Nat) (v : Value) : Fr g u w (w'.setCell ⟨g, j, none⟩ v) :=
  ⟨h.os, h.tape, h.output, by simp; exact h.size, fun k hk a b => by rw [heap_setCell_other _ _ _ _ a]; exact h.block k hk a b⟩
theorem ListAt.fr {α : Type} {S S' : Nat} {El : (Nat → Prop) → α → Array Value → World → Prop} (hE : Held El S') {F : Nat → Prop} {xs : List α} {v : Value} {w w' : World} {g u : Nat} (h : ListAt S El F xs v w) (hF : ∀ b, F b → b < w.heap.size ∧ b ≠ g ∧ b ≠ u) (hb : Fr g u w w') : ListAt S El F xs v w' :=
  h.stable hE fun b hg => hb.block b (hF b hg).1 (hF b hg).2.1 (hF b hg).2.2
theorem GridAt.setPorts {w : World} {g u : Nat} {W H : Int} {us : List Int} {vp : Value} (h : GridAt w g u W H us vp) (v : Value) : GridAt (w.setCell ⟨g, 3, none⟩ v) g u W H us v := by
  refine ⟨?_, ?_, h.w1, h.w2, h.h1, h.h2, h.len, h.small, h.ne⟩
  · rw [heap_setCell_same _ _ _ _ _ _ h.hd]; rfl
  · rw [heap_setCell_other _ _ _ _ h.ne.symm]; exact h.row

theorem new_cell (w : World) (cs : Array Value) (t : TypeId) (j : Nat) : (w.alloc (.cells cs t)).cell? ⟨w.heap.size, j, none⟩ = cs[j]? := cell_of (heap_alloc_new w _) j
theorem owns_base {w : World} {b b' : Nat} {e : TypeId} {size : Nat} {v : Value} {n : Nat} {xs : List Value} (hb : b' ≤ b) (h : w.ownsRow b e size v n xs) : w.ownsRow b' e size v n xs := by
  refine ⟨h.1, ?_⟩
  rcases h.2 with hn | ⟨g, cap, cur, rfl, hb', rest⟩
  · exact .inl hn
  · exact .inr ⟨g, cap, cur, rfl, by omega, rest⟩
set_option maxRecDepth 100000 in
set_option maxHeartbeats 4000000 in
theorem layPorts_any (g u : Nat) (W H : Int) (us : List Int) (vp : Value) (F : Nat → Prop) (l : List Cell) (v : Value) (w : World) (hG : GridAt w g u W H us vp) (hL : ListAt 2 cellEl F l v w) (hF : ∀ b, F b → b < w.heap.size ∧ b ≠ g ∧ b ≠ u) (hm : l.length ≤ 9223372036854775807) :
    Calls Try.prog 56 #[.pointer (some ⟨g, 0, none⟩), v] w fun e w' => Fr g u w w' ∧
      ((∃ us' v', (if l.length ≤ 8 then takeP W H us l else none) = some us' ∧ e = .returned (.bool true) ∧ GridAt w' g u W H us' v' ∧ w'.ownsRow w.heap.size 39 2 v' l.length (rowL cellL l)) ∨ ((if l.length ≤ 8 then takeP W H us l else none) = none ∧ e = .returned (.bool false))) := by
  obtain ⟨a, cap, hv, h0⟩ := hL.form
  subst hv
  have lg := hG.ltg
  by_cases h8 : l.length ≤ 8
  · rw [if_pos h8]
    obtain ⟨R, hR⟩ : ∃ R, takeP W H us l = R := ⟨_, rfl⟩
    rw [hR]
    obtain ⟨n, hN⟩ : ∃ n, l.length = n := ⟨_, rfl⟩
    have HN : Hid (l.length = n) := hN
    rw [hN] at hm h8 hL ⊢
    have HR : Hid (takeP W H us (l.drop 0) = R) := hR
    have t8 : (n : Int) ≤ 8 := by omega
    clear hN hR
    go_enter Try.func56, Try.ntmps56
    go_wp2
    go_loopw [12] (fun i wr => ∃ (k : Nat) (us1 : List Int), k ≤ n ∧ i = .int .i64 k ∧ GridAt wr g u W H us1 vp ∧ Fr g u w wr ∧ Hid (takeP W H us1 (l.drop k) = R)) (fun i _ => n - (intOf i).toNat)
    case atStart => exact ⟨0, us, Nat.zero_le _, rfl, hG, Fr.below (Below.refl _ _), HR⟩
    case round =>
      obtain ⟨k, us1, hk, rfl, G1, gr, HK⟩ := hrel
      by_cases hlt : k < n
      · have hlt' : k < l.length := by rw [HN.out]; exact hlt
        have HD : Hid (l.drop k = l[k]'hlt' :: l.drop (k + 1)) := drop_item l hlt'
        obtain ⟨p, cs, cap', hv, hpF, hcs, hrd⟩ := (hL.fr heldCell hF gr).item hlt'
        generalize l[k]'hlt' = xy at *
        obtain ⟨x, y⟩ := xy
        have hcs' : cs = #[.int .i64 x, .int .i64 y] := hcs
        subst hcs'
        obtain ⟨rfl, rfl⟩ : a = some p ∧ cap = cap' := by injection hv with h1 h2 h3; exact ⟨h1, h3⟩
        have cT := fun o => take_any g u W H us1 vp x y (wr.alloc o) (G1.alloc o) 2 (by decide)
        have hgw : wr.heap.size ≠ u := by have := G1.ltu; omega
        clear hv hcs
        go_wp2_with (first
          | (refine wpList_load_at rfl 39 (.tmp 14) rfl (p.add (k * 2)) rfl #[.int .i64 x, .int .i64 y] hrd (aggCell _) info_cell ?_)
          | (go_at_call 69; (refine (cT _).mono ?_; rintro e w1 ⟨g1, ⟨us2, t2, rfl, G2⟩ | ⟨t2, rfl, G2⟩⟩; have q0 : w1.cell? ⟨wr.heap.size, 0, none⟩ = some (.int .i64 x) := (g1.cell_far ⟨wr.heap.size, 0, none⟩ (by simp) (fun e => hgw (Option.some.inj e))).trans (new_cell wr _ _ 0); have q1 : w1.cell? ⟨wr.heap.size, 1, none⟩ = some (.int .i64 y) := (g1.cell_far ⟨wr.heap.size, 1, none⟩ (by simp) (fun e => hgw (Option.some.inj e))).trans (new_cell wr _ _ 1)))
          | (go_at_call 70; refine (served_any g u W H us2 vp x y w1 G2).mono ?_; rintro e w2 ⟨rfl, b2⟩; cases hsv : servedU W H us2 (x, y)))
        · go_ret
          refine ⟨gr.trans ((Fr.of (grow_alloc _ _ _)).trans ((Fr.of g1).trans (Fr.below b2))), Or.inr ⟨?_, rfl⟩⟩
          have := HK.out
          rw [HD.out] at this
          unfold takeP at this
          rw [t2, Option.bind_some, hsv] at this
          exact this.symm
        · go_roundw
          case rel =>
            refine ⟨k + 1, us2, by omega, by go_num, G2.go b2, gr.trans ((Fr.of (grow_alloc _ _ _)).trans ((Fr.of g1).trans (Fr.below b2))), ?_⟩
            have := HK.out
            rw [HD.out] at this
            unfold takeP at this
            rw [t2, Option.bind_some, hsv] at this
            exact this
          case measure => simp [intOf]; omega
        · go_ret
          refine ⟨gr.trans ((Fr.of (grow_alloc _ _ _)).trans (Fr.of g1)), Or.inr ⟨?_, rfl⟩⟩
          have := HK.out
          rw [HD.out] at this
          unfold takeP at this
          rw [t2, Option.bind_none] at this
          exact this.symm
      · obtain rfl : k = n := by omega
        have hK := HK.out
        rw [List.drop_eq_nil_of_le (by rw [HN.out]; omega)] at hK
        clear HK
        have HK2 : Hid (R = some us1) := hK.symm
        clear hK
        have cC := clone_any F l (.slice a k cap) wr (hL.fr heldCell hF gr) (fun b hb => Nat.lt_of_lt_of_le (hF b hb).1 gr.size) (by rw [HN.out]; omega)
        have HF : Hid (∀ w', Below wr.heap.size wr w' → w'.cell? ⟨g, 3, none⟩ = some vp ∧ w'.frozen? ⟨g, 3, none⟩ = false) := fun w' b => ⟨(G1.go b).c3, frozen_of (G1.go b).hd 3⟩
        go_wp2_with (go_at_call 71; refine cC.mono ?_; rintro e w1 ⟨v', rfl, own1, b1⟩; obtain ⟨a', cap'', rfl, _⟩ := own_form own1; obtain ⟨f3, z3⟩ := HF.out _ b1)
        go_ret
        refine ⟨(gr.trans (Fr.below b1)).setg 3 _, Or.inl ⟨us1, _, HK2.out, rfl, (G1.go b1).setPorts _, ?_⟩⟩
        rw [HN.out] at own1
        rw [← HN.out] at own1 ⊢
        exact owns_base gr.size (owns_same own1 fun j hj => heap_setCell_other _ _ _ _ (by have := (own_since own1 j hj).1; have := G1.ltg; simp only; omega))
  · rw [if_neg h8]
    have t8 : 8 < (l.length : Int) := by omega
    generalize l.length = n at *
    go_enter Try.func56, Try.ntmps56
    go_wp2
    go_ret
    exact ⟨Fr.below (Below.refl _ _), Or.inr ⟨trivial, rfl⟩⟩
end Go.Proofs.Ytabbdclpjghdbaa.Grid
namespace Go.Proofs.Ytabbdclpjghdbaa.Grid
set_option linter.unusedVariables false
set_option linter.unusedSimpArgs false
open Go Go.RowKit

set_option maxRecDepth 100000 in
set_option maxHeartbeats 4000000 in
theorem park_any (g u : Nat) (W H : Int) (us : List Int) (vp : Value) (F : Nat → Prop) (l : List Pose) (v : Value) (w : World) (hG : GridAt w g u W H us vp) (hL : ListAt 3 poseEl F l v w) (hF : ∀ b, F b → b < w.heap.size ∧ b ≠ u) (hm : l.length ≤ 9223372036854775807) :
    Calls Try.prog 57 #[.pointer (some ⟨g, 0, none⟩), v] w fun e w' => w.grownBy w' (some u) ∧
      ((∃ us', (if l.length ≤ 8 then takeR W H us l else none) = some us' ∧ e = .returned (.bool true) ∧ GridAt w' g u W H us' vp) ∨ ((if l.length ≤ 8 then takeR W H us l else none) = none ∧ e = .returned (.bool false))) := by
  obtain ⟨a, cap, hv, h0⟩ := hL.form
  subst hv
  have lg := hG.ltg
  by_cases h8 : l.length ≤ 8
  · rw [if_pos h8]
    obtain ⟨R, hR⟩ : ∃ R, takeR W H us l = R := ⟨_, rfl⟩
    rw [hR]
    obtain ⟨n, hN⟩ : ∃ n, l.length = n := ⟨_, rfl⟩
    have HN : Hid (l.length = n) := hN
    rw [hN] at hm h8 hL ⊢
    have HR : Hid (takeR W H us (l.drop 0) = R) := hR
    have t8 : (n : Int) ≤ 8 := by omega
    clear hN hR
    go_enter Try.func57, Try.ntmps57
    go_wp2
    go_loopw [12] (fun i wr => ∃ (k : Nat) (us1 : List Int), k ≤ n ∧ i = .int .i64 k ∧ GridAt wr g u W H us1 vp ∧ w.grownBy wr (some u) ∧ Hid (takeR W H us1 (l.drop k) = R)) (fun i _ => n - (intOf i).toNat)
    case atStart => exact ⟨0, us, Nat.zero_le _, rfl, hG, World.grownBy.refl _ _, HR⟩
    case round =>
      obtain ⟨k, us1, hk, rfl, G1, gr, HK⟩ := hrel
      by_cases hlt : k < n
      · have hlt' : k < l.length := by rw [HN.out]; exact hlt
        have HD : Hid (l.drop k = l[k]'hlt' :: l.drop (k + 1)) := drop_item l hlt'
        obtain ⟨p, cs, cap', hv, hpF, hcs, hrd⟩ := (hL.grow heldPose hF gr).item hlt'
        generalize l[k]'hlt' = xy at *
        obtain ⟨⟨x, y⟩, d⟩ := xy
        have hcs' : cs = #[.int .i64 x, .int .i64 y, .bool d] := hcs
        subst hcs'
        obtain ⟨rfl, rfl⟩ : a = some p ∧ cap = cap' := by injection hv with h1 h2 h3; exact ⟨h1, h3⟩
        have cT := fun o => take_any g u W H us1 vp x y (wr.alloc o) (G1.alloc o) 3 (by decide)
        have hgw : wr.heap.size ≠ u := by have := G1.ltu; omega
        have HS : Hid (second ((x, y), d) = ((second ((x, y), d)).1, (second ((x, y), d)).2)) := rfl
        have cS := fun u => second_any x y d u
        generalize hx2 : (second ((x, y), d)).1 = x2 at *
        generalize hy2 : (second ((x, y), d)).2 = y2 at *
        clear hv hcs hx2 hy2
        go_wp2_with (first
          | (refine wpList_load_at rfl 72 (.tmp 14) rfl (p.add (k * 3)) rfl #[.int .i64 x, .int .i64 y, .bool d] hrd (aggPose _) info_pose ?_)
          | (have X' := b2; go_at_call 69; refine (take_any g u W H us2 vp x2 y2 w2 (G2.go b2) 3 (by decide)).mono ?_; rintro e w3 ⟨g3, ⟨us3, t3, rfl, G3⟩ | ⟨t3, rfl, G3⟩⟩)
          | (go_at_call 69; refine (cT _).mono ?_; rintro e w1 ⟨g1, ⟨us2, t2, rfl, G2⟩ | ⟨t2, rfl, G2⟩⟩; have q0 : w1.cell? ⟨wr.heap.size, 0, none⟩ = some (.int .i64 x) := (g1.cell_far ⟨wr.heap.size, 0, none⟩ (by simp) (fun e => hgw (Option.some.inj e))).trans (new_cell wr _ _ 0); have q1 : w1.cell? ⟨wr.heap.size, 1, none⟩ = some (.int .i64 y) := (g1.cell_far ⟨wr.heap.size, 1, none⟩ (by simp) (fun e => hgw (Option.some.inj e))).trans (new_cell wr _ _ 1); have q2 : w1.cell? ⟨wr.heap.size, 2, none⟩ = some (.bool d) := (g1.cell_far ⟨wr.heap.size, 2, none⟩ (by simp) (fun e => hgw (Option.some.inj e))).trans (new_cell wr _ _ 2))
          | (go_at_call 72; refine (cS _).mono ?_; rintro e w2 ⟨rfl, b2⟩))
        · go_roundw
          case rel =>
            refine ⟨k + 1, us3, by omega, by go_num, G3, grow_trans gr (grow_trans (grow_alloc _ _ _) (grow_trans g1 (grow_trans (grow_of_below b2) g3))), ?_⟩
            have := HK.out
            rw [HD.out] at this
            unfold takeR at this
            rw [t2, Option.bind_some, HS.out, t3, Option.bind_some] at this
            exact this
          case measure => simp [intOf]; omega
        · go_ret
          refine ⟨grow_trans gr (grow_trans (grow_alloc _ _ _) (grow_trans g1 (grow_trans (grow_of_below b2) g3))), Or.inr ⟨?_, rfl⟩⟩
          have := HK.out
          rw [HD.out] at this
          unfold takeR at this
          rw [t2, Option.bind_some, HS.out, t3, Option.bind_none] at this
          exact this.symm
        · go_ret
          refine ⟨grow_trans gr (grow_trans (grow_alloc _ _ _) g1), Or.inr ⟨?_, rfl⟩⟩
          have := HK.out
          rw [HD.out] at this
          unfold takeR at this
          rw [t2, Option.bind_none] at this
          exact this.symm
      · obtain rfl : k = n := by omega
        have hK := HK.out
        rw [List.drop_eq_nil_of_le (by rw [HN.out]; omega)] at hK
        clear HK
        have HK2 : Hid (R = some us1) := hK.symm
        clear hK
        go_wp2
        go_ret
        exact ⟨gr, Or.inl ⟨us1, HK2.out, rfl, G1⟩⟩
  · rw [if_neg h8]
    have t8 : 8 < (l.length : Int) := by omega
    generalize l.length = n at *
    go_enter Try.func57, Try.ntmps57
    go_wp2
    go_ret
    exact ⟨World.grownBy.refl _ _, Or.inr ⟨trivial, rfl⟩⟩

/- The cell with that number. -/
set_option maxRecDepth 100000 in
set_option maxHeartbeats 4000000 in
theorem cell_any (g u : Nat) (W H : Int) (us : List Int) (vp : Value) (w : World) (hG : GridAt w g u W H us vp) (i : Nat) (hi : i < us.length) : Calls Try.prog 73 #[.pointer (some ⟨g, 0, none⟩), .int .i64 i] w fun e w' => e = .returned (.agg #[.int .i64 (cellAt W i).1, .int .i64 (cellAt W i).2]) ∧ Below w.heap.size w w' := by
  have lg := hG.ltg
  have hw := hG.w1
  have hw2 := hG.w2
  have hw0 : (W == 0) = false := by rw [beq_eq_false_iff_ne]; omega
  have hl := hG.le
  have e1 : (i : Int).tmod W = (cellAt W i).1 := by unfold cellAt; rw [Int.tmod_eq_emod_of_nonneg (by omega)]
  have e2 : IntKind.i64.wrap ((i : Int) / W) = (cellAt W i).2 := by
    unfold cellAt
    rw [IntKind.wrap_i64]
    have h1 : (0 : Int) ≤ (i : Int) / W := Int.ediv_nonneg (by omega) (by omega)
    have h2 : (i : Int) / W ≤ i := Int.ediv_le_self _ (by omega)
    show (_ : Int) = (i : Int) / W
    omega
  have HE1 : Hid ((i : Int).tmod W = (cellAt W i).1) := e1
  have HE2 : Hid (IntKind.i64.wrap ((i : Int) / W) = (cellAt W i).2) := e2
  clear e1 e2
  obtain ⟨IH, hIH⟩ : ∃ I : World → Prop, I = fun u => u.cell? ⟨g, 0, none⟩ = some (.int .i64 W) := ⟨_, rfl⟩
  have k0 : ∀ u, IH u → u.cell? ⟨g, 0, none⟩ = some (.int .i64 W) := fun u hu => by rw [hIH] at hu; exact hu
  have hS : IH (w.alloc (.cells #[.int .i64 0, .int .i64 0] 39)).drew := by rw [hIH]; exact (hG.alloc _).c0
  have hst : (storeVar 39 ⟨w.heap.size, 0, none⟩ (.agg #[.int .i64 ((i : Int).tmod W), .int .i64 (IntKind.i64.wrap ((i : Int) / W))])).run Try.prog (w.alloc (.cells #[.int .i64 0, .int .i64 0] 39)).drew = .ok () ((w.alloc (.cells #[.int .i64 0, .int .i64 0] 39)).drew.setRow w.heap.size #[.int .i64 ((i : Int).tmod W), .int .i64 (IntKind.i64.wrap ((i : Int) / W))]) :=
    run_storeVar_row _ _ 39 _ #[.int .i64 0, .int .i64 0] _ (heap_alloc_new w _) info_cell rfl (by simp [Value.oneCell'])
  go_enter Try.func73, Try.ntmps73
  go_wp2
  refine start_held (S := IH) 14 rfl (by kernel_rfl) (hS) ?_
  simp only [Array.replicate_succ, Array.replicate_zero, List.push_toArray, List.nil_append, List.cons_append]
  refine take_held 0 (by assumption) rfl (by kernel_rfl) (by kernel_rfl) (by kernel_rfl) (fun _ _ _ h => h) (by kernel_rfl) (v := ?v0) ?y0 ?r0
  case y0 => (intro u hu; go_simp; try rfl)
  simp only [Act.put, List.setIfInBounds_toArray, List.set_cons_zero, List.set_cons_succ]
  refine take_held 1 (by assumption) rfl (by kernel_rfl) (by kernel_rfl) (by kernel_rfl) (fun _ _ _ h => h) (by kernel_rfl) (v := ?v1) ?y1 ?r1
  case y1 => (intro u hu; go_simp; try rfl)
  simp only [Act.put, List.setIfInBounds_toArray, List.set_cons_zero, List.set_cons_succ]
  refine take_held 2 (by assumption) rfl (by kernel_rfl) (by kernel_rfl) (by kernel_rfl) (fun _ _ _ h => h) (by kernel_rfl) (v := ?v2) ?y2 ?r2
  case y2 => (intro u hu; go_simp; try rfl)
  simp only [Act.put, List.setIfInBounds_toArray, List.set_cons_zero, List.set_cons_succ]
  refine take_held 3 (by assumption) rfl (by kernel_rfl) (by kernel_rfl) (by kernel_rfl) (fun _ _ _ h => h) (by kernel_rfl) (v := ?v3) ?y3 ?r3
  case y3 => (intro u hu; go_simp; try rfl)
  simp only [Act.put, List.setIfInBounds_toArray, List.set_cons_zero, List.set_cons_succ]
  refine take_held 4 (by assumption) rfl (by kernel_rfl) (by kernel_rfl) (by kernel_rfl) (fun _ _ _ h => h) (by kernel_rfl) (v := ?v4) ?y4 ?r4
  case y4 => (intro u hu; have := k0 u hu; go_simp; try rfl)
  simp only [Act.put, List.setIfInBounds_toArray, List.set_cons_zero, List.set_cons_succ]
  refine take_held 5 (by assumption) rfl (by kernel_rfl) (by kernel_rfl) (by kernel_rfl) (fun _ _ _ h => h) (by kernel_rfl) (v := ?v5) ?y5 ?r5
  case y5 => (intro u hu; go_simp; rw [if_neg (by omega)])
  simp only [Act.put, List.setIfInBounds_toArray, List.set_cons_zero, List.set_cons_succ]
  refine take_held 6 (by assumption) rfl (by kernel_rfl) (by kernel_rfl) (by kernel_rfl) (fun _ _ _ h => h) (by kernel_rfl) (v := ?v6) ?y6 ?r6
  case y6 => (intro u hu; go_simp; try rfl)
  simp only [Act.put, List.setIfInBounds_toArray, List.set_cons_zero, List.set_cons_succ]
  refine take_held 7 (by assumption) rfl (by kernel_rfl) (by kernel_rfl) (by kernel_rfl) (fun _ _ _ h => h) (by kernel_rfl) (v := ?v7) ?y7 ?r7
  case y7 => (intro u hu; go_simp; try rfl)
  simp only [Act.put, List.setIfInBounds_toArray, List.set_cons_zero, List.set_cons_succ]
  refine take_held 8 (by assumption) rfl (by kernel_rfl) (by kernel_rfl) (by kernel_rfl) (fun _ _ _ h => h) (by kernel_rfl) (v := ?v8) ?y8 ?r8
  case y8 => (intro u hu; go_simp; try rfl)
  simp only [Act.put, List.setIfInBounds_toArray, List.set_cons_zero, List.set_cons_succ]
  refine take_held 9 (by assumption) rfl (by kernel_rfl) (by kernel_rfl) (by kernel_rfl) (fun _ _ _ h => h) (by kernel_rfl) (v := ?v9) ?y9 ?r9
  case y9 => (intro u hu; go_simp; try rfl)
  simp only [Act.put, List.setIfInBounds_toArray, List.set_cons_zero, List.set_cons_succ]
  refine take_held 10 (by assumption) rfl (by kernel_rfl) (by kernel_rfl) (by kernel_rfl) (fun _ _ _ h => h) (by kernel_rfl) (v := ?v10) ?y10 ?r10
  case y10 => (intro u hu; have := k0 u hu; go_simp; try rfl)
  simp only [Act.put, List.setIfInBounds_toArray, List.set_cons_zero, List.set_cons_succ]
  refine take_held 11 (by assumption) rfl (by kernel_rfl) (by kernel_rfl) (by kernel_rfl) (fun _ _ _ h => h) (by kernel_rfl) (v := ?v11) ?y11 ?r11
  case y11 => (intro u hu; go_simp; rw [if_neg (by omega)])
  simp only [Act.put, List.setIfInBounds_toArray, List.set_cons_zero, List.set_cons_succ]
  refine take_held 12 (by assumption) rfl (by kernel_rfl) (by kernel_rfl) (by kernel_rfl) (fun _ _ _ h => h) (by kernel_rfl) (v := ?v12) ?y12 ?r12
  case y12 => (intro u hu; go_simp; try rfl)
  simp only [Act.put, List.setIfInBounds_toArray, List.set_cons_zero, List.set_cons_succ]
  refine store_held 13 rfl (by kernel_rfl) (by kernel_rfl) ((w.alloc (.cells #[.int .i64 0, .int .i64 0] 39)).drew.setRow w.heap.size #[.int .i64 ((i : Int).tmod W), .int .i64 (IntKind.i64.wrap ((i : Int) / W))]) (run_store_op 39 (.tmp 4) (.tmp 17) rfl w.heap.size _ rfl rfl hst) (by rw [hIH]; exact (cell_same (setRow_other _ _ _ _ (by simp only; omega))).trans (hG.alloc _).c0) ?_
  simp only [Act.put, List.setIfInBounds_toArray, List.set_cons_zero, List.set_cons_succ]
  refine done_held (by kernel_rfl) ?_ _
  go_wp2
  exact bodyPost_ret (results_cell_row rfl _ _ w.heap.size 39 _ (0, 0) _ rfl (setRow_heap _ _ _ _ _ _ (heap_alloc_new w _)) Try.underlying39 rfl info_cell) rfl ⟨by rw [HE1.out, HE2.out], below_row ((Below.refl _ _).alloc (Nat.le_refl _) _).drew (Nat.le_refl _) _⟩

/- Stack cells. -/
theorem servedU_same {W H : Int} {us us1 : List Int} (h : ∀ j, us1.getD j 0 = 1 ↔ us.getD j 0 = 1) (c : Cell) : servedU W H us1 c = servedU W H us c := by
  unfold servedU openU
  have e : ∀ j, decide (us1.getD j 0 ≠ 1) = decide (us.getD j 0 ≠ 1) := fun j => by
    by_cases q : us.getD j 0 = 1
    · simp only [ne_eq, (h j).2 q, q]
    · have q2 : us1.getD j 0 ≠ 1 := fun e => q ((h j).1 e)
      simp only [ne_eq, q, q2, not_false_eq_true]
  rw [e, e]
theorem stackOf_one (W H : Int) (us : List Int) (j : Nat) : stackOf W H us j = 1 ↔ us.getD j 0 = 1 := by
  unfold stackOf
  by_cases q : us.getD j 0 = 0 ∧ servedU W H us (cellAt W j) = true
  · rw [if_pos q, q.1]; decide
  · rw [if_neg q]
/- The uses, once the first k cells were gone through. -/
structure Mid (W H : Int) (us us1 : List Int) (k : Nat) : Prop where
  len : us1.length = us.length
  lo : ∀ j, j < k → us1.getD j 0 = stackOf W H us j
  hi : ∀ j, k ≤ j → us1.getD j 0 = us.getD j 0
theorem Mid.one {W H : Int} {us us1 : List Int} {k : Nat} (h : Mid W H us us1 k) (j : Nat) : us1.getD j 0 = 1 ↔ us.getD j 0 = 1 := by
  by_cases q : j < k
  · rw [h.lo j q]; exact stackOf_one W H us j
  · rw [h.hi j (by omega)]
theorem Mid.stay {W H : Int} {us us1 : List Int} {k : Nat} (h : Mid W H us us1 k) (hk : ¬ (us.getD k 0 = 0 ∧ servedU W H us (cellAt W k) = true)) : Mid W H us us1 (k + 1) := by
  refine ⟨h.len, fun j hj => ?_, fun j hj => h.hi j (by omega)⟩
  by_cases q : j < k
  · exact h.lo j q
  · obtain rfl : j = k := by omega
    rw [h.hi j (Nat.le_refl _)]
    unfold stackOf
    rw [if_neg hk]
theorem Mid.turn {W H : Int} {us us1 : List Int} {k : Nat} (h : Mid W H us us1 k) (hl : k < us.length) (hk : us.getD k 0 = 0 ∧ servedU W H us (cellAt W k) = true) : Mid W H us (us1.set k 4) (k + 1) := by
  refine ⟨by rw [List.length_set]; exact h.len, fun j hj => ?_, fun j hj => ?_⟩
  · rw [getD_set _ _ _ _ (by rw [h.len]; exact hl)]
    by_cases q : j = k
    · subst q
      rw [if_pos rfl]
      unfold stackOf
      rw [if_pos hk]
    · rw [if_neg q]; exact h.lo j (by omega)
  · rw [getD_set _ _ _ _ (by rw [h.len]; exact hl), if_neg (by omega)]
    exact h.hi j (by omega)
theorem Mid.done {W H : Int} {us us1 : List Int} (h : Mid W H us us1 us.length) : us1 = stackUs W H us := by
  apply List.ext_getElem
  · unfold stackUs; rw [List.length_map, List.length_range]; exact h.len
  · intro j h1 h2
    have := h.lo j (by rw [← h.len]; exact h1)
    rw [List.getD_eq_getElem?_getD, List.getElem?_eq_getElem h1, Option.getD_some] at this
    rw [this]
    simp [stackUs]
set_option maxRecDepth 100000 in
set_option maxHeartbeats 4000000 in
theorem layStackCells_any (g u : Nat) (W H : Int) (us : List Int) (vp : Value) (w : World) (hG : GridAt w g u W H us vp) :
    Calls Try.prog 58 #[.pointer (some ⟨g, 0, none⟩)] w fun e w' => w.grownBy w' (some u) ∧ e = .returned (.tuple #[]) ∧ GridAt w' g u W H (stackUs W H us) vp := by
  have c2 := hG.c2
  obtain ⟨n, hN⟩ : ∃ n, us.length = n := ⟨_, rfl⟩
  have HN : Hid (us.length = n) := hN
  have hle : n ≤ 256 := by rw [← hN]; exact hG.le
  rw [hN] at c2
  clear hN
  go_enter Try.func58, Try.ntmps58
  go_wp2
  go_loopw [9] (fun i wr => ∃ (k : Nat) (us1 : List Int), k ≤ n ∧ i = .int .i64 k ∧ GridAt wr g u W H us1 vp ∧ w.grownBy wr (some u) ∧ Hid (Mid W H us us1 k)) (fun i _ => n - (intOf i).toNat)
  case atStart => exact ⟨0, us, Nat.zero_le _, rfl, hG, World.grownBy.refl _ _, ⟨rfl, fun j hj => by omega, fun j _ => rfl⟩⟩
  case round =>
    obtain ⟨k, us1, hk, rfl, G1, gr, HM⟩ := hrel
    have HL : Hid (us1.length = n) := HM.out.len.trans HN.out
    by_cases hlt : k < n
    · have dk := G1.at_ k (by rw [HL.out]; exact hlt)
      have d2 := G1.c2
      rw [HL.out] at d2
      have HZ : Hid (us1.getD k 0 = us.getD k 0) := HM.out.hi k (Nat.le_refl _)
      have cC := fun wx (hb : Below wr.heap.size wr wx) => cell_any g u W H us1 vp wx (G1.go hb) k (by rw [HL.out]; exact hlt)
      have cS := fun wx (hb : Below wr.heap.size wr wx) => served_any g u W H us1 vp (cellAt W k).1 (cellAt W k).2 wx (G1.go hb)
      have HS : Hid (servedU W H us1 ((cellAt W k).1, (cellAt W k).2) = servedU W H us (cellAt W k)) := servedU_same HM.out.one _
      generalize us1.getD k 0 = z at *
      have gF := fun wx (hb : Below wr.heap.size wr wx) => frozen_of (G1.go hb).row k
      by_cases hz : z = 0
      · subst hz
        cases hs : servedU W H us1 ((cellAt W k).1, (cellAt W k).2)
        all_goals
          rw [hs] at cS
          generalize hcx : (cellAt W k).1 = cx at *
          generalize hcy : (cellAt W k).2 = cy at *
          go_wp2_with (first
            | (go_at_call 73; refine (cC _ (Below.refl _ _)).mono ?_; rintro e w1 ⟨rfl, b1⟩)
            | (go_at_call 70; refine (cS _ b1).mono ?_; rintro e w2 ⟨rfl, b2⟩; have B2 := bcat b1 b2 (Nat.le_refl _); have G2 := G1.go B2; have y2 := G2.c2; rw [HL.out] at y2; have yk := G2.at_ k (by rw [HL.out]; exact hlt); have yf := gF _ B2))
          go_roundw
          case rel =>
            first
              | exact ⟨k + 1, us1, by omega, by go_num, G2, grow_trans gr (grow_of_below B2), HM.out.stay (fun h => by have h2 := h.2; rw [← HS.out, hs] at h2; cases h2)⟩
              | exact ⟨k + 1, us1.set k 4, by omega, by go_num, G2.set k 4 (by decide), grow_set (grow_trans gr (grow_of_below B2)) _ _, HM.out.turn (by rw [HN.out]; exact hlt) ⟨HZ.out.symm, by rw [← HS.out, hs]⟩⟩
          case measure => simp [intOf]; omega
      · have hz0 : (z == 0) = false := by rw [beq_eq_false_iff_ne]; exact hz
        go_wp2
        go_roundw
        case rel => exact ⟨k + 1, us1, by omega, by go_num, G1, gr, HM.out.stay (fun h => hz (HZ.out.trans h.1))⟩
        case measure => simp [intOf]; omega
    · obtain rfl : k = n := by omega
      go_wp2
      go_end0
      have hM := HM.out
      rw [← HN.out] at hM
      rw [← hM.done]
      exact ⟨gr, rfl, G1⟩
end Go.Proofs.Ytabbdclpjghdbaa.Grid
namespace Go.Proofs.Ytabbdclpjghdbaa.Grid
set_option linter.unusedVariables false
set_option linter.unusedSimpArgs false
open Go Go.RowKit Go.Shelf Go.Sort Go.Proofs

def ren : Go.Shelf.Ren := ⟨fun | 125 => 77 | 128 => 89 | 129 => 90 | 189 => 66 | 215 => 96 | 216 => 86 | 257 => 76 | 294 => 80 | 295 => 81 | 296 => 82 | 297 => 83 | 298 => 84 | 299 => 85 | 300 => 87 | 301 => 88 | 328 => 91 | 329 => 92 | 330 => 93 | 331 => 94 | 332 => 95 | 343 => 97 | n => n, fun | 0 => 0 | 3 => 3 | 4 => 4 | 5 => 5 | 9 => 9 | 28 => 48 | 46 => 104 | 51 => 115 | 53 => 117 | 131 => 112 | 182 => 107 | 183 => 108 | 218 => 118 | 222 => 122 | 228 => 124 | 229 => 125 | n => n, fun n => n⟩
set_option maxRecDepth 100000 in
theorem lays : Lays.n189 Try.prog ren where
  mixed := by kernel_rfl
  f125 := Try.func77.trans (congrArg some (by kernel_rfl))
  f128 := Try.func89.trans (congrArg some (by kernel_rfl))
  f129 := Try.func90.trans (congrArg some (by kernel_rfl))
  f189 := Try.func66.trans (congrArg some (by kernel_rfl))
  f215 := Try.func96.trans (congrArg some (by kernel_rfl))
  f216 := Try.func86.trans (congrArg some (by kernel_rfl))
  f257 := Try.func76.trans (congrArg some (by kernel_rfl))
  f294 := Try.func80.trans (congrArg some (by kernel_rfl))
  f295 := Try.func81.trans (congrArg some (by kernel_rfl))
  f296 := Try.func82.trans (congrArg some (by kernel_rfl))
  f297 := Try.func83.trans (congrArg some (by kernel_rfl))
  f298 := Try.func84.trans (congrArg some (by kernel_rfl))
  f299 := Try.func85.trans (congrArg some (by kernel_rfl))
  f300 := Try.func87.trans (congrArg some (by kernel_rfl))
  f301 := Try.func88.trans (congrArg some (by kernel_rfl))
  f328 := Try.func91.trans (congrArg some (by kernel_rfl))
  f329 := Try.func92.trans (congrArg some (by kernel_rfl))
  f330 := Try.func93.trans (congrArg some (by kernel_rfl))
  f331 := Try.func94.trans (congrArg some (by kernel_rfl))
  f332 := Try.func95.trans (congrArg some (by kernel_rfl))
  f343 := Try.func97.trans (congrArg some (by kernel_rfl))
  t0 := Try.underlying0
  a0 := Try.isAgg0
  z0 := Try.sizeOf0
  v0 := Try.zeroValue0
  t3 := Try.underlying3
  a3 := Try.isAgg3
  z3 := Try.sizeOf3
  v3 := Try.zeroValue3
  t4 := Try.underlying4
  a4 := Try.isAgg4
  z4 := Try.sizeOf4
  v4 := Try.zeroValue4
  t5 := Try.underlying5
  a5 := Try.isAgg5
  z5 := Try.sizeOf5
  v5 := Try.zeroValue5
  t9 := Try.underlying9
  a9 := Try.isAgg9
  z9 := Try.sizeOf9
  v9 := Try.zeroValue9
  t28 := Try.underlying48
  a28 := Try.isAgg48
  z28 := Try.sizeOf48
  v28 := Try.zeroValue48
  t46 := Try.underlying104
  a46 := Try.isAgg104
  z46 := Try.sizeOf104
  v46 := Try.zeroValue104
  t51 := Try.underlying115
  a51 := Try.isAgg115
  z51 := Try.sizeOf115
  v51 := Try.zeroValue115
  t53 := Try.underlying117
  a53 := Try.isAgg117
  z53 := Try.sizeOf117
  v53 := Try.zeroValue117
  t131 := Try.underlying112
  a131 := Try.isAgg112
  z131 := Try.sizeOf112
  v131 := Try.zeroValue112
  t182 := Try.underlying107
  a182 := Try.isAgg107
  z182 := Try.sizeOf107
  v182 := Try.zeroValue107
  t183 := Try.underlying108
  a183 := Try.isAgg108
  z183 := Try.sizeOf108
  v183 := Try.zeroValue108
  t218 := Try.underlying118
  a218 := Try.isAgg118
  z218 := Try.sizeOf118
  v218 := Try.zeroValue118
  t222 := Try.underlying122
  a222 := Try.isAgg122
  z222 := Try.sizeOf122
  v222 := Try.zeroValue122
  t228 := Try.underlying124
  a228 := Try.isAgg124
  z228 := Try.sizeOf124
  v228 := Try.zeroValue124
  t229 := Try.underlying125
  a229 := Try.isAgg125
  z229 := Try.sizeOf125
  v229 := Try.zeroValue125
theorem rowL_int (zs : List Int) : rowL intL zs = zs.map (Value.int .i64) := by
  induction zs with
  | nil => rfl
  | cons z l ih => rw [show rowL intL (z :: l) = Value.int .i64 z :: rowL intL l from rfl, ih]; rfl
theorem sort_any (base : Nat) (v : Value) (zs : List Int) (w : World) (own : w.ownsRow base 3 1 v zs.length (rowL intL zs)) (hb : zs.length ≤ 4096) :
    Calls Try.prog 66 #[v] w fun e w' => e = .returned (.tuple #[]) ∧ w'.ownsRow base 3 1 v zs.length (rowL intL (sortedI zs)) ∧ w.grownBy w' v.ownBlock := by
  rcases own.2 with ⟨rfl, h0⟩ | ⟨g, cap, cur, rfl, hbase, hg, h1, h2, h3, h4⟩
  · obtain rfl : zs = [] := List.eq_nil_of_length_eq_zero h0
    refine (Any.slices_Sort_int_none lays none 0 w).mono ?_
    rintro e w' ⟨rfl, rfl⟩
    rw [show sortedI [] = [] by simp [sortedI]]
    exact ⟨rfl, World.ownsRow_nil _ _ _ _, World.grownBy.refl _ _⟩
  · rw [rowL_int, Nat.mul_one] at h4
    refine (Any.slices_Sort_int lays g 0 cap zs w (holds_of_blockI hg h4) (lt_of_heap hg) (by omega)).mono ?_
    rintro e w' ⟨rfl, n, os, rfl⟩
    refine ⟨rfl, ?_, grownBy_sortedI _⟩
    have hl : (sortedI zs).length = zs.length := (sorted_perm zs).length_eq
    rw [rowL_int]
    exact ownsRow_sortedI (ts := sortedI zs) hl hbase hg h1 h2 h3
end Go.Proofs.Ytabbdclpjghdbaa.Grid
namespace Go.Proofs.Ytabbdclpjghdbaa.Grid
set_option linter.unusedVariables false
set_option linter.unusedSimpArgs false
open Go Go.RowKit

/- The bins, sorted: each within its limits, none like the one ahead; from k on. -/
def fine (s : List Int) (k : Nat) : Prop := upTo (s.getD k 0) 1000000000 = true ∧ (0 < k → s.getD k 0 ≠ s.getD (k - 1) 0)
theorem mayBe_iff (l : List Int) (h : l.length ≤ 512) : mayBeP l ↔ ∀ i, i < l.length → fine (sortedI l) i := by
  rw [mayBe_sorted, (sorted_perm l).length_eq]
  exact ⟨fun h' => h'.2, fun h' => ⟨h, h'⟩⟩
theorem own_ints {w : World} {base n cap : Nat} {a : Option Addr} {s : List Int} (h : w.ownsRow base 3 1 (.slice a n cap) n (rowL intL s)) (hn : 0 < n) (hs : s.length = n) : ∃ g, a = some ⟨g, 0, none⟩ ∧ ∀ i, i < n → w.cell? ⟨g, i, none⟩ = some (.int .i64 (s.getD i 0)) := by
  rcases h.2 with ⟨e, h0⟩ | ⟨g, cap', cur, e, _⟩
  · omega
  · cases e
    refine ⟨g, rfl, fun i hi => ?_⟩
    rw [h.cellAt i (by omega), rowL_int, List.getElem?_map, List.getElem?_eq_getElem (by omega), List.getD_eq_getElem?_getD, List.getElem?_eq_getElem (by omega)]
    rfl
set_option maxRecDepth 100000 in
set_option maxHeartbeats 4000000 in
theorem mayBe_any (base : Nat) (v : Value) (zs : List Int) (w : World) (own : w.ownsRow base 3 1 v zs.length (rowL intL zs)) (hm : zs.length ≤ 9223372036854775807) :
    Calls Try.prog 74 #[v] w fun e w' => e = .returned (.bool (decide (mayBeP zs))) ∧ w.grownBy w' v.ownBlock := by
  obtain ⟨a, cap, rfl, _⟩ := own_form own
  by_cases h5 : zs.length ≤ 512
  · have cS := sort_any base _ zs w own (by omega)
    have HM := mayBe_iff zs h5
    obtain ⟨s, hs⟩ : ∃ s, sortedI zs = s := ⟨_, rfl⟩
    have hsl : s.length = zs.length := by rw [← hs]; exact (sorted_perm zs).length_eq
    rw [hs] at cS HM
    generalize hB : decide (mayBeP zs) = B at *
    have HB : Hid (B = true ↔ ∀ i, i < zs.length → fine s i) := by rw [← hB, decide_eq_true_eq]; exact HM
    clear HM hB hs own
    obtain ⟨n, hN⟩ : ∃ n, zs.length = n := ⟨_, rfl⟩
    have HN : Hid (zs.length = n) := hN
    have HSL : Hid (s.length = n) := hsl.trans hN
    rw [hN] at h5 hm cS ⊢
    clear hN hsl
    have t5 : (n : Int) ≤ 512 := by omega
    go_enter Try.func74, Try.ntmps74
    go_wp2_with (go_at_call 66; refine cS.mono ?_; rintro e w1 ⟨rfl, own1, gr1⟩)
    go_loopw [12] (fun i wr => ∃ (k : Nat), k ≤ n ∧ i = .int .i64 k ∧ wr = w1 ∧ Hid (∀ j, j < k → fine s j)) (fun i _ => n - (intOf i).toNat)
    case atStart => exact ⟨0, Nat.zero_le _, rfl, rfl, fun j hj => by omega⟩
    case round =>
      obtain ⟨k, hk, rfl, rfl, HK⟩ := hrel
      by_cases hlt : k < n
      · obtain ⟨gb, rfl, hcl0⟩ := own_ints own1 (by omega) HSL.out
        have hcl : Hid (∀ i, i < n → wr.cell? ⟨gb, i, none⟩ = some (.int .i64 (s.getD i 0))) := hcl0
        clear hcl0
        have ck := hcl.out k hlt
        have HF : Hid (fine s k ↔ (upTo (s.getD k 0) 1000000000 = true ∧ (0 < k → s.getD k 0 ≠ s.getD (k - 1) 0))) := Iff.rfl
        have cU := fun u => upTo_any (s.getD k 0) 1000000000 u
        have HX : Hid (∀ j, j < n → B = true → fine s j) := fun j hj h => HB.out.1 h j (by rw [HN.out]; exact hj)
        generalize hx : s.getD k 0 = x at *
        clear hx
        cases hu : upTo x 1000000000
        · rw [hu] at cU
          have HT : Hid (B = false) := by
            show B = false
            cases hB : B
            · rfl
            · have := (HF.out.1 (HX.out k hlt hB)).1
              rw [hu] at this; cases this
          go_wp2_with (go_at_call 68; refine (cU _).mono ?_; rintro e w2 ⟨rfl, hw2⟩; rw [hw2]; clear hw2 w2)
          go_ret
          exact ⟨ret_bool HT.out.symm, gr1⟩
        · rw [hu] at cU
          cases k with
          | zero =>
            go_wp2_with (go_at_call 68; refine (cU _).mono ?_; rintro e w2 ⟨rfl, hw2⟩; rw [hw2]; clear hw2 w2)
            go_roundw
            case rel => exact ⟨1, by omega, by go_num, trivial, fun j hj => (show j = 0 by omega) ▸ HF.out.2 ⟨hu, fun h => by omega⟩⟩
            case measure => simp [intOf]; omega
          | succ m =>
            have cm := hcl.out m (by omega)
            have HF2 : Hid (fine s (m + 1) ↔ (upTo x 1000000000 = true ∧ (0 < m + 1 → x ≠ s.getD m 0))) := HF.out
            generalize hy : s.getD m 0 = y at *
            clear hy
            by_cases hxy : x = y
            · have HT : Hid (B = false) := by
                show B = false
                cases hB : B
                · rfl
                · exact absurd hxy ((HF2.out.1 (HX.out (m + 1) hlt hB)).2 (by omega))
              subst hxy
              go_wp2_with (go_at_call 68; refine (cU _).mono ?_; rintro e w2 ⟨rfl, hw2⟩; rw [hw2]; clear hw2 w2)
              go_ret
              exact ⟨ret_bool HT.out.symm, gr1⟩
            · have hxy0 : (x == y) = false := by rw [beq_eq_false_iff_ne]; exact hxy
              go_wp2_with (go_at_call 68; refine (cU _).mono ?_; rintro e w2 ⟨rfl, hw2⟩; rw [hw2]; clear hw2 w2)
              go_roundw
              case rel =>
                refine ⟨m + 1 + 1, by omega, by go_num, trivial, fun j hj => ?_⟩
                by_cases q : j < m + 1
                · exact HK.out j q
                · obtain rfl : j = m + 1 := by omega
                  exact HF2.out.2 ⟨hu, fun _ => hxy⟩
              case measure => simp [intOf]; omega
      · obtain rfl : k = n := by omega
        have HT : Hid (B = true) := HB.out.2 fun i hi => HK.out i (by rw [← HN.out]; exact hi)
        go_wp2
        go_ret
        exact ⟨ret_bool HT.out.symm, gr1⟩
  · have t5 : 512 < (zs.length : Int) := by omega
    have hB : decide (mayBeP zs) = false := by rw [decide_eq_false_iff_not]; exact fun h => h5 h.1
    rw [hB]
    generalize zs.length = n at *
    go_enter Try.func74, Try.ntmps74
    go_wp2
    go_ret
    exact ⟨rfl, World.grownBy.refl _ _⟩
end Go.Proofs.Ytabbdclpjghdbaa.Grid
