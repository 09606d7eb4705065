/-
  How a grid is laid: ports, homes, stack cells.
-/
import Derived.Test.YtnaojlngdfolaaaGridOwn
namespace Go.Proofs.Ytnaojlngdfolaaa.Grid
set_option linter.unusedVariables false
set_option linter.unusedSimpArgs false
open Go Go.RowKit

/- Nothing old has turned but the grid itself. -/
structure Fr (g u : Nat) (w w' : World) : Prop where
  os : w'.os = w.os
  tape : w'.tape = w.tape
  output : w'.output = w.output
  size : w.heap.size ≤ w'.heap.size
  block : ∀ k, k < w.heap.size → k ≠ g → k ≠ u → w'.heap[k]? = w.heap[k]?
theorem Fr.of {g u : Nat} {w w' : World} (h : w.grownBy w' (some u)) : Fr g u w w' := ⟨h.os, h.tape, h.output, h.size, fun k hk _ hu => h.block k hk fun e => hu (Option.some.inj e)⟩
theorem Fr.below {g u : Nat} {w w' : World} (h : Below w.heap.size w w') : Fr g u w w' := ⟨h.os, h.tape, h.output, h.size, fun k hk _ _ => h.block k hk⟩
theorem Fr.trans {g u : Nat} {w w1 w2 : World} (h : Fr g u w w1) (h1 : Fr g u w1 w2) : Fr g u w w2 :=
  ⟨h1.os.trans h.os, h1.tape.trans h.tape, h1.output.trans h.output, Nat.le_trans h.size h1.size, fun k hk a b => (h1.block k (Nat.lt_of_lt_of_le hk h.size) a b).trans (h.block k hk a b)⟩
theorem Fr.setg {g u : Nat} {w w' : World} (h : Fr g u w w') (j : Nat) (v : Value) : Fr g u w (w'.setCell ⟨g, j, none⟩ v) :=
  ⟨h.os, h.tape, h.output, by simp; exact h.size, fun k hk a b => by rw [heap_setCell_other _ _ _ _ a]; exact h.block k hk a b⟩
theorem ListAt.fr {α : Type} {S S' : Nat} {El : (Nat → Prop) → α → Array Value → World → Prop} (hE : Held El S') {F : Nat → Prop} {xs : List α} {v : Value} {w w' : World} {g u : Nat} (h : ListAt S El F xs v w) (hF : ∀ b, F b → b < w.heap.size ∧ b ≠ g ∧ b ≠ u) (hb : Fr g u w w') : ListAt S El F xs v w' :=
  h.stable hE fun b hg => hb.block b (hF b hg).1 (hF b hg).2.1 (hF b hg).2.2
theorem GridAt.setPorts {w : World} {g u : Nat} {W H : Int} {us : List Int} {vp : Value} (h : GridAt w g u W H us vp) (v : Value) : GridAt (w.setCell ⟨g, 3, none⟩ v) g u W H us v := by
  refine ⟨?_, ?_, h.w1, h.w2, h.h1, h.h2, h.len, h.small, h.ne⟩
  · rw [heap_setCell_same _ _ _ _ _ _ h.hd]; rfl
  · rw [heap_setCell_other _ _ _ _ h.ne.symm]; exact h.row

theorem new_cell (w : World) (cs : Array Value) (t : TypeId) (j : Nat) : (w.alloc (.cells cs t)).cell? ⟨w.heap.size, j, none⟩ = cs[j]? := cell_of (heap_alloc_new w _) j
theorem owns_base {w : World} {b b' : Nat} {e : TypeId} {size : Nat} {v : Value} {n : Nat} {xs : List Value} (hb : b' ≤ b) (h : w.ownsRow b e size v n xs) : w.ownsRow b' e size v n xs := by
  refine ⟨h.1, ?_⟩
  rcases h.2 with hn | ⟨g, cap, cur, rfl, hb', rest⟩
  · exact .inl hn
  · exact .inr ⟨g, cap, cur, rfl, by omega, rest⟩
set_option maxRecDepth 100000 in
set_option maxHeartbeats 4000000 in
theorem layPorts_any (g u : Nat) (W H : Int) (us : List Int) (vp : Value) (F : Nat → Prop) (l : List Cell) (v : Value) (w : World) (hG : GridAt w g u W H us vp) (hL : ListAt 2 cellEl F l v w) (hF : ∀ b, F b → b < w.heap.size ∧ b ≠ g ∧ b ≠ u) (hm : l.length ≤ 9223372036854775807) :
    Calls Try.prog 66 #[.pointer (some ⟨g, 0, none⟩), v] w fun e w' => Fr g u w w' ∧
      ((∃ us' v', (if l.length ≤ 8 then takeP W H us l else none) = some us' ∧ e = .returned (.bool true) ∧ GridAt w' g u W H us' v' ∧ w'.ownsRow w.heap.size 28 2 v' l.length (rowL cellL l)) ∨ ((if l.length ≤ 8 then takeP W H us l else none) = none ∧ e = .returned (.bool false))) := by
  obtain ⟨a, cap, hv, h0⟩ := hL.form
  subst hv
  have lg := hG.ltg
  by_cases h8 : l.length ≤ 8
  · rw [if_pos h8]
    obtain ⟨R, hR⟩ : ∃ R, takeP W H us l = R := ⟨_, rfl⟩
    rw [hR]
    obtain ⟨n, hN⟩ : ∃ n, l.length = n := ⟨_, rfl⟩
    have HN : Hid (l.length = n) := hN
    rw [hN] at hm h8 hL ⊢
    have HR : Hid (takeP W H us (l.drop 0) = R) := hR
    have t8 : (n : Int) ≤ 8 := by omega
    clear hN hR
    go_enter Try.func66, Try.ntmps66
    go_wp2
    go_loopw [12] (fun i wr => ∃ (k : Nat) (us1 : List Int), k ≤ n ∧ i = .int .i64 k ∧ GridAt wr g u W H us1 vp ∧ Fr g u w wr ∧ Hid (takeP W H us1 (l.drop k) = R)) (fun i _ => n - (intOf i).toNat)
    case atStart => exact ⟨0, us, Nat.zero_le _, rfl, hG, Fr.below (Below.refl _ _), HR⟩
    case round =>
      obtain ⟨k, us1, hk, rfl, G1, gr, HK⟩ := hrel
      by_cases hlt : k < n
      · have hlt' : k < l.length := by rw [HN.out]; exact hlt
        have HD : Hid (l.drop k = l[k]'hlt' :: l.drop (k + 1)) := drop_item l hlt'
        obtain ⟨p, cs, cap', hv, hpF, hcs, hrd⟩ := (hL.fr heldCell hF gr).item hlt'
        generalize l[k]'hlt' = xy at *
        obtain ⟨x, y⟩ := xy
        have hcs' : cs = #[.int .i64 x, .int .i64 y] := hcs
        subst hcs'
        obtain ⟨rfl, rfl⟩ : a = some p ∧ cap = cap' := by injection hv with h1 h2 h3; exact ⟨h1, h3⟩
        have cT := fun o => take_any g u W H us1 vp x y (wr.alloc o) (G1.alloc o) 2 (by decide)
        have hgw : wr.heap.size ≠ u := by have := G1.ltu; omega
        clear hv hcs
        go_wp2_with (first
          | (refine wpList_load_at rfl 28 (.tmp 14) rfl (p.add (k * 2)) rfl #[.int .i64 x, .int .i64 y] hrd (aggCell _) info_cell ?_)
          | (go_at_call 122; (refine (cT _).mono ?_; rintro e w1 ⟨g1, ⟨us2, t2, rfl, G2⟩ | ⟨t2, rfl, G2⟩⟩; have q0 : w1.cell? ⟨wr.heap.size, 0, none⟩ = some (.int .i64 x) := (g1.cell_far ⟨wr.heap.size, 0, none⟩ (by simp) (fun e => hgw (Option.some.inj e))).trans (new_cell wr _ _ 0); have q1 : w1.cell? ⟨wr.heap.size, 1, none⟩ = some (.int .i64 y) := (g1.cell_far ⟨wr.heap.size, 1, none⟩ (by simp) (fun e => hgw (Option.some.inj e))).trans (new_cell wr _ _ 1)))
          | (go_at_call 123; refine (served_any g u W H us2 vp x y w1 G2).mono ?_; rintro e w2 ⟨rfl, b2⟩; cases hsv : servedU W H us2 (x, y)))
        · go_ret
          refine ⟨gr.trans ((Fr.of (grow_alloc _ _ _)).trans ((Fr.of g1).trans (Fr.below b2))), Or.inr ⟨?_, rfl⟩⟩
          have := HK.out
          rw [HD.out] at this
          unfold takeP at this
          rw [t2, Option.bind_some, hsv] at this
          exact this.symm
        · go_roundw
          case rel =>
            refine ⟨k + 1, us2, by omega, by go_num, G2.go b2, gr.trans ((Fr.of (grow_alloc _ _ _)).trans ((Fr.of g1).trans (Fr.below b2))), ?_⟩
            have := HK.out
            rw [HD.out] at this
            unfold takeP at this
            rw [t2, Option.bind_some, hsv] at this
            exact this
          case measure => simp [intOf]; omega
        · go_ret
          refine ⟨gr.trans ((Fr.of (grow_alloc _ _ _)).trans (Fr.of g1)), Or.inr ⟨?_, rfl⟩⟩
          have := HK.out
          rw [HD.out] at this
          unfold takeP at this
          rw [t2, Option.bind_none] at this
          exact this.symm
      · obtain rfl : k = n := by omega
        have hK := HK.out
        rw [List.drop_eq_nil_of_le (by rw [HN.out]; omega)] at hK
        clear HK
        have HK2 : Hid (R = some us1) := hK.symm
        clear hK
        have cC := clone_any F l (.slice a k cap) wr (hL.fr heldCell hF gr) (fun b hb => Nat.lt_of_lt_of_le (hF b hb).1 gr.size) (by rw [HN.out]; omega)
        have HF : Hid (∀ w', Below wr.heap.size wr w' → w'.cell? ⟨g, 3, none⟩ = some vp ∧ w'.frozen? ⟨g, 3, none⟩ = false) := fun w' b => ⟨(G1.go b).c3, frozen_of (G1.go b).hd 3⟩
        go_wp2_with (go_at_call 124; refine cC.mono ?_; rintro e w1 ⟨v', rfl, own1, b1⟩; obtain ⟨a', cap'', rfl, _⟩ := own_form own1; obtain ⟨f3, z3⟩ := HF.out _ b1)
        go_ret
        refine ⟨(gr.trans (Fr.below b1)).setg 3 _, Or.inl ⟨us1, _, HK2.out, rfl, (G1.go b1).setPorts _, ?_⟩⟩
        rw [HN.out] at own1
        rw [← HN.out] at own1 ⊢
        exact owns_base gr.size (owns_same own1 fun j hj => heap_setCell_other _ _ _ _ (by have := (own_since own1 j hj).1; have := G1.ltg; simp only; omega))
  · rw [if_neg h8]
    have t8 : 8 < (l.length : Int) := by omega
    generalize l.length = n at *
    go_enter Try.func66, Try.ntmps66
    go_wp2
    go_ret
    exact ⟨Fr.below (Below.refl _ _), Or.inr ⟨trivial, rfl⟩⟩
end Go.Proofs.Ytnaojlngdfolaaa.Grid
