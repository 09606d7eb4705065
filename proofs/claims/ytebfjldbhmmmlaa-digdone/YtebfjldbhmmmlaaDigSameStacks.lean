/-
  Whether two lists of numbers, and two lists of stacks, are the same.
-/
import Derived.Test.YtebfjldbhmmmlaaDigRefTop
import Derived.Deep.DeepCutAuto
import Derived.Deep.CutRange
namespace Go.Proofs.Ytebfjldbhmmmlaa.Dig
set_option linter.unusedVariables false
set_option linter.unusedSimpArgs false
open Go Go.RowKit Go.Shelf Go.Proofs Go.Proofs.Ytebfjldbhmmmlaa.Grid
attribute [local go_sem] Oper.semAt_some

theorem take_next2 {α : Type} {l m : List α} {k : Nat} (h : l.take k = m.take k) (h1 : k < l.length) (h2 : k < m.length) (e : l[k]'h1 = m[k]'h2) : l.take (k + 1) = m.take (k + 1) := by
  rw [List.take_add_one, List.take_add_one, h, List.getElem?_eq_getElem h1, List.getElem?_eq_getElem h2, e]
set_option maxRecDepth 100000 in
set_option maxHeartbeats 4000000 in
theorem sameInts_any (F1 F2 : Nat → Prop) (l m : List Int) (v1 v2 : Value) (w : World) (hL : ListAt 1 intEl F1 l v1 w) (hM : ListAt 1 intEl F2 m v2 w) (hF1 : ∀ b, F1 b → b < w.heap.size) (hF2 : ∀ b, F2 b → b < w.heap.size) (hm1 : l.length ≤ 9223372036854775807) (hm2 : m.length ≤ 9223372036854775807) :
    Calls Try.prog 13 #[v1, v2] w fun e w' => ∃ r, e = .returned r ∧ r = .bool (decide (l = m)) ∧ Below w.heap.size w w' := by
  obtain ⟨a, cap, hv, h0⟩ := hL.form
  obtain ⟨a', cap', hv', h0'⟩ := hM.form
  subst hv hv'
  generalize hR : decide (l = m) = R
  have HR : Hid (decide (l = m) = R) := hR
  clear hR
  have HNe : Hid (l ≠ m → R = false) := fun h => by rw [← HR.out]; exact decide_eq_false h
  by_cases hlen : l.length = m.length
  · obtain ⟨n, hn⟩ : ∃ n, l.length = n := ⟨_, rfl⟩
    have Hn : Hid (l.length = n) := hn
    have Hn2 : Hid (m.length = n) := hlen ▸ hn
    rw [hn] at hlen hL hm1
    rw [← hlen] at hM hm2
    rw [hn, ← hlen]
    clear hn hlen h0 h0'
    have hFw : ∀ wr, Below w.heap.size w wr → ListAt 1 intEl F1 l (.slice a n cap) wr := fun wr b => hL.go heldInt hF1 b
    have hMw : ∀ wr, Below w.heap.size w wr → ListAt 1 intEl F2 m (.slice a' n cap') wr := fun wr b => hM.go heldInt hF2 b
    clear hL hM
    go_enter Try.func13, Try.ntmps13
    go_wp2
    go_loopw [5] (fun i wr => ∃ k : Nat, k ≤ n ∧ i = .int .i64 k ∧ Below w.heap.size w wr ∧ Hid (l.take k = m.take k)) (fun i _ => n - (intOf i).toNat)
    case atStart => exact ⟨0, Nat.zero_le _, rfl, Below.refl _ _, rfl⟩
    case round =>
      obtain ⟨k, hk, rfl, B, HK⟩ := hrel
      by_cases hlt : k < n
      · have hl1 : k < l.length := by rw [Hn.out]; exact hlt
        have hl2 : k < m.length := by rw [Hn2.out]; exact hlt
        have HY : Hid (l[k]'hl1 = m[k]'hl2 → l.take (k + 1) = m.take (k + 1)) := fun e => take_next2 HK.out hl1 hl2 e
        have HX : Hid (l[k]'hl1 ≠ m[k]'hl2 → R = false) := fun e => HNe.out (fun h => e (by subst h; rfl))
        obtain ⟨p, cs, cap2, hv, _, hcs, hrd⟩ := (hFw wr B).item hl1
        obtain ⟨p', cs', cap2', hv', _, hcs', hrd'⟩ := (hMw wr B).item hl2
        generalize l[k]'hl1 = q at *
        generalize m[k]'hl2 = q' at *
        obtain rfl := hcs
        obtain rfl := hcs'
        obtain ⟨rfl, rfl⟩ : a = some p ∧ cap = cap2 := by injection hv with h1 h2 h3; exact ⟨h1, h3⟩
        obtain ⟨rfl, rfl⟩ : a' = some p' ∧ cap' = cap2' := by injection hv' with h1 h2 h3; exact ⟨h1, h3⟩
        have r1 := hrd 0 _ rfl
        have r2 := hrd' 0 _ rfl
        rw [Nat.mul_one, add_add, Nat.add_zero] at r1 r2
        clear hv hv' hrd hrd'
        go_wp2
        obtain ⟨IH, hIH⟩ : ∃ I : World → Prop, I = Below wr.heap.size wr := ⟨_, rfl⟩
        have kI : ∀ u, IH u → Below wr.heap.size wr u := fun u hu => by rw [hIH] at hu; exact hu
        have hS : IH wr.drew := by rw [hIH]; exact (Below.refl _ _).drew
        have z1 : ∀ u, IH u → u.cell? (p.add k) = some (.int .i64 q) := fun u hu => cell_below r1 (kI u hu)
        have z2 : ∀ u, IH u → u.cell? (p'.add k) = some (.int .i64 q') := fun u hu => cell_below r2 (kI u hu)
        clear r1 r2
        refine start_held (S := IH) 9 rfl (by kernel_rfl) (hS) ?_
        simp only [Array.replicate_succ, Array.replicate_zero, List.push_toArray, List.nil_append, List.cons_append]
        refine take_held 0 (by assumption) rfl (by kernel_rfl) (by kernel_rfl) (by kernel_rfl) (fun _ _ _ h => h) (by kernel_rfl) (v := ?v0) ?y0 ?r0
        case y0 => (intro u hu; go_simp; try rfl)
        simp only [Act.put, List.setIfInBounds_toArray, List.set_cons_zero, List.set_cons_succ]
        refine take_held 1 (by assumption) rfl (by kernel_rfl) (by kernel_rfl) (by kernel_rfl) (fun _ _ _ h => h) (by kernel_rfl) (v := ?v1) ?y1 ?r1
        case y1 => (intro u hu; go_simp; try rfl)
        simp only [Act.put, List.setIfInBounds_toArray, List.set_cons_zero, List.set_cons_succ]
        refine take_held 2 (by assumption) rfl (by kernel_rfl) (by kernel_rfl) (by kernel_rfl) (fun _ _ _ h => h) (by kernel_rfl) (v := ?v2) ?y2 ?r2
        case y2 => (intro u hu; go_simp; try rfl)
        simp only [Act.put, List.setIfInBounds_toArray, List.set_cons_zero, List.set_cons_succ]
        refine take_held 3 (by assumption) rfl (by kernel_rfl) (by kernel_rfl) (by kernel_rfl) (fun _ _ _ h => h) (by kernel_rfl) (v := ?v3) ?y3 ?r3
        case y3 => (intro u hu; have zz0 := z1 u hu; go_simp; try rfl)
        simp only [Act.put, List.setIfInBounds_toArray, List.set_cons_zero, List.set_cons_succ]
        refine take_held 4 (by assumption) rfl (by kernel_rfl) (by kernel_rfl) (by kernel_rfl) (fun _ _ _ h => h) (by kernel_rfl) (v := ?v4) ?y4 ?r4
        case y4 => (intro u hu; go_simp; try rfl)
        simp only [Act.put, List.setIfInBounds_toArray, List.set_cons_zero, List.set_cons_succ]
        refine take_held 5 (by assumption) rfl (by kernel_rfl) (by kernel_rfl) (by kernel_rfl) (fun _ _ _ h => h) (by kernel_rfl) (v := ?v5) ?y5 ?r5
        case y5 => (intro u hu; go_simp; try rfl)
        simp only [Act.put, List.setIfInBounds_toArray, List.set_cons_zero, List.set_cons_succ]
        refine take_held 6 (by assumption) rfl (by kernel_rfl) (by kernel_rfl) (by kernel_rfl) (fun _ _ _ h => h) (by kernel_rfl) (v := ?v6) ?y6 ?r6
        case y6 => (intro u hu; go_simp; try rfl)
        simp only [Act.put, List.setIfInBounds_toArray, List.set_cons_zero, List.set_cons_succ]
        refine take_held 7 (by assumption) rfl (by kernel_rfl) (by kernel_rfl) (by kernel_rfl) (fun _ _ _ h => h) (by kernel_rfl) (v := ?v7) ?y7 ?r7
        case y7 => (intro u hu; have zz0 := z2 u hu; go_simp; try rfl)
        simp only [Act.put, List.setIfInBounds_toArray, List.set_cons_zero, List.set_cons_succ]
        refine take_held 8 (by assumption) rfl (by kernel_rfl) (by kernel_rfl) (by kernel_rfl) (fun _ _ _ h => h) (by kernel_rfl) (v := (.bool (!decide (q = q')))) ?y8 ?r8
        case y8 => (intro u hu; go_simp; try rw [ne_dec]; try simp)
        simp only [Act.put, List.setIfInBounds_toArray, List.set_cons_zero, List.set_cons_succ]
        refine done_held (by kernel_rfl) ?_ _
        have B7 : Below w.heap.size w wr.drew := bcat B (Below.refl _ _).drew (Nat.le_refl _)
        by_cases hz : q = q'
        · have HT : Hid (l.take (k + 1) = m.take (k + 1)) := HY.out hz
          rw [decide_eq_true hz]
          go_wp2
          go_roundw
          case rel => exact ⟨k + 1, by omega, by go_num, B7, HT⟩
          case measure => simp [intOf]; omega
        · have HT : Hid (R = false) := HX.out hz
          rw [decide_eq_false hz]
          go_wp2
          go_ret
          exact ⟨_, rfl, congrArg Value.bool HT.out.symm, B7⟩
      · obtain rfl : n = k := by omega
        have HT : Hid (R = true) := by
          show R = true
          rw [← HR.out, decide_eq_true_eq]
          have := HK.out
          rw [List.take_of_length_le (by rw [Hn.out]; omega), List.take_of_length_le (by rw [Hn2.out]; omega)] at this
          exact this
        go_wp2
        go_ret
        exact ⟨_, rfl, congrArg Value.bool HT.out.symm, B⟩
  · have HT : Hid (R = false) := HNe.out (fun h => hlen (by rw [h]))
    have hne : ((l.length : Int) != (m.length : Int)) = true := by rw [bne_iff_ne]; omega
    generalize l.length = n1 at *
    generalize m.length = n2 at *
    go_enter Try.func13, Try.ntmps13
    go_wp2
    go_ret
    exact ⟨_, rfl, congrArg Value.bool HT.out.symm, Below.refl _ _⟩
theorem run_neq_cell {o : Oper} {a : Act} {w : World} (x y : Operand) (ho : o.op = .binOp .neq 30 x y 30) (p q p' q' : Int) (hx : a.eval x = .agg #[.int .i64 p, .int .i64 q]) (hy : a.eval y = .agg #[.int .i64 p', .int .i64 q']) :
    (execOp a.eval o).run Try.prog w = .ok (.value (.bool (!decide ((p, q) = (p', q'))))) w := by
  unfold execOp
  simp only [ho, hx, hy, Sem.run_bind, Sem.run_pure, Result.andThen_ok, run_eqGuard_agg _ _ _ _ _ _ _ guardCell, run_neq_struct, eqCell]
theorem stk_eq {a b : Cell} {l m : List Int} : ((a, l) = (b, m)) ↔ a = b ∧ l = m := by rw [Prod.mk.injEq]
end Go.Proofs.Ytebfjldbhmmmlaa.Dig
