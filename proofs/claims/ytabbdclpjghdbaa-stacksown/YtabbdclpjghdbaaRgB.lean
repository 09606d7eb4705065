/-
  Open cells, stack cells; what takes a cell.
  A statement that leaves its order open, step by step, over any class of worlds: what reads the same in every world of the class is taken first; what stands alone is done by its contract, or writes.
  Lists of things in memory: where they lie, by which blocks they are held; a config.
  How a grid is laid: blocked cells, ports, homes.
  Lists of a call's own: what is put behind one; that it is a list in memory.
-/
import Derived.Test.YtabbdclpjghdbaaGridNumber
import Derived.Deep.RegionHeld3
import Derived.Laws.Cover3
namespace Go.Proofs.Ytabbdclpjghdbaa.Grid
set_option linter.unusedVariables false
set_option linter.unusedSimpArgs false
open Go Go.RowKit

theorem grow_of_below {w w' : World} {r : Option Nat} (h : Below w.heap.size w w') : w.grownBy w' r := ⟨h.os, h.tape, h.output, h.size, fun k hk _ => h.block k hk⟩
theorem grow_set {w w' : World} {u : Nat} (h : w.grownBy w' (some u)) (k : Nat) (v : Value) : w.grownBy (w'.setCell ⟨u, k, none⟩ v) (some u) := by
  refine ⟨h.os, h.tape, h.output, ?_, fun j hj hne => ?_⟩
  · have := h.size; simp; exact this
  · rw [heap_setCell_other _ _ _ _ (fun e => hne (by rw [e]))]; exact h.block j hj hne
theorem num_in {W H : Int} {c : Cell} (h : In W H c) {n : Nat} (hn : (n : Int) = W * H) : ∃ k : Nat, number W H c = k ∧ (c.2 * W + c.1).toNat = k ∧ k < n := by
  have hb := num_lt h
  exact ⟨(c.2 * W + c.1).toNat, by unfold number; rw [if_pos h]; omega, rfl, by omega⟩
theorem num_out {W H : Int} {c : Cell} (h : ¬ In W H c) : number W H c = -1 := by unfold number; rw [if_neg h]

theorem ne_dec (z k : Int) : (z != k) = decide (z ≠ k) := by
  by_cases h : z = k
  · subst h; simp
  · simp [h]
theorem eq_dec (z k : Int) : (z == k) = decide (z = k) := by
  by_cases h : z = k
  · subst h; simp
  · simp [h]
section
variable (g u : Nat) (W H : Int) (us : List Int) (vp : Value) (x y : Int) (w : World) (hG : GridAt w g u W H us vp)
include hG
set_option maxHeartbeats 2000000 in
theorem open_any : Calls Try.prog 43 #[.pointer (some ⟨g, 0, none⟩), .agg #[.int .i64 x, .int .i64 y]] w fun e w' => e = .returned (.bool (openU W H us (x, y))) ∧ Below w.heap.size w w' := by
  have hA := fun o => number_any g u W H us vp x y (w.alloc o) (hG.alloc o)
  by_cases hin : In W H (x, y)
  · obtain ⟨k, hk, hk2, hlt⟩ := num_in hin hG.len
    have e : openU W H us (x, y) = decide (us.getD k 0 ≠ 1) := by unfold openU; rw [hk2]; simp [hin]
    rw [e]
    rw [hk] at hA
    obtain ⟨z, hz⟩ : ∃ z, us.getD k 0 = z := ⟨_, rfl⟩
    have hb := hG.bd k
    have c2 := fun (w1 : World) o (b : Below (w.alloc o).heap.size (w.alloc o) w1) => ((hG.alloc o).go b).c2
    have ck := fun (w1 : World) o (b : Below (w.alloc o).heap.size (w.alloc o) w1) => ((hG.alloc o).go b).at_ k hlt
    rw [hz] at *
    clear hk hk2 hin e hG
    go_enter Try.func43, Try.ntmps43
    go_wp2_with (first
      | (go_at_call 60; refine (hA _).mono ?_; rintro e w1 ⟨rfl, b1⟩; have d2 := c2 _ _ b1; have dk := ck _ _ b1; have B1 := bcat (below_new (Below.refl w.heap.size w) _) b1 (Nat.le_refl _)))
    go_ret
    exact ⟨ret_bool (ne_dec _ _), B1⟩
  · have e : openU W H us (x, y) = false := by unfold openU; simp [hin]
    rw [e]
    rw [num_out hin] at hA
    clear hG hin e
    go_enter Try.func43, Try.ntmps43
    go_wp2_with (first
      | (go_at_call 60; refine (hA _).mono ?_; rintro e w1 ⟨rfl, b1⟩; have B1 := bcat (below_new (Below.refl w.heap.size w) _) b1 (Nat.le_refl _)))
    go_ret
    exact ⟨rfl, B1⟩
set_option maxHeartbeats 2000000 in
theorem stacked_any : Calls Try.prog 63 #[.pointer (some ⟨g, 0, none⟩), .agg #[.int .i64 x, .int .i64 y]] w fun e w' => e = .returned (.bool (stackedU W H us (x, y))) ∧ Below w.heap.size w w' := by
  have hA := fun o => number_any g u W H us vp x y (w.alloc o) (hG.alloc o)
  by_cases hin : In W H (x, y)
  · obtain ⟨k, hk, hk2, hlt⟩ := num_in hin hG.len
    have e : stackedU W H us (x, y) = decide (us.getD k 0 = 4) := by unfold stackedU; rw [hk2]; simp [hin]
    rw [e]
    rw [hk] at hA
    obtain ⟨z, hz⟩ : ∃ z, us.getD k 0 = z := ⟨_, rfl⟩
    have hb := hG.bd k
    have c2 := fun (w1 : World) o (b : Below (w.alloc o).heap.size (w.alloc o) w1) => ((hG.alloc o).go b).c2
    have ck := fun (w1 : World) o (b : Below (w.alloc o).heap.size (w.alloc o) w1) => ((hG.alloc o).go b).at_ k hlt
    rw [hz] at *
    clear hk hk2 hin e hG
    go_enter Try.func63, Try.ntmps63
    go_wp2_with (first
      | (go_at_call 60; refine (hA _).mono ?_; rintro e w1 ⟨rfl, b1⟩; have d2 := c2 _ _ b1; have dk := ck _ _ b1; have B1 := bcat (below_new (Below.refl w.heap.size w) _) b1 (Nat.le_refl _)))
    go_ret
    exact ⟨ret_bool (eq_dec _ _), B1⟩
  · have e : stackedU W H us (x, y) = false := by unfold stackedU; simp [hin]
    rw [e]
    rw [num_out hin] at hA
    clear hG hin e
    go_enter Try.func63, Try.ntmps63
    go_wp2_with (first
      | (go_at_call 60; refine (hA _).mono ?_; rintro e w1 ⟨rfl, b1⟩; have B1 := bcat (below_new (Below.refl w.heap.size w) _) b1 (Nat.le_refl _)))
    go_ret
    exact ⟨rfl, B1⟩
/- What takes a cell. -/
set_option maxHeartbeats 2000000 in
theorem take_any (q : Int) (hq : 0 ≤ q ∧ q < 256) : Calls Try.prog 69 #[.pointer (some ⟨g, 0, none⟩), .agg #[.int .i64 x, .int .i64 y], .int .u8 q] w fun e w' => w.grownBy w' (some u) ∧
    ((∃ us', take W H us (x, y) q = some us' ∧ e = .returned (.bool true) ∧ GridAt w' g u W H us' vp) ∨ (take W H us (x, y) q = none ∧ e = .returned (.bool false) ∧ GridAt w' g u W H us vp)) := by
  have hA := fun o => number_any g u W H us vp x y (w.alloc o) (hG.alloc o)
  by_cases hin : In W H (x, y)
  · obtain ⟨k, hk, hk2, hlt⟩ := num_in hin hG.len
    rw [hk] at hA
    obtain ⟨z, hz⟩ : ∃ z, us.getD k 0 = z := ⟨_, rfl⟩
    have hb := hG.bd k
    have gG := fun (w1 : World) o (b : Below (w.alloc o).heap.size (w.alloc o) w1) => (hG.alloc o).go b
    have fr := fun (w1 : World) o (b : Below (w.alloc o).heap.size (w.alloc o) w1) => frozen_of ((hG.alloc o).go b).row k
    by_cases h0 : z = 0
    · have e : Hid (take W H us (x, y) q = some (us.set k q)) := by unfold Hid take; rw [hk2, if_pos ⟨hin, hz.trans h0⟩]
      subst h0
      have ck := fun (w1 : World) o (b : Below (w.alloc o).heap.size (w.alloc o) w1) => ((hG.alloc o).go b).at_ k hlt
      rw [hz] at ck
      clear hG hin hk hk2 hb hz
      go_enter Try.func69, Try.ntmps69
      go_wp2_with (first
        | (go_at_call 60; refine (hA _).mono ?_; rintro e' w1 ⟨rfl, b1⟩; have G1 := gG _ _ b1; have d2 := G1.c2; have dk := ck _ _ b1; have fk := fr _ _ b1; have B1 := bcat (below_new (Below.refl w.heap.size w) _) b1 (Nat.le_refl _)))
      go_ret
      exact ⟨grow_set (grow_of_below B1) _ _, Or.inl ⟨_, e.out, rfl, G1.set k q hq⟩⟩
    · have e : Hid (take W H us (x, y) q = none) := by unfold Hid take; rw [hk2, if_neg (fun h => h0 (hz.symm.trans h.2))]
      have ck := fun (w1 : World) o (b : Below (w.alloc o).heap.size (w.alloc o) w1) => ((hG.alloc o).go b).at_ k hlt
      rw [hz] at ck
      have hz0 : (z != 0) = true := by simpa using h0
      clear hG hin hk hk2 hb hz h0
      go_enter Try.func69, Try.ntmps69
      go_wp2_with (first
        | (go_at_call 60; refine (hA _).mono ?_; rintro e' w1 ⟨rfl, b1⟩; have G1 := gG _ _ b1; have d2 := G1.c2; have dk := ck _ _ b1; have fk := fr _ _ b1; have B1 := bcat (below_new (Below.refl w.heap.size w) _) b1 (Nat.le_refl _)))
      go_ret
      exact ⟨grow_of_below B1, Or.inr ⟨e.out, rfl, G1⟩⟩
  · have e : Hid (take W H us (x, y) q = none) := by unfold Hid take; rw [if_neg (fun h => hin h.1)]
    rw [num_out hin] at hA
    have gG := fun (w1 : World) o (b : Below (w.alloc o).heap.size (w.alloc o) w1) => (hG.alloc o).go b
    clear hG hin
    go_enter Try.func69, Try.ntmps69
    go_wp2_with (first
      | (go_at_call 60; refine (hA _).mono ?_; rintro e' w1 ⟨rfl, b1⟩; have G1 := gG _ _ b1; have B1 := bcat (below_new (Below.refl w.heap.size w) _) b1 (Nat.le_refl _)))
    go_ret
    exact ⟨grow_of_below B1, Or.inr ⟨e.out, rfl, G1⟩⟩
set_option maxHeartbeats 2000000 in
theorem served_any : Calls Try.prog 70 #[.pointer (some ⟨g, 0, none⟩), .agg #[.int .i64 x, .int .i64 y]] w fun e w' => e = .returned (.bool (servedU W H us (x, y))) ∧ Below w.heap.size w w' := by
  have e : Hid (servedU W H us (x, y) = (openU W H us (w64 (x + 1), y) || openU W H us (x, w64 (y + 1)))) := rfl
  have oA := fun (w1 : World) (b : Below w.heap.size w w1) => open_any g u W H us vp (w64 (x + 1)) y w1 (hG.go b)
  have oB := fun (w1 : World) (b : Below w.heap.size w w1) => open_any g u W H us vp x (w64 (y + 1)) w1 (hG.go b)
  generalize openU W H us (w64 (x + 1), y) = p at *
  generalize openU W H us (x, w64 (y + 1)) = r at *
  generalize servedU W H us (x, y) = s at *
  clear hG
  cases p
  all_goals
    go_enter Try.func70, Try.ntmps70
    go_wp2_with (first
      | (go_at_call 78; refine (east_any x y _).mono ?_; rintro e' w1 ⟨rfl, b1⟩; have B1 := bcat (below_new (Below.refl w.heap.size w) _) b1 (Nat.le_refl _))
      | (have X' := B2; go_at_call 79; refine (south_any x y _).mono ?_; rintro e' w3 ⟨rfl, b3⟩; have B3 := bcat B2 b3 (Nat.le_refl _))
      | (have X' := B3; go_at_call 43; refine (oB _ B3).mono ?_; rintro e' w4 ⟨rfl, b4⟩; have B4 := bcat B3 b4 (Nat.le_refl _))
      | (go_at_call 43; refine (oA _ B1).mono ?_; rintro e' w2 ⟨rfl, b2⟩; have B2 := bcat B1 b2 (Nat.le_refl _); have k0 := (b1.trans (b2.mono b1.size)).cell (p := ⟨w.heap.size, 0, none⟩) (by simp); have k1 := (b1.trans (b2.mono b1.size)).cell (p := ⟨w.heap.size, 1, none⟩) (by simp); rw [cell_of (heap_alloc_new w _)] at k0 k1))
    go_ret
    first
      | exact ⟨ret_bool (by rw [e.out]; simp), B4⟩
      | exact ⟨ret_bool (by rw [e.out]; simp), B2⟩
end
end Go.Proofs.Ytabbdclpjghdbaa.Grid
namespace Go.Proofs.Ytabbdclpjghdbaa.Grid
set_option linter.unusedVariables false
set_option linter.unusedSimpArgs false
open Go Go.RowKit

/- The operation of that number: it comes written out. -/
def nth : List Oper → Nat → Option Oper
  | [], _ => none
  | o :: _, 0 => some o
  | _ :: l, n + 1 => nth l n
theorem nth_eq : ∀ (l : List Oper) (i : Nat), l.toArray[i]? = nth l i
  | [], _ => rfl
  | o :: l, 0 => by simp [nth]
  | o :: l, n + 1 => by
    have := nth_eq l n
    simp only [List.getElem?_toArray] at this ⊢
    rw [List.getElem?_cons_succ, this]
    rfl
theorem start_held {P : Program} {S : World → Prop} {Q : Exit → Act → World → Prop} {id : Nat} {a : Act} {w : World} {l : List Oper} (N : Nat) (hN : l.length = N) (hm : P.follows .mixedOrders = true)
    (hS : S w.drew) (h : wpAnyH P .any l.toArray Q S N (Array.replicate N false) a w.drew) : (Code.region id l.toArray true).wp P Q a w := by
  subst hN
  exact wp_region_held_drew (S := S) hm hS fun _ => by simpa using h
theorem take_held {P : Program} {S : World → Prop} {Q : Exit → Act → World → Prop} {md : Region.Mode} {l : List Oper} (i : Nat) {oi : Oper} {v : Value} {fuel : Nat} {listed : Array Bool} {a : Act} {w : World} (hS : S w) (hi : nth l i = some oi)
    (hs : Region.noSelect l.toArray = true) (hf : Region.free md l.toArray listed i = true) (hr : (Region.ready md l.toArray listed).contains i = true) (hQ : ∀ c a w, Q (.panic c) (a.put oi.dst v) w → Q (.panic c) a w)
    (hw : Region.wanted oi (yielded l.toArray a.tmps) = true) (hy : ∀ w, S w → (execOp a.eval oi).run P w = .ok (.value v) w)
    (h : wpAnyH P md l.toArray Q S fuel (listed.setIfInBounds i true) (a.put oi.dst v) w) : wpAnyH P md l.toArray Q S (fuel + 1) listed a w :=
  wpAnyH_take ((nth_eq l i).trans hi) hs hf hr hQ (Or.inl ⟨hw, hy⟩) hS h
/- One operation that stands alone: a call, by its contract; it may panic. -/
theorem call_held {P : Program} {S : World → Prop} {Q : Exit → Act → World → Prop} {md : Region.Mode} {l : List Oper} (i : Nat) {o : Oper} {fuel : Nat} {listed : Array Bool} {a : Act} {w : World} (hi : nth l i = some o)
    (hr : Region.ready md l.toArray listed = [i]) (hw : Region.wanted o (yielded l.toArray a.tmps) = true) (f : FuncId) (vals : Array Value) (hrun : (execOp a.eval o).run P w = .ok (.enter f vals) w) (R : Ending → World → Prop)
    (hc : Calls P f vals w R) (h : ∀ e w', R e w' → (∃ v, e = .returned v ∧ S w' ∧ wpAnyH P md l.toArray Q S fuel (listed.setIfInBounds i true) (a.put o.dst v) w') ∨ (∃ ch, e = .panicked ch ∧ Q (.panic ch) a w')) : wpAnyH P md l.toArray Q S (fuel + 1) listed a w := by
  refine wpAnyH_ready hr (by simp) (AllReadyH.cons ((nth_eq l i).trans hi) ?_ AllReadyH.nil)
  intro K' hK
  rw [if_pos hw]
  unfold Oper.wp
  rw [hrun]
  refine Calls.mono hc ?_
  intro e w' hR
  rcases h e w' hR with ⟨v, rfl, h1, h2⟩ | ⟨ch, rfl, h1⟩
  · exact hK.out _ _ h1 fun _ => h2
  · exact h1
/- One operation that stands alone and reads. -/
theorem read_held {P : Program} {S : World → Prop} {Q : Exit → Act → World → Prop} {md : Region.Mode} {l : List Oper} (i : Nat) {o : Oper} {fuel : Nat} {listed : Array Bool} {a : Act} {w : World} (hi : nth l i = some o)
    (hr : Region.ready md l.toArray listed = [i]) (hw : Region.wanted o (yielded l.toArray a.tmps) = true) (v : Value) (hrun : (execOp a.eval o).run P w = .ok (.value v) w) (hS : S w)
    (h : wpAnyH P md l.toArray Q S fuel (listed.setIfInBounds i true) (a.put o.dst v) w) : wpAnyH P md l.toArray Q S (fuel + 1) listed a w := by
  refine wpAnyH_ready hr (by simp) (AllReadyH.cons ((nth_eq l i).trans hi) ?_ AllReadyH.nil)
  intro K' hK
  rw [if_pos hw]
  unfold Oper.wp
  rw [hrun]
  exact hK.out _ _ hS fun _ => h
/- One operation that stands alone and writes. -/
theorem store_held {P : Program} {S : World → Prop} {Q : Exit → Act → World → Prop} {md : Region.Mode} {l : List Oper} (i : Nat) {o : Oper} {fuel : Nat} {listed : Array Bool} {a : Act} {w : World} (hi : nth l i = some o)
    (hr : Region.ready md l.toArray listed = [i]) (hw : Region.wanted o (yielded l.toArray a.tmps) = true) (w' : World) (hrun : (execOp a.eval o).run P w = .ok .skip w') (hS : S w')
    (h : wpAnyH P md l.toArray Q S fuel (listed.setIfInBounds i true) (a.put o.dst undef) w') : wpAnyH P md l.toArray Q S (fuel + 1) listed a w := by
  refine wpAnyH_ready hr (by simp) (AllReadyH.cons ((nth_eq l i).trans hi) ?_ AllReadyH.nil)
  intro K' hK
  rw [if_pos hw]
  unfold Oper.wp
  rw [hrun]
  exact hK.out _ _ hS fun _ => h
theorem done_held {P : Program} {S : World → Prop} {Q : Exit → Act → World → Prop} {md : Region.Mode} {l : List Oper} {listed : Array Bool} {a : Act} {w : World} (hr : Region.ready md l.toArray listed = []) (h : Q .normal a w) (fuel : Nat) : wpAnyH P md l.toArray Q S fuel listed a w :=
  wpAnyH_done hr h fuel
theorem held_more {P : Program} {Q : Exit → Act → World → Prop} {md : Region.Mode} {ops : Array Oper} {S S' : World → Prop} (hS : ∀ w, S' w → S w) : ∀ (fuel : Nat) (listed : Array Bool) (a : Act) (w : World), wpAnyH P md ops Q S' fuel listed a w → wpAnyH P md ops Q S fuel listed a w
  | 0, _, _, _, h => h
  | fuel + 1, _, _, _, h => ⟨h.1, fun i hi => wpOp_mono (fun a' w' h' => ⟨hS _ h'.1, held_more hS fuel _ a' w' h'.2⟩) (h.2 i hi)⟩
/- From here on no world but those of S' comes up. -/
theorem rebase {P : Program} {S S' : World → Prop} {Q : Exit → Act → World → Prop} {md : Region.Mode} {ops : Array Oper} {fuel : Nat} {listed : Array Bool} {a : Act} {w : World} (h : ∀ u, S' u → S u) (hw : wpAnyH P md ops Q S' fuel listed a w) : wpAnyH P md ops Q S fuel listed a w :=
  held_more h fuel listed a w hw

theorem run_store_op {o : Oper} {a : Act} {w w' : World} (ty : TypeId) (x y : Operand) (ho : o.op = .store ty x y) (g : Nat) (cells : Array Value) (hx : a.eval x = .pointer (some ⟨g, 0, none⟩)) (hy : a.eval y = .agg cells)
    (h : (storeVar ty ⟨g, 0, none⟩ (.agg cells)).run Try.prog w = .ok () w') : (execOp a.eval o).run Try.prog w = .ok .skip w' := by
  unfold execOp
  simp only [ho, hx, hy, Instr.storeAt, Instr.sureAddr, Sem.run_bind, Sem.run_pure, Result.andThen_ok, h]
theorem skip_held {P : Program} {S : World → Prop} {Q : Exit → Act → World → Prop} {md : Region.Mode} {l : List Oper} (i : Nat) {oi : Oper} {fuel : Nat} {listed : Array Bool} {a : Act} {w : World} (hS : S w) (hi : nth l i = some oi)
    (hs : Region.noSelect l.toArray = true) (hf : Region.free md l.toArray listed i = true) (hr : (Region.ready md l.toArray listed).contains i = true) (hQ : ∀ c a w, Q (.panic c) (a.put oi.dst undef) w → Q (.panic c) a w)
    (hw : Region.wanted oi (yielded l.toArray a.tmps) = false)
    (h : wpAnyH P md l.toArray Q S fuel (listed.setIfInBounds i true) (a.put oi.dst undef) w) : wpAnyH P md l.toArray Q S (fuel + 1) listed a w :=
  wpAnyH_take ((nth_eq l i).trans hi) hs hf hr hQ (Or.inr ⟨hw, rfl⟩) hS h
theorem call_in {P : Program} {S : World → Prop} {Q : Exit → Act → World → Prop} {md : Region.Mode} {l : List Oper} {o : Oper} {fuel : Nat} {listed : Array Bool} {a : Act} {w : World} {E : Prop} {K' : Act → World → Prop} (hK : Shut (∀ a w, S w → (S w → wpAnyH P md l.toArray Q S fuel listed a w) → K' a w))
    (hw : Region.wanted o (yielded l.toArray a.tmps) = true) (f : FuncId) (vals : Array Value) (hrun : (execOp a.eval o).run P w = .ok (.enter f vals) w) (R : Value → World → Prop)
    (hc : Calls P f vals w fun e w' => ∃ v, e = .returned v ∧ R v w') (h : ∀ v w', R v w' → S w' ∧ wpAnyH P md l.toArray Q S fuel listed (a.put o.dst v) w') : if Region.wanted o (yielded l.toArray a.tmps) = true then Oper.wp P o a w K' Q else E := by
  rw [if_pos hw]
  unfold Oper.wp
  rw [hrun]
  refine Calls.mono hc ?_
  rintro e w' ⟨v, rfl, hR⟩
  exact hK.out _ _ (h v w' hR).1 fun _ => (h v w' hR).2
theorem value_in {P : Program} {S : World → Prop} {Q : Exit → Act → World → Prop} {md : Region.Mode} {l : List Oper} {o : Oper} {fuel : Nat} {listed : Array Bool} {a : Act} {w : World} {E : Prop} {K' : Act → World → Prop} (hK : Shut (∀ a w, S w → (S w → wpAnyH P md l.toArray Q S fuel listed a w) → K' a w))
    (hw : Region.wanted o (yielded l.toArray a.tmps) = true) (v : Value) (w' : World) (hrun : (execOp a.eval o).run P w = .ok (.value v) w') (hS : S w') (h : wpAnyH P md l.toArray Q S fuel listed (a.put o.dst v) w') : if Region.wanted o (yielded l.toArray a.tmps) = true then Oper.wp P o a w K' Q else E := by
  rw [if_pos hw]
  unfold Oper.wp
  rw [hrun]
  exact hK.out _ _ hS fun _ => h
theorem skip_in {P : Program} {S : World → Prop} {Q : Exit → Act → World → Prop} {md : Region.Mode} {l : List Oper} {o : Oper} {fuel : Nat} {listed : Array Bool} {a : Act} {w : World} {E : Prop} {K' : Act → World → Prop} (hK : Shut (∀ a w, S w → (S w → wpAnyH P md l.toArray Q S fuel listed a w) → K' a w))
    (hw : Region.wanted o (yielded l.toArray a.tmps) = true) (w' : World) (hrun : (execOp a.eval o).run P w = .ok .skip w') (hS : S w') (h : wpAnyH P md l.toArray Q S fuel listed (a.put o.dst undef) w') : if Region.wanted o (yielded l.toArray a.tmps) = true then Oper.wp P o a w K' Q else E := by
  rw [if_pos hw]
  unfold Oper.wp
  rw [hrun]
  exact hK.out _ _ hS fun _ => h
end Go.Proofs.Ytabbdclpjghdbaa.Grid
namespace Go.Proofs.Ytabbdclpjghdbaa.Grid
set_option linter.unusedVariables false
set_option linter.unusedSimpArgs false
open Go Go.RowKit

/- How a thing is held: by so many cells, and by blocks of F. -/
structure Held {α : Type} (Is : (Nat → Prop) → α → Array Value → World → Prop) (S : Nat) : Prop where
  size : ∀ {F x cs u}, Is F x cs u → cs.size = S
  one : ∀ {F x cs u}, Is F x cs u → (cs.all fun x => x.oneCell') = true
  stable : ∀ {F x cs u u'}, Is F x cs u → (∀ g, F g → u'.heap[g]? = u.heap[g]?) → Is F x cs u'
  mono : ∀ {F F' : Nat → Prop} {x cs u}, Is F x cs u → (∀ g, F g → F' g) → Is F' x cs u
/- A list whose items lie side by side, S cells each. -/
def ListAt {α : Type} (S : Nat) (El : (Nat → Prop) → α → Array Value → World → Prop) (F : Nat → Prop) (xs : List α) (v : Value) (w : World) : Prop :=
  ∃ (a : Option Addr) (cap : Nat) (ys : List (α × Array Value)), xs = ys.map Prod.fst ∧ v = .slice a ys.length cap ∧ (∀ y ∈ ys, El F y.1 y.2 w) ∧
    (∀ i (h : i < ys.length), ∃ p, a = some p ∧ F p.block ∧ ∀ j u, ((ys[i]'h).2)[j]? = some u → w.cell? (p.add (i * S + j)) = some u) ∧ (a = none → cap = 0)
theorem ListAt.stable {α : Type} {S S' : Nat} {El : (Nat → Prop) → α → Array Value → World → Prop} (hE : Held El S') {F : Nat → Prop} {xs : List α} {v : Value} {w w' : World} (h : ListAt S El F xs v w) (hs : ∀ g, F g → w'.heap[g]? = w.heap[g]?) : ListAt S El F xs v w' := by
  obtain ⟨a, cap, ys, h1, h2, h3, h4, h5⟩ := h
  refine ⟨a, cap, ys, h1, h2, fun y hy => hE.stable (h3 y hy) hs, fun i hi => ?_, h5⟩
  obtain ⟨p, hp, hf, hc⟩ := h4 i hi
  exact ⟨p, hp, hf, fun j u hj => by rw [cell_same (w := w) (w' := w') (p := p.add (i * S + j)) (by rw [block_add]; exact hs _ hf)]; exact hc j u hj⟩
theorem ListAt.mono {α : Type} {S S' : Nat} {El : (Nat → Prop) → α → Array Value → World → Prop} (hE : Held El S') {F F' : Nat → Prop} {xs : List α} {v : Value} {w : World} (h : ListAt S El F xs v w) (hs : ∀ g, F g → F' g) : ListAt S El F' xs v w := by
  obtain ⟨a, cap, ys, h1, h2, h3, h4, h5⟩ := h
  refine ⟨a, cap, ys, h1, h2, fun y hy => hE.mono (h3 y hy) hs, fun i hi => ?_, h5⟩
  obtain ⟨p, hp, hf, hc⟩ := h4 i hi
  exact ⟨p, hp, hs _ hf, hc⟩
theorem ListAt.one {α : Type} {S : Nat} {El : (Nat → Prop) → α → Array Value → World → Prop} {F : Nat → Prop} {xs : List α} {v : Value} {w : World} (h : ListAt S El F xs v w) : v.oneCell' = true := by
  obtain ⟨a, cap, ys, h1, h2, h3, h4, h5⟩ := h
  rw [h2]; rfl
theorem ListAt.nil {α : Type} (S : Nat) (El : (Nat → Prop) → α → Array Value → World → Prop) (F : Nat → Prop) (w : World) : ListAt S El F [] (.slice none 0 0) w :=
  ⟨none, 0, [], rfl, rfl, fun y hy => by simp at hy, fun i hi => by simp at hi, fun _ => rfl⟩
/- A struct that is read from anywhere. -/
theorem run_loadVar_at (w : World) (p : Addr) (ty : TypeId) (cs : Array Value) (hc : ∀ j v, cs[j]? = some v → w.cell? (p.add j) = some v)
    (hagg : (isAgg ty).run Try.prog w = .ok true w) (hi : (Try.prog.info? ty).map (·.size) = some cs.size) : (loadVar ty p).run Try.prog w = .ok (.agg cs) w := by
  have hl : (loadCells p cs.toList.length).run Try.prog w = .ok cs.toList.toArray w := run_loadCells_list (P := Try.prog) w p cs.toList (fun j v hv => hc j v (by simpa using hv))
  cases hq : Try.prog.info? ty with
  | none => simp [hq] at hi
  | some i =>
    have hs : i.size = cs.size := by simpa [hq] using hi
    simp only [Array.length_toList, Array.toArray_toList] at hl
    simp [loadVar, Sem.run_bind, hagg, sizeOf, typeInfo, hq, hs, hl]
theorem wpList_load_at {ops : Array Oper} {rest : List Oper} {o : Oper} {a : Act} {w : World} {Q : Exit → Act → World → Prop} (hgd : o.guard = none) (ty : TypeId) (x : Operand) (ho : o.op = .load ty x)
    (p : Addr) (hx : a.eval x = .pointer (some p)) (cs : Array Value) (hc : ∀ j v, cs[j]? = some v → w.cell? (p.add j) = some v)
    (hagg : (isAgg ty).run Try.prog w = .ok true w) (hi : (Try.prog.info? ty).map (·.size) = some cs.size)
    (h : wpList Try.prog ops Q rest (a.put o.dst (.agg cs)) w) : wpList Try.prog ops Q (o :: rest) a w :=
  wpList_plain hgd fun _ hK => by
    unfold Oper.wp execOp
    simp only [ho, hx, Instr.loadAt, Instr.sureAddr, Sem.run_bind, Sem.run_pure, Result.andThen_ok, run_loadVar_at w p ty cs hc hagg hi]
    exact hK _ _ h

theorem ListAt.form {α : Type} {S : Nat} {El : (Nat → Prop) → α → Array Value → World → Prop} {F : Nat → Prop} {xs : List α} {v : Value} {w : World} (h : ListAt S El F xs v w) : ∃ a cap, v = .slice a xs.length cap ∧ (a = none → xs.length = 0 ∧ cap = 0) := by
  obtain ⟨a, cap, ys, h1, h2, h3, h4, h5⟩ := h
  refine ⟨a, cap, by rw [h2, h1, List.length_map], fun ha => ⟨?_, h5 ha⟩⟩
  rw [h1, List.length_map]
  rcases Nat.eq_zero_or_pos ys.length with e | e
  · exact e
  · obtain ⟨p, hp, _⟩ := h4 0 e
    rw [ha] at hp
    cases hp
theorem add_add (x : Addr) (i j : Nat) : (x.add i).add j = x.add (i + j) := by
  unfold Addr.add
  by_cases hi : i = 0
  · subst hi; simp
  · by_cases hj : j = 0
    · subst hj; simp
    · rw [if_neg hi, if_neg hj, if_neg (by omega)]
      simp [Nat.add_assoc]
/- An item, by its place. -/
theorem ListAt.item {α : Type} {S : Nat} {El : (Nat → Prop) → α → Array Value → World → Prop} {F : Nat → Prop} {xs : List α} {v : Value} {w : World} (h : ListAt S El F xs v w) {k : Nat} (hk : k < xs.length) :
    ∃ p cs cap, v = .slice (some p) xs.length cap ∧ F p.block ∧ El F (xs[k]'hk) cs w ∧ ∀ j u, cs[j]? = some u → w.cell? ((p.add (k * S)).add j) = some u := by
  obtain ⟨a, cap, ys, h1, h2, h3, h4, h5⟩ := h
  subst h1
  rw [List.length_map] at hk
  obtain ⟨p, rfl, hf, hc⟩ := h4 k hk
  refine ⟨p, (ys[k]'hk).2, cap, by rw [h2, List.length_map], hf, ?_, fun j u hj => by rw [add_add]; exact hc j u hj⟩
  have := h3 _ (List.getElem_mem hk)
  simpa using this
theorem ListAt.go {α : Type} {S S' : Nat} {El : (Nat → Prop) → α → Array Value → World → Prop} (hE : Held El S') {F : Nat → Prop} {xs : List α} {v : Value} {w w' : World} (h : ListAt S El F xs v w) (hF : ∀ g, F g → g < w.heap.size) (hb : Below w.heap.size w w') : ListAt S El F xs v w' :=
  h.stable hE fun g hg => hb.block g (hF g hg)
def cellEl (F : Nat → Prop) (c : Cell) (cs : Array Value) (u : World) : Prop := cs = #[.int .i64 c.1, .int .i64 c.2]
def poseEl (F : Nat → Prop) (p : Pose) (cs : Array Value) (u : World) : Prop := cs = #[.int .i64 p.1.1, .int .i64 p.1.2, .bool p.2]
def intEl (F : Nat → Prop) (x : Int) (cs : Array Value) (u : World) : Prop := cs = #[.int .i64 x]
theorem heldCell : Held cellEl 2 := ⟨fun h => by rw [h]; rfl, fun h => by rw [h]; simp [Value.oneCell'], fun h _ => h, fun h _ => h⟩
theorem heldPose : Held poseEl 3 := ⟨fun h => by rw [h]; rfl, fun h => by rw [h]; simp [Value.oneCell'], fun h _ => h, fun h _ => h⟩
theorem heldInt : Held intEl 1 := ⟨fun h => by rw [h]; rfl, fun h => by rw [h]; simp [Value.oneCell'], fun h _ => h, fun h _ => h⟩
def stackEl (F : Nat → Prop) (x : Stk) (cs : Array Value) (u : World) : Prop := ∃ v, cs = #[.int .i64 x.1.1, .int .i64 x.1.2, v] ∧ ListAt 1 intEl F x.2 v u
theorem heldStack : Held stackEl 3 :=
  ⟨fun ⟨v, h, _⟩ => by rw [h]; rfl, fun ⟨v, h, hl⟩ => by obtain ⟨a, cap, rfl, _⟩ := hl.form; rw [h]; simp [Value.oneCell'], fun ⟨v, h, hl⟩ hs => ⟨v, h, hl.stable heldInt hs⟩, fun ⟨v, h, hl⟩ hs => ⟨v, h, hl.mono heldInt hs⟩⟩
def confCells (c : Conf) (vb vp vr vs : Value) : Array Value :=
  #[.int .i64 c.W, .int .i64 c.H, .int .i64 c.height, vb, vp, vr, vs, .int .i64 c.unit, .int .i64 c.accel, .int .i64 c.speed, .int .i64 c.turn, .int .i64 c.hoist, .int .i64 c.queue, .int .i64 c.resend, .int .i64 c.budget, .bool c.back]
/- A config, in blocks of F. -/
structure ConfAt (F : Nat → Prop) (c : Conf) (vb vp vr vs : Value) (w : World) : Prop where
  b : ListAt 2 cellEl F c.blocked vb w
  p : ListAt 2 cellEl F c.ports vp w
  r : ListAt 3 poseEl F c.robots vr w
  s : ListAt 3 stackEl F c.stacks vs w
theorem ConfAt.stable {F : Nat → Prop} {c : Conf} {vb vp vr vs : Value} {w w' : World} (h : ConfAt F c vb vp vr vs w) (hs : ∀ g, F g → w'.heap[g]? = w.heap[g]?) : ConfAt F c vb vp vr vs w' :=
  ⟨h.b.stable heldCell hs, h.p.stable heldCell hs, h.r.stable heldPose hs, h.s.stable heldStack hs⟩
theorem ConfAt.go {F : Nat → Prop} {c : Conf} {vb vp vr vs : Value} {w w' : World} (h : ConfAt F c vb vp vr vs w) (hF : ∀ g, F g → g < w.heap.size) (hb : Below w.heap.size w w') : ConfAt F c vb vp vr vs w' :=
  h.stable fun g hg => hb.block g (hF g hg)
theorem aggCell (w : World) : (isAgg 39).run Try.prog w = .ok true w := by unfold isAgg; rw [Sem.run_bind, run_underlying Try.underlying39 w]; rfl
theorem aggPose (w : World) : (isAgg 72).run Try.prog w = .ok true w := by unfold isAgg; rw [Sem.run_bind, run_underlying Try.underlying72 w]; rfl
theorem aggStack (w : World) : (isAgg 59).run Try.prog w = .ok true w := by unfold isAgg; rw [Sem.run_bind, run_underlying Try.underlying59 w]; rfl
theorem info_stack : (Try.prog.info? 59).map (·.size) = some 3 := by kernel_rfl
end Go.Proofs.Ytabbdclpjghdbaa.Grid
namespace Go.Proofs.Ytabbdclpjghdbaa.Grid
set_option linter.unusedVariables false
set_option linter.unusedSimpArgs false
open Go Go.RowKit

theorem grow_trans {w w1 w2 : World} {u : Nat} (h : w.grownBy w1 (some u)) (h1 : w1.grownBy w2 (some u)) : w.grownBy w2 (some u) := h.trans h1
theorem grow_alloc (w : World) (u : Nat) (o : Obj) : w.grownBy (w.alloc o) (some u) := World.grownBy_alloc _ _ _
theorem ListAt.grow {α : Type} {S S' : Nat} {El : (Nat → Prop) → α → Array Value → World → Prop} (hE : Held El S') {F : Nat → Prop} {xs : List α} {v : Value} {w w' : World} {u : Nat} (h : ListAt S El F xs v w) (hF : ∀ g, F g → g < w.heap.size ∧ g ≠ u) (hb : w.grownBy w' (some u)) : ListAt S El F xs v w' :=
  h.stable hE fun g hg => hb.block g (hF g hg).1 fun e => (hF g hg).2 (Option.some.inj e)
theorem drop_item {α : Type} (l : List α) {k : Nat} (hk : k < l.length) : l.drop k = l[k] :: l.drop (k + 1) := List.drop_eq_getElem_cons hk

set_option maxRecDepth 100000 in
set_option maxHeartbeats 2000000 in
theorem block_any (g u : Nat) (W H : Int) (us : List Int) (vp : Value) (F : Nat → Prop) (l : List Cell) (v : Value) (w : World) (hG : GridAt w g u W H us vp) (hL : ListAt 2 cellEl F l v w) (hF : ∀ b, F b → b < w.heap.size ∧ b ≠ u) (hm : l.length ≤ 9223372036854775807) :
    Calls Try.prog 55 #[.pointer (some ⟨g, 0, none⟩), v] w fun e w' => w.grownBy w' (some u) ∧
      ((∃ us', takeAll W H 1 us l = some us' ∧ e = .returned (.bool true) ∧ GridAt w' g u W H us' vp) ∨ (takeAll W H 1 us l = none ∧ e = .returned (.bool false))) := by
  obtain ⟨a, cap, hv, h0⟩ := hL.form
  subst hv
  obtain ⟨R, hR⟩ : ∃ R, takeAll W H 1 us l = R := ⟨_, rfl⟩
  rw [hR]
  obtain ⟨n, hN⟩ : ∃ n, l.length = n := ⟨_, rfl⟩
  have HN : Hid (l.length = n) := hN
  rw [hN] at hm ⊢
  have HR : Hid (takeAll W H 1 us (l.drop 0) = R) := hR
  clear hN hR
  go_enter Try.func55, Try.ntmps55
  go_wp2
  go_loopw [9] (fun i wr => ∃ (k : Nat) (us1 : List Int), k ≤ n ∧ i = .int .i64 k ∧ GridAt wr g u W H us1 vp ∧ w.grownBy wr (some u) ∧ Hid (takeAll W H 1 us1 (l.drop k) = R)) (fun i _ => n - (intOf i).toNat)
  case atStart => exact ⟨0, us, Nat.zero_le _, rfl, hG, World.grownBy.refl _ _, HR⟩
  case round =>
    obtain ⟨k, us1, hk, rfl, G1, gr, HK⟩ := hrel
    by_cases hlt : k < n
    · have hlt' : k < l.length := by rw [HN.out]; exact hlt
      have HD : Hid (l.drop k = l[k]'hlt' :: l.drop (k + 1)) := drop_item l hlt'
      obtain ⟨p, cs, cap', hv, hpF, hcs, hrd⟩ := (hL.grow heldCell hF gr).item hlt'
      generalize l[k]'hlt' = xy at *
      obtain ⟨x, y⟩ := xy
      have hcs' : cs = #[.int .i64 x, .int .i64 y] := hcs
      subst hcs'
      obtain ⟨rfl, rfl⟩ : a = some p ∧ cap = cap' := by cases hv; exact ⟨rfl, rfl⟩
      have cT := fun o => take_any g u W H us1 vp x y (wr.alloc o) (G1.alloc o) 1 (by decide)
      clear hv hcs
      go_wp2_with (first
        | (refine wpList_load_at rfl 39 (.tmp 11) rfl (p.add (k * 2)) rfl #[.int .i64 x, .int .i64 y] hrd (aggCell _) info_cell ?_)
        | (go_at_call 69; refine (cT _).mono ?_; rintro e w1 ⟨g1, ⟨us2, t2, rfl, G2⟩ | ⟨t2, rfl, G2⟩⟩))
      · go_roundw
        case rel =>
          refine ⟨k + 1, us2, by omega, by go_num, G2, grow_trans gr (grow_trans (grow_alloc _ _ _) g1), ?_⟩
          have := HK.out
          rw [HD.out] at this
          unfold takeAll at this
          rw [t2, Option.bind_some] at this
          exact this
        case measure => simp [intOf]; omega
      · go_ret
        refine ⟨grow_trans gr (grow_trans (grow_alloc _ _ _) g1), Or.inr ⟨?_, rfl⟩⟩
        have := HK.out
        rw [HD.out] at this
        unfold takeAll at this
        rw [t2, Option.bind_none] at this
        exact this.symm
    · obtain rfl : k = n := by omega
      have hK := HK.out
      rw [List.drop_eq_nil_of_le (by rw [HN.out]; omega)] at hK
      clear HK
      have HK2 : Hid (R = some us1) := hK.symm
      clear hK
      go_wp2
      go_ret
      exact ⟨gr, Or.inl ⟨us1, HK2.out, rfl, G1⟩⟩
end Go.Proofs.Ytabbdclpjghdbaa.Grid
namespace Go.Proofs.Ytabbdclpjghdbaa.Grid
set_option linter.unusedVariables false
set_option linter.unusedSimpArgs false
open Go Go.RowKit

def rowL {α : Type} (f : α → List Value) (xs : List α) : List Value := xs.flatMap f
def ElL {α : Type} (f : α → List Value) (F : Nat → Prop) (x : α) (cs : Array Value) (u : World) : Prop := cs = (f x).toArray
theorem rowL_append {α : Type} (f : α → List Value) (xs ys : List α) : rowL f (xs ++ ys) = rowL f xs ++ rowL f ys := by simp [rowL]
theorem rowL_len {α : Type} {f : α → List Value} {S : Nat} (hf : ∀ x, (f x).length = S) (xs : List α) : (rowL f xs).length = xs.length * S := by
  induction xs with
  | nil => simp [rowL]
  | cons x l ih => rw [show rowL f (x :: l) = f x ++ rowL f l from rfl, List.length_append, ih, hf, List.length_cons, Nat.succ_mul]; omega
theorem rowL_at {α : Type} {f : α → List Value} {S : Nat} (hf : ∀ x, (f x).length = S) : ∀ (xs : List α) (i : Nat) (h : i < xs.length) (j : Nat) (v : Value), (f (xs[i]'h))[j]? = some v → (rowL f xs)[i * S + j]? = some v
  | [], i, h => by simp at h
  | x :: l, 0, h => fun j v hv => by
    have hj := (List.getElem?_eq_some_iff.1 hv).1
    rw [show rowL f (x :: l) = f x ++ rowL f l from rfl, Nat.zero_mul, Nat.zero_add]
    rw [List.getElem?_append_left (by simpa using hj)]
    simpa using hv
  | x :: l, i + 1, h => fun j v hv => by
    rw [show rowL f (x :: l) = f x ++ rowL f l from rfl, List.getElem?_append_right (by rw [hf, Nat.succ_mul]; omega), hf, show (i + 1) * S + j - S = i * S + j by rw [Nat.succ_mul]; omega]
    exact rowL_at hf l i (by simpa using h) j v (by simpa using hv)
theorem rowL_inv {α : Type} {f : α → List Value} {S : Nat} (hf : ∀ x, (f x).length = S) : ∀ (xs : List α) (k : Nat) (v : Value), (rowL f xs)[k]? = some v → ∃ i j, ∃ h : i < xs.length, k = i * S + j ∧ (f (xs[i]'h))[j]? = some v
  | [], k, v, h => by simp [rowL] at h
  | x :: l, k, v, h => by
    rw [show rowL f (x :: l) = f x ++ rowL f l from rfl] at h
    by_cases hk : k < (f x).length
    · rw [List.getElem?_append_left hk] at h
      exact ⟨0, k, by simp, by omega, by simpa using h⟩
    · rw [List.getElem?_append_right (by omega), hf] at h
      rw [hf] at hk
      obtain ⟨i, j, hi, e, hv⟩ := rowL_inv hf l (k - S) v h
      exact ⟨i + 1, j, by simpa using hi, by rw [Nat.succ_mul]; omega, by simpa using hv⟩
/- What lies from base on, and is there. -/
def Since (base : Nat) (w : World) (b : Nat) : Prop := base ≤ b ∧ b < w.heap.size
theorem list_of_own {α : Type} {f : α → List Value} {S : Nat} (hf : ∀ x, (f x).length = S) {w : World} {base : Nat} {e : TypeId} {v : Value} {xs : List α} (h : w.ownsRow base e S v xs.length (rowL f xs)) : ListAt S (ElL f) (Since base w) xs v w := by
  rcases h.2 with ⟨rfl, h0⟩ | ⟨g, cap, cur, rfl, hb, hg, hnc, hcm, hcs, htake⟩
  · obtain rfl : xs = [] := List.eq_nil_of_length_eq_zero h0
    exact ListAt.nil _ _ _ _
  · refine ⟨some ⟨g, 0, none⟩, cap, xs.map fun x => (x, (f x).toArray), by rw [List.map_map]; exact (List.map_id' xs).symm, by simp, fun y hy => ?_, fun i hi => ⟨_, rfl, ⟨hb, lt_of_heap hg⟩, fun j u hj => ?_⟩, fun h => by cases h⟩
    · obtain ⟨x, _, rfl⟩ := List.mem_map.1 hy
      rfl
    · rw [List.length_map] at hi
      simp only [List.getElem_map, List.getElem?_toArray] at hj
      have := rowL_at hf xs i hi j u hj
      rw [Addr.add_lit, Nat.zero_add]
      have hk := (List.getElem?_eq_some_iff.1 this).1
      rw [rowL_len hf] at hk
      rw [h.cellAt _ hk]
      exact this
theorem own_form {w : World} {base : Nat} {e : TypeId} {S : Nat} {v : Value} {n : Nat} {xs : List Value} (h : w.ownsRow base e S v n xs) : ∃ a cap, v = .slice a n cap ∧ (a = none → n = 0 ∧ cap = 0) ∧ n ≤ cap ∧ cap ≤ maxLen := by
  rcases h.2 with ⟨rfl, h0⟩ | ⟨g, cap, cur, rfl, hb, hg, hnc, hcm, hcs, htake⟩
  · subst h0; exact ⟨none, 0, rfl, fun _ => ⟨rfl, rfl⟩, Nat.le_refl _, Nat.zero_le _⟩
  · exact ⟨_, cap, rfl, fun h => (by cases h), hnc, hcm⟩
theorem owns_same {w w' : World} {base : Nat} {e : TypeId} {size : Nat} {v : Value} {n : Nat} {xs : List Value} (h : w.ownsRow base e size v n xs) (hb : ∀ k, v.ownBlock = some k → w'.heap[k]? = w.heap[k]?) : w'.ownsRow base e size v n xs := by
  refine ⟨h.1, ?_⟩
  rcases h.2 with hn | ⟨g, cap, cur, rfl, hb', hg, rest⟩
  · exact .inl hn
  · exact .inr ⟨g, cap, cur, rfl, hb', by rw [hb g rfl]; exact hg, rest⟩
theorem owns_go {w w' : World} {base : Nat} {e : TypeId} {size : Nat} {v : Value} {n : Nat} {xs : List Value} (h : w.ownsRow base e size v n xs) (hb : Below w.heap.size w w') : w'.ownsRow base e size v n xs :=
  owns_same h fun k hk => hb.block k (h.lt k hk).2
/- A type of items: how many cells and bytes each has. -/
structure Kind {α : Type} (f : α → List Value) (t e : TypeId) (S bytes : Nat) : Prop where
  len : ∀ x, (f x).length = S
  one : ∀ x, ∀ u ∈ f x, u.oneCell' = true
  ty : Try.prog.underlying t = some (.slice e)
  pos : 0 < S
  info : ∃ i z, Try.prog.info? e = some i ∧ i.zero = some z ∧ i.size = S ∧ i.bytes = bytes ∧ z.cells.size = S
theorem list_news {α : Type} {f : α → List Value} {S : Nat} (hf : ∀ x, (f x).length = S) {F : Nat → Prop} {zs : List α} {p : Addr} {n cap : Nat} {w : World} (h : ListAt S (ElL f) F zs (.slice (some p) n cap) w) : ∀ j u, (rowL f zs)[j]? = some u → w.cell? (p.add j) = some u := by
  intro k u hk
  obtain ⟨i, j, hi, rfl, hv⟩ := rowL_inv hf zs k u hk
  obtain ⟨p', cs, cap', hv', hF, hE, hc⟩ := h.item hi
  cases hv'
  have : cs = (f (zs[i]'hi)).toArray := hE
  subst this
  rw [← add_add]
  exact hc j u (by simpa using hv)
theorem run_app {α : Type} {f : α → List Value} {t e : TypeId} {S bytes : Nat} (K : Kind f t e S bytes) {w : World} {base : Nat} {v : Value} {xs : List α} (hown : w.ownsRow base e S v xs.length (rowL f xs)) {F : Nat → Prop} {v2 : Value} {zs : List α} (hl : ListAt S (ElL f) F zs v2 w)
    (hb : (xs.length + zs.length) * bytes ≤ 140737488355328) (h63 : xs.length + zs.length ≤ maxLen) (hbase : base ≤ w.heap.size) (ty : TypeId) :
    ∃ v' w', (Builtin.append_ #[t, t] ty #[v, v2]).run Try.prog w = .ok v' w' ∧ w'.ownsRow base e S v' (xs ++ zs).length (rowL f (xs ++ zs)) ∧ w.grownBy w' v.ownBlock ∧ (v'.ownBlock = v.ownBlock ∨ v'.ownBlock = some w.heap.size) := by
  obtain ⟨i, z, hi, hz, hs, hby, hzs⟩ := K.info
  obtain ⟨a, cap, rfl, h0⟩ := hl.form
  cases a with
  | none =>
    obtain ⟨h1, rfl⟩ := h0 rfl
    obtain rfl : zs = [] := List.eq_nil_of_length_eq_zero h1
    have hrun := run_append_owned_none (P := Try.prog) (w := w) base t ty e i S K.ty hi v xs.length _ hown
    exact ⟨v, w, hrun, by simpa using hown, World.grownBy.refl _ _, Or.inl rfl⟩
  | some p =>
    obtain ⟨v', w', hrun, hown', hgrow, _, hat⟩ := run_append_own_at (P := Try.prog) w base t ty e i z S bytes K.ty hi hz hs hby hzs K.pos v xs.length _ hown p zs.length cap (rowL f zs) (rowL_len K.len zs) (list_news K.len hl) (fun u hu => by
      obtain ⟨x, _, hx⟩ := List.mem_flatMap.1 hu
      exact K.one x u hx) h63 hb hbase
    exact ⟨v', w', hrun, by rw [List.length_append, rowL_append]; exact hown', hgrow, hat⟩
theorem wp_app {α : Type} {f : α → List Value} {t e : TypeId} {S bytes : Nat} (K : Kind f t e S bytes) {w : World} {o : Oper} {a : Act} {Kk : Act → World → Prop} {Q : Exit → Act → World → Prop} (s x : Operand)
    (ho : o.op = .call { callee := .builtin .append, args := #[s, x], argTypes := #[t, t] }) (base : Nat) (v : Value) (xs : List α) (hs : a.eval s = v) (hown : w.ownsRow base e S v xs.length (rowL f xs)) (F : Nat → Prop) (v2 : Value) (zs : List α) (hx : a.eval x = v2) (hl : ListAt S (ElL f) F zs v2 w)
    (hb : (xs.length + zs.length) * bytes ≤ 140737488355328) (h63 : xs.length + zs.length ≤ maxLen) (hbase : base ≤ w.heap.size)
    (h : ∀ v' w', w'.ownsRow base e S v' (xs ++ zs).length (rowL f (xs ++ zs)) → w.grownBy w' v.ownBlock → (v'.ownBlock = v.ownBlock ∨ v'.ownBlock = some w.heap.size) → Kk (a.put o.dst v') w') : o.wp Try.prog a w Kk Q := by
  obtain ⟨v', w', hrun, h2, h3, h4⟩ := run_app K hown hl hb h63 hbase o.type
  unfold Oper.wp execOp
  simp only [ho, resolve, invoke, builtin, Sem.run_bind, Sem.run_pure, Result.andThen_ok, List.map_toArray, List.map_cons, List.map_nil, hs, hx, hrun]
  exact h v' w' h2 h3 h4
theorem wpList_app {α : Type} {f : α → List Value} {t e : TypeId} {S bytes : Nat} (K : Kind f t e S bytes) {w : World} {ops : Array Oper} {rest : List Oper} {o : Oper} {a : Act} {Q : Exit → Act → World → Prop} (hgd : o.guard = none) (s x : Operand)
    (ho : o.op = .call { callee := .builtin .append, args := #[s, x], argTypes := #[t, t] }) (base : Nat) (v : Value) (xs : List α) (hs : a.eval s = v) (hown : w.ownsRow base e S v xs.length (rowL f xs)) (F : Nat → Prop) (v2 : Value) (zs : List α) (hx : a.eval x = v2) (hl : ListAt S (ElL f) F zs v2 w)
    (hb : (xs.length + zs.length) * bytes ≤ 140737488355328) (h63 : xs.length + zs.length ≤ maxLen) (hbase : base ≤ w.heap.size)
    (h : ∀ v' w', w'.ownsRow base e S v' (xs ++ zs).length (rowL f (xs ++ zs)) → w.grownBy w' v.ownBlock → (v'.ownBlock = v.ownBlock ∨ v'.ownBlock = some w.heap.size) → wpList Try.prog ops Q rest (a.put o.dst v') w') : wpList Try.prog ops Q (o :: rest) a w :=
  wpList_plain hgd fun _ hK => wp_app K s x ho base v xs hs hown F v2 zs hx hl hb h63 hbase fun v' w' h2 h3 h4 => hK _ _ (h v' w' h2 h3 h4)
def cellL (c : Cell) : List Value := [.int .i64 c.1, .int .i64 c.2]
def poseL (p : Pose) : List Value := [.int .i64 p.1.1, .int .i64 p.1.2, .bool p.2]
def intL (x : Int) : List Value := [.int .i64 x]
theorem infoCell : (Try.prog.info? 39).map (fun i => (i.zero, i.size, i.bytes)) = some (some (.agg #[.int .i64 0, .int .i64 0]), 2, 16) := by kernel_rfl
theorem infoPose : (Try.prog.info? 72).map (fun i => (i.zero, i.size, i.bytes)) = some (some (.agg #[.int .i64 0, .int .i64 0, .bool false]), 3, 24) := by kernel_rfl
theorem infoInt : (Try.prog.info? 3).map (fun i => (i.zero, i.size, i.bytes)) = some (some (.int .i64 0), 1, 8) := by kernel_rfl
theorem kindCell : Kind cellL 22 39 2 16 :=
  ⟨fun _ => rfl, fun x u hu => by simp [cellL] at hu; rcases hu with rfl | rfl <;> rfl, Try.underlying22, by decide, by obtain ⟨i0, hi, hz0, hz1, hz2⟩ := info_parts infoCell; exact ⟨i0, _, hi, hz0, hz1, hz2, rfl⟩⟩
theorem kindPose : Kind poseL 23 72 3 24 :=
  ⟨fun _ => rfl, fun x u hu => by simp [poseL] at hu; rcases hu with rfl | rfl | rfl <;> rfl, Try.underlying23, by decide, by obtain ⟨i0, hi, hz0, hz1, hz2⟩ := info_parts infoPose; exact ⟨i0, _, hi, hz0, hz1, hz2, rfl⟩⟩
theorem kindInt : Kind intL 48 3 1 8 :=
  ⟨fun _ => rfl, fun x u hu => by simp [intL] at hu; subst hu; rfl, Try.underlying48, by decide, by obtain ⟨i0, hi, hz0, hz1, hz2⟩ := info_parts infoInt; exact ⟨i0, _, hi, hz0, hz1, hz2, rfl⟩⟩
theorem below_own {B : Nat} {w w1 w2 : World} {v : Value} (hb : Below B w w1) (g : w1.grownBy w2 v.ownBlock) (hB : B ≤ w1.heap.size) (h : ∀ k, v.ownBlock = some k → B ≤ k) : Below B w w2 := hb.grown g hB h
theorem own_since {w : World} {base : Nat} {e : TypeId} {S : Nat} {v : Value} {n : Nat} {xs : List Value} (h : w.ownsRow base e S v n xs) : ∀ k, v.ownBlock = some k → base ≤ k ∧ k < w.heap.size := fun k hk => h.lt k hk
theorem eql_nil (w : World) (t e : TypeId) (a : Option Addr) (l c : Nat) (h : Try.prog.underlying t = some (.slice e)) : (binOp .eql t (.slice a l c) (.slice none 0 0)).run Try.prog w = .ok (.bool a.isNone) w := by
  simp only [binOp]
  simp [run_equal_slice_nil w t e a l c h]

set_option maxHeartbeats 1000000 in
theorem clone_any (F : Nat → Prop) (l : List Cell) (v : Value) (w : World) (hL : ListAt 2 cellEl F l v w) (hF : ∀ b, F b → b < w.heap.size) (hm : l.length ≤ 8796093022208) :
    Calls Try.prog 71 #[v] w fun e w' => ∃ v', e = .returned v' ∧ w'.ownsRow w.heap.size 39 2 v' l.length (rowL cellL l) ∧ Below w.heap.size w w' := by
  have hu := fun w a l c => eql_nil w 22 39 a l c Try.underlying22
  obtain ⟨a, cap, rfl, h0⟩ := hL.form
  cases a with
  | none =>
    obtain ⟨h1, rfl⟩ := h0 rfl
    obtain rfl : l = [] := List.eq_nil_of_length_eq_zero h1
    go_enter Try.func71, Try.ntmps71
    go_wp2
    go_ret
    exact ⟨_, rfl, World.ownsRow_nil _ _ _ _, Below.refl _ _⟩
  | some p =>
    have hL' := fun o => hL.go heldCell hF ((Below.refl w.heap.size w).alloc (Nat.le_refl _) o)
    generalize hn : l.length = n at *
    have HN : Hid (l.length = n) := hn
    clear hn
    go_enter Try.func71, Try.ntmps71
    go_wp2_with (at_builtin; refine wpList_app kindCell rfl _ _ rfl w.heap.size (.slice (some ⟨w.heap.size, 0, none⟩) 0 0) [] rfl (World.ownsRow_made w #[] 0 (Nat.le_refl _) (by decide) (by decide)) F _ l rfl (hL' _) (by rw [HN.out]; simp; omega) (by rw [HN.out]; unfold maxLen; simp; omega) (by simp) ?_; intro v' w1 hown hgrow hat)
    rw [List.nil_append] at hown
    go_ret
    exact ⟨v', rfl, by rw [HN.out] at hown; exact hown, ((Below.refl _ _).alloc (Nat.le_refl _) _).grown hgrow (by simp) (by intro k hk; simp [Value.ownBlock] at hk; omega)⟩
end Go.Proofs.Ytabbdclpjghdbaa.Grid
