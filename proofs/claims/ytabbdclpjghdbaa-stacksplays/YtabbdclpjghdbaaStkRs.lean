/-
  The chapter's own stacks in memory.
-/
import Derived.Test.YtabbdclpjghdbaaStkM4
namespace Go.Proofs.Ytabbdclpjghdbaa.Stk
set_option linter.unusedVariables false
set_option linter.unusedSimpArgs false
open Go Go.RowKit Go.Shelf Go.Proofs Go.Proofs.Ytabbdclpjghdbaa.Grid
attribute [local go_sem] Oper.semAt_some

theorem run_load_at {o : Oper} {a : Act} {w : World} (ty : TypeId) (x : Operand) (ho : o.op = .load ty x) (p : Addr) (hx : a.eval x = .pointer (some p)) (cs : Array Value) (h : (loadVar ty p).run Try.prog w = .ok (.agg cs) w) :
    (execOp a.eval o).run Try.prog w = .ok (.value (.agg cs)) w := by
  unfold execOp
  simp only [ho, hx, Instr.loadAt, Instr.sureAddr, Sem.run_bind, Sem.run_pure, Result.andThen_ok, h]
theorem loadAt {ops : Array Oper} {rest : List Oper} {o : Oper} {a : Act} {w : World} {Q : Exit → Act → World → Prop} (hgd : o.guard = none) (ty : TypeId) (x : Operand) (ho : o.op = .load ty x)
    (p : Addr) (hx : a.eval x = .pointer (some p)) (cs : Array Value) (hl : (loadVar ty p).run Try.prog w = .ok (.agg cs) w)
    (h : wpList Try.prog ops Q rest (a.put o.dst (.agg cs)) w) : wpList Try.prog ops Q (o :: rest) a w :=
  wpList_plain hgd fun _ hK => by
    unfold Oper.wp
    rw [run_load_at ty x ho p hx cs hl]
    exact hK _ _ h
theorem boxAt {ops : Array Oper} {rest : List Oper} {o : Oper} {a : Act} {w : World} {Q : Exit → Act → World → Prop} (hg : o.guard = none) (t : TypeId) (x : Operand) (ho : o.op = .box t x) (cs : Array Value) (hx : a.eval x = .agg cs)
    (h : wpList Try.prog ops Q rest (a.put o.dst (.pointer (some ⟨w.heap.size, 0, none⟩))) (w.alloc (.cells cs t))) : wpList Try.prog ops Q (o :: rest) a w := by
  refine wpList_plain hg fun K hK => ?_
  unfold Oper.wp execOp
  simp only [ho, hx, Sem.run_bind, Instr.box, newVar, newRow, run_newObj_alloc, Sem.run_pure, Result.andThen_ok, Value.cells]
  exact hK _ _ h
theorem load_box {w : World} {g : Nat} {x y : Int} (h : w.heap[g]? = some (.cells #[.int .i64 x, .int .i64 y] 39 (0, 0))) : (loadVar 39 ⟨g, 0, none⟩).run Try.prog w = .ok (.agg #[.int .i64 x, .int .i64 y]) w :=
  run_loadVar_at w _ _ _ (fun j v hv => by
    have e : (⟨g, 0, none⟩ : Addr).add j = ⟨g, j, none⟩ := by unfold Addr.add; split <;> simp_all
    rw [e]
    simpa [World.cell?, h] using hv) (aggCell _) infoCell2
/- Where they lie: the struct, the row of cells, the loads; all of it made from B on. -/
structure Rk where
  s : Nat
  rb : Nat
  lb : Nat
  cap : Nat
  B : Nat
def PlAt (w : World) (K : Rk) (q : Pile) : Prop := ∃ a cap, q.2.1 = .slice a q.2.2.length cap ∧ (a = none → q.2.2.length = 0 ∧ cap = 0) ∧ q.2.2.length ≤ cap ∧ cap ≤ maxLen ∧ (∀ x, a = some x → K.B ≤ x.block ∧ x.block ≠ K.s ∧ x.block ≠ K.rb ∧ x.block ≠ K.lb ∧ x.block < w.heap.size) ∧ ∀ j (hj : j < q.2.2.length), ∃ x, a = some x ∧ w.cell? (x.add j) = some (.int .i64 (q.2.2[j]'hj))
structure RsAt (w : World) (K : Rk) (cs : Array Value) (vc : Value) (qs : List Pile) (ls : List Int) : Prop where
  hd : w.heap[K.s]? = some (.cells (cs.toList ++ [vc, .slice (some ⟨K.lb, 0, none⟩) ls.length ls.length]).toArray 76 (0, 0))
  len : cs.size = 16
  row : (qs = [] ∧ vc = .slice none 0 0) ∨ (vc = .slice (some ⟨K.rb, 0, none⟩) qs.length K.cap ∧ qs.length ≤ K.cap ∧ K.cap ≤ maxLen ∧ ∃ cur, w.heap[K.rb]? = some (.cells cur 59 (0, 0)) ∧ ∀ (i : Nat) (q : Pile) (j : Nat) (u : Value), qs[i]? = some q → (pileL q)[j]? = some u → cur[i * 3 + j]? = some u)
  lds : w.heap[K.lb]? = some (.cells (ls.map (Value.int .i64)).toArray 3 (0, 0))
  pl : ∀ (i : Nat) (q : Pile), qs[i]? = some q → PlAt w K q
  few : ls.length ≤ 8
  many : qs.length ≤ 256
  small : ∀ (i : Nat) (q : Pile), qs[i]? = some q → q.2.2.length ≤ 8
  sl : K.s ≠ K.lb
  sr : K.s ≠ K.rb
  rl : K.rb ≠ K.lb
  bs : K.B ≤ K.s
  bl : K.B ≤ K.lb
  br : K.B ≤ K.rb
  lr : K.rb < w.heap.size
/- Its blocks. -/
def RB (K : Rk) (qs : List Pile) (b : Nat) : Prop := b = K.s ∨ b = K.rb ∨ b = K.lb ∨ ∃ (i : Nat) (q : Pile) (a : Addr) (n c : Nat), qs[i]? = some q ∧ q.2.1 = .slice (some a) n c ∧ a.block = b
section
variable {K : Rk} {cs : Array Value} {vc : Value} {qs : List Pile} {ls : List Int} {w : World} {w' : World}
theorem cell_blk {w w' : World} {p : Addr} (h : w'.heap[p.block]? = w.heap[p.block]?) : w'.cell? p = w.cell? p := by unfold World.cell?; rw [h]
theorem RsAt.slt (h : RsAt w K cs vc qs ls) : K.s < w.heap.size := (Array.getElem?_eq_some_iff.1 h.hd).1
theorem RsAt.llt (h : RsAt w K cs vc qs ls) : K.lb < w.heap.size := (Array.getElem?_eq_some_iff.1 h.lds).1
theorem PlAt.same {q : Pile} (h : PlAt w K q) (hz : w.heap.size ≤ w'.heap.size) (e : ∀ a n c, q.2.1 = .slice (some a) n c → w'.heap[a.block]? = w.heap[a.block]?) : PlAt w' K q := by
  obtain ⟨a, cap, h1, h2, h3, h4, h5, h6⟩ := h
  refine ⟨a, cap, h1, h2, h3, h4, fun x hx => ?_, fun j hj => ?_⟩
  · obtain ⟨k1, k2, k3, k4, k5⟩ := h5 x hx
    exact ⟨k1, k2, k3, k4, Nat.lt_of_lt_of_le k5 hz⟩
  · obtain ⟨x, hx, hc⟩ := h6 j hj
    refine ⟨x, hx, (cell_blk ?_).trans hc⟩
    rw [show (x.add j).block = x.block by unfold Addr.add; split <;> rfl]
    exact e x _ _ (by rw [h1, hx])
theorem RsAt.same (h : RsAt w K cs vc qs ls) (hz : w.heap.size ≤ w'.heap.size) (e : ∀ b, b < w.heap.size → RB K qs b → w'.heap[b]? = w.heap[b]?) : RsAt w' K cs vc qs ls :=
  { h with
    hd := (e _ h.slt (Or.inl rfl)).trans h.hd
    row := by
      rcases h.row with q | ⟨q1, q2, q3, cur, q4, q5⟩
      · exact Or.inl q
      · exact Or.inr ⟨q1, q2, q3, cur, (e _ h.lr (Or.inr (Or.inl rfl))).trans q4, q5⟩
    lds := (e _ h.llt (Or.inr (Or.inr (Or.inl rfl)))).trans h.lds
    pl := fun i q hq => (h.pl i q hq).same hz fun a n c hv => by
      obtain ⟨a', cap, h1, _, _, _, h5, _⟩ := h.pl i q hq
      have h1' := h1.symm.trans hv
      injection h1' with e1 e2 e3
      exact e _ (h5 a e1).2.2.2.2 (Or.inr (Or.inr (Or.inr ⟨i, q, a, n, c, hq, hv, rfl⟩)))
    lr := Nat.lt_of_lt_of_le h.lr hz }
theorem RsAt.go (h : RsAt w K cs vc qs ls) (hb : Below w.heap.size w w') : RsAt w' K cs vc qs ls := h.same hb.size fun b hb2 _ => hb.block b hb2
theorem RsAt.c16 (h : RsAt w K cs vc qs ls) : w.cell? ⟨K.s, 16, none⟩ = some vc := by
  have hl : cs.toList.length = 16 := by rw [Array.length_toList]; exact h.len
  rw [cell_of h.hd, List.getElem?_toArray, List.getElem?_append_right (by rw [hl]; omega), hl]
  rfl
theorem RsAt.c17 (h : RsAt w K cs vc qs ls) : w.cell? ⟨K.s, 17, none⟩ = some (.slice (some ⟨K.lb, 0, none⟩) ls.length ls.length) := by
  have hl : cs.toList.length = 16 := by rw [Array.length_toList]; exact h.len
  rw [cell_of h.hd, List.getElem?_toArray, List.getElem?_append_right (by rw [hl]; omega), hl]
  rfl
theorem RsAt.lc (h : RsAt w K cs vc qs ls) {r : Nat} (hr : r < ls.length) : w.cell? ⟨K.lb, r, none⟩ = some (.int .i64 (ls.getD r 0)) := by
  rw [cell_of h.lds, List.getElem?_toArray, List.getElem?_map, List.getElem?_eq_getElem hr, List.getD_eq_getElem?_getD, List.getElem?_eq_getElem hr]
  rfl
theorem RsAt.form (h : RsAt w K cs vc qs ls) : ∃ a cap, vc = .slice a qs.length cap ∧ ∀ i, i < qs.length → a = some ⟨K.rb, 0, none⟩ := by
  rcases h.row with ⟨q1, q2⟩ | ⟨q1, _⟩
  · exact ⟨none, 0, by rw [q2, q1]; rfl, fun i hi => by rw [q1] at hi; simp at hi⟩
  · exact ⟨_, _, q1, fun _ _ => rfl⟩
theorem RsAt.pc (h : RsAt w K cs vc qs ls) {i : Nat} {q : Pile} (hq : qs[i]? = some q) (j : Nat) (u : Value) (hj : (pileL q)[j]? = some u) : w.cell? ⟨K.rb, i * 3 + j, none⟩ = some u := by
  rcases h.row with ⟨q1, _⟩ | ⟨_, _, _, cur, q4, q5⟩
  · rw [q1] at hq; simp at hq
  · rw [cell_of q4]
    exact q5 i q j u hq hj
theorem RsAt.at_ (h : RsAt w K cs vc qs ls) {i : Nat} {q : Pile} (hq : qs[i]? = some q) : (loadVar 39 ⟨K.rb, i * 3, none⟩).run Try.prog w = .ok (.agg #[.int .i64 q.1.1, .int .i64 q.1.2]) w :=
  run_loadVar_at w _ _ _ (fun j v hv => by
    have e : (⟨K.rb, i * 3, none⟩ : Addr).add j = ⟨K.rb, i * 3 + j, none⟩ := by unfold Addr.add; split <;> simp_all
    rw [e]
    match j with
    | 0 => exact h.pc hq 0 v (by simpa [pileL] using hv)
    | 1 => exact h.pc hq 1 v (by simpa [pileL] using hv)
    | j + 2 => simp at hv) (aggCell _) infoCell2
theorem RsAt.pv (h : RsAt w K cs vc qs ls) {i : Nat} {q : Pile} (hq : qs[i]? = some q) : w.cell? ⟨K.rb, i * 3 + 2, none⟩ = some q.2.1 := h.pc hq 2 _ rfl
end
set_option maxRecDepth 100000 in
set_option maxHeartbeats 2000000 in
theorem place_yes {K : Rk} {cs : Array Value} {vc : Value} {qs : List Pile} {ls : List Int} {w : World} (h : RsAt w K cs vc qs ls) (x y : Int) {i : Nat} {p : Pile} (hi : qs[i]? = some p) (hp : p.1 = (x, y)) (hf : ∀ (j : Nat) (q : Pile), j < i → qs[j]? = some q → q.1 ≠ (x, y)) : Calls Try.prog 44 #[.pointer (some ⟨K.s, 0, none⟩), .agg #[.int .i64 x, .int .i64 y]] w fun e w' => ∃ v, e = .returned v ∧ v = .int .i64 i ∧ Below w.heap.size w w' := by
  obtain ⟨w1, hw1⟩ : ∃ z, w.alloc (.cells #[.int .i64 x, .int .i64 y] 39) = z := ⟨_, rfl⟩
  have b1 : Below w.heap.size w w1 := by rw [← hw1]; exact (Below.refl _ _).alloc (Nat.le_refl _) _
  have z1 : w1.heap[w.heap.size]? = some (.cells #[.int .i64 x, .int .i64 y] 39 (0, 0)) := by rw [← hw1]; exact World.alloc_heap_new _ _
  obtain ⟨bc, hbc⟩ : ∃ bc, w.heap.size = bc := ⟨_, rfl⟩
  have HW1 : Hid (w.alloc (.cells #[.int .i64 x, .int .i64 y] 39) = w1 ∧ w.heap.size = bc) := ⟨hw1, hbc⟩
  have HZ1 : Hid (w1.heap[bc]? = some (.cells #[.int .i64 x, .int .i64 y] 39 (0, 0))) := hbc ▸ z1
  have HB1 : Hid (Below w.heap.size w w1) := b1
  have HR1 : Hid (RsAt w1 K cs vc qs ls) := h.go b1
  obtain ⟨n, hn⟩ : ∃ n, qs.length = n := ⟨_, rfl⟩
  have HN : Hid (qs.length = n) := hn
  have hn2 : n ≤ 256 := by rw [← hn]; exact h.many
  obtain ⟨av, capv, hvc, hav⟩ := h.form
  rw [hn] at hvc hav
  subst hvc
  have HAV : Hid (∀ i, i < n → av = some ⟨K.rb, 0, none⟩) := hav
  have hil : i < n := by rw [← hn]; exact (List.getElem?_eq_some_iff.1 hi).1
  have HI : Hid (qs[i]? = some p ∧ p.1 = (x, y)) := ⟨hi, hp⟩
  have HF : Hid (∀ (j : Nat) (q : Pile), j < i → qs[j]? = some q → q.1 ≠ (x, y)) := hf
  clear h b1 z1 hw1 hbc hn hav hi hp hf
  go_enter Try.func44, Try.ntmps44
  go_wp2_with (have X' := HW1; refine boxAt rfl 39 (.tmp 1) rfl #[.int .i64 x, .int .i64 y] rfl ?_; rw [HW1.out.1, HW1.out.2]; clear HW1)
  go_loopw [5] (fun cj wr => ∃ j : Nat, cj = .int .i64 j ∧ j ≤ i ∧ Below w.heap.size w wr ∧ Below w1.heap.size w1 wr) (fun cj _ => i - (intOf cj).toNat)
  case atStart => exact ⟨0, rfl, Nat.zero_le _, HB1.out, Below.refl _ _⟩
  case round =>
    obtain ⟨j, rfl, hj, bw, bw1⟩ := hrel
    have HRR : Hid (RsAt wr K cs (.slice av n capv) qs ls) := HR1.out.go bw1
    have HZB : Hid (∀ u, Below wr.heap.size wr u → u.heap[bc]? = some (.cells #[.int .i64 x, .int .i64 y] 39 (0, 0))) := fun u hu => ((bw1.trans (hu.mono bw1.size)).block _ (Array.getElem?_eq_some_iff.1 HZ1.out).1).trans HZ1.out
    have HBW : Hid (Below w.heap.size w wr) := bw
    have HBW1 : Hid (Below w1.heap.size w1 wr) := bw1
    have k16 := HRR.out.c16
    clear bw bw1
    by_cases hlt : j < i
    · obtain ⟨q, hq⟩ : ∃ q, qs[j]? = some q := ⟨_, List.getElem?_eq_getElem (by rw [HN.out]; omega)⟩
      have HQ : Hid (qs[j]? = some q) := hq
      have HEQ : Hid (decide ((q.1.1, q.1.2) = (x, y)) = false) := decide_eq_false (HF.out j q hlt hq)
      obtain rfl := HAV.out j (by omega)
      have h3 : (j : Int) < (n : Int) := by omega
      clear hq
      go_upto_region 4 with fail
      clear k16
      refine start_held (S := fun u => Below wr.heap.size wr u) 10 rfl (by kernel_rfl) ((Below.refl _ _).drew) ?_
      simp only [Array.replicate_succ, Array.replicate_zero, List.push_toArray, List.nil_append, List.cons_append]
      have hS0 : Below wr.heap.size wr wr.drew := (Below.refl _ _).drew
      generalize wr.drew = x0 at *
      refine take_held 0 hS0 rfl (by kernel_rfl) (by kernel_rfl) (by kernel_rfl) (fun _ _ _ h => h) (by kernel_rfl) (v := ?v5000) ?y5000 ?r5000
      case y5000 => (intro u hu; go_simp; try rfl)
      simp only [Act.put, List.setIfInBounds_toArray, List.set_cons_zero, List.set_cons_succ]
      refine take_held 1 hS0 rfl (by kernel_rfl) (by kernel_rfl) (by kernel_rfl) (fun _ _ _ h => h) (by kernel_rfl) (v := ?v5001) ?y5001 ?r5001
      case y5001 => (intro u hu; go_simp; try rfl)
      simp only [Act.put, List.setIfInBounds_toArray, List.set_cons_zero, List.set_cons_succ]
      refine take_held 2 hS0 rfl (by kernel_rfl) (by kernel_rfl) (by kernel_rfl) (fun _ _ _ h => h) (by kernel_rfl) (v := ?v5002) ?y5002 ?r5002
      case y5002 => (intro u hu; go_simp; try rfl)
      simp only [Act.put, List.setIfInBounds_toArray, List.set_cons_zero, List.set_cons_succ]
      refine take_held 3 hS0 rfl (by kernel_rfl) (by kernel_rfl) (by kernel_rfl) (fun _ _ _ h => h) (by kernel_rfl) (v := ?v5003) ?y5003 ?r5003
      case y5003 => (intro u hu; have zz0 := (fun (u : World) (hu : Below wr.heap.size wr u) => (HRR.out.go hu).c16) u hu; go_simp; try rfl)
      simp only [Act.put, List.setIfInBounds_toArray, List.set_cons_zero, List.set_cons_succ]
      refine take_held 4 hS0 rfl (by kernel_rfl) (by kernel_rfl) (by kernel_rfl) (fun _ _ _ h => h) (by kernel_rfl) (v := ?v5004) ?y5004 ?r5004
      case y5004 => (intro u hu; go_simp; try rfl)
      simp only [Act.put, List.setIfInBounds_toArray, List.set_cons_zero, List.set_cons_succ]
      refine take_held 5 hS0 rfl (by kernel_rfl) (by kernel_rfl) (by kernel_rfl) (fun _ _ _ h => h) (by kernel_rfl) (v := ?v5005) ?y5005 ?r5005
      case y5005 => (intro u hu; go_simp; try rfl)
      simp only [Act.put, List.setIfInBounds_toArray, List.set_cons_zero, List.set_cons_succ]
      refine take_held 6 hS0 rfl (by kernel_rfl) (by kernel_rfl) (by kernel_rfl) (fun _ _ _ h => h) (by kernel_rfl) (v := ?v5006) ?y5006 ?r5006
      case y5006 => (intro u hu; go_simp; try rfl)
      simp only [Act.put, List.setIfInBounds_toArray, List.set_cons_zero, List.set_cons_succ]
      refine take_held 7 hS0 rfl (by kernel_rfl) (by kernel_rfl) (by kernel_rfl) (fun _ _ _ h => h) (by kernel_rfl) (v := .agg #[.int .i64 q.1.1, .int .i64 q.1.2]) ?y5007 ?r5007
      case y5007 => (intro u hu; exact run_load_at 39 _ rfl ⟨K.rb, j * 3, none⟩ rfl _ ((HRR.out.go hu).at_ HQ.out))
      simp only [Act.put, List.setIfInBounds_toArray, List.set_cons_zero, List.set_cons_succ]
      refine take_held 8 hS0 rfl (by kernel_rfl) (by kernel_rfl) (by kernel_rfl) (fun _ _ _ h => h) (by kernel_rfl) (v := .agg #[.int .i64 x, .int .i64 y]) ?y5008 ?r5008
      case y5008 => (intro u hu; exact run_load_at 39 _ rfl ⟨bc, 0, none⟩ rfl _ (load_box (HZB.out u hu)))
      simp only [Act.put, List.setIfInBounds_toArray, List.set_cons_zero, List.set_cons_succ]
      refine take_held 9 hS0 rfl (by kernel_rfl) (by kernel_rfl) (by kernel_rfl) (fun _ _ _ h => h) (by kernel_rfl) (v := .bool false) ?y5009 ?r5009
      case y5009 => (intro u hu; exact (run_eql_cell _ _ rfl q.1.1 q.1.2 x y rfl rfl).trans (by rw [HEQ.out]))
      simp only [Act.put, List.setIfInBounds_toArray, List.set_cons_zero, List.set_cons_succ]
      refine done_held (by kernel_rfl) ?_ _
      have HX0 : Hid (Below w.heap.size w x0 ∧ Below w1.heap.size w1 x0) := ⟨HBW.out.trans (hS0.mono HBW.out.size), HBW1.out.trans (hS0.mono HBW1.out.size)⟩
      clear hS0
      go_wp2_with fail
      go_roundw
      case rel => exact ⟨j + 1, by go_num, by omega, HX0.out.1, HX0.out.2⟩
      case measure => simp [intOf]; omega
    · obtain rfl : j = i := by omega
      have HJI : Hid (((j : Nat) : Int) = ((j : Nat) : Int)) := rfl
      obtain ⟨q, hq⟩ : ∃ q, qs[j]? = some q := ⟨_, List.getElem?_eq_getElem (by rw [HN.out]; omega)⟩
      have HQ : Hid (qs[j]? = some q) := hq
      have HEQ : Hid (decide ((q.1.1, q.1.2) = (x, y)) = true) := decide_eq_true (by have e := HI.out.1.symm.trans hq; cases e; exact HI.out.2)
      obtain rfl := HAV.out j (by omega)
      have h3 : (j : Int) < (n : Int) := by omega
      clear hq
      go_upto_region 4 with fail
      clear k16
      refine start_held (S := fun u => Below wr.heap.size wr u) 10 rfl (by kernel_rfl) ((Below.refl _ _).drew) ?_
      simp only [Array.replicate_succ, Array.replicate_zero, List.push_toArray, List.nil_append, List.cons_append]
      have hS0 : Below wr.heap.size wr wr.drew := (Below.refl _ _).drew
      generalize wr.drew = x0 at *
      refine take_held 0 hS0 rfl (by kernel_rfl) (by kernel_rfl) (by kernel_rfl) (fun _ _ _ h => h) (by kernel_rfl) (v := ?v5010) ?y5010 ?r5010
      case y5010 => (intro u hu; go_simp; try rfl)
      simp only [Act.put, List.setIfInBounds_toArray, List.set_cons_zero, List.set_cons_succ]
      refine take_held 1 hS0 rfl (by kernel_rfl) (by kernel_rfl) (by kernel_rfl) (fun _ _ _ h => h) (by kernel_rfl) (v := ?v5011) ?y5011 ?r5011
      case y5011 => (intro u hu; go_simp; try rfl)
      simp only [Act.put, List.setIfInBounds_toArray, List.set_cons_zero, List.set_cons_succ]
      refine take_held 2 hS0 rfl (by kernel_rfl) (by kernel_rfl) (by kernel_rfl) (fun _ _ _ h => h) (by kernel_rfl) (v := ?v5012) ?y5012 ?r5012
      case y5012 => (intro u hu; go_simp; try rfl)
      simp only [Act.put, List.setIfInBounds_toArray, List.set_cons_zero, List.set_cons_succ]
      refine take_held 3 hS0 rfl (by kernel_rfl) (by kernel_rfl) (by kernel_rfl) (fun _ _ _ h => h) (by kernel_rfl) (v := ?v5013) ?y5013 ?r5013
      case y5013 => (intro u hu; have zz0 := (fun (u : World) (hu : Below wr.heap.size wr u) => (HRR.out.go hu).c16) u hu; go_simp; try rfl)
      simp only [Act.put, List.setIfInBounds_toArray, List.set_cons_zero, List.set_cons_succ]
      refine take_held 4 hS0 rfl (by kernel_rfl) (by kernel_rfl) (by kernel_rfl) (fun _ _ _ h => h) (by kernel_rfl) (v := ?v5014) ?y5014 ?r5014
      case y5014 => (intro u hu; go_simp; try rfl)
      simp only [Act.put, List.setIfInBounds_toArray, List.set_cons_zero, List.set_cons_succ]
      refine take_held 5 hS0 rfl (by kernel_rfl) (by kernel_rfl) (by kernel_rfl) (fun _ _ _ h => h) (by kernel_rfl) (v := ?v5015) ?y5015 ?r5015
      case y5015 => (intro u hu; go_simp; try rfl)
      simp only [Act.put, List.setIfInBounds_toArray, List.set_cons_zero, List.set_cons_succ]
      refine take_held 6 hS0 rfl (by kernel_rfl) (by kernel_rfl) (by kernel_rfl) (fun _ _ _ h => h) (by kernel_rfl) (v := ?v5016) ?y5016 ?r5016
      case y5016 => (intro u hu; go_simp; try rfl)
      simp only [Act.put, List.setIfInBounds_toArray, List.set_cons_zero, List.set_cons_succ]
      refine take_held 7 hS0 rfl (by kernel_rfl) (by kernel_rfl) (by kernel_rfl) (fun _ _ _ h => h) (by kernel_rfl) (v := .agg #[.int .i64 q.1.1, .int .i64 q.1.2]) ?y5017 ?r5017
      case y5017 => (intro u hu; exact run_load_at 39 _ rfl ⟨K.rb, j * 3, none⟩ rfl _ ((HRR.out.go hu).at_ HQ.out))
      simp only [Act.put, List.setIfInBounds_toArray, List.set_cons_zero, List.set_cons_succ]
      refine take_held 8 hS0 rfl (by kernel_rfl) (by kernel_rfl) (by kernel_rfl) (fun _ _ _ h => h) (by kernel_rfl) (v := .agg #[.int .i64 x, .int .i64 y]) ?y5018 ?r5018
      case y5018 => (intro u hu; exact run_load_at 39 _ rfl ⟨bc, 0, none⟩ rfl _ (load_box (HZB.out u hu)))
      simp only [Act.put, List.setIfInBounds_toArray, List.set_cons_zero, List.set_cons_succ]
      refine take_held 9 hS0 rfl (by kernel_rfl) (by kernel_rfl) (by kernel_rfl) (fun _ _ _ h => h) (by kernel_rfl) (v := .bool true) ?y5019 ?r5019
      case y5019 => (intro u hu; exact (run_eql_cell _ _ rfl q.1.1 q.1.2 x y rfl rfl).trans (by rw [HEQ.out]))
      simp only [Act.put, List.setIfInBounds_toArray, List.set_cons_zero, List.set_cons_succ]
      refine done_held (by kernel_rfl) ?_ _
      have HX0 : Hid (Below w.heap.size w x0) := HBW.out.trans (hS0.mono HBW.out.size)
      clear hS0
      go_wp2_with fail
      go_ret
      exact ⟨_, rfl, rfl, HX0.out⟩
set_option maxRecDepth 100000 in
set_option maxHeartbeats 2000000 in
theorem place_no {K : Rk} {cs : Array Value} {vc : Value} {qs : List Pile} {ls : List Int} {w : World} (h : RsAt w K cs vc qs ls) (x y : Int) (hf : ∀ (j : Nat) (q : Pile), qs[j]? = some q → q.1 ≠ (x, y)) : Calls Try.prog 44 #[.pointer (some ⟨K.s, 0, none⟩), .agg #[.int .i64 x, .int .i64 y]] w fun e w' => ∃ v, e = .returned v ∧ v = .int .i64 (-1) ∧ Below w.heap.size w w' := by
  obtain ⟨w1, hw1⟩ : ∃ z, w.alloc (.cells #[.int .i64 x, .int .i64 y] 39) = z := ⟨_, rfl⟩
  have b1 : Below w.heap.size w w1 := by rw [← hw1]; exact (Below.refl _ _).alloc (Nat.le_refl _) _
  have z1 : w1.heap[w.heap.size]? = some (.cells #[.int .i64 x, .int .i64 y] 39 (0, 0)) := by rw [← hw1]; exact World.alloc_heap_new _ _
  obtain ⟨bc, hbc⟩ : ∃ bc, w.heap.size = bc := ⟨_, rfl⟩
  have HW1 : Hid (w.alloc (.cells #[.int .i64 x, .int .i64 y] 39) = w1 ∧ w.heap.size = bc) := ⟨hw1, hbc⟩
  have HZ1 : Hid (w1.heap[bc]? = some (.cells #[.int .i64 x, .int .i64 y] 39 (0, 0))) := hbc ▸ z1
  have HB1 : Hid (Below w.heap.size w w1) := b1
  have HR1 : Hid (RsAt w1 K cs vc qs ls) := h.go b1
  obtain ⟨n, hn⟩ : ∃ n, qs.length = n := ⟨_, rfl⟩
  have HN : Hid (qs.length = n) := hn
  have hn2 : n ≤ 256 := by rw [← hn]; exact h.many
  obtain ⟨av, capv, hvc, hav⟩ := h.form
  rw [hn] at hvc hav
  subst hvc
  have HAV : Hid (∀ i, i < n → av = some ⟨K.rb, 0, none⟩) := hav
  have HF : Hid (∀ (j : Nat) (q : Pile), qs[j]? = some q → q.1 ≠ (x, y)) := hf
  clear h b1 z1 hw1 hbc hn hav hf
  go_enter Try.func44, Try.ntmps44
  go_wp2_with (have X' := HW1; refine boxAt rfl 39 (.tmp 1) rfl #[.int .i64 x, .int .i64 y] rfl ?_; rw [HW1.out.1, HW1.out.2]; clear HW1)
  go_loopw [5] (fun cj wr => ∃ j : Nat, cj = .int .i64 j ∧ j ≤ n ∧ Below w.heap.size w wr ∧ Below w1.heap.size w1 wr) (fun cj _ => n - (intOf cj).toNat)
  case atStart => exact ⟨0, rfl, Nat.zero_le _, HB1.out, Below.refl _ _⟩
  case round =>
    obtain ⟨j, rfl, hj, bw, bw1⟩ := hrel
    have HRR : Hid (RsAt wr K cs (.slice av n capv) qs ls) := HR1.out.go bw1
    have HZB : Hid (∀ u, Below wr.heap.size wr u → u.heap[bc]? = some (.cells #[.int .i64 x, .int .i64 y] 39 (0, 0))) := fun u hu => ((bw1.trans (hu.mono bw1.size)).block _ (Array.getElem?_eq_some_iff.1 HZ1.out).1).trans HZ1.out
    have HBW : Hid (Below w.heap.size w wr) := bw
    have HBW1 : Hid (Below w1.heap.size w1 wr) := bw1
    have k16 := HRR.out.c16
    clear bw bw1
    by_cases hlt : j < n
    · obtain ⟨q, hq⟩ : ∃ q, qs[j]? = some q := ⟨_, List.getElem?_eq_getElem (by rw [HN.out]; omega)⟩
      have HQ : Hid (qs[j]? = some q) := hq
      have HEQ : Hid (decide ((q.1.1, q.1.2) = (x, y)) = false) := decide_eq_false (HF.out j q hq)
      obtain rfl := HAV.out j (by omega)
      have h3 : (j : Int) < (n : Int) := by omega
      clear hq
      go_upto_region 4 with fail
      clear k16
      refine start_held (S := fun u => Below wr.heap.size wr u) 10 rfl (by kernel_rfl) ((Below.refl _ _).drew) ?_
      simp only [Array.replicate_succ, Array.replicate_zero, List.push_toArray, List.nil_append, List.cons_append]
      have hS0 : Below wr.heap.size wr wr.drew := (Below.refl _ _).drew
      generalize wr.drew = x0 at *
      refine take_held 0 hS0 rfl (by kernel_rfl) (by kernel_rfl) (by kernel_rfl) (fun _ _ _ h => h) (by kernel_rfl) (v := ?v5020) ?y5020 ?r5020
      case y5020 => (intro u hu; go_simp; try rfl)
      simp only [Act.put, List.setIfInBounds_toArray, List.set_cons_zero, List.set_cons_succ]
      refine take_held 1 hS0 rfl (by kernel_rfl) (by kernel_rfl) (by kernel_rfl) (fun _ _ _ h => h) (by kernel_rfl) (v := ?v5021) ?y5021 ?r5021
      case y5021 => (intro u hu; go_simp; try rfl)
      simp only [Act.put, List.setIfInBounds_toArray, List.set_cons_zero, List.set_cons_succ]
      refine take_held 2 hS0 rfl (by kernel_rfl) (by kernel_rfl) (by kernel_rfl) (fun _ _ _ h => h) (by kernel_rfl) (v := ?v5022) ?y5022 ?r5022
      case y5022 => (intro u hu; go_simp; try rfl)
      simp only [Act.put, List.setIfInBounds_toArray, List.set_cons_zero, List.set_cons_succ]
      refine take_held 3 hS0 rfl (by kernel_rfl) (by kernel_rfl) (by kernel_rfl) (fun _ _ _ h => h) (by kernel_rfl) (v := ?v5023) ?y5023 ?r5023
      case y5023 => (intro u hu; have zz0 := (fun (u : World) (hu : Below wr.heap.size wr u) => (HRR.out.go hu).c16) u hu; go_simp; try rfl)
      simp only [Act.put, List.setIfInBounds_toArray, List.set_cons_zero, List.set_cons_succ]
      refine take_held 4 hS0 rfl (by kernel_rfl) (by kernel_rfl) (by kernel_rfl) (fun _ _ _ h => h) (by kernel_rfl) (v := ?v5024) ?y5024 ?r5024
      case y5024 => (intro u hu; go_simp; try rfl)
      simp only [Act.put, List.setIfInBounds_toArray, List.set_cons_zero, List.set_cons_succ]
      refine take_held 5 hS0 rfl (by kernel_rfl) (by kernel_rfl) (by kernel_rfl) (fun _ _ _ h => h) (by kernel_rfl) (v := ?v5025) ?y5025 ?r5025
      case y5025 => (intro u hu; go_simp; try rfl)
      simp only [Act.put, List.setIfInBounds_toArray, List.set_cons_zero, List.set_cons_succ]
      refine take_held 6 hS0 rfl (by kernel_rfl) (by kernel_rfl) (by kernel_rfl) (fun _ _ _ h => h) (by kernel_rfl) (v := ?v5026) ?y5026 ?r5026
      case y5026 => (intro u hu; go_simp; try rfl)
      simp only [Act.put, List.setIfInBounds_toArray, List.set_cons_zero, List.set_cons_succ]
      refine take_held 7 hS0 rfl (by kernel_rfl) (by kernel_rfl) (by kernel_rfl) (fun _ _ _ h => h) (by kernel_rfl) (v := .agg #[.int .i64 q.1.1, .int .i64 q.1.2]) ?y5027 ?r5027
      case y5027 => (intro u hu; exact run_load_at 39 _ rfl ⟨K.rb, j * 3, none⟩ rfl _ ((HRR.out.go hu).at_ HQ.out))
      simp only [Act.put, List.setIfInBounds_toArray, List.set_cons_zero, List.set_cons_succ]
      refine take_held 8 hS0 rfl (by kernel_rfl) (by kernel_rfl) (by kernel_rfl) (fun _ _ _ h => h) (by kernel_rfl) (v := .agg #[.int .i64 x, .int .i64 y]) ?y5028 ?r5028
      case y5028 => (intro u hu; exact run_load_at 39 _ rfl ⟨bc, 0, none⟩ rfl _ (load_box (HZB.out u hu)))
      simp only [Act.put, List.setIfInBounds_toArray, List.set_cons_zero, List.set_cons_succ]
      refine take_held 9 hS0 rfl (by kernel_rfl) (by kernel_rfl) (by kernel_rfl) (fun _ _ _ h => h) (by kernel_rfl) (v := .bool false) ?y5029 ?r5029
      case y5029 => (intro u hu; exact (run_eql_cell _ _ rfl q.1.1 q.1.2 x y rfl rfl).trans (by rw [HEQ.out]))
      simp only [Act.put, List.setIfInBounds_toArray, List.set_cons_zero, List.set_cons_succ]
      refine done_held (by kernel_rfl) ?_ _
      have HX0 : Hid (Below w.heap.size w x0 ∧ Below w1.heap.size w1 x0) := ⟨HBW.out.trans (hS0.mono HBW.out.size), HBW1.out.trans (hS0.mono HBW1.out.size)⟩
      clear hS0
      go_wp2_with fail
      go_roundw
      case rel => exact ⟨j + 1, by go_num, by omega, HX0.out.1, HX0.out.2⟩
      case measure => simp [intOf]; omega
    · have h3 : ¬ (j : Int) < (n : Int) := by omega
      go_wp2_with fail
      go_ret
      exact ⟨_, rfl, rfl, HBW.out⟩
end Go.Proofs.Ytabbdclpjghdbaa.Stk
