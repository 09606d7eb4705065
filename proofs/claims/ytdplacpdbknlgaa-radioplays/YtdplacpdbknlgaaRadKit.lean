/-
  Lists of telegrams: where they lie, what is cut off them, what is put behind one, one that is taken out.
-/
import Derived.Test.YtdplacpdbknlgaaLinkRow
import Derived.Maps.AppendAt
import Derived.Laws.CopyRow
namespace Go.Proofs.Ytdplacpdbknlgaa.Lk
set_option linter.unusedVariables false
set_option linter.unusedSimpArgs false
open Go Go.RowKit Go.Shelf Go.Proofs
attribute [local go_sem] Oper.semAt_some

theorem rowTl_len (zs : List Tl) : (rowL tlL zs).length = zs.length * 19 := rowL_len tlL_len zs
theorem rowTl_take (zs : List Tl) (k : Nat) : rowL tlL (zs.take k) = (rowL tlL zs).take (k * 19) := by
  induction zs generalizing k with
  | nil => simp [rowL]
  | cons x l ih =>
    cases k with
    | zero => simp [rowL]
    | succ k =>
      rw [List.take_succ_cons, show rowL tlL (x :: l.take k) = tlL x ++ rowL tlL (l.take k) from rfl, show rowL tlL (x :: l) = tlL x ++ rowL tlL l from rfl, ih, List.take_append, List.take_of_length_le (l := tlL x) (by rw [tlL_len]; omega), tlL_len, show (k + 1) * 19 - 19 = k * 19 by omega]
theorem rowTl_drop (zs : List Tl) (k : Nat) : rowL tlL (zs.drop k) = (rowL tlL zs).drop (k * 19) := by
  induction zs generalizing k with
  | nil => simp [rowL]
  | cons x l ih =>
    cases k with
    | zero => simp
    | succ k =>
      rw [List.drop_succ_cons, show rowL tlL (x :: l) = tlL x ++ rowL tlL l from rfl, ih, List.drop_append, List.drop_of_length_le (l := tlL x) (by rw [tlL_len]; omega), tlL_len, show (k + 1) * 19 - 19 = k * 19 by omega, List.nil_append]
theorem rowTl_one (zs : List Tl) : ∀ u ∈ rowL tlL zs, u.oneCell' = true := fun u hu => by
  obtain ⟨x, _, hx⟩ := List.mem_flatMap.1 hu
  exact tlL_one x u hx
/- A slice whose telegrams lie in memory. -/
def Lies (w : World) (v : Value) (zs : List Tl) : Prop := ∃ (a : Option Addr) (cap : Nat), v = .slice a zs.length cap ∧ (a = none → zs.length = 0 ∧ cap = 0) ∧ zs.length ≤ cap ∧ cap ≤ maxLen ∧ ∀ x, a = some x → ∀ j u, (rowL tlL zs)[j]? = some u → w.cell? (x.add j) = some u
theorem Lies.nil (w : World) : Lies w (.slice none 0 0) [] := ⟨none, 0, rfl, fun _ => ⟨rfl, rfl⟩, Nat.le_refl _, Nat.zero_le _, fun x h => by cases h⟩
theorem Lies.same {w w' : World} {v : Value} {zs : List Tl} (h : Lies w v zs) (hs : ∀ b, (∃ x n c, v = .slice (some x) n c ∧ x.block = b) → w'.heap[b]? = w.heap[b]?) : Lies w' v zs := by
  obtain ⟨a, cap, h1, h2, h3, h4, h5⟩ := h
  refine ⟨a, cap, h1, h2, h3, h4, fun x hx j u hj => ?_⟩
  subst hx
  rw [cell_block (w := w) (w' := w') (p := x.add j) (by rw [show (x.add j).block = x.block by unfold Addr.add; split <;> rfl]; exact hs _ ⟨x, _, _, h1, rfl⟩)]
  exact h5 x rfl j u hj
theorem Lies.go {w w' : World} {v : Value} {zs : List Tl} (h : Lies w v zs) (hb : Below w.heap.size w w') : Lies w' v zs := by
  obtain ⟨a, cap, h1, h2, h3, h4, h5⟩ := h
  exact ⟨a, cap, h1, h2, h3, h4, fun x hx j u hj => (hb.cell (World.block_lt_of_cell? w _ (h5 x hx j u hj))).trans (h5 x hx j u hj)⟩
theorem Lies.of_own {w : World} {B : Nat} {v : Value} {l : List Tl} (h : Own w B v l) : Lies w v l := by
  obtain ⟨h1, ⟨q, h2⟩ | ⟨g, cap, cur, e, hb, hg, hnc, hcm, hcs, ht⟩⟩ := h
  · obtain rfl : l = [] := List.eq_nil_of_length_eq_zero h2
    rw [q]
    exact Lies.nil w
  · refine ⟨_, cap, e, (fun h => by cases h), hnc, hcm, fun x hx j u hj => ?_⟩
    cases hx
    rw [← ht, List.getElem?_take] at hj
    split at hj
    · rw [add_at]
      simpa [World.cell?, hg] using hj
    · cases hj
theorem Lies.len {w : World} {v : Value} {zs : List Tl} (h : Lies w v zs) : ∃ a cap, v = .slice a zs.length cap := by
  obtain ⟨a, cap, h1, _⟩ := h
  exact ⟨a, cap, h1⟩
theorem Lies.of_in {w : World} {a : Option Addr} {n cap : Nat} {ts : Nat → Tl} (h : InT w a n ts) (h0 : a = none → n = 0 ∧ cap = 0) (hc : n ≤ cap) (hm : cap ≤ maxLen) : Lies w (.slice a n cap) ((List.range n).map ts) := by
  refine ⟨a, cap, by rw [List.length_map, List.length_range], fun e => by rw [List.length_map, List.length_range]; exact h0 e, by simpa using hc, hm, fun x hx k u hk => ?_⟩
  obtain ⟨i, j, hi, rfl, hv⟩ : ∃ i j, ∃ h : i < ((List.range n).map ts).length, k = i * 19 + j ∧ (tlL (((List.range n).map ts)[i]'h))[j]? = some u := rowL_inv tlL_len _ k u hk
  have hi' : i < n := by simpa using hi
  obtain ⟨y, hy, hz⟩ := h i hi'
  rw [hx] at hy
  cases hy
  rw [← add_add']
  exact hz j u (by simpa using hv)
theorem infoT19 : ∃ i, Try.prog.info? 42 = some i ∧ i.zero = some (.agg (tlA tl0)) ∧ i.size = 19 ∧ i.bytes = 152 := info_parts infoT3
theorem run_push_any {w : World} {B : Nat} {v : Value} {l : List Tl} (hown : Own w B v l) {v2 : Value} {zs : List Tl} (hl : Lies w v2 zs) (hn : l.length + zs.length ≤ 1000000) (hB : B ≤ w.heap.size) (ty : TypeId) :
    ∃ v' w', (Builtin.append_ #[27, 27] ty #[v, v2]).run Try.prog w = .ok v' w' ∧ Own w' B v' (l ++ zs) ∧ w.grownBy w' v.ownBlock ∧ (v'.ownBlock = v.ownBlock ∨ v'.ownBlock = some w.heap.size) := by
  obtain ⟨i, hi, hz0, hz1, hz2⟩ := infoT19
  obtain ⟨a, cap, rfl, h0, _, _, hc⟩ := hl
  cases a with
  | none =>
    obtain ⟨h1, rfl⟩ := h0 rfl
    obtain rfl : zs = [] := List.eq_nil_of_length_eq_zero h1
    have hrun := run_append_owned_none (P := Try.prog) (w := w) B 27 ty 42 i 19 Try.underlying27 hi v l.length _ hown
    exact ⟨v, w, hrun, by simpa using hown, World.grownBy.refl _ _, Or.inl rfl⟩
  | some p =>
    obtain ⟨v', w', hrun, hown', hgrow, _, hat⟩ := run_append_own_at (P := Try.prog) w B 27 ty 42 i _ 19 152 Try.underlying27 hi hz0 hz1 hz2 rfl (by decide) v l.length _ hown p zs.length cap (rowL tlL zs) (rowTl_len zs) (hc p rfl) (rowTl_one zs) (by unfold maxLen; omega) (by omega) hB
    refine ⟨v', w', hrun, ?_, hgrow, hat⟩
    unfold Own
    rw [List.length_append, rowL_append]
    exact hown'
theorem run_push_op {o : Oper} {a : Act} {w w' : World} (s x : Operand) (ho : o.op = .call { callee := .builtin .append, args := #[s, x], argTypes := #[27, 27] }) (v v2 v' : Value) (hs : a.eval s = v) (hx : a.eval x = v2)
    (hrun : (Builtin.append_ #[27, 27] o.type #[v, v2]).run Try.prog w = .ok v' w') : (execOp a.eval o).run Try.prog w = .ok (.value v') w' := by
  unfold execOp
  simp only [ho, resolve, invoke, builtin, Sem.run_bind, Sem.run_pure, Result.andThen_ok, List.map_toArray, List.map_cons, List.map_nil, hs, hx, hrun]
theorem wpList_pushAny {ops : Array Oper} {rest : List Oper} {o : Oper} {a : Act} {w : World} {Q : Exit → Act → World → Prop} (hg : o.guard = none) (s x : Operand) (ho : o.op = .call { callee := .builtin .append, args := #[s, x], argTypes := #[27, 27] })
    (B : Nat) (v : Value) (l : List Tl) (hs : a.eval s = v) (hown : Own w B v l) (v2 : Value) (zs : List Tl) (hx : a.eval x = v2) (hl : Lies w v2 zs) (hn : l.length + zs.length ≤ 1000000) (hB : B ≤ w.heap.size)
    (h : ∀ v' w', Own w' B v' (l ++ zs) → w.grownBy w' v.ownBlock → (v'.ownBlock = v.ownBlock ∨ v'.ownBlock = some w.heap.size) → wpList Try.prog ops Q rest (a.put o.dst v') w') : wpList Try.prog ops Q (o :: rest) a w := by
  refine wpList_plain hg fun K hK => ?_
  obtain ⟨v', w', hrun, h1, h2, h3⟩ := run_push_any hown hl hn hB o.type
  unfold Oper.wp
  rw [run_push_op s x ho v v2 v' hs hx hrun]
  exact hK _ _ (h v' w' h1 h2 h3)
/- The first k, all from the k-th on. -/
theorem run_first {w : World} {v : Value} {zs : List Tl} (h : Lies w v zs) (k : Nat) (hk : k ≤ zs.length) : ∃ v2, (∀ u : World, (Instr.sliceAt 27 v none (some (.int .i64 k)) none).run Try.prog u = .ok v2 u) ∧ Lies w v2 (zs.take k) := by
  obtain ⟨a, cap, rfl, h0, hc, hm, hx⟩ := h
  have e : (zs.take k).length = k := by rw [List.length_take]; omega
  have a2 : (k : Int) ≤ (cap : Int) := by omega
  refine ⟨.slice a k cap, fun u => ?_, a, cap, by rw [e], fun q => by rw [e]; have := h0 q; omega, by rw [e]; omega, hm, fun x hq j u hj => hx x hq j u ?_⟩
  · clear h0 hc hm hx e hk
    cases a <;> go_simp
  · rw [rowTl_take, List.getElem?_take] at hj
    split at hj
    · exact hj
    · cases hj
theorem run_from {w : World} {v : Value} {zs : List Tl} (h : Lies w v zs) (k : Nat) (hk : k ≤ zs.length) : ∃ v2, (∀ u : World, (Instr.sliceAt 27 v (some (.int .i64 k)) none none).run Try.prog u = .ok v2 u) ∧ Lies w v2 (zs.drop k) ∧ ((∃ p n c, v = .slice (some p) n c) → ∃ p n c, v2 = .slice (some p) n c) := by
  obtain ⟨a, cap, rfl, h0, hc, hm, hx⟩ := h
  have a2 : (k : Int) ≤ (zs.length : Int) := by omega
  have e : (zs.drop k).length = zs.length - k := List.length_drop
  refine ⟨.slice (if cap = k then a else a.map (·.add (k * 19))) (zs.length - k) (cap - k), fun u => ?_, ⟨_, cap - k, by rw [e], fun q => ?_, by rw [e]; omega, by omega, fun x hq j u hj => ?_⟩, ?_⟩
  · generalize zs.length = n at *
    clear h0 hc hm hx e hk
    cases a <;> go_simp
  · rw [e]
    by_cases hck : cap = k
    · rw [if_pos hck] at q
      have := h0 q
      omega
    · rw [if_neg hck] at q
      cases a with
      | none => have := h0 rfl; omega
      | some p => cases q
  · rw [rowTl_drop, List.getElem?_drop] at hj
    have hj' := (List.getElem?_eq_some_iff.1 hj).1
    rw [rowTl_len] at hj'
    by_cases hck : cap = k
    · omega
    · rw [if_neg hck] at hq
      cases a with
      | none => cases hq
      | some p =>
        cases hq
        rw [add_add']
        exact hx p rfl _ u hj
  · rintro ⟨p, n, c, q⟩
    cases q
    by_cases hck : cap = k
    · exact ⟨_, _, _, by rw [if_pos hck]⟩
    · exact ⟨_, _, _, by rw [if_neg hck]; rfl⟩
theorem run_slice_op {o : Oper} {a : Act} {w : World} (t : TypeId) (x : Operand) (lo hi : Option Operand) (ho : o.op = .slice t x lo hi none) (v v2 : Value) (hx : a.eval x = v) (hrun : (Instr.sliceAt t v (lo.map a.eval) (hi.map a.eval) none).run Try.prog w = .ok v2 w) : (execOp a.eval o).run Try.prog w = .ok (.value v2) w := by
  unfold execOp
  simp only [ho, hx, Option.map_none, Sem.run_bind, hrun, Result.andThen_ok, Sem.run_pure]
/- One that is taken out, in place. -/
theorem own_first {w : World} {B : Nat} {g n cap : Nat} {l : List Tl} (h : Own w B (.slice (some ⟨g, 0, none⟩) n cap) l) (k : Nat) (hk : k ≤ l.length) : Own w B (.slice (some ⟨g, 0, none⟩) k cap) (l.take k) := by
  have e0 : (l.take k).length = k := by rw [List.length_take]; omega
  refine ⟨by rw [e0, rowTl_len, e0], ?_⟩
  rcases h.2 with ⟨hv, h0⟩ | ⟨g', cap', cur, hv, h1, h2, h3, h4, h5, h6⟩
  · cases hv
  · right
    cases hv
    refine ⟨g, cap, cur, by rw [e0], h1, h2, by omega, h4, h5, ?_⟩
    rw [e0, rowTl_take, ← h6, List.take_take, Nat.min_eq_left (Nat.mul_le_mul_right 19 hk)]
theorem clear_gen {P : Program} (w : World) (t e ty : TypeId) (z : Value) (vs : List Value) (ht : P.underlying t = some (.slice e)) (hv : ∀ w, (zeroValue e).run P w = .ok z w) (hz : (Builtin.zeroCells z.cells 1).toList = vs) (p : Addr) (c : Nat) (w' : World) (hst : (storeCells p vs 0).run P w = .ok () w') :
    (Builtin.clear_ #[t] ty #[.slice (some p) 1 c]).run P w = .ok (.tuple #[]) w' := by
  simp [Builtin.clear_, run_underlying ht, hv, hz, hst]
theorem clear_run (w : World) (g n cap : Nat) (cur : Array Value) (hg : w.heap[g]? = some (.cells cur 42 (0, 0))) (hn : n * 19 + 19 ≤ cur.size) (ty : TypeId) :
    (Builtin.clear_ #[27] ty #[.slice (some ⟨g, n * 19, none⟩) 1 cap]).run Try.prog w = .ok (.tuple #[]) (w.setRow g (cur.toList.take (n * 19) ++ tlL tl0 ++ cur.toList.drop (n * 19 + 19)).toArray) := by
  have hst := run_storeCells_at Try.prog g (n * 19) 42 (tlL tl0) 0 cur w hg (by simpa [tlL_len] using hn) (tlL_one tl0)
  simp only [Nat.add_zero] at hst
  rw [tlL_len] at hst
  exact clear_gen w _ _ ty _ (tlL tl0) Try.underlying27 zeroTele (by kernel_rfl) _ cap _ hst
theorem wpList_clearTeles {ops : Array Oper} {rest : List Oper} {o : Oper} {a : Act} {w w2 : World} {Q : Exit → Act → World → Prop} (hg : o.guard = none) (x : Operand) (ho : o.op = .call { callee := .builtin .clear, args := #[x], argTypes := #[27] }) (v : Value) (hx : a.eval x = v)
    (hrun : (Builtin.clear_ #[27] o.type #[v]).run Try.prog w = .ok (.tuple #[]) w2) (h : wpList Try.prog ops Q rest (a.put o.dst (.tuple #[])) w2) : wpList Try.prog ops Q (o :: rest) a w := by
  refine wpList_plain hg fun K hK => ?_
  unfold Oper.wp
  simp [execOp, ho, resolve, invoke, builtin, hx, hrun, Result.andThen]
  exact hK _ _ h
theorem take_row (w : World) (g : Nat) (cur cs : Array Value) {e : TypeId} (hg : w.heap[g]? = some (.cells cur e (0, 0))) : (w.setRow g cs).heap[g]? = some (.cells cs e (0, 0)) := setRow_heap w g cur cs e (0, 0) hg
def cutP (l : List Tl) (k : Nat) : List Tl := l.take k ++ l.drop (k + 1)
theorem cutP_len (l : List Tl) {k : Nat} (hk : k < l.length) : (cutP l k).length = l.length - 1 := by
  unfold cutP
  rw [List.length_append, List.length_take, List.length_drop]
  omega
set_option maxRecDepth 100000 in
set_option maxHeartbeats 2000000 in
theorem delete_any {w : World} {B : Nat} {v : Value} {l : List Tl} (O : Own w B v l) (i : Nat) (hi : i < l.length) (hn : l.length ≤ 1000000) :
    Calls Try.prog 25 #[v, .int .i64 i, .int .i64 ((i : Int) + 1)] w fun e w' => ∃ v', e = .returned v' ∧ Own w' B v' (cutP l i) ∧ v'.ownBlock = v.ownBlock ∧ w.grownBy w' v.ownBlock := by
  unfold cutP
  obtain ⟨n, hln⟩ : ∃ n, l.length = n := ⟨_, rfl⟩
  obtain ⟨g, cap, rfl, hg, hw1⟩ := own_item O hln hi
  clear hw1
  have hcap : n ≤ cap := by
    obtain ⟨a, c, e, _, hc, _⟩ := own_form O
    cases e
    omega
  have hcm : cap ≤ maxLen := by
    obtain ⟨a, c, e, _, _, hc⟩ := own_form O
    cases e
    exact hc
  obtain ⟨v2, hr2, L2, S2⟩ := run_from (Lies.of_own O) (i + 1) (by omega)
  obtain ⟨p2, n2, c2, rfl⟩ := S2 ⟨_, _, _, rfl⟩
  have O1 := own_first O i (by omega)
  obtain ⟨ii, hii, hz0, hz1, hz2⟩ := infoT19
  have hd : (l.drop (i + 1)).length = n - (i + 1) := by rw [List.length_drop, hln]
  have e1 : (l.take i).length = i := by rw [List.length_take]; omega
  have HO : Hid (Own w B (.slice (some ⟨g, 0, none⟩) i cap) (l.take i)) := O1
  have HL : Hid (Lies w (.slice (some p2) n2 c2) (l.drop (i + 1))) := L2
  have HR : Hid (∀ u : World, (Instr.sliceAt 27 (.slice (some ⟨g, 0, none⟩) n cap) (some (.int .i64 ((i : Int) + 1))) none none).run Try.prog u = .ok (.slice (some p2) n2 c2) u) := by
    exact fun u => hr2 u
  obtain ⟨m, hm⟩ : ∃ m, n = m + 1 := ⟨n - 1, by omega⟩
  have HK : Hid (∀ ty : TypeId, ∃ w1 w2, (Builtin.append_ #[27, 27] ty #[.slice (some ⟨g, 0, none⟩) i cap, .slice (some p2) n2 c2]).run Try.prog w.drew = .ok (.slice (some ⟨g, 0, none⟩) m cap) w1 ∧ (∀ ty c, (Builtin.clear_ #[27] ty #[.slice (some ⟨g, m * 19, none⟩) 1 c]).run Try.prog w1 = .ok (.tuple #[]) w2) ∧ Own w2 B (.slice (some ⟨g, 0, none⟩) m cap) (l.take i ++ l.drop (i + 1)) ∧ w.grownBy w2 (some g)) := by
    intro ty
    obtain ⟨a, c, hq, h0, _, _, hx⟩ := HL.out
    cases hq
    obtain ⟨p, hp⟩ : ∃ p, p = p2 := ⟨_, rfl⟩
    subst hp
    obtain ⟨w1, hrun, h1, h2⟩ := run_append_fits (P := Try.prog) w.drew B 27 ty 42 ii 19 Try.underlying27 hii hz1 g i cap (rowL tlL (l.take i)) (by have := HO.out; unfold Own at this; rw [e1] at this; exact this) p (l.drop (i + 1)).length _ (rowL tlL (l.drop (i + 1))) (rowTl_len _) (hx p rfl) (rowTl_one _) (by omega)
    have hm' : i + (l.drop (i + 1)).length = m := by omega
    rw [hm'] at hrun h1
    rcases h1.2 with ⟨q, _⟩ | ⟨g', cap', cur, q, k1, k2, k3, k4, k5, k6⟩
    · cases q
    · cases q
      refine ⟨w1, _, hrun, fun ty c => clear_run w1 g m c cur k2 (by omega) ty, ⟨?_, Or.inr ⟨g, cap, _, ?_, k1, take_row _ _ _ _ k2, ?_, k4, ?_, ?_⟩⟩, ?_⟩
      · rw [rowTl_len]
      · rw [List.length_append, e1, hm']
      · rw [List.length_append, e1, hm']; exact k3
      · simp only [List.size_toArray, List.length_append, List.length_take, List.length_drop, Array.length_toList, tlL_len]
        omega
      · rw [List.length_append, e1, hm', rowL_append, ← k6]
        simp only [List.toList_toArray, List.append_assoc]
        rw [List.take_append_of_le_length (by simp; omega), List.take_take, Nat.min_self]
      · have q1 : w.grownBy w1 (some g) := ⟨h2.os, h2.tape, h2.output, h2.size, h2.block⟩
        exact q1.trans ⟨rfl, rfl, rfl, by simp, fun k _ hk => setRow_other w1 g k _ (fun e => hk (by simp [e]))⟩
  have b0 : ((i : Int) == (i : Int) + 1) = false := by simp; omega
  have b1 : (i : Int) + 1 ≤ (n : Int) := by omega
  have b2 : (n : Int) ≤ (cap : Int) := by omega
  have b3 : (i : Int) ≤ (cap : Int) := by omega
  have HM : Hid (n = m + 1) := hm
  clear hr2 L2 S2 hd e1 hz0 hz1 hz2 hii O1 O hg hi hcap hcm hm hln hn
  go_enter Try.func25, Try.ntmps25
  go_wp2_with fail
  obtain ⟨w1, w2, hrun, hclr, hO2, hgr⟩ := HK.out 27
  refine start_held (S := fun _ => True) 8 rfl (by kernel_rfl) trivial ?_
  simp only [Array.replicate_succ, Array.replicate_zero, List.push_toArray, List.nil_append, List.cons_append]
  refine take_held 0 trivial rfl (by kernel_rfl) (by kernel_rfl) (by kernel_rfl) (fun _ _ _ h => h) (by kernel_rfl) (v := ?v100) ?y100 ?r100
  case y100 => (intro u hu; go_simp; try rfl)
  simp only [Act.put, List.setIfInBounds_toArray, List.set_cons_zero, List.set_cons_succ]
  refine take_held 1 trivial rfl (by kernel_rfl) (by kernel_rfl) (by kernel_rfl) (fun _ _ _ h => h) (by kernel_rfl) (v := ?v101) ?y101 ?r101
  case y101 => (intro u hu; go_simp; try rfl)
  simp only [Act.put, List.setIfInBounds_toArray, List.set_cons_zero, List.set_cons_succ]
  refine take_held 2 trivial rfl (by kernel_rfl) (by kernel_rfl) (by kernel_rfl) (fun _ _ _ h => h) (by kernel_rfl) (v := ?v102) ?y102 ?r102
  case y102 => (intro u hu; go_simp; try rfl)
  simp only [Act.put, List.setIfInBounds_toArray, List.set_cons_zero, List.set_cons_succ]
  refine take_held 3 trivial rfl (by kernel_rfl) (by kernel_rfl) (by kernel_rfl) (fun _ _ _ h => h) (by kernel_rfl) (v := ?v103) ?y103 ?r103
  case y103 => (intro u hu; go_simp; try rfl)
  simp only [Act.put, List.setIfInBounds_toArray, List.set_cons_zero, List.set_cons_succ]
  refine take_held 4 trivial rfl (by kernel_rfl) (by kernel_rfl) (by kernel_rfl) (fun _ _ _ h => h) (by kernel_rfl) (v := ?v104) ?y104 ?r104
  case y104 => (intro u hu; go_simp; try rfl)
  simp only [Act.put, List.setIfInBounds_toArray, List.set_cons_zero, List.set_cons_succ]
  refine take_held 5 trivial rfl (by kernel_rfl) (by kernel_rfl) (by kernel_rfl) (fun _ _ _ h => h) (by kernel_rfl) (v := .slice (some p2) n2 c2) ?y105 ?r105
  case y105 => (intro u hu; exact run_slice_op 27 (.tmp 23) (some (.tmp 24)) none rfl _ _ rfl (HR.out u))
  simp only [Act.put, List.setIfInBounds_toArray, List.set_cons_zero, List.set_cons_succ]
  refine wpAnyH_ready (rs := [6]) (by kernel_rfl) (by simp) (AllReadyH.cons ((nth_eq _ 6).trans rfl) ?_ AllReadyH.nil)
  intro K106 hK106
  refine value_in hK106 (by kernel_rfl) (.slice (some ⟨g, 0, none⟩) m cap) w1 (run_push_op (.tmp 22) (.tmp 25) rfl _ _ _ rfl rfl hrun) trivial ?_
  simp only [Act.put, List.setIfInBounds_toArray, List.set_cons_zero, List.set_cons_succ]
  refine take_held 7 trivial rfl (by kernel_rfl) (by kernel_rfl) (by kernel_rfl) (fun _ _ _ h => h) (by kernel_rfl) (v := ?v107) ?y107 ?r107
  case y107 => (intro u hu; go_simp; try rfl)
  simp only [Act.put, List.setIfInBounds_toArray, List.set_cons_zero, List.set_cons_succ]
  refine done_held (by kernel_rfl) ?_ _
  have b4 : (m : Int) ≤ (n : Int) := by have := HM.out; omega
  have b5 : ¬ cap = m := by have := HM.out; omega
  have HC : Hid (∀ ty, (Builtin.clear_ #[27] ty #[.slice (some ⟨g, m * 19, none⟩) (n - m) (cap - m)]).run Try.prog w1 = .ok (.tuple #[]) w2) := by
    rw [show n - m = 1 by have := HM.out; omega]
    exact fun ty => hclr ty _
  clear hclr hrun
  go_wp2_with (refine wpList_clearTeles rfl (.tmp 31) rfl _ rfl (HC.out _) ?_)
  go_ret
  exact ⟨_, rfl, hO2, rfl, hgr⟩
end Go.Proofs.Ytdplacpdbknlgaa.Lk
