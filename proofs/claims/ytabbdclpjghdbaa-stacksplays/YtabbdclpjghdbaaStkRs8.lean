/-
  The chapter's own stacks: New.
-/
import Derived.Test.YtabbdclpjghdbaaStkRs7
namespace Go.Proofs.Ytabbdclpjghdbaa.Stk
set_option linter.unusedVariables false
set_option linter.unusedSimpArgs false
open Go Go.RowKit Go.Shelf Go.Proofs Go.Proofs.Ytabbdclpjghdbaa.Grid
attribute [local go_sem] Oper.semAt_some

/- The open cells among the first k, and what stands there. -/
def opens (c : Conf) (k : Nat) : List Cell := ((List.range k).map (cellAt c.W)).filter (fun p => decide (openR c p))
def pilesR (c : Conf) (k : Nat) : List Stk := (opens c k).map fun x => (x, placed c.stacks x)
theorem opens_succ (c : Conf) (k : Nat) : opens c (k + 1) = opens c k ++ if openR c (cellAt c.W k) then [cellAt c.W k] else [] := by
  unfold opens
  rw [List.range_succ, List.map_append, List.filter_append]
  congr 1
  by_cases h : openR c (cellAt c.W k)
  · rw [if_pos h]; simp [h]
  · rw [if_neg h]; simp [h]
theorem pilesR_len (c : Conf) (k : Nat) : (pilesR c k).length ≤ k := by
  unfold pilesR opens
  rw [List.length_map]
  exact Nat.le_trans (List.length_filter_le _ _) (by simp)
theorem pilesR_in {c : Conf} {k : Nat} {s : Stk} (h : s ∈ pilesR c k) : s.2 = placed c.stacks s.1 := by
  unfold pilesR at h
  obtain ⟨x, _, rfl⟩ := List.mem_map.1 h
  rfl
theorem cellAt_row {W x y : Nat} (h : x < W) : cellAt (W : Int) (y * W + x) = ((x : Int), (y : Int)) := by
  unfold cellAt
  have h0 : 0 < W := by omega
  have e1 : (((y * W + x : Nat) : Int)) % (W : Int) = (x : Int) := by
    rw [← Int.natCast_emod]
    congr 1
    rw [Nat.mul_comm, Nat.mul_add_mod, Nat.mod_eq_of_lt h]
  have e2 : (((y * W + x : Nat) : Int)) / (W : Int) = (y : Int) := by
    rw [← Int.natCast_ediv]
    congr 1
    rw [Nat.mul_comm, Nat.mul_add_div h0, Nat.div_eq_of_lt h, Nat.add_zero]
  rw [e1, e2]
theorem own_lower' {w : World} {b b' : Nat} {e : TypeId} {sz n : Nat} {v : Value} {xs : List Value} (h : w.ownsRow b e sz v n xs) (hb : b' ≤ b) : w.ownsRow b' e sz v n xs := by
  refine ⟨h.1, ?_⟩
  rcases h.2 with q | ⟨g, cap, cur, h1, h2, h3⟩
  · exact Or.inl q
  · exact Or.inr ⟨g, cap, cur, h1, Nat.le_trans hb h2, h3⟩
/- A stack that is being put together: the cell, the stack, its bins. -/
structure Ki (wq : World) (p7 k8 x y : Nat) (v : Value) (bs : List Int) (w : World) : Prop where
  bel : Below wq.heap.size wq w
  p : w.heap[p7]? = some (.cells #[.int .i64 (x : Int), .int .i64 (y : Int)] 39 (0, 0))
  k : w.heap[k8]? = some (.cells #[.int .i64 (x : Int), .int .i64 (y : Int), v] 59 (0, 0))
  own : w.ownsRow (k8 + 1) 3 1 v bs.length (rowL intL bs)
  pq : wq.heap.size ≤ p7
  pk : p7 < k8
theorem Ki.go {wq : World} {p7 k8 x y : Nat} {v : Value} {bs : List Int} {w w' : World} (h : Ki wq p7 k8 x y v bs w) (b : Below w.heap.size w w') : Ki wq p7 k8 x y v bs w' :=
  ⟨h.bel.trans (b.mono h.bel.size), (b.block _ (lt_of_heap h.p)).trans h.p, (b.block _ (lt_of_heap h.k)).trans h.k, owns_go h.own b, h.pq, h.pk⟩
theorem Ki.app {wq : World} {p7 k8 x y : Nat} {v : Value} {bs : List Int} {w : World} (h : Ki wq p7 k8 x y v bs w) {F : Nat → Prop} {v2 : Value} {l : List Int} (hl : ListAt 1 intEl F l v2 w) (hm : bs.length + l.length ≤ 1000) (ty : TypeId) :
    ∃ a n cap w', (Builtin.append_ #[48, 48] ty #[v, v2]).run Try.prog w = .ok (.slice a n cap) w' ∧ w'.cell? ⟨k8, 2, none⟩ = some v ∧ w'.frozen? ⟨k8, 2, none⟩ = false ∧ Below wq.heap.size wq w' ∧ Ki wq p7 k8 x y (.slice a n cap) (bs ++ l) (w'.setCell ⟨k8, 2, none⟩ (.slice a n cap)) := by
  have hk := lt_of_heap h.k
  obtain ⟨v', w', hrun, own', hg, hat⟩ := run_app kindInt h.own hl (by omega) (by unfold maxLen; omega) (by omega) ty
  have hp := lt_of_heap h.p
  have pk := h.pk
  have pq := h.pq
  have kp : ∀ b, b < w.heap.size → b ≤ k8 → w'.heap[b]? = w.heap[b]? := fun b hb h2 => hg.block b hb fun e => by have := (h.own.lt b e.symm).1; omega
  have hsl : ∃ a n cap, v' = .slice a n cap := by
    rcases own'.2 with ⟨e, _⟩ | ⟨g, c, cur, e, _⟩
    · exact ⟨_, _, _, e⟩
    · exact ⟨_, _, _, e⟩
  obtain ⟨a, n, cap, rfl⟩ := hsl
  have e0 : ∀ b, b ≠ k8 → (w'.setCell ⟨k8, 2, none⟩ (.slice a n cap)).heap[b]? = w'.heap[b]? := fun b hb => heap_setCell_other _ _ _ _ hb
  have hk' := (kp k8 hk (Nat.le_refl _)).trans h.k
  have bel' : Below wq.heap.size wq w' := ⟨hg.os.trans h.bel.os, hg.tape.trans h.bel.tape, hg.output.trans h.bel.output, Nat.le_trans h.bel.size hg.size, fun b hb => (kp b (Nat.lt_of_lt_of_le hb h.bel.size) (by omega)).trans (h.bel.block b hb)⟩
  refine ⟨a, n, cap, w', hrun, by rw [cell_of hk']; rfl, by simp [World.frozen?, hk'], bel', ?_⟩
  exact ⟨below_set bel' (by omega) _ _, (e0 p7 (by omega)).trans ((kp p7 hp (by omega)).trans h.p), by rw [heap_setCell_same _ _ _ _ _ _ hk']; rfl, owns_same own' fun b hb => e0 b (by have := (own'.lt b hb).1; omega), pq, pk⟩
theorem run_build_op {o : Oper} {a : Act} {w : World} (t : TypeId) (parts : Array (Nat × Operand)) (ho : o.op = .build t parts) (vs : List (Nat × Value)) (cs : Array Value) (hv : (parts.map fun (i, x) => (i, a.eval x)).toList = vs) (hf : Try.prog.built t vs = some cs) :
    (execOp a.eval o).run Try.prog w = .ok (.value (.agg cs)) w := by
  subst hv
  unfold execOp
  simp only [ho, Sem.run_bind, run_build w t _ _ hf, Result.andThen_ok, Sem.run_pure]
theorem built_rs (c : Conf) (vb vp vr vs : Value) (lb n : Nat) : Try.prog.built 76 [(0, .agg #[.int .i64 c.W, .int .i64 c.H, .int .i64 c.height, vb, vp, vr, vs, .int .i64 c.unit, .int .i64 c.accel, .int .i64 c.speed, .int .i64 c.turn, .int .i64 c.hoist, .int .i64 c.queue, .int .i64 c.resend, .int .i64 c.budget, .bool c.back]), (2, .slice (some ⟨lb, 0, none⟩) n n)] = some #[.int .i64 c.W, .int .i64 c.H, .int .i64 c.height, vb, vp, vr, vs, .int .i64 c.unit, .int .i64 c.accel, .int .i64 c.speed, .int .i64 c.turn, .int .i64 c.hoist, .int .i64 c.queue, .int .i64 c.resend, .int .i64 c.budget, .bool c.back, .slice none 0 0, .slice (some ⟨lb, 0, none⟩) n n] := by kernel_rfl
end Go.Proofs.Ytabbdclpjghdbaa.Stk
