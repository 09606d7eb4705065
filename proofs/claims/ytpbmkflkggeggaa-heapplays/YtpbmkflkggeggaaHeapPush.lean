/-
  One is put in.
-/
import Derived.Test.YtpbmkflkggeggaaHeapRise
import Derived.Maps.AppendAt
import Derived.Deep.CutRange
namespace Go.Proofs.Ytpbmkflkggeggaa.Hp
set_option linter.unusedVariables false
set_option linter.unusedSimpArgs false
open Go Go.RowKit Go.Shelf Go.Proofs
attribute [local go_sem] Oper.semAt_some
theorem infoIt : (Try.prog.info? 65).map (fun i => (i.zero, i.size, i.bytes)) = some (some (.agg #[.int .i64 0, .int .i64 0, .int .i64 0]), 3, 24) := by kernel_rfl
/- One is put behind a row. -/
theorem run_push {w : World} {B : Nat} {v : Value} {l : List It} (hown : w.ownsRow B 65 3 v l.length (rowL itL l)) (q : Nat) (x : It) (c0 : w.cell? ⟨q, 0, none⟩ = some (.int .i64 x.k)) (c1 : w.cell? ⟨q, 1, none⟩ = some (.int .i64 x.n)) (c2 : w.cell? ⟨q, 2, none⟩ = some (.int .i64 (x.t : Nat)))
    (hm : l.length ≤ 1000000) (hB : B ≤ w.heap.size) (ty : TypeId) :
    ∃ v' w', (Builtin.append_ #[61, 61] ty #[v, .slice (some ⟨q, 0, none⟩) 1 1]).run Try.prog w = .ok v' w' ∧ w'.ownsRow B 65 3 v' (l ++ [x]).length (rowL itL (l ++ [x])) ∧ w.grownBy w' v.ownBlock ∧ (v'.ownBlock = v.ownBlock ∨ v'.ownBlock = some w.heap.size) := by
  obtain ⟨i0, hi, hz0, hz1, hz2⟩ := info_parts infoIt
  obtain ⟨v', w', hrun, hown', hgrow, _, hat⟩ := run_append_own_at (P := Try.prog) w B 61 ty 65 i0 _ 3 24 Try.underlying61 hi hz0 hz1 hz2 rfl (by decide) v l.length _ hown ⟨q, 0, none⟩ 1 1 (itL x) (by rfl) (fun j u hj => by
      match j with
      | 0 => cases hj; exact c0
      | 1 => cases hj; exact c1
      | 2 => cases hj; exact c2
      | j + 3 => simp [itL] at hj) (fun u hu => by
      simp [itL] at hu
      rcases hu with rfl | rfl | rfl <;> rfl) (by unfold maxLen; omega) (by omega) hB
  exact ⟨v', w', hrun, by rw [List.length_append, rowL_append]; exact hown', hgrow, hat⟩
theorem step_push {w : World} {ops : Array Oper} {o : Oper} {a : Act} {K : Act → World → Prop} {Q : Exit → Act → World → Prop} {E : Prop} (hgd : o.guard = none) (s y : Operand)
    (ho : o.op = .call { callee := .builtin .append, args := #[s, y], argTypes := #[61, 61] }) (B : Nat) (v : Value) (l : List It) (hs : a.eval s = v) (hown : w.ownsRow B 65 3 v l.length (rowL itL l)) (q : Nat) (x : It) (hy : a.eval y = .slice (some ⟨q, 0, none⟩) 1 1)
    (c0 : w.cell? ⟨q, 0, none⟩ = some (.int .i64 x.k)) (c1 : w.cell? ⟨q, 1, none⟩ = some (.int .i64 x.n)) (c2 : w.cell? ⟨q, 2, none⟩ = some (.int .i64 (x.t : Nat))) (hm : l.length ≤ 1000000) (hB : B ≤ w.heap.size)
    (h : ∀ v' w', w'.ownsRow B 65 3 v' (l ++ [x]).length (rowL itL (l ++ [x])) → w.grownBy w' v.ownBlock → (v'.ownBlock = v.ownBlock ∨ v'.ownBlock = some w.heap.size) → K (a.put o.dst v') w') :
    if Region.wanted o (yielded ops a.tmps) = true then Oper.wp Try.prog o a w K Q else E := by
  have hw : Region.wanted o (yielded ops a.tmps) = true := by simp [Region.wanted, hgd]
  rw [if_pos hw]
  obtain ⟨v', w', hrun, h2, h3, h4⟩ := run_push hown q x c0 c1 c2 hm hB o.type
  unfold Oper.wp execOp
  simp only [ho, resolve, invoke, builtin, Sem.run_bind, Sem.run_pure, Result.andThen_ok, List.map_toArray, List.map_cons, List.map_nil, hs, hy, hrun]
  exact h v' w' h2 h3 h4
/- A heap, told by what it gives out. -/
def HpAt (B : Nat) (w : World) (b : Nat) (v : Value) (s : List It) (c : Nat) : Prop := ∃ l, HAt B w b v l c ∧ Holds l s c
theorem HpAt.lt {B : Nat} {w : World} {b : Nat} {v : Value} {s : List It} {c : Nat} (h : HpAt B w b v s c) : b < w.heap.size := by obtain ⟨l, h, _⟩ := h; exact h.lt
theorem HpAt.low {B : Nat} {w : World} {b : Nat} {v : Value} {s : List It} {c : Nat} (h : HpAt B w b v s c) : B ≤ b := by obtain ⟨l, h, _⟩ := h; exact h.low
theorem HpAt.own {B : Nat} {w : World} {b : Nat} {v : Value} {s : List It} {c : Nat} (h : HpAt B w b v s c) (k : Nat) (hk : v.ownBlock = some k) : B ≤ k ∧ k < w.heap.size ∧ k ≠ b := by
  obtain ⟨l, h, _⟩ := h
  exact ⟨(own_since h.row k hk).1, (own_since h.row k hk).2, fun e => h.apart (by rw [hk, e])⟩
theorem HpAt.same {B : Nat} {w w' : World} {b : Nat} {v : Value} {s : List It} {c : Nat} (h : HpAt B w b v s c) (hb : w'.heap[b]? = w.heap[b]?) (hv : ∀ k, v.ownBlock = some k → w'.heap[k]? = w.heap[k]?) : HpAt B w' b v s c := by
  obtain ⟨l, h, q⟩ := h
  exact ⟨l, h.same hb hv, q⟩
theorem HpAt.go {B : Nat} {w w' : World} {b : Nat} {v : Value} {s : List It} {c : Nat} (h : HpAt B w b v s c) (hb : Below w.heap.size w w') : HpAt B w' b v s c := by
  obtain ⟨l, h, q⟩ := h
  exact ⟨l, h.go hb, q⟩
theorem Tn.past {B b : Nat} {v v' : Value} {w w' : World} {s : List It} {c : Nat} (t : Tn b v v' w w') (h : HpAt B w b v s c) (hB : B ≤ w.heap.size) : Below B w w' := by
  obtain ⟨l, h, _⟩ := h
  exact t.since h hB
/- Two heaps apart: what is done to one leaves the other. -/
theorem HpAt.other {B b b2 : Nat} {v v' v2 : Value} {w w' : World} {s s2 : List It} {c c2 : Nat} (h : HpAt B w b v s c) (t : Tn b2 v2 v' w w') (h1 : b ≠ b2) (h2 : v2.ownBlock ≠ some b) (h3 : v.ownBlock ≠ some b2) (h4 : ∀ k, v.ownBlock = some k → v2.ownBlock ≠ some k) : HpAt B w' b v s c :=
  h.same (t.block b h.lt h1 h2) fun k hk => t.block k (h.own k hk).2.1 (fun e => h3 (by rw [hk, e])) (h4 k hk)
/- The row and the count of a heap are written anew. -/
theorem HAt.pushed {B : Nat} {w1 w2 : World} {b : Nat} {v v2 : Value} {l l2 : List It} {c c2 n : Nat} {z : Int} (h : HAt B w1 b v l c) (hz : z = (c2 : Nat)) (g : w1.grownBy w2 v.ownBlock) (a : v2.ownBlock = v.ownBlock ∨ v2.ownBlock = some w1.heap.size) (o : w2.ownsRow B 65 3 v2 n (rowL itL l2)) (hn : l2.length = n) :
    HAt B ((w2.setCell ⟨b, 1, none⟩ v2).setCell ⟨b, 2, none⟩ (.int .i64 z)) b v2 l2 c2 ∧ Tn b v v2 w1 ((w2.setCell ⟨b, 1, none⟩ v2).setCell ⟨b, 2, none⟩ (.int .i64 z)) := by
  have e2 : w2.heap[b]? = w1.heap[b]? := g.block b h.lt (fun e => h.apart e.symm)
  have ap : v2.ownBlock ≠ some b := fun e => by
    rcases a with q | q
    · exact h.apart (by rw [← q]; exact e)
    · rw [q] at e
      have := Option.some.inj e
      have := h.lt
      omega
  have bl : ∀ k, k ≠ b → ((w2.setCell ⟨b, 1, none⟩ v2).setCell ⟨b, 2, none⟩ (.int .i64 z)).heap[k]? = w2.heap[k]? := fun k hk => (Below.heap_setCell _ _ _ k hk).trans (Below.heap_setCell _ _ _ k hk)
  subst hn
  subst hz
  refine ⟨⟨?_, ?_, ?_, fun j => by rw [World.frozen?_setCell, World.frozen?_setCell]; exact (frozen_same e2).trans (h.froz j), owns_same o fun k hk => bl k (fun e => ap (by rw [hk, e])), ap, h.low⟩,
    ⟨g.os, g.tape, g.output, by simp only [World.setCell, Array.size_modify]; exact g.size, fun k hk hb hv => (bl k hb).trans (g.block k hk (fun e => hv e.symm)), fun k hk => ?_⟩⟩
  · exact (World.cell?_setCell_other _ _ _ _ (by intro e; cases e)).trans ((World.cell?_setCell_other _ _ _ _ (by intro e; cases e)).trans ((cell_same e2).trans h.less))
  · exact (World.cell?_setCell_other _ _ _ _ (by intro e; cases e)).trans (World.cell?_setCell_same _ _ _ ((cell_same e2).trans h.items))
  · exact World.cell?_setCell_same _ _ _ ((World.cell?_setCell_other _ _ _ _ (by intro e; cases e)).trans ((cell_same e2).trans h.puts))
  · rcases a with q | q
    · exact Or.inl (by rw [← q]; exact hk)
    · rw [q] at hk
      have := Option.some.inj hk
      exact Or.inr (by omega)
set_option maxRecDepth 100000 in
set_option maxHeartbeats 4000000 in
theorem push_any (B b : Nat) (v : Value) (s : List It) (c : Nat) (k n : Int) (w : World) (h : HpAt B w b v s c) (hm : s.length < 1000000) (hc : c < 1000000000) :
    Calls Try.prog 14 #[.pointer (some ⟨b, 0, none⟩), .agg #[.int .i64 k, .int .i64 n]] w fun e w' => e = .returned (.tuple #[]) ∧ ∃ v', HpAt B w' b v' (ins ⟨k, n, c⟩ s) (c + 1) ∧ Tn b v v' w w' := by
  obtain ⟨l, h, hh⟩ := h
  have hl : l.length < 1000000 := by rw [hh.len]; exact hm
  obtain ⟨w0, hw0⟩ : ∃ w0, w.alloc (.cells #[.int .i64 k, .int .i64 n] 27) = w0 := ⟨_, rfl⟩
  have b0 : Below w.heap.size w w0 := by rw [← hw0]; exact (Below.refl _ _).alloc (Nat.le_refl _) _
  have s0 : w0.heap.size = w.heap.size + 1 := by rw [← hw0]; simp
  have v0 : w0.cell? ⟨w.heap.size, 0, none⟩ = some (.int .i64 k) := by rw [← hw0]; simp
  have v1 : w0.cell? ⟨w.heap.size, 1, none⟩ = some (.int .i64 n) := by rw [← hw0]; simp
  have h0 := h.go b0
  have h1 := h0.items
  have h2 := h0.puts
  have f1 := h0.froz 1
  have f2 := h0.froz 2
  have hbl := h0.lt
  have hlow := h0.low
  obtain ⟨w1, hw1⟩ : ∃ w1, (w0.alloc (.cells #[.int .i64 k, .int .i64 n, .int .i64 (c : Nat)] 65)).drew = w1 := ⟨_, rfl⟩
  have b1 : Below w0.heap.size w0 w1 := by rw [← hw1]; exact ((Below.refl _ _).alloc (Nat.le_refl _) _).drew
  have h01 := h0.go b1
  have n0 : w1.cell? ⟨w0.heap.size, 0, none⟩ = some (.int .i64 k) := by rw [← hw1]; simp
  have n1 : w1.cell? ⟨w0.heap.size, 1, none⟩ = some (.int .i64 n) := by rw [← hw1]; simp
  have n2 : w1.cell? ⟨w0.heap.size, 2, none⟩ = some (.int .i64 (c : Nat)) := by rw [← hw1]; simp
  have hrow := h01.row
  have h11 := h01.items
  have h12 := h01.puts
  obtain ⟨va, vc, rfl, _⟩ := own_form h.row
  have ap := h.apart
  go_enter Try.func14, Try.ntmps14
  go_upto_region 1 with fail
  try rw [hw0]
  go_cut [] from 4 to 18 (fun wx => ∃ va2 vc2 w2, w2.ownsRow B 65 3 (.slice va2 (l.length + 1) vc2) (l.length + 1) (rowL itL (l ++ [⟨k, n, c⟩])) ∧ w1.grownBy w2 (Value.slice va l.length vc).ownBlock ∧ ((Value.slice va2 (l.length + 1) vc2).ownBlock = (Value.slice va l.length vc).ownBlock ∨ (Value.slice va2 (l.length + 1) vc2).ownBlock = some w1.heap.size) ∧ wx = w2.setCell ⟨b, 1, none⟩ (.slice va2 (l.length + 1) vc2))
  case first =>
    go_region_law (refine step_push (by rfl) (.tmp 8) (.tmp 15) (by rfl) B (.slice va l.length vc) l (by simp [Act.eval, Act.put]) hrow w0.heap.size ⟨k, n, c⟩ (by simp [Act.eval, Act.put]) n0 n1 n2 (by omega) (by have := b1.size; omega) ?_; intro v2 w2 o2 g2 a2; rw [show (l ++ [(⟨k, n, c⟩ : It)]).length = l.length + 1 by simp] at o2; obtain ⟨va2, vc2, rfl, _⟩ := own_form o2; have e2 : w2.heap[b]? = w1.heap[b]? := g2.block b (by have := b1.size; omega) (fun e => ap e.symm); have k1 := (cell_same (o := 1) e2).trans h01.items; have k2 := (cell_same (o := 2) e2).trans h01.puts; have r1 := (frozen_same (o := 1) e2).trans (h01.froz 1); have r2 := (frozen_same (o := 2) e2).trans (h01.froz 2); have k0 := (cell_same (o := 0) e2).trans h01.less; have r3 := fun o => (frozen_same (o := o) e2).trans (h01.froz o))
    all_goals
      go_wp2_with fail
      go_meet
      exact ⟨va2, vc2, w2, o2, g2, a2, rfl⟩
  case rest =>
    obtain ⟨va2, vc2, w2, o2, g2, a2, rfl⟩ := hcut
    have e2 : w2.heap[b]? = w1.heap[b]? := g2.block b (by have := b1.size; omega) (fun e => ap e.symm)
    have k1 := (cell_same (o := 1) e2).trans h01.items
    have k2 := (cell_same (o := 2) e2).trans h01.puts
    have r1 := (frozen_same (o := 1) e2).trans (h01.froz 1)
    have r2 := (frozen_same (o := 2) e2).trans (h01.froz 2)
    have P := h01.pushed (c2 := c + 1) (z := (c : Int) + 1) (by omega) g2 a2 o2 (by simp)
    have cR := rise_any B b _ _ _ _ P.1 (by simp; omega) l.length (by simp) (rise_start hh.heap)
    have HT : Hid (Tn b (.slice va l.length vc) (.slice va2 (l.length + 1) vc2) w _) := (Tn.below (b := b) (v := .slice va l.length vc) (bcat b0 b1)).trans P.2
    have HH : Hid (Holds l s c) := hh
    clear P hh h01 h0 h h1 h2 f1 f2 n0 n1 n2 hrow h11 h12 e2 o2 g2 a2 b0 b1 hw0 hw1 v0 v1
    go_wp2_with (go_at_call 37; refine cR.mono ?_; rintro e w4 ⟨rfl, l4, h4, p4, q4, t4⟩)
    go_end0
    exact ⟨rfl, _, ⟨l4, h4, HH.out.push rfl p4 q4⟩, HT.out.trans t4⟩
end Go.Proofs.Ytpbmkflkggeggaa.Hp
