/-
  A run's places, reckoned once and kept.
-/
import Derived.Test.YtjblplaaogbkiaaKinOnce
import Derived.Test.YtjblplaaogbkiaaKinOrder
import Derived.Maps.AppendAt
namespace Go.Proofs.Ytjblplaaogbkiaa.Kin
set_option linter.unusedVariables false
set_option linter.unusedSimpArgs false
open Go Go.RowKit Go.Shelf Go.Proofs
attribute [local go_sem] Oper.semAt_some

def ints (l : List Nat) : List Value := l.map fun z => .int .i64 (z : Nat)
theorem ints_len (l : List Nat) : (ints l).length = l.length := List.length_map _
theorem infoInt : (Try.prog.info? 3).map (fun i => (i.zero, i.size, i.bytes)) = some (some (.int .i64 0), 1, 8) := by kernel_rfl
theorem run_append_op {P : Program} {o : Oper} {a : Act} {w w' : World} {t : TypeId} {r : Value} (hg : o.guard = none) (s x : Operand)
    (hop : o.op = .call { callee := .builtin .append, args := #[s, x], argTypes := #[t, t] }) (v u : Value) (hs : a.eval s = v) (hx : a.eval x = u) (hrun : (Builtin.append_ #[t, t] o.type #[v, u]).run P w = .ok r w') : (execOp a.eval o).run P w = .ok (.value r) w' := by
  simp [execOp, hop, resolve, invoke, builtin, hs, hx, hrun, Result.andThen]
theorem box_kept {X Y : World} {row : Option Nat} {B : Nat} {t : TypeId} {v : Value} (hv : Boxed X B t v) (hg : X.grownBy Y row) (hrow : ∀ r, row = some r → ∃ o : Obj, X.heap[r]? = some o ∧ o.isCells = false) : Boxed Y B t v := by
  refine hv.kept hg (fun e' => ?_)
  obtain ⟨o, ho, hc⟩ := hrow B e'.symm
  rw [show X.heap[B]? = _ from hv] at ho; cases ho; cases hc
theorem row_kept {X Y : World} {row : Option Nat} {base : Nat} {e : TypeId} {size n : Nat} {v : Value} {xs : List Value} (hr : X.ownsRow base e size v n xs) (hg : X.grownBy Y row) (hrow : ∀ r, row = some r → ∃ o : Obj, X.heap[r]? = some o ∧ o.isCells = false) : Y.ownsRow base e size v n xs := by
  refine hr.kept hg ?_
  rcases hr.2 with ⟨rfl, _⟩ | ⟨g, cap, cur, rfl, _, hgb, _⟩
  · exact .inl rfl
  · refine .inr fun e' => ?_
    obtain ⟨o, ho, hc⟩ := hrow g (by simpa [Value.ownBlock] using e'.symm)
    rw [hgb] at ho; cases ho; cases hc
theorem cell_same {w w' : World} {b o : Nat} (h : w'.heap[b]? = w.heap[b]?) : w'.cell? ⟨b, o, none⟩ = w.cell? ⟨b, o, none⟩ := by unfold World.cell?; rw [h]
theorem frozen_same {w w' : World} {b o : Nat} (h : w'.heap[b]? = w.heap[b]?) : w'.frozen? ⟨b, o, none⟩ = w.frozen? ⟨b, o, none⟩ := by unfold World.frozen?; rw [h]

/- From w to V: of what there was, one cell of block b has turned, and nothing else. -/
structure OneCell (w : World) (b o1 : Nat) (V : World) : Prop where
  os : V.os = w.os
  tape : V.tape = w.tape
  output : V.output = w.output
  size : w.heap.size ≤ V.heap.size
  block : ∀ k, k < w.heap.size → k ≠ b → V.heap[k]? = w.heap[k]?
  cells : ∀ o, o ≠ o1 → V.cell? ⟨b, o, none⟩ = w.cell? ⟨b, o, none⟩
  froz : ∀ o, V.frozen? ⟨b, o, none⟩ = w.frozen? ⟨b, o, none⟩
theorem OneCell.kept {w V V' : World} {b o1 : Nat} {row : Option Nat} (h : OneCell w b o1 V) (hb : b < w.heap.size) (hg : V.grownBy V' row) (hr : ∀ k, row = some k → w.heap.size ≤ k) : OneCell w b o1 V' := by
  have hs := h.size
  have same : ∀ k, k < w.heap.size → V'.heap[k]? = V.heap[k]? := fun k hk => hg.block k (by omega) (fun e => by have := hr k e.symm; omega)
  exact ⟨hg.os.trans h.os, hg.tape.trans h.tape, hg.output.trans h.output, Nat.le_trans hs hg.size, fun k hk hn => (same k hk).trans (h.block k hk hn), fun o ho => (cell_same (same b hb)).trans (h.cells o ho), fun o => (frozen_same (same b hb)).trans (h.froz o)⟩
theorem OneCell.go {w V V' : World} {b o1 : Nat} (h : OneCell w b o1 V) (hb : b < w.heap.size) (hB : Below V.heap.size V V') : OneCell w b o1 V' := h.kept hb (row := none) (grown_of_below hB) (fun k e => by cases e)
theorem OneCell.set {w V : World} {b o1 : Nat} (h : OneCell w b o1 V) (x : Value) : OneCell w b o1 (V.setCell ⟨b, o1, none⟩ x) :=
  ⟨h.os, h.tape, h.output, by simp [World.setCell]; exact h.size, fun k hk hn => (Below.heap_setCell _ _ _ k (by simpa using hn)).trans (h.block k hk hn),
    fun o ho => (World.cell?_setCell_other _ _ _ _ (by intro e; apply ho; cases e; rfl)).trans (h.cells o ho), fun o => by rw [World.frozen?_setCell]; exact h.froz o⟩
theorem OneCell.refl (w : World) (b o1 : Nat) : OneCell w b o1 w := ⟨rfl, rfl, rfl, Nat.le_refl _, fun _ _ _ => rfl, fun _ _ => rfl, fun _ => rfl⟩
/- What has been told so far: the place, the places. -/
structure PI (w : World) (b off P B : Nat) (pre : List Spd) (V : World) : Prop where
  place : Boxed V P 3 (.int .i64 ((pre.map Subtype.val).sum : Nat))
  told : ∃ x, V.cell? ⟨b, off + 3, none⟩ = some x ∧ V.ownsRow B 3 1 x pre.length (ints (sums 0 (pre.map Subtype.val)))
  one : OneCell w b (off + 3) V
theorem pi_own {w : World} {b off P B N : Nat} (hb : b < w.heap.size) (hP : P < N) (hN : w.heap.size ≤ N) : OwnFrom N (fun (pre : List Spd) V => PI w b off P B pre V) := by
  intro pre X Y row h hg hr
  have hr' := fun r e => (hr r e).2
  obtain ⟨x, h1, h2⟩ := h.told
  refine ⟨box_kept h.place hg hr', ⟨x, (cell_same (hg.block b ?_ ?_)).trans h1, row_kept h2 hg hr'⟩, h.one.kept hb hg (fun k e => Nat.le_trans hN (hr k e).1)⟩
  · exact World.block_lt_of_cell? X _ h1
  · intro e
    have := (hr b e.symm).1
    omega
theorem steps_step (b : Nat) (left s rise : Int) (w : World) : Calls Try.prog 38 #[.pointer (some ⟨b, 0, none⟩), .int .i64 left, .int .i64 s, .int .i64 rise] w fun e w' => ∃ vf, e = .returned vf ∧
    (vf = .func (.func 41) #[] #[.pointer (some ⟨w.heap.size + 1, 0, none⟩), .pointer (some ⟨w.heap.size + 2, 0, none⟩), .pointer (some ⟨w.heap.size, 0, none⟩), .pointer (some ⟨w.heap.size + 3, 0, none⟩)] ∧
    w' = (((w.alloc (.cells #[.pointer (some ⟨b, 0, none⟩)] 22)).alloc (.cells #[.int .i64 left] 3)).alloc (.cells #[.int .i64 s] 3)).alloc (.cells #[.int .i64 rise] 3)) :=
  (steps_any b left s rise w).mono (fun e w' h => ⟨_, h.1, rfl, h.2⟩)
theorem mul_small {n u : Nat} (hn : n ≤ 16) (hu : u ≤ 1000) : n * u ≤ 16000 := Nat.le_trans (Nat.mul_le_mul hn hu) (Nat.le_refl _)
set_option maxRecDepth 100000 in
set_option maxHeartbeats 4000000 in
theorem places1_in (b off u a v n Bk Bn Bp : Nat) (w : World) (hK : KAt w b u a v) (hu2 : u ≤ 1000) (ha : 1 ≤ a) (ha2 : a ≤ 1000) (hv1 : 1 ≤ v) (hv : v ≤ 1000) (hn1 : 1 ≤ n) (hn : n ≤ 16)
    (hbk : w.cell? ⟨Bk, 0, none⟩ = some (.pointer (some ⟨b, 0, none⟩))) (hbn : w.cell? ⟨Bn, 0, none⟩ = some (.int .i64 n)) (hbp : w.cell? ⟨Bp, 0, none⟩ = some (.pointer (some ⟨b, off, none⟩)))
    (hoff : 3 ≤ off) (hc : w.cell? ⟨b, off + 3, none⟩ = some (.slice none 0 0)) (hz : w.frozen? ⟨b, off + 3, none⟩ = false) (hne : Bp ≠ b) :
    CallsIn Fence.wide 9 Try.prog 40 #[.pointer (some ⟨Bk, 0, none⟩), .pointer (some ⟨Bn, 0, none⟩), .pointer (some ⟨Bp, 0, none⟩)] w fun e w' => e = .returned (.tuple #[]) ∧ OneCell w b (off + 3) w' ∧
      ∃ x, w'.cell? ⟨b, off + 3, none⟩ = some x ∧ w'.ownsRow w.heap.size 3 1 x (spd u a v n).length (ints (prof u a v n)) := by
  have hnu := mul_small hn hu2
  have HM : Hid (IntKind.i64.wrap ((n : Int) * (u : Int)) = ((n * u : Nat) : Int)) := by
    unfold Hid
    rw [IntKind.wrap_i64, ← Int.natCast_mul]
    omega
  have hb := hK.lt
  refine callsIn_of_wp_marks Try.func40 rfl trivial ?_ rfl
  simp only [Try.ntmps40, List.size_toArray, List.length_cons, List.length_nil, Nat.reduceAdd, Nat.reduceSub, Array.replicate_succ, Array.replicate_zero, List.push_toArray, List.append_toArray, List.nil_append, List.cons_append]
  gi_wp2
  refine wpIn_wide.2 ?_
  obtain ⟨w2, hw2⟩ : ∃ w2, w.alloc (.cells #[.int .i64 0] 3) = w2 := ⟨_, rfl⟩
  have b2 : Below w.heap.size w w2 := by rw [← hw2]; exact (Below.refl _ _).alloc (Nat.le_refl _) _
  have s2 : w2.heap.size = w.heap.size + 1 := by rw [← hw2]; simp
  have p2 : Boxed w2 w.heap.size 3 (.int .i64 0) := by rw [← hw2]; exact Boxed.new _ _ _
  rw [hw2]
  clear hw2
  obtain ⟨IH, hIH⟩ : ∃ I : World → Prop, I = Below w2.heap.size w2 := ⟨_, rfl⟩
  have kI : ∀ u, IH u → Below w.heap.size w u := fun u hu => by rw [hIH] at hu; exact bcat b2 hu
  have hS : IH w2.drew := by rw [hIH]; exact (Below.refl _ _).drew
  have L0 : ∀ u, IH u → u.cell? ⟨Bk, 0, none⟩ = some (.pointer (some ⟨b, 0, none⟩)) := fun u hu => ((kI u hu).cell (p := ⟨Bk, 0, none⟩) (World.block_lt_of_cell? w _ hbk)).trans hbk
  have L1 : ∀ u, IH u → u.cell? ⟨Bn, 0, none⟩ = some (.int .i64 n) := fun u hu => ((kI u hu).cell (p := ⟨Bn, 0, none⟩) (World.block_lt_of_cell? w _ hbn)).trans hbn
  have L2 : ∀ x, IH x → x.cell? ⟨b, 0, none⟩ = some (.int .i64 u) := fun x hx => (hK.go (kI x hx)).unit
  have L3 : ∀ x, IH x → x.cell? ⟨b, 1, none⟩ = some (.int .i64 a) := fun x hx => (hK.go (kI x hx)).accel
  refine calm_wp ?_
  refine start_held (S := IH) 12 rfl (by kernel_rfl) (hS) ?_
  simp only [Array.replicate_succ, Array.replicate_zero, List.push_toArray, List.nil_append, List.cons_append]
  refine take_held 0 (by assumption) rfl (by kernel_rfl) (by kernel_rfl) (by kernel_rfl) (fun _ _ _ h => h) (by kernel_rfl) (v := ?v0) ?y0 ?r0
  case y0 => (intro u hu; have zz0 := L0 u hu; go_simp; try rfl)
  simp only [Act.put, List.setIfInBounds_toArray, List.set_cons_zero, List.set_cons_succ]
  refine take_held 1 (by assumption) rfl (by kernel_rfl) (by kernel_rfl) (by kernel_rfl) (fun _ _ _ h => h) (by kernel_rfl) (v := ?v1) ?y1 ?r1
  case y1 => (intro u hu; have zz0 := L1 u hu; go_simp; try rfl)
  simp only [Act.put, List.setIfInBounds_toArray, List.set_cons_zero, List.set_cons_succ]
  refine take_held 2 (by assumption) rfl (by kernel_rfl) (by kernel_rfl) (by kernel_rfl) (fun _ _ _ h => h) (by kernel_rfl) (v := ?v2) ?y2 ?r2
  case y2 => (intro u hu; have zz0 := L0 u hu; go_simp; try rfl)
  simp only [Act.put, List.setIfInBounds_toArray, List.set_cons_zero, List.set_cons_succ]
  refine take_held 3 (by assumption) rfl (by kernel_rfl) (by kernel_rfl) (by kernel_rfl) (fun _ _ _ h => h) (by kernel_rfl) (v := ?v3) ?y3 ?r3
  case y3 => (intro u hu; go_simp; try rfl)
  simp only [Act.put, List.setIfInBounds_toArray, List.set_cons_zero, List.set_cons_succ]
  refine take_held 4 (by assumption) rfl (by kernel_rfl) (by kernel_rfl) (by kernel_rfl) (fun _ _ _ h => h) (by kernel_rfl) (v := ?v4) ?y4 ?r4
  case y4 => (intro u hu; go_simp; try rfl)
  simp only [Act.put, List.setIfInBounds_toArray, List.set_cons_zero, List.set_cons_succ]
  refine take_held 5 (by assumption) rfl (by kernel_rfl) (by kernel_rfl) (by kernel_rfl) (fun _ _ _ h => h) (by kernel_rfl) (v := ?v5) ?y5 ?r5
  case y5 => (intro u hu; have zz0 := L2 u hu; go_simp; try rfl)
  simp only [Act.put, List.setIfInBounds_toArray, List.set_cons_zero, List.set_cons_succ]
  refine take_held 6 (by assumption) rfl (by kernel_rfl) (by kernel_rfl) (by kernel_rfl) (fun _ _ _ h => h) (by kernel_rfl) (v := ?v6) ?y6 ?r6
  case y6 => (intro u hu; have zz := HM.out; go_simp; try rfl)
  simp only [Act.put, List.setIfInBounds_toArray, List.set_cons_zero, List.set_cons_succ]
  refine take_held 7 (by assumption) rfl (by kernel_rfl) (by kernel_rfl) (by kernel_rfl) (fun _ _ _ h => h) (by kernel_rfl) (v := ?v7) ?y7 ?r7
  case y7 => (intro u hu; have zz0 := L0 u hu; go_simp; try rfl)
  simp only [Act.put, List.setIfInBounds_toArray, List.set_cons_zero, List.set_cons_succ]
  refine take_held 8 (by assumption) rfl (by kernel_rfl) (by kernel_rfl) (by kernel_rfl) (fun _ _ _ h => h) (by kernel_rfl) (v := ?v8) ?y8 ?r8
  case y8 => (intro u hu; go_simp; try rfl)
  simp only [Act.put, List.setIfInBounds_toArray, List.set_cons_zero, List.set_cons_succ]
  refine take_held 9 (by assumption) rfl (by kernel_rfl) (by kernel_rfl) (by kernel_rfl) (fun _ _ _ h => h) (by kernel_rfl) (v := ?v9) ?y9 ?r9
  case y9 => (intro u hu; go_simp; try rfl)
  simp only [Act.put, List.setIfInBounds_toArray, List.set_cons_zero, List.set_cons_succ]
  refine take_held 10 (by assumption) rfl (by kernel_rfl) (by kernel_rfl) (by kernel_rfl) (fun _ _ _ h => h) (by kernel_rfl) (v := ?v10) ?y10 ?r10
  case y10 => (intro u hu; have zz0 := L3 u hu; go_simp; try rfl)
  simp only [Act.put, List.setIfInBounds_toArray, List.set_cons_zero, List.set_cons_succ]
  refine wpAnyH_ready (rs := [11]) (by kernel_rfl) (by simp) (AllReadyH.cons ((nth_eq _ 11).trans rfl) ?_ AllReadyH.nil)
  intro K' hK'
  refine call_in hK' (by kernel_rfl) 38 #[.pointer (some ⟨b, 0, none⟩), .int .i64 ((n : Int) * (u : Int)), .int .i64 0, .int .i64 a] (by go_simp) _ (steps_step b ((n : Int) * (u : Int)) 0 a _) ?_
  rintro vf V ⟨rfl, hV⟩
  have bV : Below w2.heap.size w2 V := by rw [hV]; exact (((((Below.refl _ w2).drew.alloc (Nat.le_refl _) _).alloc (by simp) _).alloc (by simp; omega) _).alloc (by simp; omega) _)
  refine ⟨by rw [hIH]; exact bV, ?_⟩
  simp only [Act.put, List.setIfInBounds_toArray, List.set_cons_zero, List.set_cons_succ]
  refine done_calm (by kernel_rfl) ?_ _
  have sV : V.heap.size = w.heap.size + 5 := by rw [hV]; simp [s2]
  have e2 : w2.drew.heap.size = w.heap.size + 1 := s2
  have kV : Boxed V (w.heap.size + 1) 22 (.pointer (some ⟨b, 0, none⟩)) := by
    rw [hV, ← s2]
    exact (((Boxed.new w2.drew _ _).alloc _).alloc _).alloc _
  have lV : Boxed V (w.heap.size + 2) 3 (.int .i64 ((n * u : Nat) : Int)) := by
    rw [hV, Int.natCast_mul]
    have := Boxed.new (w2.drew.alloc (.cells #[.pointer (some ⟨b, 0, none⟩)] 22)) 3 (.int .i64 ((n : Int) * (u : Int)))
    rw [World.size_alloc, e2] at this
    exact (this.alloc _).alloc _
  have sV2 : Boxed V (w.heap.size + 3) 3 (.int .i64 ((0 : Nat) : Int)) := by
    rw [hV]
    have := Boxed.new ((w2.drew.alloc (.cells #[.pointer (some ⟨b, 0, none⟩)] 22)).alloc (.cells #[.int .i64 ((n : Int) * (u : Int))] 3)) 3 (.int .i64 0)
    rw [World.size_alloc, World.size_alloc, e2] at this
    exact this.alloc _
  have rV : Boxed V (w.heap.size + 4) 3 (.int .i64 (a : Int)) := by
    rw [hV]
    have := Boxed.new (((w2.drew.alloc (.cells #[.pointer (some ⟨b, 0, none⟩)] 22)).alloc (.cells #[.int .i64 ((n : Int) * (u : Int))] 3)).alloc (.cells #[.int .i64 0] 3)) 3 (.int .i64 a)
    rw [World.size_alloc, World.size_alloc, World.size_alloc, e2] at this
    exact this
  have pV : Boxed V w.heap.size 3 (.int .i64 0) := (bV.block _ p2.lt).trans p2
  have bwV := bcat b2 bV
  rw [e2]
  clear hV hIH kI hS L0 L1 L2 L3
  gi_wp2
  refine wpIn_rangeFunc_ownG rfl (by omega) (gf := 41) (lb := #[.pointer (some ⟨w.heap.size + 2, 0, none⟩), .pointer (some ⟨w.heap.size + 3, 0, none⟩), .pointer (some ⟨w.heap.size + 1, 0, none⟩), .pointer (some ⟨w.heap.size + 4, 0, none⟩)]) rfl trivial (enters_of Try.func41 (by kernel_rfl) rfl)
    (steps_stops 8 b u a v (w.heap.size + 1) (w.heap.size + 2) (w.heap.size + 3) (w.heap.size + 4) (n * u) 0 a ha ha2 hv1 hv (by omega) (by omega) ha2 (by omega) (by omega) V (hK.go bwV) kV lV.cell sV2.cell rV) Kp.trans ?kb (Below.refl _ _) (fun _ => rfl)
    (fun pre V' => PI w b off w.heap.size V.heap.size pre V' ∧ Boxed V' (w.heap.size + 1) 22 (.pointer (some ⟨b, 0, none⟩)) ∧ Boxed V' (w.heap.size + 4) 3 (.int .i64 (a : Int))) (fun _ _ _ => False)
    ?own (fun _ _ _ _ _ hs _ _ => hs)
    ⟨⟨pV, ⟨.slice none 0 0, (bwV.cell (p := ⟨b, off + 3, none⟩) hb).trans hc, World.ownsRow_nil _ _ _ _⟩, (OneCell.refl w b _).go hb bwV⟩, kV, rV⟩
    ?a1 ?assign ?body ?done ?stop
  case kb =>
    intro W' l o o' hl ho _ _
    have hlt := (Array.getElem?_eq_some_iff.1 ho).1
    have hg := grownBy_putObj' W' l o'
    exact ⟨fun o _ => cell_same (hg.block _ (by omega) (fun e => by cases e; omega)), hg.block _ (by omega) (fun e => by cases e; omega), hg.block _ (by omega) (fun e => by cases e; omega)⟩
  case own =>
    intro pre X Y row h hg hr
    exact ⟨pi_own hb (by omega) (by omega) pre X Y row h.1 hg hr, box_kept h.2.1 hg (fun r e => (hr r e).2), box_kept h.2.2 hg (fun r e => (hr r e).2)⟩
  case assign =>
    intro l q V' K hK
    simp only [encq]
    gi_wp2
    exact hK
  case done =>
    rintro D ys V' hD hys ⟨hI, _, _⟩ hKD
    gi_wp2
    obtain ⟨x, hx, hrow⟩ := hI.told
    have hlen : ys.length = (spd u a v n).length := by
      have := congrArg List.length hys
      rw [List.length_map] at this
      exact this
    have hpr : sums 0 (ys.map Subtype.val) = prof u a v n := by rw [hys]; rfl
    rw [hpr, hlen] at hrow
    refine ⟨by simp, .inl ⟨_, _, rfl, run_takeDeferred hKD, ?_⟩⟩
    refine ⟨_, results_none rfl _ _ _, rfl, hI.one.kept hb (grownBy_putObj' V' D (.deferred none)) (fun k e => by cases e; omega), x, ?_, ?_⟩
    · exact (cell_same ((grownBy_putObj' V' D (.deferred none)).block b (World.block_lt_of_cell? V' _ hx) (fun e => by cases e; omega))).trans hx
    · exact owns_base (by omega) (ownsRow_putObj hrow _ hKD rfl)
  case stop =>
    rintro D c pre V' _ _ h _
    exact h.elim
  case body =>
    rintro l pre q V' ⟨hI, hk4, hr4⟩ hlt
    obtain ⟨x, hx, hrow⟩ := hI.told
    have hq := q.2
    have hcP := hI.place.cell
    have hfP := hI.place.frozen
    have hrl : (runs a v a (n * u) 0).length ≤ 16000 := by have := (runs_len (a := a) (v := v) (rise := a) (left := n * u) (s := 0) ha hv1 (by omega)).1; omega
    have hsum : (pre.map Subtype.val).sum ≤ 16000000 := by
      have := sum_le_mul (pre.map Subtype.val) 1000 (fun y hy => by obtain ⟨z, hz, rfl⟩ := List.mem_map.1 hy; exact z.2.2)
      rw [List.length_map] at this
      omega
    have hpb := World.block_lt_of_cell? w _ hbp
    have hpb' : Bp < w.heap.size := hpb
    have hp0 : V'.cell? ⟨Bp, 0, none⟩ = some (.pointer (some ⟨b, off, none⟩)) := (cell_same (hI.one.block Bp hpb hne)).trans hbp
    have hfz : V'.frozen? ⟨b, off + 3, none⟩ = false := (hI.one.froz _).trans hz
    have hV's := hI.one.size
    have hrs := own_since hrow
    have k5 := hk4.lt
    have k6 := hr4.lt
    have k7 := hI.place.lt
    have hbV : b < V'.heap.size := by omega
    have hx' := World.block_lt_of_cell? V' _ hx
    generalize hs1 : (pre.map Subtype.val).sum = sm at *
    obtain ⟨tq, htq⟩ : ∃ t, sm + q.1 = t := ⟨_, rfl⟩
    have etq : (tq : Int) = (sm : Int) + (q.1 : Int) := by omega
    obtain ⟨V3, hV3⟩ : ∃ V3, V'.setCell ⟨w.heap.size, 0, none⟩ (.int .i64 ((sm : Int) + (q.1 : Int))) = V3 := ⟨_, rfl⟩
    have g3 : V'.grownBy V3 (some w.heap.size) := by rw [← hV3]; exact grownBy_setCell' _ _ _
    have b3 : Boxed V3 w.heap.size 3 (.int .i64 (tq : Int)) := by rw [← hV3, etq]; exact hI.place.set _
    have s3 : V3.heap.size = V'.heap.size := by rw [← hV3]; simp [World.setCell]
    have same3 : ∀ k, k < V'.heap.size → k ≠ w.heap.size → V3.heap[k]? = V'.heap[k]? := fun k hk hn => g3.block k hk (fun e => hn (by cases e; rfl))
    have p3 : V3.cell? ⟨Bp, 0, none⟩ = some (.pointer (some ⟨b, off, none⟩)) := (cell_same (same3 Bp (by omega) (by omega))).trans hp0
    have c3 : V3.cell? ⟨b, off + 3, none⟩ = some x := (cell_same (same3 b hbV (by omega))).trans hx
    have row3 : V3.ownsRow V.heap.size 3 1 x pre.length (ints (sums 0 (pre.map Subtype.val))) := owns_same hrow (fun k hk => same3 k (hrs k hk).2 (by have := (hrs k hk).1; omega))
    have one3 : OneCell w b (off + 3) V3 := hI.one.kept hb g3 (fun k e => by cases e; omega)
    obtain ⟨i0, hi, hz0, hz1, hz2⟩ := info_parts infoInt
    obtain ⟨A, hA⟩ : ∃ A, V3.drew.alloc (.cells #[.int .i64 (tq : Int)] 3) = A := ⟨_, rfl⟩
    have bA : Below V3.heap.size V3 A := by rw [← hA]; exact (Below.refl _ _).drew.alloc (Nat.le_refl _) _
    have sA : A.heap.size = V3.heap.size + 1 := by rw [← hA]; simp
    have hpl : pre.length ≤ 16000 := by omega
    obtain ⟨v6, w6, hrun, o6, g6, _⟩ := run_append_own (P := Try.prog) A V.heap.size 33 33 3 i0 (.int .i64 0) 1 8 Try.underlying33 hi hz0 hz1 hz2 rfl (by decide) x pre.length (ints (sums 0 (pre.map Subtype.val)))
      (owns_go row3 bA) ⟨V3.heap.size, 0, none⟩ 1 1 [.int .i64 (tq : Int)] rfl (by rw [← hA]; exact cell_one_new _ _ _) (by simp [Value.oneCell']) (by unfold maxLen; omega) (by omega) (by omega)
    obtain ⟨g, c6, rfl⟩ := ownsRow_succ o6
    have hgV : V.heap.size ≤ g ∧ g < w6.heap.size := own_since o6 g rfl
    have same6 : ∀ k, k < V'.heap.size → k ≠ w.heap.size → x.ownBlock ≠ some k → w6.heap[k]? = V'.heap[k]? := fun k hk h1 h2 =>
      (g6.block k (by omega) (fun e => h2 e.symm)).trans ((bA.block k (by omega)).trans (same3 k hk h1))
    have nb : ∀ k, k < V.heap.size → x.ownBlock ≠ some k := fun k hk e => by have := (hrs k e).1; omega
    have pl6 : Boxed w6 w.heap.size 3 (.int .i64 (tq : Int)) := (g6.block _ (by omega) (fun e => nb _ (by omega) e.symm)).trans ((bA.block _ (by omega)).trans b3)
    have c6b : w6.heap[b]? = V'.heap[b]? := same6 b hbV (by omega) (nb b (by omega))
    have c6c : w6.cell? ⟨b, off + 3, none⟩ = some x := (cell_same c6b).trans hx
    have z6 : w6.frozen? ⟨b, off + 3, none⟩ = false := (frozen_same c6b).trans hfz
    have c6p : w6.cell? ⟨Bp, 0, none⟩ = some (.pointer (some ⟨b, off, none⟩)) := (cell_same (same6 Bp (by omega) (by omega) (nb Bp (by omega)))).trans hp0
    have one6 : OneCell w b (off + 3) w6 := (one3.go hb bA).kept hb g6 (fun k e => by have := (hrs k e).1; omega)
    obtain ⟨IR, hIR⟩ : ∃ I : World → Prop, I = fun z => z.cell? ⟨Bp, 0, none⟩ = some (.pointer (some ⟨b, off, none⟩)) ∧ z.cell? ⟨w.heap.size, 0, none⟩ = some (.int .i64 (tq : Int)) := ⟨_, rfl⟩
    have R0 : ∀ z, IR z → z.cell? ⟨Bp, 0, none⟩ = some (.pointer (some ⟨b, off, none⟩)) := fun z hz => by rw [hIR] at hz; exact hz.1
    have R1 : ∀ z, IR z → z.cell? ⟨w.heap.size, 0, none⟩ = some (.int .i64 (tq : Int)) := fun z hz => by rw [hIR] at hz; exact hz.2
    have hSR : IR V3.drew := by rw [hIR]; exact ⟨p3, b3.cell⟩
    have S5 : IR A := by rw [hIR]; exact ⟨(bA.cell (p := ⟨Bp, 0, none⟩) (by show Bp < _; omega)).trans p3, (bA.cell (p := ⟨w.heap.size, 0, none⟩) (by show w.heap.size < _; omega)).trans b3.cell⟩
    have X5 : Hid (A.cell? ⟨b, off + 3, none⟩ = some x) := (bA.cell (p := ⟨b, off + 3, none⟩) (by show b < _; omega)).trans c3
    have S6 : IR w6 := by rw [hIR]; exact ⟨c6p, pl6.cell⟩
    have pl7 := pl6.other (B' := b) (by omega)
    have S7 : IR (w6.setCell ⟨b, off + 3, none⟩ (.slice (some ⟨g, 0, none⟩) (pre.length + 1) c6)) := by
      rw [hIR]
      exact ⟨(World.cell?_setCell_far _ _ _ _ (by show b ≠ Bp; omega)).trans c6p, (World.cell?_setCell_far _ _ _ _ (by show b ≠ w.heap.size; omega)).trans pl6.cell⟩
    have same7 : ∀ k, k ≠ b → (w6.setCell ⟨b, off + 3, none⟩ (.slice (some ⟨g, 0, none⟩) (pre.length + 1) c6)).heap[k]? = w6.heap[k]? := fun k hk => Below.heap_setCell _ _ _ k hk
    have HH : Hid (KeepsFrom V.heap.size V' (w6.setCell ⟨b, off + 3, none⟩ (.slice (some ⟨g, 0, none⟩) (pre.length + 1) c6)) ∧ Kp b (w.heap.size + 1) (w.heap.size + 4) V' (w6.setCell ⟨b, off + 3, none⟩ (.slice (some ⟨g, 0, none⟩) (pre.length + 1) c6)) ∧
        PI w b off w.heap.size V.heap.size (pre ++ [q]) (w6.setCell ⟨b, off + 3, none⟩ (.slice (some ⟨g, 0, none⟩) (pre.length + 1) c6)) ∧ Boxed (w6.setCell ⟨b, off + 3, none⟩ (.slice (some ⟨g, 0, none⟩) (pre.length + 1) c6)) (w.heap.size + 1) 22 (.pointer (some ⟨b, 0, none⟩)) ∧ Boxed (w6.setCell ⟨b, off + 3, none⟩ (.slice (some ⟨g, 0, none⟩) (pre.length + 1) c6)) (w.heap.size + 4) 3 (.int .i64 (a : Int))) := by
      refine ⟨⟨?_, fun k o hBk hk hnc => ?_⟩, ⟨fun o ho => ?_, ?_, ?_⟩, ⟨?_, ⟨_, World.cell?_setCell_same _ _ _ c6c, ?_⟩, one6.set _⟩, ?_, ?_⟩
      · have := g6.size
        simp [World.setCell]
        omega
      · rw [same7 k (by omega), same6 k (Array.getElem?_eq_some_iff.1 hk).1 (by omega) (fun e => ?_)]
        · exact hk
        · rcases hrow.2 with ⟨e', _⟩ | ⟨g', cap', cur', e', _, hg', _⟩
          · rw [e'] at e; cases e
          · rw [e'] at e; cases e; rw [hg'] at hk; cases hk; cases hnc
      · refine (World.cell?_setCell_other _ _ _ _ (by intro e; cases e; omega)).trans (cell_same c6b)
      · exact (same7 _ (by omega)).trans (same6 _ k5 (by omega) (nb _ (by omega)))
      · exact (same7 _ (by omega)).trans (same6 _ k6 (by omega) (nb _ (by omega)))
      · rw [List.map_append, List.sum_append, hs1, List.map_singleton, List.sum_singleton, htq]
        exact (same7 _ (by omega)).trans pl6
      · rw [List.map_append, List.map_singleton, sums_snoc, hs1, Nat.zero_add, List.length_append, htq]
        have e : ints (sums 0 (pre.map Subtype.val) ++ [tq]) = ints (sums 0 (pre.map Subtype.val)) ++ [.int .i64 (tq : Int)] := by unfold ints; rw [List.map_append]; rfl
        rw [e]
        exact owns_same o6 (fun k hk => by cases hk; exact same7 g (by omega))
      · exact ((same7 _ (by omega)).trans (same6 _ k5 (by omega) (nb _ (by omega)))).trans hk4
      · exact ((same7 _ (by omega)).trans (same6 _ k6 (by omega) (nb _ (by omega)))).trans hr4
    clear etq htq same7 same6 same3 nb one6 one3 pl6 pl7 row3 hrs hI hrow g6 g3 o6 c6b hk4 hr4 bA hgV
    gi_wp2
    try rw [hV3]
    clear hV3
    refine start_round (S := IR) 11 rfl (by kernel_rfl) (by kernel_rfl) (fun _ _ h => h) hSR ?_
    simp only [Array.replicate_succ, Array.replicate_zero, List.push_toArray, List.nil_append, List.cons_append]
    refine take_held 0 (by assumption) rfl (by kernel_rfl) (by kernel_rfl) (by kernel_rfl) (fun _ _ _ h => h) (by kernel_rfl) (v := ?v11) ?y11 ?r11
    case y11 => (intro u hu; have zz0 := R0 u hu; go_simp; try rfl)
    simp only [Act.put, List.setIfInBounds_toArray, List.set_cons_zero, List.set_cons_succ]
    refine take_held 1 (by assumption) rfl (by kernel_rfl) (by kernel_rfl) (by kernel_rfl) (fun _ _ _ h => h) (by kernel_rfl) (v := ?v12) ?y12 ?r12
    case y12 => (intro u hu; have zz0 := R0 u hu; go_simp; try rfl)
    simp only [Act.put, List.setIfInBounds_toArray, List.set_cons_zero, List.set_cons_succ]
    refine take_held 2 (by assumption) rfl (by kernel_rfl) (by kernel_rfl) (by kernel_rfl) (fun _ _ _ h => h) (by kernel_rfl) (v := ?v13) ?y13 ?r13
    case y13 => (intro u hu; go_simp; try rfl)
    simp only [Act.put, List.setIfInBounds_toArray, List.set_cons_zero, List.set_cons_succ]
    refine take_held 3 (by assumption) rfl (by kernel_rfl) (by kernel_rfl) (by kernel_rfl) (fun _ _ _ h => h) (by kernel_rfl) (v := ?v14) ?y14 ?r14
    case y14 => (intro u hu; go_simp; try rfl)
    simp only [Act.put, List.setIfInBounds_toArray, List.set_cons_zero, List.set_cons_succ]
    refine take_held 5 (by assumption) rfl (by kernel_rfl) (by kernel_rfl) (by kernel_rfl) (fun _ _ _ h => h) (by kernel_rfl) (v := ?v15) ?y15 ?r15
    case y15 => (intro u hu; have zz0 := R1 u hu; go_simp; try rfl)
    simp only [Act.put, List.setIfInBounds_toArray, List.set_cons_zero, List.set_cons_succ]
    refine wpAnyH_ready (rs := [4, 6]) (by kernel_rfl) (by simp) (AllReadyH.cons ((nth_eq _ 4).trans rfl) ?_ (AllReadyH.cons ((nth_eq _ 6).trans rfl) ?_ AllReadyH.nil))
    · intro K' hK
      refine value_in hK (by kernel_rfl) x V3.drew (by go_simp) hSR ?_
      simp only [Act.put, List.setIfInBounds_toArray, List.set_cons_zero, List.set_cons_succ]
      refine wpAnyH_ready (rs := [6]) (by kernel_rfl) (by simp) (AllReadyH.cons ((nth_eq _ 6).trans rfl) ?_ AllReadyH.nil)
      intro K' hK
      refine value_in hK (by kernel_rfl) (.slice (some ⟨V3.heap.size, 0, none⟩) 1 1) A (by go_simp; try rfl) S5 ?_
      simp only [Act.put, List.setIfInBounds_toArray, List.set_cons_zero, List.set_cons_succ]
      refine wpAnyH_ready (rs := [7]) (by kernel_rfl) (by simp) (AllReadyH.cons ((nth_eq _ 7).trans rfl) ?_ AllReadyH.nil)
      intro K' hK
      refine value_in hK (by kernel_rfl) _ w6 (run_append_op rfl (.tmp 25) (.tmp 27) rfl _ _ rfl rfl hrun) S6 ?_
      simp only [Act.put, List.setIfInBounds_toArray, List.set_cons_zero, List.set_cons_succ]
      refine take_held 8 (by assumption) rfl (by kernel_rfl) (by kernel_rfl) (by kernel_rfl) (fun _ _ _ h => h) (by kernel_rfl) (v := ?v16) ?y16 ?r16
      case y16 => (intro u hu; go_simp; try rfl)
      simp only [Act.put, List.setIfInBounds_toArray, List.set_cons_zero, List.set_cons_succ]
      refine take_held 9 (by assumption) rfl (by kernel_rfl) (by kernel_rfl) (by kernel_rfl) (fun _ _ _ h => h) (by kernel_rfl) (v := ?v17) ?y17 ?r17
      case y17 => (intro u hu; go_simp; try rfl)
      simp only [Act.put, List.setIfInBounds_toArray, List.set_cons_zero, List.set_cons_succ]
      refine wpAnyH_ready (rs := [10]) (by kernel_rfl) (by simp) (AllReadyH.cons ((nth_eq _ 10).trans rfl) ?_ AllReadyH.nil)
      intro K' hK
      refine skip_in hK (by kernel_rfl) (w6.setCell ⟨b, off + 3, none⟩ (.slice (some ⟨g, 0, none⟩) (pre.length + 1) c6)) (by go_simp) S7 ?_
      simp only [Act.put, List.setIfInBounds_toArray, List.set_cons_zero, List.set_cons_succ]
      refine done_held (by kernel_rfl) ?_ _
      gi_wp2
      exact HH.out
    · intro K' hK
      refine value_in hK (by kernel_rfl) (.slice (some ⟨V3.heap.size, 0, none⟩) 1 1) A (by go_simp; try rfl) S5 ?_
      simp only [Act.put, List.setIfInBounds_toArray, List.set_cons_zero, List.set_cons_succ]
      refine wpAnyH_ready (rs := [4]) (by kernel_rfl) (by simp) (AllReadyH.cons ((nth_eq _ 4).trans rfl) ?_ AllReadyH.nil)
      intro K' hK
      refine value_in hK (by kernel_rfl) x A (by have c5 := X5.out; go_simp) S5 ?_
      simp only [Act.put, List.setIfInBounds_toArray, List.set_cons_zero, List.set_cons_succ]
      refine wpAnyH_ready (rs := [7]) (by kernel_rfl) (by simp) (AllReadyH.cons ((nth_eq _ 7).trans rfl) ?_ AllReadyH.nil)
      intro K' hK
      refine value_in hK (by kernel_rfl) _ w6 (run_append_op rfl (.tmp 25) (.tmp 27) rfl _ _ rfl rfl hrun) S6 ?_
      simp only [Act.put, List.setIfInBounds_toArray, List.set_cons_zero, List.set_cons_succ]
      refine take_held 8 (by assumption) rfl (by kernel_rfl) (by kernel_rfl) (by kernel_rfl) (fun _ _ _ h => h) (by kernel_rfl) (v := ?v18) ?y18 ?r18
      case y18 => (intro u hu; go_simp; try rfl)
      simp only [Act.put, List.setIfInBounds_toArray, List.set_cons_zero, List.set_cons_succ]
      refine take_held 9 (by assumption) rfl (by kernel_rfl) (by kernel_rfl) (by kernel_rfl) (fun _ _ _ h => h) (by kernel_rfl) (v := ?v19) ?y19 ?r19
      case y19 => (intro u hu; go_simp; try rfl)
      simp only [Act.put, List.setIfInBounds_toArray, List.set_cons_zero, List.set_cons_succ]
      refine wpAnyH_ready (rs := [10]) (by kernel_rfl) (by simp) (AllReadyH.cons ((nth_eq _ 10).trans rfl) ?_ AllReadyH.nil)
      intro K' hK
      refine skip_in hK (by kernel_rfl) (w6.setCell ⟨b, off + 3, none⟩ (.slice (some ⟨g, 0, none⟩) (pre.length + 1) c6)) (by go_simp) S7 ?_
      simp only [Act.put, List.setIfInBounds_toArray, List.set_cons_zero, List.set_cons_succ]
      refine done_held (by kernel_rfl) ?_ _
      gi_wp2
      exact HH.out
end Go.Proofs.Ytjblplaaogbkiaa.Kin
