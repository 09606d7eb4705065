/-
  A run's places, reckoned once and kept.
  A Kin in memory: its numbers, its sixteen profiles; places: the profile of a run, reckoned when it is first asked for.
  What a Kin answers: Profile, Time, At, Speed, for any run and any tick.
  How a run ends that is stopped.
-/
import Derived.Test.YtedhoghleelhfaaGreatQRkA
import Derived.Maps.AppendAt
import Derived.Lib.AppendZeros
import Derived.Laws.Cover3
namespace Go.Proofs.YtedhoghleelhfaaGreat.Kin
set_option linter.unusedVariables false
set_option linter.unusedSimpArgs false
open Go Go.RowKit Go.Shelf Go.Proofs
attribute [local go_sem] Oper.semAt_some

def ints (l : List Nat) : List Value := l.map fun z => .int .i64 (z : Nat)
theorem infoInt : (Tryz.prog.info? 3).map (fun i => (i.zero, i.size, i.bytes)) = some (some (.int .i64 0), 1, 8) := by kernel_rfl
theorem run_append_op {P : Program} {o : Oper} {a : Act} {w w' : World} {t : TypeId} {r : Value} (hg : o.guard = none) (s x : Operand)
    (hop : o.op = .call { callee := .builtin .append, args := #[s, x], argTypes := #[t, t] }) (v u : Value) (hs : a.eval s = v) (hx : a.eval x = u) (hrun : (Builtin.append_ #[t, t] o.type #[v, u]).run P w = .ok r w') : (execOp a.eval o).run P w = .ok (.value r) w' := by
  simp [execOp, hop, resolve, invoke, builtin, hs, hx, hrun, Result.andThen]
theorem box_kept {X Y : World} {row : Option Nat} {B : Nat} {t : TypeId} {v : Value} (hv : Boxed X B t v) (hg : X.grownBy Y row) (hrow : ∀ r, row = some r → ∃ o : Obj, X.heap[r]? = some o ∧ o.isCells = false) : Boxed Y B t v := by
  refine hv.kept hg (fun e' => ?_)
  obtain ⟨o, ho, hc⟩ := hrow B e'.symm
  rw [show X.heap[B]? = _ from hv] at ho; cases ho; cases hc
theorem row_kept {X Y : World} {row : Option Nat} {base : Nat} {e : TypeId} {size n : Nat} {v : Value} {xs : List Value} (hr : X.ownsRow base e size v n xs) (hg : X.grownBy Y row) (hrow : ∀ r, row = some r → ∃ o : Obj, X.heap[r]? = some o ∧ o.isCells = false) : Y.ownsRow base e size v n xs := by
  refine hr.kept hg ?_
  rcases hr.2 with ⟨rfl, _⟩ | ⟨g, cap, cur, rfl, _, hgb, _⟩
  · exact .inl rfl
  · refine .inr fun e' => ?_
    obtain ⟨o, ho, hc⟩ := hrow g (by simpa [Value.ownBlock] using e'.symm)
    rw [hgb] at ho; cases ho; cases hc
theorem cell_same {w w' : World} {b o : Nat} (h : w'.heap[b]? = w.heap[b]?) : w'.cell? ⟨b, o, none⟩ = w.cell? ⟨b, o, none⟩ := by unfold World.cell?; rw [h]
theorem frozen_same {w w' : World} {b o : Nat} (h : w'.heap[b]? = w.heap[b]?) : w'.frozen? ⟨b, o, none⟩ = w.frozen? ⟨b, o, none⟩ := by unfold World.frozen?; rw [h]

/- From w to V: of what there was, one cell of block b has turned, and nothing else. -/
structure OneCell (w : World) (b o1 : Nat) (V : World) : Prop where
  os : V.os = w.os
  tape : V.tape = w.tape
  output : V.output = w.output
  size : w.heap.size ≤ V.heap.size
  block : ∀ k, k < w.heap.size → k ≠ b → V.heap[k]? = w.heap[k]?
  cells : ∀ o, o ≠ o1 → V.cell? ⟨b, o, none⟩ = w.cell? ⟨b, o, none⟩
  froz : ∀ o, V.frozen? ⟨b, o, none⟩ = w.frozen? ⟨b, o, none⟩
theorem OneCell.kept {w V V' : World} {b o1 : Nat} {row : Option Nat} (h : OneCell w b o1 V) (hb : b < w.heap.size) (hg : V.grownBy V' row) (hr : ∀ k, row = some k → w.heap.size ≤ k) : OneCell w b o1 V' := by
  have hs := h.size
  have same : ∀ k, k < w.heap.size → V'.heap[k]? = V.heap[k]? := fun k hk => hg.block k (by omega) (fun e => by have := hr k e.symm; omega)
  exact ⟨hg.os.trans h.os, hg.tape.trans h.tape, hg.output.trans h.output, Nat.le_trans hs hg.size, fun k hk hn => (same k hk).trans (h.block k hk hn), fun o ho => (cell_same (same b hb)).trans (h.cells o ho), fun o => (frozen_same (same b hb)).trans (h.froz o)⟩
theorem OneCell.go {w V V' : World} {b o1 : Nat} (h : OneCell w b o1 V) (hb : b < w.heap.size) (hB : Below V.heap.size V V') : OneCell w b o1 V' := h.kept hb (row := none) (grown_of_below hB) (fun k e => by cases e)
theorem OneCell.set {w V : World} {b o1 : Nat} (h : OneCell w b o1 V) (x : Value) : OneCell w b o1 (V.setCell ⟨b, o1, none⟩ x) :=
  ⟨h.os, h.tape, h.output, by simp [World.setCell]; exact h.size, fun k hk hn => (Below.heap_setCell _ _ _ k (by simpa using hn)).trans (h.block k hk hn),
    fun o ho => (World.cell?_setCell_other _ _ _ _ (by intro e; apply ho; cases e; rfl)).trans (h.cells o ho), fun o => by rw [World.frozen?_setCell]; exact h.froz o⟩
theorem OneCell.refl (w : World) (b o1 : Nat) : OneCell w b o1 w := ⟨rfl, rfl, rfl, Nat.le_refl _, fun _ _ _ => rfl, fun _ _ => rfl, fun _ => rfl⟩
/- What has been told so far: the place, the places. -/
structure PI (w : World) (b off P B : Nat) (pre : List Spd) (V : World) : Prop where
  place : Boxed V P 3 (.int .i64 ((pre.map Subtype.val).sum : Nat))
  told : ∃ x, V.cell? ⟨b, off + 3, none⟩ = some x ∧ V.ownsRow B 3 1 x pre.length (ints (sums 0 (pre.map Subtype.val)))
  one : OneCell w b (off + 3) V
theorem pi_own {w : World} {b off P B N : Nat} (hb : b < w.heap.size) (hP : P < N) (hN : w.heap.size ≤ N) : OwnFrom N (fun (pre : List Spd) V => PI w b off P B pre V) := by
  intro pre X Y row h hg hr
  have hr' := fun r e => (hr r e).2
  obtain ⟨x, h1, h2⟩ := h.told
  refine ⟨box_kept h.place hg hr', ⟨x, (cell_same (hg.block b ?_ ?_)).trans h1, row_kept h2 hg hr'⟩, h.one.kept hb hg (fun k e => Nat.le_trans hN (hr k e).1)⟩
  · exact World.block_lt_of_cell? X _ h1
  · intro e
    have := (hr b e.symm).1
    omega
theorem steps_step (b : Nat) (left s rise : Int) (w : World) : Calls Tryz.prog 110 #[.pointer (some ⟨b, 0, none⟩), .int .i64 left, .int .i64 s, .int .i64 rise] w fun e w' => ∃ vf, e = .returned vf ∧
    (vf = .func (.func 123) #[] #[.pointer (some ⟨w.heap.size + 1, 0, none⟩), .pointer (some ⟨w.heap.size + 2, 0, none⟩), .pointer (some ⟨w.heap.size, 0, none⟩), .pointer (some ⟨w.heap.size + 3, 0, none⟩)] ∧
    w' = (((w.alloc (.cells #[.pointer (some ⟨b, 0, none⟩)] 58)).alloc (.cells #[.int .i64 left] 3)).alloc (.cells #[.int .i64 s] 3)).alloc (.cells #[.int .i64 rise] 3)) :=
  (steps_any b left s rise w).mono (fun e w' h => ⟨_, h.1, rfl, h.2⟩)
theorem mul_small {n u : Nat} (hn : n ≤ 16) (hu : u ≤ 1000) : n * u ≤ 16000 := Nat.le_trans (Nat.mul_le_mul hn hu) (Nat.le_refl _)
set_option maxRecDepth 100000 in
set_option maxHeartbeats 4000000 in
theorem places1_in (b off u a v n Bk Bn Bp : Nat) (w : World) (hK : KAt w b u a v) (hu2 : u ≤ 1000) (ha : 1 ≤ a) (ha2 : a ≤ 1000) (hv1 : 1 ≤ v) (hv : v ≤ 1000) (hn1 : 1 ≤ n) (hn : n ≤ 16)
    (hbk : w.cell? ⟨Bk, 0, none⟩ = some (.pointer (some ⟨b, 0, none⟩))) (hbn : w.cell? ⟨Bn, 0, none⟩ = some (.int .i64 n)) (hbp : w.cell? ⟨Bp, 0, none⟩ = some (.pointer (some ⟨b, off, none⟩)))
    (hoff : 3 ≤ off) (hc : w.cell? ⟨b, off + 3, none⟩ = some (.slice none 0 0)) (hz : w.frozen? ⟨b, off + 3, none⟩ = false) (hne : Bp ≠ b) :
    CallsIn Fence.wide 9 Tryz.prog 132 #[.pointer (some ⟨Bk, 0, none⟩), .pointer (some ⟨Bn, 0, none⟩), .pointer (some ⟨Bp, 0, none⟩)] w fun e w' => e = .returned (.tuple #[]) ∧ OneCell w b (off + 3) w' ∧
      ∃ x, w'.cell? ⟨b, off + 3, none⟩ = some x ∧ w'.ownsRow w.heap.size 3 1 x (spd u a v n).length (ints (prof u a v n)) := by
  have hnu := mul_small hn hu2
  have HM : Hid (IntKind.i64.wrap ((n : Int) * (u : Int)) = ((n * u : Nat) : Int)) := by
    unfold Hid
    rw [IntKind.wrap_i64, ← Int.natCast_mul]
    omega
  have hb := hK.lt
  refine callsIn_of_wp_marks Tryz.func132 rfl trivial ?_ rfl
  simp only [Tryz.ntmps132, List.size_toArray, List.length_cons, List.length_nil, Nat.reduceAdd, Nat.reduceSub, Array.replicate_succ, Array.replicate_zero, List.push_toArray, List.append_toArray, List.nil_append, List.cons_append]
  gi_wp2
  refine wpIn_wide.2 ?_
  obtain ⟨w2, hw2⟩ : ∃ w2, w.alloc (.cells #[.int .i64 0] 3) = w2 := ⟨_, rfl⟩
  have b2 : Below w.heap.size w w2 := by rw [← hw2]; exact (Below.refl _ _).alloc (Nat.le_refl _) _
  have s2 : w2.heap.size = w.heap.size + 1 := by rw [← hw2]; simp
  have p2 : Boxed w2 w.heap.size 3 (.int .i64 0) := by rw [← hw2]; exact Boxed.new _ _ _
  rw [hw2]
  clear hw2
  obtain ⟨IH, hIH⟩ : ∃ I : World → Prop, I = Below w2.heap.size w2 := ⟨_, rfl⟩
  have kI : ∀ u, IH u → Below w.heap.size w u := fun u hu => by rw [hIH] at hu; exact bcat b2 hu
  have hS : IH w2.drew := by rw [hIH]; exact (Below.refl _ _).drew
  have L0 : ∀ u, IH u → u.cell? ⟨Bk, 0, none⟩ = some (.pointer (some ⟨b, 0, none⟩)) := fun u hu => ((kI u hu).cell (p := ⟨Bk, 0, none⟩) (World.block_lt_of_cell? w _ hbk)).trans hbk
  have L1 : ∀ u, IH u → u.cell? ⟨Bn, 0, none⟩ = some (.int .i64 n) := fun u hu => ((kI u hu).cell (p := ⟨Bn, 0, none⟩) (World.block_lt_of_cell? w _ hbn)).trans hbn
  have L2 : ∀ x, IH x → x.cell? ⟨b, 0, none⟩ = some (.int .i64 u) := fun x hx => (hK.go (kI x hx)).unit
  have L3 : ∀ x, IH x → x.cell? ⟨b, 1, none⟩ = some (.int .i64 a) := fun x hx => (hK.go (kI x hx)).accel
  refine calm_wp ?_
  refine start_held (S := IH) 12 rfl (by kernel_rfl) (hS) ?_
  simp only [Array.replicate_succ, Array.replicate_zero, List.push_toArray, List.nil_append, List.cons_append]
  refine take_held 0 (by assumption) rfl (by kernel_rfl) (by kernel_rfl) (by kernel_rfl) (fun _ _ _ h => h) (by kernel_rfl) (v := ?v0) ?y0 ?r0
  case y0 => (intro u hu; have zz0 := L0 u hu; go_simp; try rfl)
  simp only [Act.put, List.setIfInBounds_toArray, List.set_cons_zero, List.set_cons_succ]
  refine take_held 1 (by assumption) rfl (by kernel_rfl) (by kernel_rfl) (by kernel_rfl) (fun _ _ _ h => h) (by kernel_rfl) (v := ?v1) ?y1 ?r1
  case y1 => (intro u hu; have zz0 := L1 u hu; go_simp; try rfl)
  simp only [Act.put, List.setIfInBounds_toArray, List.set_cons_zero, List.set_cons_succ]
  refine take_held 2 (by assumption) rfl (by kernel_rfl) (by kernel_rfl) (by kernel_rfl) (fun _ _ _ h => h) (by kernel_rfl) (v := ?v2) ?y2 ?r2
  case y2 => (intro u hu; have zz0 := L0 u hu; go_simp; try rfl)
  simp only [Act.put, List.setIfInBounds_toArray, List.set_cons_zero, List.set_cons_succ]
  refine take_held 3 (by assumption) rfl (by kernel_rfl) (by kernel_rfl) (by kernel_rfl) (fun _ _ _ h => h) (by kernel_rfl) (v := ?v3) ?y3 ?r3
  case y3 => (intro u hu; go_simp; try rfl)
  simp only [Act.put, List.setIfInBounds_toArray, List.set_cons_zero, List.set_cons_succ]
  refine take_held 4 (by assumption) rfl (by kernel_rfl) (by kernel_rfl) (by kernel_rfl) (fun _ _ _ h => h) (by kernel_rfl) (v := ?v4) ?y4 ?r4
  case y4 => (intro u hu; go_simp; try rfl)
  simp only [Act.put, List.setIfInBounds_toArray, List.set_cons_zero, List.set_cons_succ]
  refine take_held 5 (by assumption) rfl (by kernel_rfl) (by kernel_rfl) (by kernel_rfl) (fun _ _ _ h => h) (by kernel_rfl) (v := ?v5) ?y5 ?r5
  case y5 => (intro u hu; have zz0 := L2 u hu; go_simp; try rfl)
  simp only [Act.put, List.setIfInBounds_toArray, List.set_cons_zero, List.set_cons_succ]
  refine take_held 6 (by assumption) rfl (by kernel_rfl) (by kernel_rfl) (by kernel_rfl) (fun _ _ _ h => h) (by kernel_rfl) (v := ?v6) ?y6 ?r6
  case y6 => (intro u hu; have zz := HM.out; go_simp; try rfl)
  simp only [Act.put, List.setIfInBounds_toArray, List.set_cons_zero, List.set_cons_succ]
  refine take_held 7 (by assumption) rfl (by kernel_rfl) (by kernel_rfl) (by kernel_rfl) (fun _ _ _ h => h) (by kernel_rfl) (v := ?v7) ?y7 ?r7
  case y7 => (intro u hu; have zz0 := L0 u hu; go_simp; try rfl)
  simp only [Act.put, List.setIfInBounds_toArray, List.set_cons_zero, List.set_cons_succ]
  refine take_held 8 (by assumption) rfl (by kernel_rfl) (by kernel_rfl) (by kernel_rfl) (fun _ _ _ h => h) (by kernel_rfl) (v := ?v8) ?y8 ?r8
  case y8 => (intro u hu; go_simp; try rfl)
  simp only [Act.put, List.setIfInBounds_toArray, List.set_cons_zero, List.set_cons_succ]
  refine take_held 9 (by assumption) rfl (by kernel_rfl) (by kernel_rfl) (by kernel_rfl) (fun _ _ _ h => h) (by kernel_rfl) (v := ?v9) ?y9 ?r9
  case y9 => (intro u hu; go_simp; try rfl)
  simp only [Act.put, List.setIfInBounds_toArray, List.set_cons_zero, List.set_cons_succ]
  refine take_held 10 (by assumption) rfl (by kernel_rfl) (by kernel_rfl) (by kernel_rfl) (fun _ _ _ h => h) (by kernel_rfl) (v := ?v10) ?y10 ?r10
  case y10 => (intro u hu; have zz0 := L3 u hu; go_simp; try rfl)
  simp only [Act.put, List.setIfInBounds_toArray, List.set_cons_zero, List.set_cons_succ]
  refine wpAnyH_ready (rs := [11]) (by kernel_rfl) (by simp) (AllReadyH.cons ((nth_eq _ 11).trans rfl) ?_ AllReadyH.nil)
  intro K' hK'
  refine call_in hK' (by kernel_rfl) 110 #[.pointer (some ⟨b, 0, none⟩), .int .i64 ((n : Int) * (u : Int)), .int .i64 0, .int .i64 a] (by go_simp) _ (steps_step b ((n : Int) * (u : Int)) 0 a _) ?_
  rintro vf V ⟨rfl, hV⟩
  have bV : Below w2.heap.size w2 V := by rw [hV]; exact (((((Below.refl _ w2).drew.alloc (Nat.le_refl _) _).alloc (by simp) _).alloc (by simp; omega) _).alloc (by simp; omega) _)
  refine ⟨by rw [hIH]; exact bV, ?_⟩
  simp only [Act.put, List.setIfInBounds_toArray, List.set_cons_zero, List.set_cons_succ]
  refine done_calm (by kernel_rfl) ?_ _
  have sV : V.heap.size = w.heap.size + 5 := by rw [hV]; simp [s2]
  have e2 : w2.drew.heap.size = w.heap.size + 1 := s2
  have kV : Boxed V (w.heap.size + 1) 58 (.pointer (some ⟨b, 0, none⟩)) := by
    rw [hV, ← s2]
    exact (((Boxed.new w2.drew _ _).alloc _).alloc _).alloc _
  have lV : Boxed V (w.heap.size + 2) 3 (.int .i64 ((n * u : Nat) : Int)) := by
    rw [hV, Int.natCast_mul]
    have := Boxed.new (w2.drew.alloc (.cells #[.pointer (some ⟨b, 0, none⟩)] 58)) 3 (.int .i64 ((n : Int) * (u : Int)))
    rw [World.size_alloc, e2] at this
    exact (this.alloc _).alloc _
  have sV2 : Boxed V (w.heap.size + 3) 3 (.int .i64 ((0 : Nat) : Int)) := by
    rw [hV]
    have := Boxed.new ((w2.drew.alloc (.cells #[.pointer (some ⟨b, 0, none⟩)] 58)).alloc (.cells #[.int .i64 ((n : Int) * (u : Int))] 3)) 3 (.int .i64 0)
    rw [World.size_alloc, World.size_alloc, e2] at this
    exact this.alloc _
  have rV : Boxed V (w.heap.size + 4) 3 (.int .i64 (a : Int)) := by
    rw [hV]
    have := Boxed.new (((w2.drew.alloc (.cells #[.pointer (some ⟨b, 0, none⟩)] 58)).alloc (.cells #[.int .i64 ((n : Int) * (u : Int))] 3)).alloc (.cells #[.int .i64 0] 3)) 3 (.int .i64 a)
    rw [World.size_alloc, World.size_alloc, World.size_alloc, e2] at this
    exact this
  have pV : Boxed V w.heap.size 3 (.int .i64 0) := (bV.block _ p2.lt).trans p2
  have bwV := bcat b2 bV
  rw [e2]
  clear hV hIH kI hS L0 L1 L2 L3
  gi_wp2
  refine wpIn_rangeFunc_ownG rfl (by omega) (gf := 123) (lb := #[.pointer (some ⟨w.heap.size + 2, 0, none⟩), .pointer (some ⟨w.heap.size + 3, 0, none⟩), .pointer (some ⟨w.heap.size + 1, 0, none⟩), .pointer (some ⟨w.heap.size + 4, 0, none⟩)]) rfl trivial (enters_of Tryz.func123 (by kernel_rfl) rfl)
    (steps_stops 8 b u a v (w.heap.size + 1) (w.heap.size + 2) (w.heap.size + 3) (w.heap.size + 4) (n * u) 0 a ha ha2 hv1 hv (by omega) (by omega) ha2 (by omega) (by omega) V (hK.go bwV) kV lV.cell sV2.cell rV) Kp.trans ?kb (Below.refl _ _) (fun _ => rfl)
    (fun pre V' => PI w b off w.heap.size V.heap.size pre V' ∧ Boxed V' (w.heap.size + 1) 58 (.pointer (some ⟨b, 0, none⟩)) ∧ Boxed V' (w.heap.size + 4) 3 (.int .i64 (a : Int))) (fun _ _ _ => False)
    ?own (fun _ _ _ _ _ hs _ _ => hs)
    ⟨⟨pV, ⟨.slice none 0 0, (bwV.cell (p := ⟨b, off + 3, none⟩) hb).trans hc, World.ownsRow_nil _ _ _ _⟩, (OneCell.refl w b _).go hb bwV⟩, kV, rV⟩
    ?a1 ?assign ?body ?done ?stop
  case kb =>
    intro W' l o o' hl ho _ _
    have hlt := (Array.getElem?_eq_some_iff.1 ho).1
    have hg := grownBy_putObj' W' l o'
    exact ⟨fun o _ => cell_same (hg.block _ (by omega) (fun e => by cases e; omega)), hg.block _ (by omega) (fun e => by cases e; omega), hg.block _ (by omega) (fun e => by cases e; omega)⟩
  case own =>
    intro pre X Y row h hg hr
    exact ⟨pi_own hb (by omega) (by omega) pre X Y row h.1 hg hr, box_kept h.2.1 hg (fun r e => (hr r e).2), box_kept h.2.2 hg (fun r e => (hr r e).2)⟩
  case assign =>
    intro l q V' K hK
    simp only [encq]
    gi_wp2
    exact hK
  case done =>
    rintro D ys V' hD hys ⟨hI, _, _⟩ hKD
    gi_wp2
    obtain ⟨x, hx, hrow⟩ := hI.told
    have hlen : ys.length = (spd u a v n).length := by
      have := congrArg List.length hys
      rw [List.length_map] at this
      exact this
    have hpr : sums 0 (ys.map Subtype.val) = prof u a v n := by rw [hys]; rfl
    rw [hpr, hlen] at hrow
    refine ⟨by simp, .inl ⟨_, _, rfl, run_takeDeferred hKD, ?_⟩⟩
    refine ⟨_, results_none rfl _ _ _, rfl, hI.one.kept hb (grownBy_putObj' V' D (.deferred none)) (fun k e => by cases e; omega), x, ?_, ?_⟩
    · exact (cell_same ((grownBy_putObj' V' D (.deferred none)).block b (World.block_lt_of_cell? V' _ hx) (fun e => by cases e; omega))).trans hx
    · exact owns_base (by omega) (ownsRow_putObj hrow _ hKD rfl)
  case stop =>
    rintro D c pre V' _ _ h _
    exact h.elim
  case body =>
    rintro l pre q V' ⟨hI, hk4, hr4⟩ hlt
    obtain ⟨x, hx, hrow⟩ := hI.told
    have hq := q.2
    have hcP := hI.place.cell
    have hfP := hI.place.frozen
    have hrl : (runs a v a (n * u) 0).length ≤ 16000 := by have := (runs_len (a := a) (v := v) (rise := a) (left := n * u) (s := 0) ha hv1 (by omega)).1; omega
    have hsum : (pre.map Subtype.val).sum ≤ 16000000 := by
      have := sum_le_mul (pre.map Subtype.val) 1000 (fun y hy => by obtain ⟨z, hz, rfl⟩ := List.mem_map.1 hy; exact z.2.2)
      rw [List.length_map] at this
      omega
    have hpb := World.block_lt_of_cell? w _ hbp
    have hpb' : Bp < w.heap.size := hpb
    have hp0 : V'.cell? ⟨Bp, 0, none⟩ = some (.pointer (some ⟨b, off, none⟩)) := (cell_same (hI.one.block Bp hpb hne)).trans hbp
    have hfz : V'.frozen? ⟨b, off + 3, none⟩ = false := (hI.one.froz _).trans hz
    have hV's := hI.one.size
    have hrs := own_since hrow
    have k5 := hk4.lt
    have k6 := hr4.lt
    have k7 := hI.place.lt
    have hbV : b < V'.heap.size := by omega
    have hx' := World.block_lt_of_cell? V' _ hx
    generalize hs1 : (pre.map Subtype.val).sum = sm at *
    obtain ⟨tq, htq⟩ : ∃ t, sm + q.1 = t := ⟨_, rfl⟩
    have etq : (tq : Int) = (sm : Int) + (q.1 : Int) := by omega
    obtain ⟨V3, hV3⟩ : ∃ V3, V'.setCell ⟨w.heap.size, 0, none⟩ (.int .i64 ((sm : Int) + (q.1 : Int))) = V3 := ⟨_, rfl⟩
    have g3 : V'.grownBy V3 (some w.heap.size) := by rw [← hV3]; exact grownBy_setCell' _ _ _
    have b3 : Boxed V3 w.heap.size 3 (.int .i64 (tq : Int)) := by rw [← hV3, etq]; exact hI.place.set _
    have s3 : V3.heap.size = V'.heap.size := by rw [← hV3]; simp [World.setCell]
    have same3 : ∀ k, k < V'.heap.size → k ≠ w.heap.size → V3.heap[k]? = V'.heap[k]? := fun k hk hn => g3.block k hk (fun e => hn (by cases e; rfl))
    have p3 : V3.cell? ⟨Bp, 0, none⟩ = some (.pointer (some ⟨b, off, none⟩)) := (cell_same (same3 Bp (by omega) (by omega))).trans hp0
    have c3 : V3.cell? ⟨b, off + 3, none⟩ = some x := (cell_same (same3 b hbV (by omega))).trans hx
    have row3 : V3.ownsRow V.heap.size 3 1 x pre.length (ints (sums 0 (pre.map Subtype.val))) := owns_same hrow (fun k hk => same3 k (hrs k hk).2 (by have := (hrs k hk).1; omega))
    have one3 : OneCell w b (off + 3) V3 := hI.one.kept hb g3 (fun k e => by cases e; omega)
    obtain ⟨i0, hi, hz0, hz1, hz2⟩ := info_parts infoInt
    obtain ⟨A, hA⟩ : ∃ A, V3.drew.alloc (.cells #[.int .i64 (tq : Int)] 3) = A := ⟨_, rfl⟩
    have bA : Below V3.heap.size V3 A := by rw [← hA]; exact (Below.refl _ _).drew.alloc (Nat.le_refl _) _
    have sA : A.heap.size = V3.heap.size + 1 := by rw [← hA]; simp
    have hpl : pre.length ≤ 16000 := by omega
    obtain ⟨v6, w6, hrun, o6, g6, _⟩ := run_append_own (P := Tryz.prog) A V.heap.size 50 50 3 i0 (.int .i64 0) 1 8 Tryz.underlying50 hi hz0 hz1 hz2 rfl (by decide) x pre.length (ints (sums 0 (pre.map Subtype.val)))
      (owns_go row3 bA) ⟨V3.heap.size, 0, none⟩ 1 1 [.int .i64 (tq : Int)] rfl (by rw [← hA]; exact cell_one_new _ _ _) (by simp [Value.oneCell']) (by unfold maxLen; omega) (by omega) (by omega)
    obtain ⟨g, c6, rfl⟩ := ownsRow_succ o6
    have hgV : V.heap.size ≤ g ∧ g < w6.heap.size := own_since o6 g rfl
    have same6 : ∀ k, k < V'.heap.size → k ≠ w.heap.size → x.ownBlock ≠ some k → w6.heap[k]? = V'.heap[k]? := fun k hk h1 h2 =>
      (g6.block k (by omega) (fun e => h2 e.symm)).trans ((bA.block k (by omega)).trans (same3 k hk h1))
    have nb : ∀ k, k < V.heap.size → x.ownBlock ≠ some k := fun k hk e => by have := (hrs k e).1; omega
    have pl6 : Boxed w6 w.heap.size 3 (.int .i64 (tq : Int)) := (g6.block _ (by omega) (fun e => nb _ (by omega) e.symm)).trans ((bA.block _ (by omega)).trans b3)
    have c6b : w6.heap[b]? = V'.heap[b]? := same6 b hbV (by omega) (nb b (by omega))
    have c6c : w6.cell? ⟨b, off + 3, none⟩ = some x := (cell_same c6b).trans hx
    have z6 : w6.frozen? ⟨b, off + 3, none⟩ = false := (frozen_same c6b).trans hfz
    have c6p : w6.cell? ⟨Bp, 0, none⟩ = some (.pointer (some ⟨b, off, none⟩)) := (cell_same (same6 Bp (by omega) (by omega) (nb Bp (by omega)))).trans hp0
    have one6 : OneCell w b (off + 3) w6 := (one3.go hb bA).kept hb g6 (fun k e => by have := (hrs k e).1; omega)
    obtain ⟨IR, hIR⟩ : ∃ I : World → Prop, I = fun z => z.cell? ⟨Bp, 0, none⟩ = some (.pointer (some ⟨b, off, none⟩)) ∧ z.cell? ⟨w.heap.size, 0, none⟩ = some (.int .i64 (tq : Int)) := ⟨_, rfl⟩
    have R0 : ∀ z, IR z → z.cell? ⟨Bp, 0, none⟩ = some (.pointer (some ⟨b, off, none⟩)) := fun z hz => by rw [hIR] at hz; exact hz.1
    have R1 : ∀ z, IR z → z.cell? ⟨w.heap.size, 0, none⟩ = some (.int .i64 (tq : Int)) := fun z hz => by rw [hIR] at hz; exact hz.2
    have hSR : IR V3.drew := by rw [hIR]; exact ⟨p3, b3.cell⟩
    have S5 : IR A := by rw [hIR]; exact ⟨(bA.cell (p := ⟨Bp, 0, none⟩) (by show Bp < _; omega)).trans p3, (bA.cell (p := ⟨w.heap.size, 0, none⟩) (by show w.heap.size < _; omega)).trans b3.cell⟩
    have X5 : Hid (A.cell? ⟨b, off + 3, none⟩ = some x) := (bA.cell (p := ⟨b, off + 3, none⟩) (by show b < _; omega)).trans c3
    have S6 : IR w6 := by rw [hIR]; exact ⟨c6p, pl6.cell⟩
    have pl7 := pl6.other (B' := b) (by omega)
    have S7 : IR (w6.setCell ⟨b, off + 3, none⟩ (.slice (some ⟨g, 0, none⟩) (pre.length + 1) c6)) := by
      rw [hIR]
      exact ⟨(World.cell?_setCell_far _ _ _ _ (by show b ≠ Bp; omega)).trans c6p, (World.cell?_setCell_far _ _ _ _ (by show b ≠ w.heap.size; omega)).trans pl6.cell⟩
    have same7 : ∀ k, k ≠ b → (w6.setCell ⟨b, off + 3, none⟩ (.slice (some ⟨g, 0, none⟩) (pre.length + 1) c6)).heap[k]? = w6.heap[k]? := fun k hk => Below.heap_setCell _ _ _ k hk
    have HH : Hid (KeepsFrom V.heap.size V' (w6.setCell ⟨b, off + 3, none⟩ (.slice (some ⟨g, 0, none⟩) (pre.length + 1) c6)) ∧ Kp b (w.heap.size + 1) (w.heap.size + 4) V' (w6.setCell ⟨b, off + 3, none⟩ (.slice (some ⟨g, 0, none⟩) (pre.length + 1) c6)) ∧
        PI w b off w.heap.size V.heap.size (pre ++ [q]) (w6.setCell ⟨b, off + 3, none⟩ (.slice (some ⟨g, 0, none⟩) (pre.length + 1) c6)) ∧ Boxed (w6.setCell ⟨b, off + 3, none⟩ (.slice (some ⟨g, 0, none⟩) (pre.length + 1) c6)) (w.heap.size + 1) 58 (.pointer (some ⟨b, 0, none⟩)) ∧ Boxed (w6.setCell ⟨b, off + 3, none⟩ (.slice (some ⟨g, 0, none⟩) (pre.length + 1) c6)) (w.heap.size + 4) 3 (.int .i64 (a : Int))) := by
      refine ⟨⟨?_, fun k o hBk hk hnc => ?_⟩, ⟨fun o ho => ?_, ?_, ?_⟩, ⟨?_, ⟨_, World.cell?_setCell_same _ _ _ c6c, ?_⟩, one6.set _⟩, ?_, ?_⟩
      · have := g6.size
        simp [World.setCell]
        omega
      · rw [same7 k (by omega), same6 k (Array.getElem?_eq_some_iff.1 hk).1 (by omega) (fun e => ?_)]
        · exact hk
        · rcases hrow.2 with ⟨e', _⟩ | ⟨g', cap', cur', e', _, hg', _⟩
          · rw [e'] at e; cases e
          · rw [e'] at e; cases e; rw [hg'] at hk; cases hk; cases hnc
      · refine (World.cell?_setCell_other _ _ _ _ (by intro e; cases e; omega)).trans (cell_same c6b)
      · exact (same7 _ (by omega)).trans (same6 _ k5 (by omega) (nb _ (by omega)))
      · exact (same7 _ (by omega)).trans (same6 _ k6 (by omega) (nb _ (by omega)))
      · rw [List.map_append, List.sum_append, hs1, List.map_singleton, List.sum_singleton, htq]
        exact (same7 _ (by omega)).trans pl6
      · rw [List.map_append, List.map_singleton, sums_snoc, hs1, Nat.zero_add, List.length_append, htq]
        have e : ints (sums 0 (pre.map Subtype.val) ++ [tq]) = ints (sums 0 (pre.map Subtype.val)) ++ [.int .i64 (tq : Int)] := by unfold ints; rw [List.map_append]; rfl
        rw [e]
        exact owns_same o6 (fun k hk => by cases hk; exact same7 g (by omega))
      · exact ((same7 _ (by omega)).trans (same6 _ k5 (by omega) (nb _ (by omega)))).trans hk4
      · exact ((same7 _ (by omega)).trans (same6 _ k6 (by omega) (nb _ (by omega)))).trans hr4
    clear etq htq same7 same6 same3 nb one6 one3 pl6 pl7 row3 hrs hI hrow g6 g3 o6 c6b hk4 hr4 bA hgV
    gi_wp2
    try rw [hV3]
    clear hV3
    refine start_round (S := IR) 11 rfl (by kernel_rfl) (by kernel_rfl) (fun _ _ h => h) hSR ?_
    simp only [Array.replicate_succ, Array.replicate_zero, List.push_toArray, List.nil_append, List.cons_append]
    refine take_held 0 (by assumption) rfl (by kernel_rfl) (by kernel_rfl) (by kernel_rfl) (fun _ _ _ h => h) (by kernel_rfl) (v := ?v11) ?y11 ?r11
    case y11 => (intro u hu; have zz0 := R0 u hu; go_simp; try rfl)
    simp only [Act.put, List.setIfInBounds_toArray, List.set_cons_zero, List.set_cons_succ]
    refine take_held 1 (by assumption) rfl (by kernel_rfl) (by kernel_rfl) (by kernel_rfl) (fun _ _ _ h => h) (by kernel_rfl) (v := ?v12) ?y12 ?r12
    case y12 => (intro u hu; have zz0 := R0 u hu; go_simp; try rfl)
    simp only [Act.put, List.setIfInBounds_toArray, List.set_cons_zero, List.set_cons_succ]
    refine take_held 2 (by assumption) rfl (by kernel_rfl) (by kernel_rfl) (by kernel_rfl) (fun _ _ _ h => h) (by kernel_rfl) (v := ?v13) ?y13 ?r13
    case y13 => (intro u hu; go_simp; try rfl)
    simp only [Act.put, List.setIfInBounds_toArray, List.set_cons_zero, List.set_cons_succ]
    refine take_held 3 (by assumption) rfl (by kernel_rfl) (by kernel_rfl) (by kernel_rfl) (fun _ _ _ h => h) (by kernel_rfl) (v := ?v14) ?y14 ?r14
    case y14 => (intro u hu; go_simp; try rfl)
    simp only [Act.put, List.setIfInBounds_toArray, List.set_cons_zero, List.set_cons_succ]
    refine take_held 5 (by assumption) rfl (by kernel_rfl) (by kernel_rfl) (by kernel_rfl) (fun _ _ _ h => h) (by kernel_rfl) (v := ?v15) ?y15 ?r15
    case y15 => (intro u hu; have zz0 := R1 u hu; go_simp; try rfl)
    simp only [Act.put, List.setIfInBounds_toArray, List.set_cons_zero, List.set_cons_succ]
    refine wpAnyH_ready (rs := [4, 6]) (by kernel_rfl) (by simp) (AllReadyH.cons ((nth_eq _ 4).trans rfl) ?_ (AllReadyH.cons ((nth_eq _ 6).trans rfl) ?_ AllReadyH.nil))
    · intro K' hK
      refine value_in hK (by kernel_rfl) x V3.drew (by go_simp) hSR ?_
      simp only [Act.put, List.setIfInBounds_toArray, List.set_cons_zero, List.set_cons_succ]
      refine wpAnyH_ready (rs := [6]) (by kernel_rfl) (by simp) (AllReadyH.cons ((nth_eq _ 6).trans rfl) ?_ AllReadyH.nil)
      intro K' hK
      refine value_in hK (by kernel_rfl) (.slice (some ⟨V3.heap.size, 0, none⟩) 1 1) A (by go_simp; try rfl) S5 ?_
      simp only [Act.put, List.setIfInBounds_toArray, List.set_cons_zero, List.set_cons_succ]
      refine wpAnyH_ready (rs := [7]) (by kernel_rfl) (by simp) (AllReadyH.cons ((nth_eq _ 7).trans rfl) ?_ AllReadyH.nil)
      intro K' hK
      refine value_in hK (by kernel_rfl) _ w6 (run_append_op rfl (.tmp 25) (.tmp 27) rfl _ _ rfl rfl hrun) S6 ?_
      simp only [Act.put, List.setIfInBounds_toArray, List.set_cons_zero, List.set_cons_succ]
      refine take_held 8 (by assumption) rfl (by kernel_rfl) (by kernel_rfl) (by kernel_rfl) (fun _ _ _ h => h) (by kernel_rfl) (v := ?v16) ?y16 ?r16
      case y16 => (intro u hu; go_simp; try rfl)
      simp only [Act.put, List.setIfInBounds_toArray, List.set_cons_zero, List.set_cons_succ]
      refine take_held 9 (by assumption) rfl (by kernel_rfl) (by kernel_rfl) (by kernel_rfl) (fun _ _ _ h => h) (by kernel_rfl) (v := ?v17) ?y17 ?r17
      case y17 => (intro u hu; go_simp; try rfl)
      simp only [Act.put, List.setIfInBounds_toArray, List.set_cons_zero, List.set_cons_succ]
      refine wpAnyH_ready (rs := [10]) (by kernel_rfl) (by simp) (AllReadyH.cons ((nth_eq _ 10).trans rfl) ?_ AllReadyH.nil)
      intro K' hK
      refine skip_in hK (by kernel_rfl) (w6.setCell ⟨b, off + 3, none⟩ (.slice (some ⟨g, 0, none⟩) (pre.length + 1) c6)) (by go_simp) S7 ?_
      simp only [Act.put, List.setIfInBounds_toArray, List.set_cons_zero, List.set_cons_succ]
      refine done_held (by kernel_rfl) ?_ _
      gi_wp2
      exact HH.out
    · intro K' hK
      refine value_in hK (by kernel_rfl) (.slice (some ⟨V3.heap.size, 0, none⟩) 1 1) A (by go_simp; try rfl) S5 ?_
      simp only [Act.put, List.setIfInBounds_toArray, List.set_cons_zero, List.set_cons_succ]
      refine wpAnyH_ready (rs := [4]) (by kernel_rfl) (by simp) (AllReadyH.cons ((nth_eq _ 4).trans rfl) ?_ AllReadyH.nil)
      intro K' hK
      refine value_in hK (by kernel_rfl) x A (by have c5 := X5.out; go_simp) S5 ?_
      simp only [Act.put, List.setIfInBounds_toArray, List.set_cons_zero, List.set_cons_succ]
      refine wpAnyH_ready (rs := [7]) (by kernel_rfl) (by simp) (AllReadyH.cons ((nth_eq _ 7).trans rfl) ?_ AllReadyH.nil)
      intro K' hK
      refine value_in hK (by kernel_rfl) _ w6 (run_append_op rfl (.tmp 25) (.tmp 27) rfl _ _ rfl rfl hrun) S6 ?_
      simp only [Act.put, List.setIfInBounds_toArray, List.set_cons_zero, List.set_cons_succ]
      refine take_held 8 (by assumption) rfl (by kernel_rfl) (by kernel_rfl) (by kernel_rfl) (fun _ _ _ h => h) (by kernel_rfl) (v := ?v18) ?y18 ?r18
      case y18 => (intro u hu; go_simp; try rfl)
      simp only [Act.put, List.setIfInBounds_toArray, List.set_cons_zero, List.set_cons_succ]
      refine take_held 9 (by assumption) rfl (by kernel_rfl) (by kernel_rfl) (by kernel_rfl) (fun _ _ _ h => h) (by kernel_rfl) (v := ?v19) ?y19 ?r19
      case y19 => (intro u hu; go_simp; try rfl)
      simp only [Act.put, List.setIfInBounds_toArray, List.set_cons_zero, List.set_cons_succ]
      refine wpAnyH_ready (rs := [10]) (by kernel_rfl) (by simp) (AllReadyH.cons ((nth_eq _ 10).trans rfl) ?_ AllReadyH.nil)
      intro K' hK
      refine skip_in hK (by kernel_rfl) (w6.setCell ⟨b, off + 3, none⟩ (.slice (some ⟨g, 0, none⟩) (pre.length + 1) c6)) (by go_simp) S7 ?_
      simp only [Act.put, List.setIfInBounds_toArray, List.set_cons_zero, List.set_cons_succ]
      refine done_held (by kernel_rfl) ?_ _
      gi_wp2
      exact HH.out
end Go.Proofs.YtedhoghleelhfaaGreat.Kin
namespace Go.Proofs.YtedhoghleelhfaaGreat.Kin
set_option linter.unusedVariables false
set_option linter.unusedSimpArgs false
open Go Go.RowKit Go.Shelf Go.Proofs
attribute [local go_sem] Oper.semAt_some

/- One profile. -/
structure PAt (w : World) (b off : Nat) (ps : List Nat) : Prop where
  lock : w.cell? ⟨b, off + 1, none⟩ = some (.int .i32 0)
  st : (w.cell? ⟨b, off, none⟩ = some (.int .u32 0) ∧ w.cell? ⟨b, off + 3, none⟩ = some (.slice none 0 0)) ∨
    (w.cell? ⟨b, off, none⟩ = some (.int .u32 1) ∧ ∃ x, w.cell? ⟨b, off + 3, none⟩ = some x ∧ w.ownsRow (b + 1) 3 1 x ps.length (ints ps))
structure KinAt (w : World) (b u a v : Nat) : Prop where
  nums : KAt w b u a v
  froz : ∀ o, w.frozen? ⟨b, o, none⟩ = false
  prof : ∀ n, 1 ≤ n → n ≤ 16 → PAt w b (3 + (n - 1) * 4) (prof u a v n)
theorem PAt.keep {w w' : World} {b off : Nat} {ps : List Nat} (h : PAt w b off ps) (h0 : w'.cell? ⟨b, off, none⟩ = w.cell? ⟨b, off, none⟩) (h1 : w'.cell? ⟨b, off + 1, none⟩ = w.cell? ⟨b, off + 1, none⟩) (h3 : w'.cell? ⟨b, off + 3, none⟩ = w.cell? ⟨b, off + 3, none⟩)
    (hb : ∀ k, k < w.heap.size → k ≠ b → w'.heap[k]? = w.heap[k]?) : PAt w' b off ps := by
  refine ⟨h1.trans h.lock, ?_⟩
  rcases h.st with ⟨e0, e3⟩ | ⟨e0, x, e3, hr⟩
  · exact Or.inl ⟨h0.trans e0, h3.trans e3⟩
  · exact Or.inr ⟨h0.trans e0, x, h3.trans e3, owns_same hr fun k hk => hb k (own_since hr k hk).2 (by have := (own_since hr k hk).1; omega)⟩
theorem KinAt.go {w w' : World} {b u a v : Nat} (h : KinAt w b u a v) (hb : Below w.heap.size w w') : KinAt w' b u a v := by
  have lt := h.nums.lt
  have hc : ∀ o, w'.cell? ⟨b, o, none⟩ = w.cell? ⟨b, o, none⟩ := fun o => cell_same (hb.block b lt)
  exact ⟨h.nums.go hb, fun o => (frozen_same (hb.block b lt)).trans (h.froz o), fun n h1 h2 => (h.prof n h1 h2).keep (hc _) (hc _) (hc _) (fun k hk _ => hb.block k hk)⟩
/- What a call of a Kin's method leaves. -/
structure KGo (b u a v : Nat) (w w' : World) : Prop where
  kin : KinAt w' b u a v
  grow : w.grownBy w' (some b)
theorem KGo.refl {w : World} {b u a v : Nat} (h : KinAt w b u a v) : KGo b u a v w w := ⟨h, ⟨rfl, rfl, rfl, Nat.le_refl _, fun _ _ _ => rfl⟩⟩
theorem grown_trans {a b c : World} {r : Option Nat} (h : a.grownBy b r) (k : b.grownBy c r) : a.grownBy c r :=
  ⟨k.os.trans h.os, k.tape.trans h.tape, k.output.trans h.output, Nat.le_trans h.size k.size, fun j hj hn => (k.block j (Nat.lt_of_lt_of_le hj h.size) hn).trans (h.block j hj hn)⟩
theorem KGo.trans {b u a v : Nat} {w w1 w2 : World} (h : KGo b u a v w w1) (k : KGo b u a v w1 w2) : KGo b u a v w w2 := ⟨k.kin, grown_trans h.grow k.grow⟩
theorem KGo.below {b u a v : Nat} {w w' : World} (h : KinAt w b u a v) (hb : Below w.heap.size w w') : KGo b u a v w w' := ⟨h.go hb, ⟨hb.os, hb.tape, hb.output, hb.size, fun k hk _ => hb.block k hk⟩⟩
theorem KGo.then {b u a v : Nat} {w w1 w2 : World} (h : KGo b u a v w w1) (hb : Below w1.heap.size w1 w2) : KGo b u a v w w2 := h.trans (KGo.below h.kin hb)
theorem KGo.drew {b u a v : Nat} {w w1 : World} (h : KGo b u a v w w1) : KGo b u a v w w1.drew := h.then (Below.refl _ _).drew
/- A slice of one's own stays. -/
theorem KGo.row {b u a v base : Nat} {w w' : World} {e : TypeId} {s n : Nat} {x : Value} {xs : List Value} (h : KGo b u a v w w') (hr : w.ownsRow base e s x n xs) (hb : x.ownBlock ≠ some b) : w'.ownsRow base e s x n xs :=
  owns_same hr fun k hk => h.grow.block k (own_since hr k hk).2 (fun e => hb (by rw [hk]; exact e))
theorem KGo.since {b u a v N : Nat} {w w' : World} (h : KGo b u a v w w') (hN : N ≤ b) (hN2 : N ≤ w.heap.size) : Below N w w' := ⟨h.grow.os, h.grow.tape, h.grow.output, h.grow.size, fun k hk => h.grow.block k (by omega) (fun e => by cases e; omega)⟩
set_option maxHeartbeats 1000000 in
theorem places_none (b : Nat) (n : Int) (hn : n < 1 ∨ 16 < n) (w : World) : Calls Tryz.prog 122 #[.pointer (some ⟨b, 0, none⟩), .int .i64 n] w fun e w' => e = .returned (.slice none 0 0) ∧ Below w.heap.size w w' := by
  have bb : Below w.heap.size w ((w.alloc (.cells #[.pointer (some ⟨b, 0, none⟩)] 58)).alloc (.cells #[.int .i64 n] 3)) := ((Below.refl _ _).alloc (Nat.le_refl _) _).alloc (by simp) _
  by_cases h1 : n < 1
  · go_enter Tryz.func122, Tryz.ntmps122
    go_wp2
    go_ret
    exact ⟨rfl, bb⟩
  · have h2 : 16 < n := by omega
    go_enter Tryz.func122, Tryz.ntmps122
    go_wp2
    go_ret
    exact ⟨rfl, bb⟩
/- Behind the first time. -/
theorem kin_done {b u a v n off : Nat} {w w1 : World} {x : Value} (h : KinAt w b u a v) (hn1 : 1 ≤ n) (hn : n ≤ 16) (hoff : 3 + (n - 1) * 4 = off) (h1 : OneCell (w.setCell ⟨b, off + 1, none⟩ (.int .i32 1)) b (off + 3) w1) (hx : w1.cell? ⟨b, off + 3, none⟩ = some x)
    (hr : w1.ownsRow w.heap.size 3 1 x (spd u a v n).length (ints (prof u a v n))) :
    KGo b u a v w ((w1.drew.setCell ⟨b, off, none⟩ (.int .u32 1)).setCell ⟨b, off + 1, none⟩ (.int .i32 0)) ∧ ((w1.drew.setCell ⟨b, off, none⟩ (.int .u32 1)).setCell ⟨b, off + 1, none⟩ (.int .i32 0)).cell? ⟨b, off + 3, none⟩ = some x ∧
    ((w1.drew.setCell ⟨b, off, none⟩ (.int .u32 1)).setCell ⟨b, off + 1, none⟩ (.int .i32 0)).ownsRow (b + 1) 3 1 x (spd u a v n).length (ints (prof u a v n)) := by
  have lt := h.nums.lt
  obtain ⟨w', hw'⟩ : ∃ w', (w1.drew.setCell ⟨b, off, none⟩ (.int .u32 1)).setCell ⟨b, off + 1, none⟩ (.int .i32 0) = w' := ⟨_, rfl⟩
  have same : ∀ k, k ≠ b → w'.heap[k]? = w1.heap[k]? := fun k hk => by rw [← hw']; exact (Below.heap_setCell _ _ _ k hk).trans (Below.heap_setCell _ _ _ k hk)
  have sz : w'.heap.size = w1.heap.size := by rw [← hw']; simp [World.setCell]
  have s0 : (w.setCell ⟨b, off + 1, none⟩ (.int .i32 1)).heap.size = w.heap.size := by simp [World.setCell]
  have sw := h1.size
  rw [s0] at sw
  have olds : ∀ k, k < w.heap.size → k ≠ b → w'.heap[k]? = w.heap[k]? := fun k hk hn => (same k hn).trans ((h1.block k (by rw [s0]; exact hk) hn).trans (Below.heap_setCell _ _ _ k hn))
  have c1 : ∀ o, o ≠ off → o ≠ off + 1 → w'.cell? ⟨b, o, none⟩ = w1.cell? ⟨b, o, none⟩ := fun o q1 q2 => by
    rw [← hw']
    refine (World.cell?_setCell_other _ _ _ _ (by intro e; cases e; exact q2 rfl)).trans ?_
    refine (World.cell?_setCell_other _ _ _ _ (by intro e; cases e; exact q1 rfl)).trans ?_
    rw [World.cell?_drew]
  have c2 : ∀ o, o ≠ off → o ≠ off + 1 → o ≠ off + 3 → w'.cell? ⟨b, o, none⟩ = w.cell? ⟨b, o, none⟩ := fun o q1 q2 q3 => (c1 o q1 q2).trans ((h1.cells o q3).trans (World.cell?_setCell_other _ _ _ _ (by intro e; cases e; exact q2 rfl)))
  have fz : ∀ o, w'.frozen? ⟨b, o, none⟩ = false := fun o => by
    rw [← hw', World.frozen?_setCell, World.frozen?_setCell, World.frozen?_drew, h1.froz o, World.frozen?_setCell]
    exact h.froz o
  have hp := h.prof n hn1 hn
  rw [hoff] at hp
  have l1 : (w.setCell ⟨b, off + 1, none⟩ (.int .i32 1)).cell? ⟨b, off + 1, none⟩ = some (.int .i32 1) := World.cell?_setCell_same _ _ _ hp.lock
  have l2 : w1.cell? ⟨b, off + 1, none⟩ = some (.int .i32 1) := (h1.cells _ (by omega)).trans l1
  have d1 : ∃ z, w1.cell? ⟨b, off, none⟩ = some z := by
    rcases hp.st with ⟨e, _⟩ | ⟨e, _⟩
    · exact ⟨_, (h1.cells off (by omega)).trans ((World.cell?_setCell_other _ _ _ _ (by intro e; cases e <;> omega)).trans e)⟩
    · exact ⟨_, (h1.cells off (by omega)).trans ((World.cell?_setCell_other _ _ _ _ (by intro e; cases e <;> omega)).trans e)⟩
  obtain ⟨z, hz⟩ := d1
  have e0 : w'.cell? ⟨b, off, none⟩ = some (.int .u32 1) := by
    rw [← hw']
    refine (World.cell?_setCell_other _ _ _ _ (by intro e; cases e <;> omega)).trans (World.cell?_setCell_same _ _ _ (u := z) ?_)
    rw [World.cell?_drew]
    exact hz
  have e1 : w'.cell? ⟨b, off + 1, none⟩ = some (.int .i32 0) := by
    rw [← hw']
    refine World.cell?_setCell_same _ _ _ (u := .int .i32 1) ((World.cell?_setCell_other _ _ _ _ (by intro e; cases e <;> omega)).trans ?_)
    rw [World.cell?_drew]
    exact l2
  have e3 : w'.cell? ⟨b, off + 3, none⟩ = some x := (c1 _ (by omega) (by omega)).trans hx
  have hr' : w'.ownsRow (b + 1) 3 1 x (spd u a v n).length (ints (prof u a v n)) := owns_same (owns_base (by omega) hr) fun k hk => same k (by have := (own_since hr k hk).1; omega)
  rw [hw']
  refine ⟨⟨⟨⟨(c2 0 (by omega) (by omega) (by omega)).trans h.nums.unit, (c2 1 (by omega) (by omega) (by omega)).trans h.nums.accel, (c2 2 (by omega) (by omega) (by omega)).trans h.nums.speed⟩, fz, fun m m1 m2 => ?_⟩, ?_⟩, e3, hr'⟩
  · by_cases hm : m = n
    · subst hm
      rw [hoff]
      exact ⟨e1, Or.inr ⟨e0, x, e3, by rw [prof_len]; exact hr'⟩⟩
    · exact (h.prof m m1 m2).keep (c2 _ (by omega) (by omega) (by omega)) (c2 _ (by omega) (by omega) (by omega)) (c2 _ (by omega) (by omega) (by omega)) olds
  · refine ⟨?_, ?_, ?_, by omega, fun k hk hn => olds k hk (fun e => hn (by rw [e]))⟩
    · rw [← hw']; exact h1.os
    · rw [← hw']; exact h1.tape
    · rw [← hw']; exact h1.output
set_option maxRecDepth 100000 in
set_option maxHeartbeats 2000000 in
theorem places_any (b u a v n : Nat) (w : World) (h : KinAt w b u a v) (hu2 : u ≤ 1000) (ha : 1 ≤ a) (ha2 : a ≤ 1000) (hv1 : 1 ≤ v) (hv : v ≤ 1000) (hn1 : 1 ≤ n) (hn : n ≤ 16) :
    Calls Tryz.prog 122 #[.pointer (some ⟨b, 0, none⟩), .int .i64 n] w fun e w' => ∃ x, e = .returned x ∧ w'.ownsRow (b + 1) 3 1 x (spd u a v n).length (ints (prof u a v n)) ∧ KGo b u a v w w' := by
  have lt := h.nums.lt
  obtain ⟨w2, hw2⟩ : ∃ w2, (w.alloc (.cells #[.pointer (some ⟨b, 0, none⟩)] 58)).alloc (.cells #[.int .i64 (n : Int)] 3) = w2 := ⟨_, rfl⟩
  have b2 : Below w.heap.size w w2 := by rw [← hw2]; exact ((Below.refl _ _).alloc (Nat.le_refl _) _).alloc (by simp) _
  have s2 : w2.heap.size = w.heap.size + 2 := by rw [← hw2]; simp
  have k2 : w2.cell? ⟨w.heap.size, 0, none⟩ = some (.pointer (some ⟨b, 0, none⟩)) := by rw [← hw2]; simp
  have n2 : w2.cell? ⟨w.heap.size + 1, 0, none⟩ = some (.int .i64 n) := by rw [← hw2]; simp
  have h2 := h.go b2
  obtain ⟨m, hm⟩ : ∃ m, n = m + 1 := ⟨n - 1, by omega⟩
  have hm1 : n - 1 = m := by omega
  obtain ⟨off, hoff⟩ : ∃ off, 3 + m * 4 = off := ⟨_, rfl⟩
  have HW : Hid (IntKind.i64.wrap ((n : Int) - 1) = (m : Int)) := by unfold Hid; rw [IntKind.wrap_i64]; omega
  have hm16 : (m : Int) < 16 := by omega
  have pA := h2.prof n hn1 hn
  rw [hm1, hoff] at pA
  have hlen := prof_len u a v n
  have HO : Hid (3 + m * 4 = off) := hoff
  have ho3 : 3 ≤ off := by omega
  have HN : Hid (3 + (n - 1) * 4 = off) := by unfold Hid; rw [hm1]; exact hoff
  clear hoff hm hm1
  go_enter Tryz.func122, Tryz.ntmps122
  go_wp2
  try rw [hw2]
  clear hw2
  obtain ⟨IH, hIH⟩ : ∃ I : World → Prop, I = Below w2.heap.size w2 := ⟨_, rfl⟩
  have kI : ∀ u, IH u → Below w2.heap.size w2 u := fun u hu => by rw [hIH] at hu; exact hu
  have hS : IH w2.drew := by rw [hIH]; exact (Below.refl _ _).drew
  have L0 : ∀ u, IH u → u.cell? ⟨w.heap.size, 0, none⟩ = some (.pointer (some ⟨b, 0, none⟩)) := fun u hu => ((kI u hu).cell (p := ⟨w.heap.size, 0, none⟩) (World.block_lt_of_cell? w2 _ k2)).trans k2
  have L1 : ∀ u, IH u → u.cell? ⟨w.heap.size + 1, 0, none⟩ = some (.int .i64 n) := fun u hu => ((kI u hu).cell (p := ⟨w.heap.size + 1, 0, none⟩) (World.block_lt_of_cell? w2 _ n2)).trans n2
  refine start_held (S := IH) 8 rfl (by kernel_rfl) hS ?_
  simp only [Array.replicate_succ, Array.replicate_zero, List.push_toArray, List.nil_append, List.cons_append]
  refine take_held 0 (by assumption) rfl (by kernel_rfl) (by kernel_rfl) (by kernel_rfl) (fun _ _ _ h => h) (by kernel_rfl) (v := ?v0) ?y0 ?r0
  case y0 => (intro u hu; have zz0 := L0 u hu; go_simp; try rfl)
  simp only [Act.put, List.setIfInBounds_toArray, List.set_cons_zero, List.set_cons_succ]
  refine take_held 1 (by assumption) rfl (by kernel_rfl) (by kernel_rfl) (by kernel_rfl) (fun _ _ _ h => h) (by kernel_rfl) (v := ?v1) ?y1 ?r1
  case y1 => (intro u hu; have zz0 := L1 u hu; go_simp; try rfl)
  simp only [Act.put, List.setIfInBounds_toArray, List.set_cons_zero, List.set_cons_succ]
  refine take_held 2 (by assumption) rfl (by kernel_rfl) (by kernel_rfl) (by kernel_rfl) (fun _ _ _ h => h) (by kernel_rfl) (v := ?v2) ?y2 ?r2
  case y2 => (intro u hu; have zz := HW.out; go_simp; try rfl)
  simp only [Act.put, List.setIfInBounds_toArray, List.set_cons_zero, List.set_cons_succ]
  refine take_held 3 (by assumption) rfl (by kernel_rfl) (by kernel_rfl) (by kernel_rfl) (fun _ _ _ h => h) (by kernel_rfl) (v := ?v3) ?y3 ?r3
  case y3 => (intro u hu; go_simp; try rfl)
  simp only [Act.put, List.setIfInBounds_toArray, List.set_cons_zero, List.set_cons_succ]
  refine take_held 4 (by assumption) rfl (by kernel_rfl) (by kernel_rfl) (by kernel_rfl) (fun _ _ _ h => h) (by kernel_rfl) (v := ?v4) ?y4 ?r4
  case y4 => (intro u hu; go_simp; try rfl)
  simp only [Act.put, List.setIfInBounds_toArray, List.set_cons_zero, List.set_cons_succ]
  refine take_held 5 (by assumption) rfl (by kernel_rfl) (by kernel_rfl) (by kernel_rfl) (fun _ _ _ h => h) (by kernel_rfl) (v := ?v5) ?y5 ?r5
  case y5 => (intro u hu; have zz := HO.out; go_simp; try rfl)
  simp only [Act.put, List.setIfInBounds_toArray, List.set_cons_zero, List.set_cons_succ]
  refine wpAnyH_ready (rs := [6]) (by kernel_rfl) (by simp) (AllReadyH.cons ((nth_eq _ 6).trans rfl) ?_ AllReadyH.nil)
  intro K' hK
  refine value_in hK (by kernel_rfl) (.pointer (some ⟨w2.heap.size, 0, none⟩)) (w2.drew.alloc (.cells #[.pointer none] 180)) (by go_simp; try rfl) (by rw [hIH]; exact (Below.refl _ _).drew.alloc (Nat.le_refl _) _) ?_
  simp only [Act.put, List.setIfInBounds_toArray, List.set_cons_zero, List.set_cons_succ]
  refine wpAnyH_ready (rs := [7]) (by kernel_rfl) (by simp) (AllReadyH.cons ((nth_eq _ 7).trans rfl) ?_ AllReadyH.nil)
  intro K' hK
  refine skip_in hK (by kernel_rfl) ((w2.drew.alloc (.cells #[.pointer none] 180)).setCell ⟨w2.heap.size, 0, none⟩ (.pointer (some ⟨b, off, none⟩))) (by go_simp; try rfl) (by rw [hIH]; exact ((Below.refl _ _).drew.alloc (Nat.le_refl _) _).setCell (p := ⟨w2.heap.size, 0, none⟩) (Nat.le_refl _) _) ?_
  simp only [Act.put, List.setIfInBounds_toArray, List.set_cons_zero, List.set_cons_succ]
  refine done_held (by kernel_rfl) ?_ _
  obtain ⟨w3, hw3⟩ : ∃ w3, (w2.drew.alloc (.cells #[.pointer none] 180)).setCell ⟨w2.heap.size, 0, none⟩ (.pointer (some ⟨b, off, none⟩)) = w3 := ⟨_, rfl⟩
  have b3 : Below w2.heap.size w2 w3 := by rw [← hw3]; exact ((Below.refl _ _).drew.alloc (Nat.le_refl _) _).setCell (p := ⟨w2.heap.size, 0, none⟩) (Nat.le_refl _) _
  have p3 : w3.cell? ⟨w2.heap.size, 0, none⟩ = some (.pointer (some ⟨b, off, none⟩)) := by
    rw [← hw3]
    exact World.cell?_setCell_same _ _ _ (by have := (Boxed.new w2.drew 180 (.pointer none)).cell; exact this)
  have s3 : w3.heap.size = w.heap.size + 3 := by rw [← hw3]; simp [World.setCell, s2]
  try rw [hw3]
  clear hw3 hIH kI hS L0 L1
  have h3 := h2.go b3
  have k3 : w3.cell? ⟨w.heap.size, 0, none⟩ = some (.pointer (some ⟨b, 0, none⟩)) := (b3.cell (p := ⟨w.heap.size, 0, none⟩) (World.block_lt_of_cell? w2 _ k2)).trans k2
  have n3 : w3.cell? ⟨w.heap.size + 1, 0, none⟩ = some (.int .i64 n) := (b3.cell (p := ⟨w.heap.size + 1, 0, none⟩) (World.block_lt_of_cell? w2 _ n2)).trans n2
  have b03 := bcat b2 b3
  have pA3 : PAt w3 b off (prof u a v n) := by have q := h3.prof n hn1 hn; rw [HN.out] at q; exact q
  have hmf : ∀ (fn : Fn) (first cap : Array Value) (w : World), (Instr.makeFunc fn first cap).run Tryz.prog w = .ok (.func fn first cap) w := fun _ _ _ _ => rfl
  have e2 : w2.heap.size = w.heap.size + 2 := s2
  rw [e2] at p3 ⊢
  clear k2 n2 pA b2 h2 h b3
  rcases pA3.st with ⟨d0, d3⟩ | ⟨d0, x, d3, hr⟩
  · obtain ⟨w4, hw4⟩ : ∃ w4, w3.setCell ⟨b, off + 1, none⟩ (.int .i32 1) = w4 := ⟨_, rfl⟩
    have c4 : ∀ p : Addr, p.block ≠ b → w4.cell? p = w3.cell? p := fun p hp => by rw [← hw4]; exact World.cell?_setCell_far _ _ _ _ (fun e => hp e.symm)
    have c4b : ∀ o, o ≠ off + 1 → w4.cell? ⟨b, o, none⟩ = w3.cell? ⟨b, o, none⟩ := fun o ho => by rw [← hw4]; exact World.cell?_setCell_other _ _ _ _ (by intro e; cases e; exact ho rfl)
    have s4 : w4.heap.size = w3.heap.size := by rw [← hw4]; simp [World.setCell]
    have hF := callsIn_wide.1 (places1_in b off u a v n w.heap.size (w.heap.size + 1) (w.heap.size + 2) w4 ⟨(c4b 0 (by omega)).trans h3.nums.unit, (c4b 1 (by omega)).trans h3.nums.accel, (c4b 2 (by omega)).trans h3.nums.speed⟩ hu2 ha ha2 hv1 hv hn1 hn
      ((c4 _ (by show w.heap.size ≠ b; omega)).trans k3) ((c4 _ (by show w.heap.size + 1 ≠ b; omega)).trans n3) ((c4 _ (by show w.heap.size + 2 ≠ b; omega)).trans p3) ho3 ((c4b _ (by omega)).trans d3) (by rw [← hw4, World.frozen?_setCell]; exact h3.froz _) (by omega))
    have cD := do_first b off (.pointer (some ⟨w.heap.size, 0, none⟩)) (.pointer (some ⟨w.heap.size + 1, 0, none⟩)) (.pointer (some ⟨w.heap.size + 2, 0, none⟩)) w3 (fun w' => OneCell w4 b (off + 3) w' ∧ ∃ x, w'.cell? ⟨b, off + 3, none⟩ = some x ∧ w'.ownsRow w4.heap.size 3 1 x (spd u a v n).length (ints (prof u a v n)))
      d0 pA3.lock (h3.froz _) (by rw [hw4]; exact hF) (fun w' hw => ⟨(hw.1.cells off (by omega)).trans ((c4b off (by omega)).trans d0), (hw.1.cells (off + 1) (by omega)).trans (by rw [← hw4]; exact World.cell?_setCell_same _ _ _ pA3.lock), (hw.1.froz _).trans (by rw [← hw4, World.frozen?_setCell]; exact h3.froz _), (hw.1.froz _).trans (by rw [← hw4, World.frozen?_setCell]; exact h3.froz _)⟩)
    have cD' : Calls Tryz.prog 131 #[.pointer (some ⟨b, off, none⟩), .func (.func 132) #[] #[.pointer (some ⟨w.heap.size, 0, none⟩), .pointer (some ⟨w.heap.size + 1, 0, none⟩), .pointer (some ⟨w.heap.size + 2, 0, none⟩)]] w3 fun e w' => e = .returned (.tuple #[]) ∧ ∃ x, w'.cell? ⟨w.heap.size + 2, 0, none⟩ = some (.pointer (some ⟨b, off, none⟩)) ∧ w'.cell? ⟨b, off + 3, none⟩ = some x ∧ KGo b u a v w3 w' ∧ w'.ownsRow (b + 1) 3 1 x (spd u a v n).length (ints (prof u a v n)) := by
      refine cD.mono ?_
      rintro e w' ⟨rfl, w1, ⟨q1, x, q2, q3⟩, rfl⟩
      rw [← hw4] at q1
      rw [s4] at q3
      obtain ⟨r1, r2, r3⟩ := kin_done h3 hn1 hn HN.out q1 q2 q3
      exact ⟨rfl, x, (cell_same (r1.grow.block _ (by omega) (fun e => by cases e; omega))).trans p3, r2, r1, r3⟩
    clear cD hF c4 c4b hw4 s4 d0 d3 pA3 hlen
    go_wp2_with (go_at_call 131; refine cD'.mono ?_; rintro e w5 ⟨rfl, x, p5, x5, g5, r5⟩)
    obtain ⟨xa, xc, rfl, _⟩ := own_form r5
    go_wp2
    go_ret
    exact ⟨_, rfl, r5, (KGo.below (h3.go (Below.refl _ _)) (Below.refl _ _)).trans g5 |> fun q => ⟨q.kin, grown_trans ⟨b03.os, b03.tape, b03.output, b03.size, fun k hk _ => b03.block k hk⟩ q.grow⟩⟩
  · have cD := do_done ⟨b, off, none⟩ (.func (.func 132) #[] #[.pointer (some ⟨w.heap.size, 0, none⟩), .pointer (some ⟨w.heap.size + 1, 0, none⟩), .pointer (some ⟨w.heap.size + 2, 0, none⟩)]) w3 d0
    rw [hlen] at hr
    obtain ⟨xa, xc, rfl, _⟩ := own_form hr
    go_wp2_with (go_at_call 131; refine cD.mono ?_; rintro e w5 ⟨rfl, rfl⟩)
    go_ret
    exact ⟨_, rfl, hr, ⟨h3, ⟨b03.os, b03.tape, b03.output, b03.size, fun k hk _ => b03.block k hk⟩⟩⟩
end Go.Proofs.YtedhoghleelhfaaGreat.Kin
namespace Go.Proofs.YtedhoghleelhfaaGreat.Kin
set_option linter.unusedVariables false
set_option linter.unusedSimpArgs false
open Go Go.RowKit Go.Shelf Go.Proofs
attribute [local go_sem] Oper.semAt_some

theorem eql_nil (w : World) (t e : TypeId) (a : Option Addr) (l c : Nat) (h : Tryz.prog.underlying t = some (.slice e)) : (binOp .eql t (.slice a l c) (.slice none 0 0)).run Tryz.prog w = .ok (.bool a.isNone) w := by
  simp only [binOp]
  simp [run_equal_slice_nil w t e a l c h]
/- Numbers that may be. -/
structure Ok (u a v : Nat) : Prop where
  u1 : 1 ≤ u
  u2 : u ≤ 1000
  a1 : 1 ≤ a
  a2 : a ≤ 1000
  v1 : 1 ≤ v
  v2 : v ≤ 1000
theorem spd_bd {u a v n : Nat} (h : Ok u a v) (hn1 : 1 ≤ n) (hn : n ≤ 16) : 1 ≤ (spd u a v n).length ∧ (spd u a v n).length ≤ 16000 := by
  have h1 := spd_len (u := u) (n := n) h.a1 h.v1
  have h2 := mul_small hn h.u2
  have h3 : 1 ≤ n * u := Nat.mul_pos hn1 h.u1
  refine ⟨?_, by omega⟩
  by_cases h0 : (spd u a v n).length = 0
  · rw [h0, Nat.zero_mul] at h1; omega
  · omega
/- A profile that is asked for: none, if there is no such run. -/
def profI (u a v : Nat) (n : Int) : List Nat := if 1 ≤ n ∧ n ≤ 16 then prof u a v n.toNat else []
theorem profI_in {u a v : Nat} {n : Nat} (h1 : 1 ≤ n) (h2 : n ≤ 16) : profI u a v n = prof u a v n := by unfold profI; rw [if_pos (by omega)]; rfl
theorem profI_out {u a v : Nat} {n : Int} (h : n < 1 ∨ 16 < n) : profI u a v n = [] := by unfold profI; rw [if_neg (by omega)]
theorem profI_len {u a v : Nat} (h : Ok u a v) (n : Int) : (profI u a v n).length ≤ 16000 := by
  by_cases hn : 1 ≤ n ∧ n ≤ 16
  · obtain ⟨m, rfl⟩ := Int.eq_ofNat_of_zero_le (show 0 ≤ n by omega)
    rw [profI_in (by omega) (by omega), prof_len]
    exact (spd_bd h (by omega) (by omega)).2
  · rw [profI_out (by omega)]; simp
set_option maxHeartbeats 1000000 in
/- places, for any number of cells. -/
theorem places_all (b u a v : Nat) (n : Int) (w : World) (h : KinAt w b u a v) (ok : Ok u a v) :
    Calls Tryz.prog 122 #[.pointer (some ⟨b, 0, none⟩), .int .i64 n] w fun e w' => ∃ x, e = .returned x ∧ w'.ownsRow (b + 1) 3 1 x (profI u a v n).length (ints (profI u a v n)) ∧ KGo b u a v w w' := by
  by_cases hn : 1 ≤ n ∧ n ≤ 16
  · obtain ⟨m, rfl⟩ := Int.eq_ofNat_of_zero_le (show 0 ≤ n by omega)
    rw [profI_in (by omega) (by omega), prof_len]
    exact places_any b u a v m w h ok.u2 ok.a1 ok.a2 ok.v1 ok.v2 (by omega) (by omega)
  · rw [profI_out (by omega)]
    refine (places_none b n (by omega) w).mono ?_
    rintro e w' ⟨rfl, hb⟩
    exact ⟨_, rfl, World.ownsRow_nil _ _ _ _, KGo.below h hb⟩
set_option maxHeartbeats 1000000 in
theorem time_any (b u a v : Nat) (n : Int) (w : World) (h : KinAt w b u a v) (ok : Ok u a v) :
    Calls Tryz.prog 106 #[.pointer (some ⟨b, 0, none⟩), .int .i64 n] w fun e w' => e = .returned (.int .i64 ((profI u a v n).length : Nat)) ∧ KGo b u a v w w' := by
  have cP := places_all b u a v n w h ok
  generalize hk : (profI u a v n).length = k at *
  generalize ints (profI u a v n) = xs at *
  clear hk
  go_enter Tryz.func106, Tryz.ntmps106
  go_wp2_with (go_at_call 122; refine cP.mono ?_; rintro e w1 ⟨x, rfl, r1, g1⟩; obtain ⟨xa, xc, rfl, _⟩ := own_form r1)
  go_ret
  exact ⟨rfl, g1⟩
/- The place behind t ticks. -/
def atI (u a v : Nat) (n t : Int) : Nat := if t < 1 then 0 else ((profI u a v n)[min t.toNat (profI u a v n).length - 1]?).getD 0
theorem atI_low {u a v : Nat} {n t : Int} (h : t < 1) : atI u a v n t = 0 := if_pos h
theorem atI_out {u a v : Nat} {n t : Int} (h : n < 1 ∨ 16 < n) : atI u a v n t = 0 := by unfold atI; rw [profI_out h]; simp
theorem atI_in {u a v : Nat} (ok : Ok u a v) {n : Nat} (h1 : 1 ≤ n) (h2 : n ≤ 16) (t : Nat) : atI u a v n t = pos u a v n t := by
  have hl := spd_bd ok h1 h2
  unfold atI
  rw [profI_in h1 h2, prof_len]
  by_cases ht : t = 0
  · subst ht; rw [if_pos (by omega), pos_zero]
  · rw [if_neg (by omega), Int.toNat_natCast, prof_get (by omega), Option.getD_some]
    by_cases hm : t ≤ (spd u a v n).length
    · congr 1; omega
    · rw [pos_end ok.a1 ok.v1 (by omega), pos_end ok.a1 ok.v1 (by omega)]
set_option maxHeartbeats 1000000 in
theorem at_any (b u a v : Nat) (n t : Int) (w : World) (h : KinAt w b u a v) (ok : Ok u a v) :
    Calls Tryz.prog 107 #[.pointer (some ⟨b, 0, none⟩), .int .i64 n, .int .i64 t] w fun e w' => e = .returned (.int .i64 (atI u a v n t : Nat)) ∧ KGo b u a v w w' := by
  have cP := places_all b u a v n w h ok
  have hl := profI_len ok n
  by_cases ht : t < 1
  · rw [atI_low ht]
    go_enter Tryz.func107, Tryz.ntmps107
    go_wp2_with (go_at_call 122; refine cP.mono ?_; rintro e w1 ⟨x, rfl, r1, g1⟩; obtain ⟨xa, xc, rfl, _⟩ := own_form r1)
    go_ret
    exact ⟨rfl, g1⟩
  · by_cases h0 : (profI u a v n).length = 0
    · have e0 : atI u a v n t = 0 := by unfold atI; rw [List.eq_nil_of_length_eq_zero h0]; simp
      rw [e0]
      rw [h0] at cP
      clear hl h0 e0
      go_enter Tryz.func107, Tryz.ntmps107
      go_wp2_with (go_at_call 122; refine cP.mono ?_; rintro e w1 ⟨x, rfl, r1, g1⟩; obtain ⟨xa, xc, rfl, _⟩ := own_form r1)
      go_ret
      exact ⟨rfl, g1⟩
    · obtain ⟨m, hm⟩ : ∃ m, min t.toNat (profI u a v n).length = m + 1 := ⟨min t.toNat (profI u a v n).length - 1, by omega⟩
      have e0 : atI u a v n t = ((profI u a v n)[m]?).getD 0 := by unfold atI; rw [if_neg ht, hm]; rfl
      have hmk : m < (profI u a v n).length := by omega
      obtain ⟨z, hz⟩ : ∃ z, ((profI u a v n)[m]?) = some z := ⟨_, List.getElem?_eq_getElem hmk⟩
      rw [e0, hz, Option.getD_some]
      have hzi : (ints (profI u a v n))[m]? = some (.int .i64 (z : Nat)) := by unfold ints; rw [List.getElem?_map, hz]; rfl
      have HT : Hid ((t.toNat : Int) = t) := by unfold Hid; omega
      have cP' : Calls Tryz.prog 122 #[.pointer (some ⟨b, 0, none⟩), .int .i64 n] w fun e w' => ∃ g c, e = .returned (.slice (some ⟨g, 0, none⟩) (profI u a v n).length c) ∧ w'.cell? ⟨g, m, none⟩ = some (.int .i64 (z : Nat)) ∧ KGo b u a v w w' := by
        refine cP.mono ?_
        rintro e w' ⟨x, rfl, r1, g1⟩
        rcases r1.2 with ⟨_, q⟩ | ⟨g, c, cur, rfl, _⟩
        · omega
        · exact ⟨g, c, rfl, (r1.cellAt m (by omega)).trans hzi, g1⟩
      clear cP hz hzi e0
      generalize (profI u a v n).length = k at *
      by_cases hlt : (k : Int) < t
      · obtain rfl : k = m + 1 := by omega
        have hd1 : decide (t < 1) = false := decide_eq_false ht
        have hd2 : ((m : Int) + 1 == 0) = false := by rw [beq_eq_false_iff_ne]; omega
        go_enter Tryz.func107, Tryz.ntmps107
        go_wp2_with (go_at_call 122; refine cP'.mono ?_; rintro e w1 ⟨g, c, rfl, cz, g1⟩)
        go_ret
        exact ⟨rfl, g1⟩
      · obtain rfl : t = ((m + 1 : Nat) : Int) := by omega
        have hd1 : decide ((m : Int) + 1 < 1) = false := decide_eq_false (by omega)
        have hd2 : ((k : Int) == 0) = false := by rw [beq_eq_false_iff_ne]; omega
        go_enter Tryz.func107, Tryz.ntmps107
        go_wp2_with (go_at_call 122; refine cP'.mono ?_; rintro e w1 ⟨g, c, rfl, cz, g1⟩)
        go_ret
        exact ⟨rfl, g1⟩
/- How far it went in the tick t. -/
def velI (u a v : Nat) (n t : Int) : Nat := if t < 1 then 0 else atI u a v n t - atI u a v n (t - 1)
theorem velI_in {u a v : Nat} (ok : Ok u a v) {n : Nat} (h1 : 1 ≤ n) (h2 : n ≤ 16) (t : Nat) : velI u a v n t = vel u a v n t := by
  unfold velI vel
  by_cases ht : t = 0
  · subst ht; simp
  · rw [if_neg (by omega), atI_in ok h1 h2, show ((t : Int) - 1) = ((t - 1 : Nat) : Int) by omega, atI_in ok h1 h2]
theorem atI_mono {u a v : Nat} (ok : Ok u a v) (n : Int) {s t : Int} (h : s ≤ t) : atI u a v n s ≤ atI u a v n t := by
  by_cases hn : 1 ≤ n ∧ n ≤ 16
  · obtain ⟨m, rfl⟩ := Int.eq_ofNat_of_zero_le (show 0 ≤ n by omega)
    by_cases hs : s < 1
    · rw [atI_low hs]; exact Nat.zero_le _
    · obtain ⟨s', rfl⟩ := Int.eq_ofNat_of_zero_le (show 0 ≤ s by omega)
      obtain ⟨t', rfl⟩ := Int.eq_ofNat_of_zero_le (show 0 ≤ t by omega)
      rw [atI_in ok (by omega) (by omega), atI_in ok (by omega) (by omega)]
      exact pos_mono _ _ _ _ (by omega)
  · rw [atI_out (by omega)]; exact Nat.zero_le _
theorem atI_le {u a v : Nat} (ok : Ok u a v) (n t : Int) : atI u a v n t ≤ n.toNat * u ∧ atI u a v n t ≤ 16000 := by
  by_cases hn : 1 ≤ n ∧ n ≤ 16
  · obtain ⟨m, rfl⟩ := Int.eq_ofNat_of_zero_le (show 0 ≤ n by omega)
    by_cases ht : t < 1
    · rw [atI_low ht]; omega
    · obtain ⟨t', rfl⟩ := Int.eq_ofNat_of_zero_le (show 0 ≤ t by omega)
      rw [atI_in ok (by omega) (by omega), Int.toNat_natCast]
      have := pos_le (u := u) (n := m) ok.a1 ok.v1 t'
      have := mul_small (n := m) (by omega) ok.u2
      omega
  · rw [atI_out (by omega)]; omega
set_option maxHeartbeats 1000000 in
theorem speed_any (b u a v : Nat) (n t : Int) (w : World) (h : KinAt w b u a v) (ok : Ok u a v) (ht2 : t ≤ 9223372036854775807) :
    Calls Tryz.prog 108 #[.pointer (some ⟨b, 0, none⟩), .int .i64 n, .int .i64 t] w fun e w' => e = .returned (.int .i64 (velI u a v n t : Nat)) ∧ KGo b u a v w w' := by
  by_cases ht : t < 1
  · have e : velI u a v n t = 0 := if_pos ht
    rw [e]
    go_enter Tryz.func108, Tryz.ntmps108
    go_wp2
    go_ret
    exact ⟨rfl, KGo.refl h⟩
  · have e : velI u a v n t = atI u a v n t - atI u a v n (t - 1) := if_neg ht
    have hm := atI_mono ok n (show t - 1 ≤ t by omega)
    have hb := (atI_le ok n t).2
    have c1 := at_any b u a v n t w h ok
    have c2 := fun (w1 : World) (h1 : KinAt w1 b u a v) => at_any b u a v n (t - 1) w1 h1 ok
    rw [e]
    generalize atI u a v n t = p at *
    generalize atI u a v n (t - 1) = q at *
    clear e
    go_enter Tryz.func108, Tryz.ntmps108
    go_wp2_with (first | (go_at_call 107; refine (c2 w1 g1.kin).mono ?_; rintro e w2 ⟨rfl, g2⟩) | (go_at_call 107; refine c1.mono ?_; rintro e w1 ⟨rfl, g1⟩))
    go_ret
    exact ⟨ret_int (by omega), g1.trans g2⟩
end Go.Proofs.YtedhoghleelhfaaGreat.Kin
namespace Go.Proofs.YtedhoghleelhfaaGreat.Kin
set_option linter.unusedVariables false
set_option linter.unusedSimpArgs false
open Go Go.RowKit Go.Shelf Go.Proofs
attribute [local go_sem] Oper.semAt_some

/- How many cells, and in how many further ticks. -/
def cellsS (u a p s : Nat) : Nat := (p + brk a s + u - 1) / u
def ticksS (u a v p s : Nat) : Nat := (runs a v 0 (cellsS u a p s * u - p) s).length
def stopC (u a v : Nat) (n t : Int) : Nat := if t < 1 ∨ (profI u a v n).length = 0 then 0 else if ((profI u a v n).length : Int) ≤ t then n.toNat else cellsS u a (atI u a v n t) (velI u a v n t)
def stopT (u a v : Nat) (n t : Int) : Nat := if t < 1 ∨ (profI u a v n).length = 0 then 0 else if ((profI u a v n).length : Int) ≤ t then 0 else ticksS u a v (atI u a v n t) (velI u a v n t)
theorem cells_bd {u a p s : Nat} (hu : 1 ≤ u) : p + brk a s ≤ cellsS u a p s * u ∧ cellsS u a p s * u < p + brk a s + u := by
  unfold cellsS
  have h1 := Nat.div_mul_le_self (p + brk a s + u - 1) u
  have h2 := Nat.lt_div_mul_add (a := p + brk a s + u - 1) (b := u) (by omega)
  omega
theorem prof_zero {u a v : Nat} (ok : Ok u a v) {n : Int} : (profI u a v n).length = 0 ↔ n < 1 ∨ 16 < n := by
  by_cases hn : 1 ≤ n ∧ n ≤ 16
  · obtain ⟨m, rfl⟩ := Int.eq_ofNat_of_zero_le (show 0 ≤ n by omega)
    rw [profI_in (by omega) (by omega), prof_len]
    have := (spd_bd ok (n := m) (by omega) (by omega)).1
    omega
  · rw [profI_out (by omega)]
    simp
    omega
/- What has been counted so far. -/
theorem cnt_own {T N k0 : Nat} {w1 : World} (hT : T ≤ w1.heap.size) (hN : T < N) : OwnFrom N (fun (pre : List Spd) V => Boxed V T 3 (.int .i64 (pre.length : Nat)) ∧ Below T w1 V) := by
  intro pre X Y row h hg hr
  exact ⟨box_kept h.1 hg (fun r e => (hr r e).2), h.2.grown hg (Nat.le_trans hT h.2.size) (fun k e => by have := (hr k e).1; omega)⟩
set_option maxRecDepth 100000 in
set_option maxHeartbeats 2000000 in
theorem stop_low (b u a v : Nat) (n t : Int) (w : World) (h : KinAt w b u a v) (ok : Ok u a v) (ht : t < 1 ∨ (profI u a v n).length = 0) :
    Calls Tryz.prog 93 #[.pointer (some ⟨b, 0, none⟩), .int .i64 n, .int .i64 t] w fun e w' => e = .returned (.tuple #[.int .i64 0, .int .i64 0]) ∧ KGo b u a v w w' := by
  have cT := time_any b u a v n w h ok
  by_cases h1 : t < 1
  · clear ht
    refine (callsIn_wide (n := 9)).1 ?_
    refine callsIn_of_wp_marks Tryz.func93 rfl trivial ?_ rfl
    simp only [Tryz.ntmps93, List.size_toArray, List.length_cons, List.length_nil, Nat.reduceAdd, Nat.reduceSub, Array.replicate_succ, Array.replicate_zero, List.push_toArray, List.append_toArray, List.nil_append, List.cons_append]
    gi_wp2_with (refine ⟨trivial, ?_⟩; gi_at_call 106; refine (callsIn_wide.2 cT).mono ?_; rintro e w1 ⟨rfl, g1⟩)
    refine ⟨.tuple #[.int .i64 0, .int .i64 0], by simp [results, Tryz.results93, go_sem], rfl, g1⟩
  · have h0 : (profI u a v n).length = 0 := by rcases ht with h | h <;> first | exact (h1 h).elim | exact h
    have hd1 : decide (t < 1) = false := decide_eq_false h1
    rw [h0] at cT
    clear ht h0
    refine (callsIn_wide (n := 9)).1 ?_
    refine callsIn_of_wp_marks Tryz.func93 rfl trivial ?_ rfl
    simp only [Tryz.ntmps93, List.size_toArray, List.length_cons, List.length_nil, Nat.reduceAdd, Nat.reduceSub, Array.replicate_succ, Array.replicate_zero, List.push_toArray, List.append_toArray, List.nil_append, List.cons_append]
    gi_wp2_with (refine ⟨trivial, ?_⟩; gi_at_call 106; refine (callsIn_wide.2 cT).mono ?_; rintro e w1 ⟨rfl, g1⟩)
    refine ⟨.tuple #[.int .i64 0, .int .i64 0], by simp [results, Tryz.results93, go_sem], rfl, g1⟩
set_option maxRecDepth 100000 in
set_option maxHeartbeats 2000000 in
theorem stop_end (b u a v : Nat) (n t : Int) (w : World) (h : KinAt w b u a v) (ok : Ok u a v) (ht : ¬ t < 1) (h0 : (profI u a v n).length ≠ 0) (hl : ((profI u a v n).length : Int) ≤ t) :
    Calls Tryz.prog 93 #[.pointer (some ⟨b, 0, none⟩), .int .i64 n, .int .i64 t] w fun e w' => e = .returned (.tuple #[.int .i64 n, .int .i64 0]) ∧ KGo b u a v w w' := by
  have cT := time_any b u a v n w h ok
  have hd1 : decide (t < 1) = false := decide_eq_false ht
  generalize (profI u a v n).length = k at *
  have hd2 : ((k : Int) == 0) = false := by rw [beq_eq_false_iff_ne]; omega
  refine (callsIn_wide (n := 9)).1 ?_
  refine callsIn_of_wp_marks Tryz.func93 rfl trivial ?_ rfl
  simp only [Tryz.ntmps93, List.size_toArray, List.length_cons, List.length_nil, Nat.reduceAdd, Nat.reduceSub, Array.replicate_succ, Array.replicate_zero, List.push_toArray, List.append_toArray, List.nil_append, List.cons_append]
  gi_wp2_with (refine ⟨trivial, ?_⟩; gi_at_call 106; refine (callsIn_wide.2 cT).mono ?_; rintro e w1 ⟨rfl, g1⟩)
  refine ⟨.tuple #[.int .i64 n, .int .i64 0], by simp [results, Tryz.results93, go_sem], rfl, g1⟩
set_option maxRecDepth 100000 in
set_option maxHeartbeats 4000000 in
theorem stop_mid (b u a v : Nat) (n t : Int) (w : World) (h : KinAt w b u a v) (ok : Ok u a v) (ht : ¬ t < 1) (ht2 : t ≤ 9223372036854775807) (h0 : (profI u a v n).length ≠ 0) (hl : ¬ ((profI u a v n).length : Int) ≤ t) (p s : Nat) (hp : atI u a v n t = p) (hs : velI u a v n t = s) (hp2 : p ≤ 16000) (hs1 : 1 ≤ s) (hsv : s ≤ v) :
    Calls Tryz.prog 93 #[.pointer (some ⟨b, 0, none⟩), .int .i64 n, .int .i64 t] w fun e w' => e = .returned (.tuple #[.int .i64 (cellsS u a p s : Nat), .int .i64 (ticksS u a v p s : Nat)]) ∧ KGo b u a v w w' := by
  have cT := time_any b u a v n w h ok
  have cA := fun (w1 : World) (h1 : KinAt w1 b u a v) => at_any b u a v n t w1 h1 ok
  have cS := fun (w1 : World) (h1 : KinAt w1 b u a v) => speed_any b u a v n t w1 h1 ok ht2
  rw [hp] at cA
  rw [hs] at cS
  have hd1 : decide (t < 1) = false := decide_eq_false ht
  obtain ⟨u1, u2, a1, a2, v1, v2⟩ := ok
  generalize (profI u a v n).length = k at *
  have hd2 : ((k : Int) == 0) = false := by rw [beq_eq_false_iff_ne]; omega
  have hu0 : ¬ (u : Int) = 0 := by omega
  have hB := brk_bound (m := 1000) a1 (show s ≤ 1000 by omega)
  obtain ⟨q1, q2⟩ := cells_bd (u := u) (a := a) (p := p) (s := s) u1
  have cB := fun (w1 : World) (h1 : KAt w1 b u a v) => brake_any b u a v s w1 h1 a1 a2 v2
  rw [cutS_nat hsv] at cB
  have EC : Hid (((p : Int) + (brk a s : Nat) + u - 1) / u = (cellsS u a p s : Nat)) := by
    unfold Hid cellsS
    rw [Int.natCast_ediv]
    congr 1
    omega
  have ET : Hid (ticksS u a v p s = (runs a v 0 (cellsS u a p s * u - p) s).length) := rfl
  generalize brk a s = B at *
  generalize cellsS u a p s = C at *
  generalize ticksS u a v p s = T at *
  clear hp hs
  refine (callsIn_wide (n := 9)).1 ?_
  refine callsIn_of_wp_marks Tryz.func93 rfl trivial ?_ rfl
  simp only [Tryz.ntmps93, List.size_toArray, List.length_cons, List.length_nil, Nat.reduceAdd, Nat.reduceSub, Array.replicate_succ, Array.replicate_zero, List.push_toArray, List.append_toArray, List.nil_append, List.cons_append]
  gi_wp2_with (first
    | (refine ⟨trivial, ?_⟩; gi_at_call 106; refine (callsIn_wide.2 cT).mono ?_; rintro e w1 ⟨rfl, g1⟩)
    | (refine ⟨trivial, ?_⟩; gi_at_call 107; refine (callsIn_wide.2 (cA w1 g1.kin)).mono ?_; rintro e w2 ⟨rfl, g2⟩)
    | (refine ⟨trivial, ?_⟩; gi_at_call 108; refine (callsIn_wide.2 (cS w2 g2.kin)).mono ?_; rintro e w3 ⟨rfl, g3⟩))
  have G3 := (g1.trans g2).trans g3
  refine wpIn_wide.2 ?_
  have ne : Nonempty (Cls (fun w' => Below w3.heap.size w3 w')) := ⟨⟨w3, Below.refl _ _⟩⟩
  have r0 : ∀ z : Cls (fun w' => Below w3.heap.size w3 w'), z.w.cell? ⟨b, 0, none⟩ = some (.int .i64 u) := fun z => (G3.kin.nums.go z.h).unit
  refine wp_region_cls (fun w' => Below w3.heap.size w3 w') (by kernel_rfl) (by kernel_rfl) (Below.refl _ _).drew ?_
  repeat (go_big_quiet_step ((go_at_call 109; exact cls_call (cB _ (G3.kin.nums.go (Cls.h _))) (fun w' hw => bcat (Cls.h _) hw))))
  refine wpQuiet_nil ?_
  rintro w4 ⟨⟨_, b4⟩, rfl⟩
  rw [EC.out]
  have K4 := G3.kin.nums.go b4
  have c4 := K4.unit
  have lt4 := K4.lt
  obtain ⟨L, hL⟩ : ∃ L, C * u - p = L := ⟨_, rfl⟩
  have m1 : (C : Int) * (u : Int) ≤ 2000000 := by rw [← Int.natCast_mul]; omega
  have m2 : 0 ≤ (C : Int) * (u : Int) := by rw [← Int.natCast_mul]; omega
  have EL : Hid ((C : Int) * (u : Int) - (p : Int) = (L : Int)) := by unfold Hid; rw [← Int.natCast_mul]; omega
  have hL2 : L ≤ 1000000 + 1000 := by omega
  rw [hL] at ET
  clear EC hL r0 ne
  have w5a : (w4.alloc (.cells #[.int .i64 0] 3)).cell? ⟨b, 0, none⟩ = some (.int .i64 u) := by rw [World.cell?_alloc_past _ _ _ lt4]; exact c4
  gi_wp2_with (refine ⟨trivial, ?_⟩; gi_at_call 110; refine (callsIn_wide.2 (steps_any b _ _ _ _)).mono ?_; rintro e V ⟨rfl, hV⟩; have HV : Hid (V = _) := hV; clear hV)
  have hV := HV.out
  clear HV
  rw [EL.out] at hV
  have sV : V.heap.size = w4.heap.size + 5 := by rw [hV]; simp
  obtain ⟨w5, hw5⟩ : ∃ w5, w4.alloc (.cells #[.int .i64 0] 3) = w5 := ⟨_, rfl⟩
  have s5 : w5.heap.size = w4.heap.size + 1 := by rw [← hw5]; simp
  have t5 : Boxed w5 w4.heap.size 3 (.int .i64 0) := by rw [← hw5]; exact Boxed.new _ _ _
  have b5 : Below w4.heap.size w4 w5 := by rw [← hw5]; exact (Below.refl _ _).alloc (Nat.le_refl _) _
  rw [hw5] at hV
  have bV : Below w5.heap.size w5 V := by rw [hV]; exact (((((Below.refl _ w5).alloc (Nat.le_refl _) _).alloc (by simp) _).alloc (by simp; omega) _).alloc (by simp; omega) _)
  have kV : Boxed V (w4.heap.size + 1) 58 (.pointer (some ⟨b, 0, none⟩)) := by
    rw [hV, ← s5]
    exact (((Boxed.new w5 _ _).alloc _).alloc _).alloc _
  have lV : Boxed V (w4.heap.size + 2) 3 (.int .i64 (L : Int)) := by
    rw [hV]
    have := Boxed.new (w5.alloc (.cells #[.pointer (some ⟨b, 0, none⟩)] 58)) 3 (.int .i64 (L : Int))
    rw [World.size_alloc, s5] at this
    exact (this.alloc _).alloc _
  have sV2 : Boxed V (w4.heap.size + 3) 3 (.int .i64 (s : Int)) := by
    rw [hV]
    have := Boxed.new ((w5.alloc (.cells #[.pointer (some ⟨b, 0, none⟩)] 58)).alloc (.cells #[.int .i64 (L : Int)] 3)) 3 (.int .i64 (s : Int))
    rw [World.size_alloc, World.size_alloc, s5] at this
    exact this.alloc _
  have rV : Boxed V (w4.heap.size + 4) 3 (.int .i64 ((0 : Nat) : Int)) := by
    rw [hV]
    have := Boxed.new (((w5.alloc (.cells #[.pointer (some ⟨b, 0, none⟩)] 58)).alloc (.cells #[.int .i64 (L : Int)] 3)).alloc (.cells #[.int .i64 (s : Int)] 3)) 3 (.int .i64 0)
    rw [World.size_alloc, World.size_alloc, World.size_alloc, s5] at this
    exact this
  have tV : Boxed V w4.heap.size 3 (.int .i64 0) := (bV.block _ t5.lt).trans t5
  have b4V := bcat b5 bV
  try rw [hw5]
  try rw [s5]
  clear hV hw5
  refine wpIn_rangeFunc_ownG rfl (by omega) (gf := 123) (lb := #[.pointer (some ⟨w4.heap.size + 2, 0, none⟩), .pointer (some ⟨w4.heap.size + 3, 0, none⟩), .pointer (some ⟨w4.heap.size + 1, 0, none⟩), .pointer (some ⟨w4.heap.size + 4, 0, none⟩)]) rfl trivial (enters_of Tryz.func123 (by kernel_rfl) rfl)
    (steps_stops 8 b u a v (w4.heap.size + 1) (w4.heap.size + 2) (w4.heap.size + 3) (w4.heap.size + 4) L s 0 a1 a2 v1 v2 (by omega) (by omega) (by omega) (by omega) (by omega) V (K4.go b4V) kV lV.cell sV2.cell rV) Kp.trans ?kb (Below.refl _ _) (fun _ => rfl)
    (fun pre V' => Boxed V' w4.heap.size 3 (.int .i64 (pre.length : Nat)) ∧ Below w4.heap.size w4 V') (fun _ _ _ => False)
    (cnt_own (k0 := 0) (Nat.le_refl _) (by omega)) (fun _ _ _ _ _ hs _ _ => hs)
    ⟨tV, b4V⟩
    ?a1 ?assign ?body ?done ?stop
  case kb =>
    intro W' l o o' hl ho _ _
    have hlt := (Array.getElem?_eq_some_iff.1 ho).1
    have hg := grownBy_putObj' W' l o'
    exact ⟨fun o _ => cell_same (hg.block _ (by omega) (fun e => by cases e; omega)), hg.block _ (by omega) (fun e => by cases e; omega), hg.block _ (by omega) (fun e => by cases e; omega)⟩
  case assign =>
    intro l q V' K hK
    simp only [encq]
    gi_wp2
    exact hK
  case body =>
    rintro l pre q V' ⟨hI, hB'⟩ hlt
    have hrl := (runs_len (a := a) (v := v) (rise := 0) (left := L) (s := s) a1 v1 (by omega)).1
    have hpl : pre.length ≤ 2000000 := by omega
    have hcP := hI.cell
    have hfP := hI.frozen
    gi_wp2
    have hle : ((pre.length : Nat) : Int) + 1 = (((pre ++ [q]).length : Nat) : Int) := by simp
    rw [hle]
    refine ⟨(KeepsOthers.setCell _ _ _).from _, ⟨fun o _ => cell_same (Below.heap_setCell _ _ _ _ (by show b ≠ w4.heap.size; omega)), Below.heap_setCell _ _ _ _ (by show w4.heap.size + 1 ≠ w4.heap.size; omega), Below.heap_setCell _ _ _ _ (by show w4.heap.size + 4 ≠ w4.heap.size; omega)⟩, hI.set _, hB'.setCell (p := ⟨w4.heap.size, 0, none⟩) (Nat.le_refl _) _⟩
  case done =>
    rintro D ys V' hD hys ⟨hI, hB'⟩ hKD
    have hlen : ys.length = T := by
      have := congrArg List.length hys
      rw [List.length_map] at this
      rw [ET.out]
      exact this
    rw [hlen] at hI
    gi_wp2
    refine wpIn_wide.2 ?_
    have ne : Nonempty (Cls (fun w' => Below V'.heap.size V' w')) := ⟨⟨V', Below.refl _ _⟩⟩
    have r0 : ∀ z : Cls (fun w' => Below V'.heap.size V' w'), z.w.cell? ⟨w4.heap.size, 0, none⟩ = some (.int .i64 T) := fun z => (z.h.cell (p := ⟨w4.heap.size, 0, none⟩) hI.lt).trans hI.cell
    refine wp_region_cls (fun w' => Below V'.heap.size V' w') (by kernel_rfl) (by kernel_rfl) (Below.refl _ _).drew ?_
    repeat (go_big_quiet_step (fail))
    refine wpQuiet_nil ?_
    rintro w6 ⟨⟨_, b6⟩, rfl⟩
    have hK6 : w6.heap[D]? = some (.deferred (some [])) := (b6.block D (Array.getElem?_eq_some_iff.1 hKD).1).trans hKD
    clear r0 ne
    gi_wp2
    refine ⟨by simp, .inl ⟨_, _, rfl, run_takeDeferred hK6, ?_⟩⟩
    refine ⟨.tuple #[.int .i64 C, .int .i64 T], by simp [results, Tryz.results93, go_sem], rfl, ?_⟩
    have bX : Below w4.heap.size w4 w6 := hB'.trans (b6.mono hB'.size)
    have gX := grownBy_putObj' w6 D (.deferred none)
    exact (G3.then b4).then (bX.grown gX bX.size (fun k e => by cases e; omega))
  case stop =>
    rintro D c pre V' _ _ h _
    exact h.elim
/- Stop, at any arguments. -/
theorem vel_bd {u a v n t : Nat} (ok : Ok u a v) (h1 : 1 ≤ t) (h2 : t ≤ (spd u a v n).length) : 1 ≤ vel u a v n t ∧ vel u a v n t ≤ v := by
  obtain ⟨m, rfl⟩ : ∃ m, t = m + 1 := ⟨t - 1, by omega⟩
  rw [vel_succ (by omega)]
  have st := spd_step (u := u) (n := n) ok.a1 ok.v1 (i := m) (by omega)
  exact ⟨st.pos, st.top⟩
theorem stop_any (b u a v : Nat) (n t : Int) (w : World) (h : KinAt w b u a v) (ok : Ok u a v) (ht2 : t ≤ 9223372036854775807) :
    Calls Tryz.prog 93 #[.pointer (some ⟨b, 0, none⟩), .int .i64 n, .int .i64 t] w fun e w' => e = .returned (.tuple #[.int .i64 (stopC u a v n t : Nat), .int .i64 (stopT u a v n t : Nat)]) ∧ KGo b u a v w w' := by
  unfold stopC stopT
  by_cases h1 : t < 1 ∨ (profI u a v n).length = 0
  · rw [if_pos h1, if_pos h1]
    exact stop_low b u a v n t w h ok h1
  · rw [if_neg h1, if_neg h1]
    have hz : ¬ (profI u a v n).length = 0 := fun e => h1 (Or.inr e)
    have hn := (not_congr (prof_zero ok)).1 hz
    have ht : ¬ t < 1 := fun e => h1 (Or.inl e)
    by_cases h2 : ((profI u a v n).length : Int) ≤ t
    · rw [if_pos h2, if_pos h2]
      have := stop_end b u a v n t w h ok ht hz h2
      rw [show ((n.toNat : Nat) : Int) = n by omega]
      exact this
    · rw [if_neg h2, if_neg h2]
      have hv : 1 ≤ velI u a v n t ∧ velI u a v n t ≤ v := by
        obtain ⟨m, rfl⟩ := Int.eq_ofNat_of_zero_le (show 0 ≤ n by omega)
        obtain ⟨t', rfl⟩ := Int.eq_ofNat_of_zero_le (show 0 ≤ t by omega)
        rw [velI_in ok (by omega) (by omega)]
        rw [profI_in (by omega) (by omega), prof_len] at h2
        exact vel_bd ok (by omega) (by omega)
      exact stop_mid b u a v n t w h ok ht ht2 hz h2 _ _ rfl rfl (atI_le ok n t).2 hv.1 hv.2
end Go.Proofs.YtedhoghleelhfaaGreat.Kin
