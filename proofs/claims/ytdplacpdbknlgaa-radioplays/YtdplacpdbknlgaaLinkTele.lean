/-
  Telegrams as rows of cells: boxed, loaded, stored whole.
-/
import Derived.Test.YtdplacpdbknlgaaLinkKit
import Derived.Test.YtdplacpdbknlgaaTickCalls
namespace Go.Proofs.Ytdplacpdbknlgaa.Lk
set_option linter.unusedVariables false
set_option linter.unusedSimpArgs false
open Go Go.RowKit Go.Shelf Go.Proofs
attribute [local go_sem] Oper.semAt_some

/- A telegram. -/
structure Tl where
  kd : Int
  rb : Int
  ep : Int
  nm : Int
  mq : Int
  md : Int
  mn : Int
  fx : Int
  fy : Int
  fd : Bool
  tx : Int
  ty : Int
  td : Bool
  ma : Int
  me : Int
  px : Int
  py : Int
  pd : Bool
  ld : Int
def tlL (t : Tl) : List Value := [.int .i64 t.kd, .int .i64 t.rb, .int .i64 t.ep, .int .i64 t.nm, .int .i64 t.mq, .int .i64 t.md, .int .i64 t.mn, .int .i64 t.fx, .int .i64 t.fy, .bool t.fd, .int .i64 t.tx, .int .i64 t.ty, .bool t.td, .int .i64 t.ma, .int .i64 t.me, .int .i64 t.px, .int .i64 t.py, .bool t.pd, .int .i64 t.ld]
def tlA (t : Tl) : Array Value := (tlL t).toArray
def sdA (t : Tl) (at_ : Int) : Array Value := (tlL t ++ [Value.int .i64 at_]).toArray
def tl0 : Tl := ⟨0, 0, 0, 0, 0, 0, 0, 0, 0, false, 0, 0, false, 0, 0, 0, 0, false, 0⟩
theorem tlA_size (t : Tl) : (tlA t).size = 19 := rfl
theorem sdA_size (t : Tl) (a : Int) : (sdA t a).size = 20 := rfl
theorem tlA_one (t : Tl) : (tlA t).all (·.oneCell') = true := by cases t; simp [tlA, tlL, Value.oneCell']
theorem sdA_one (t : Tl) (a : Int) : (sdA t a).all (·.oneCell') = true := by cases t; simp [sdA, tlL, Value.oneCell']
theorem tlA_inj {s t : Tl} (h : tlA s = tlA t) : s = t := by
  cases s; cases t
  have := congrArg Array.toList h
  simp only [tlA, tlL, List.cons.injEq, Value.int.injEq, Value.bool.injEq, and_true, true_and] at this
  simp only [Tl.mk.injEq]
  exact this
theorem infoTele : (Try.prog.info? 42).map (·.size) = some 19 := by kernel_rfl
theorem aggTele (w : World) : (isAgg 42).run Try.prog w = .ok true w := by unfold isAgg; rw [Sem.run_bind, run_underlying Try.underlying42 w]; rfl
theorem zeroTele (w : World) : (zeroValue 42).run Try.prog w = .ok (.agg (tlA tl0)) w := by kernel_rfl
theorem built0 : Try.prog.built 42 [] = some (tlA tl0) := by kernel_rfl
/- A struct that is read from anywhere. -/
theorem run_loadVar_at (w : World) (p : Addr) (ty : TypeId) (cs : Array Value) (hc : ∀ j v, cs[j]? = some v → w.cell? (p.add j) = some v)
    (hagg : (isAgg ty).run Try.prog w = .ok true w) (hi : (Try.prog.info? ty).map (·.size) = some cs.size) : (loadVar ty p).run Try.prog w = .ok (.agg cs) w := by
  have hl : (loadCells p cs.toList.length).run Try.prog w = .ok cs.toList.toArray w := run_loadCells_list (P := Try.prog) w p cs.toList (fun j v hv => hc j v (by simpa using hv))
  cases hq : Try.prog.info? ty with
  | none => simp [hq] at hi
  | some i =>
    have hs : i.size = cs.size := by simpa [hq] using hi
    simp only [Array.length_toList, Array.toArray_toList] at hl
    simp [loadVar, Sem.run_bind, hagg, sizeOf, typeInfo, hq, hs, hl]
theorem run_load_at {o : Oper} {a : Act} {w : World} (ty : TypeId) (x : Operand) (ho : o.op = .load ty x) (p : Addr) (hx : a.eval x = .pointer (some p)) (cs : Array Value) (h : (loadVar ty p).run Try.prog w = .ok (.agg cs) w) :
    (execOp a.eval o).run Try.prog w = .ok (.value (.agg cs)) w := by
  unfold execOp
  simp only [ho, hx, Instr.loadAt, Instr.sureAddr, Sem.run_bind, Sem.run_pure, Result.andThen_ok, h]
theorem wpList_load_at {ops : Array Oper} {rest : List Oper} {o : Oper} {a : Act} {w : World} {Q : Exit → Act → World → Prop} (hgd : o.guard = none) (ty : TypeId) (x : Operand) (ho : o.op = .load ty x)
    (p : Addr) (hx : a.eval x = .pointer (some p)) (cs : Array Value) (hl : (loadVar ty p).run Try.prog w = .ok (.agg cs) w)
    (h : wpList Try.prog ops Q rest (a.put o.dst (.agg cs)) w) : wpList Try.prog ops Q (o :: rest) a w :=
  wpList_plain hgd fun _ hK => by
    unfold Oper.wp execOp
    simp only [ho, hx, Instr.loadAt, Instr.sureAddr, Sem.run_bind, Sem.run_pure, Result.andThen_ok, hl]
    exact hK _ _ h
/- A telegram, a sending, that lies in a block of its own. -/
theorem add_zero (g j : Nat) : (⟨g, 0, none⟩ : Addr).add j = ⟨g, j, none⟩ := by
  unfold Addr.add
  by_cases h : j = 0
  · subst h; simp
  · simp [h]
theorem load_tele {w : World} {g : Nat} {t : Tl} {T : TypeId} {fr : Nat × Nat} (h : w.heap[g]? = some (.cells (tlA t) T fr)) : (loadVar 42 ⟨g, 0, none⟩).run Try.prog w = .ok (.agg (tlA t)) w :=
  run_loadVar_at w _ _ _ (fun j v hv => by rw [add_zero]; simpa [World.cell?, h] using hv) (aggTele _) infoTele
theorem load_sd {w : World} {g : Nat} {t : Tl} {a : Int} {T : TypeId} {fr : Nat × Nat} (h : w.heap[g]? = some (.cells (sdA t a) T fr)) : (loadVar 42 ⟨g, 0, none⟩).run Try.prog w = .ok (.agg (tlA t)) w :=
  run_loadVar_at w _ _ _ (fun j v hv => by
    have e : (sdA t a)[j]? = some v := by
      unfold sdA
      unfold tlA at hv
      rw [List.getElem?_toArray] at hv ⊢
      exact (List.getElem?_append_left (List.getElem?_eq_some_iff.1 hv).1).trans hv
    rw [add_zero]
    simpa [World.cell?, h] using e) (aggTele _) infoTele
theorem sd_at {w : World} {g : Nat} {t : Tl} {a : Int} {T : TypeId} {fr : Nat × Nat} (h : w.heap[g]? = some (.cells (sdA t a) T fr)) : w.cell? ⟨g, 19, none⟩ = some (.int .i64 a) := by
  have e : (sdA t a)[19]? = some (.int .i64 a) := rfl
  simpa [World.cell?, h] using e
theorem tl_kd {w : World} {g : Nat} {t : Tl} {T : TypeId} {fr : Nat × Nat} (h : w.heap[g]? = some (.cells (tlA t) T fr)) : w.cell? ⟨g, 0, none⟩ = some (.int .i64 t.kd) := by
  have e : (tlA t)[0]? = some (.int .i64 t.kd) := rfl
  simpa [World.cell?, h] using e
theorem tl_rb {w : World} {g : Nat} {t : Tl} {T : TypeId} {fr : Nat × Nat} (h : w.heap[g]? = some (.cells (tlA t) T fr)) : w.cell? ⟨g, 1, none⟩ = some (.int .i64 t.rb) := by
  have e : (tlA t)[1]? = some (.int .i64 t.rb) := rfl
  simpa [World.cell?, h] using e
theorem tl_nm {w : World} {g : Nat} {t : Tl} {T : TypeId} {fr : Nat × Nat} (h : w.heap[g]? = some (.cells (tlA t) T fr)) : w.cell? ⟨g, 3, none⟩ = some (.int .i64 t.nm) := by
  have e : (tlA t)[3]? = some (.int .i64 t.nm) := rfl
  simpa [World.cell?, h] using e
/- A new variable that is given its value at once. -/
theorem alloc_setRow (w : World) (zs cs : Array Value) (ty : TypeId) : (w.alloc (.cells zs ty)).setRow w.heap.size cs = w.alloc (.cells cs ty) := by
  have : (w.heap.push (.cells zs ty (0, 0))).modify w.heap.size (fun | .cells _ elem frozen => .cells cs elem frozen | o => o) = w.heap.push (.cells cs ty (0, 0)) := by
    apply Array.ext_getElem?
    intro i
    rw [Array.getElem?_modify, Array.getElem?_push, Array.getElem?_push]
    by_cases hi : i = w.heap.size
    · subst hi; simp
    · rw [if_neg (fun e => hi e.symm), if_neg hi, if_neg hi]
  exact congrArg (fun h => ({ w with heap := h } : World)) this
theorem wpList_new {ops : Array Oper} {rest : List Oper} {o1 o2 : Oper} {a : Act} {w : World} {Q : Exit → Act → World → Prop} (g1 : o1.guard = none) (g2 : o2.guard = none) (ty : TypeId) (d : Tmp) (y : Operand)
    (h1 : o1.op = .alloc ty) (hd : o1.dst = some d) (h2 : o2.op = .store ty (.tmp d) y) (hd2 : o2.dst = none) (zs cs : Array Value) (hz : (zeroValue ty).run Try.prog w = .ok (.agg zs) w)
    (hx : (a.put (some d) (.pointer (some ⟨w.heap.size, 0, none⟩))).eval (.tmp d) = .pointer (some ⟨w.heap.size, 0, none⟩)) (hy : (a.put (some d) (.pointer (some ⟨w.heap.size, 0, none⟩))).eval y = .agg cs)
    (hi : (Try.prog.info? ty).map (·.size) = some cs.size) (hs : zs.size = cs.size) (hc : cs.all (·.oneCell') = true)
    (h : wpList Try.prog ops Q rest ((a.put (some d) (.pointer (some ⟨w.heap.size, 0, none⟩))).put none undef) (w.alloc (.cells cs ty))) : wpList Try.prog ops Q (o1 :: o2 :: rest) a w := by
  refine wpList_plain g1 fun K hK => ?_
  unfold Oper.wp execOp
  simp only [h1, Instr.alloc, Sem.run_bind, hz, newVar, newRow, run_newObj_alloc, Sem.run_pure, Result.andThen_ok, Value.cells]
  refine hK _ _ ?_
  rw [hd]
  refine wpList_store_row g2 ty (.tmp d) y h2 w.heap.size cs hx hy ty zs (World.alloc_heap_new _ _) hi hs hc ?_
  rw [alloc_setRow, hd2]
  exact h
theorem wpList_allocTele {ops : Array Oper} {rest : List Oper} {o : Oper} {a : Act} {w : World} {Q : Exit → Act → World → Prop} (hg : o.guard = none) (h1 : o.op = .alloc 42)
    (h : wpList Try.prog ops Q rest (a.put o.dst (.pointer (some ⟨w.heap.size, 0, none⟩))) (w.alloc (.cells (tlA tl0) 42))) : wpList Try.prog ops Q (o :: rest) a w := by
  refine wpList_plain hg fun K hK => ?_
  unfold Oper.wp execOp
  simp only [h1, Instr.alloc, Sem.run_bind, zeroTele, newVar, newRow, run_newObj_alloc, Sem.run_pure, Result.andThen_ok, Value.cells]
  exact hK _ _ h
theorem wpList_boxAt {ops : Array Oper} {rest : List Oper} {o : Oper} {a : Act} {w : World} {Q : Exit → Act → World → Prop} (hg : o.guard = none) (t : TypeId) (x : Operand) (ho : o.op = .box t x) (cs : Array Value) (hx : a.eval x = .agg cs)
    (h : wpList Try.prog ops Q rest (a.put o.dst (.pointer (some ⟨w.heap.size, 0, none⟩))) (w.alloc (.cells cs t))) : wpList Try.prog ops Q (o :: rest) a w := by
  refine wpList_plain hg fun K hK => ?_
  unfold Oper.wp execOp
  simp only [ho, hx, Sem.run_bind, Instr.box, newVar, newRow, run_newObj_alloc, Sem.run_pure, Result.andThen_ok, Value.cells]
  exact hK _ _ h
theorem results_cell_tmp {fn : Func} {p q : Tmp} {ty : TypeId} (h : fn.results = #[.cell p ty, .tmp q]) (tmps : Array Value) (w : World) (N : Nat) (cs : Array Value)
    (hp : tmps.getD p undef = .pointer (some ⟨N, 0, none⟩)) (hg : (loadVar ty ⟨N, 0, none⟩).run Try.prog w = .ok (.agg cs) w) :
    (results fn tmps).run Try.prog w = .ok (.tuple #[.agg cs, tmps.getD q undef]) w := by
  have hp' : tmps[p]?.getD undef = .pointer (some ⟨N, 0, none⟩) := by simpa using hp
  simp [results, h, hp', asAddr, hg]
/- Two telegrams held against each other. -/
set_option maxRecDepth 100000 in
set_option maxHeartbeats 2000000 in
theorem eqTele_self (t : Tl) (w : World) : (Op.equalIn 10000 42 (.agg (tlA t)) (.agg (tlA t))).run Try.prog w = .ok true w := by
  cases t
  simp only [tlA, tlL]
  go_simp
theorem gTele : Try.prog.eqGuardType Try.prog.depth 42 = false := by kernel_rfl
end Go.Proofs.Ytdplacpdbknlgaa.Lk
