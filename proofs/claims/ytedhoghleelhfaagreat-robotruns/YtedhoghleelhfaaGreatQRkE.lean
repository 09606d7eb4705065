/-
  A map keyed by ints whose elements are structs: what it holds, as a function of the key.
  What the walks of heaps use: statements that leave their order open, worlds that grow, rows of one's own.
  Plain facts on saturating ticks (0 to 2 to the 62nd): cut, sum, less, times, up, and the laws that they keep. No Go in sight.
  What each call of package tick answers in the model, for every pair of numbers: contracts over the plain functions; memory is at most new blocks.
  Telegrams as rows of cells: boxed, loaded, stored whole.
-/
import Derived.Maps.OwnSet
import Derived.Below
import Derived.WalkArith
import Derived.Test.YtedhoghleelhfaaGreatChecked
import Derived.RangeFuncNested
import Derived.RangeFuncBound
import Derived.RangeFuncCalls
import Derived.RangeFuncLeaves
import Derived.RangeFuncBox
import Derived.Laws.Tables
import Derived.Shelf.Abstract
import Derived.Shelf.RegionOpen
import Derived.OwnWalkIn
import Derived.TacticsInMore
import Derived.LoopNIn
import Derived.LoopIn
import Derived.WalkKit
import Derived.ProofKit
import Derived.OpenShut
import Derived.BigQuiet
import Derived.Deep.QuietTactic
import Derived.WalkSmall
import Derived.Deep.RegionWith
import Derived.Deep.RegionHeld3
import Derived.Laws.AppendOwn
import Derived.Laws.OwnMore
import Derived.Laws.Cover3
import Derived.BigRegion
import Derived.BigRegionIn
import Derived.Deep.RegionLaw
namespace Go.Proofs.YtedhoghleelhfaaGreat.Lk
set_option linter.unusedVariables false
set_option linter.unusedSimpArgs false
open Go Go.RowKit Go.MapKept Go.WideShapes
open Go.ChangeMaps (setBlock heap_setBlock_same heap_setBlock_other)
open Go.WideElems (Fit)

/- An element reads as itself. -/
def asIs (v : Value) : Option (DataW Value × List MemPlace) := some (.held v, [])
def wf64 (x : Int) : Prop := (Lit.int .i64 x).wf = true

/- Block b is a map of at most n entries that holds just M. -/
def MapIs (P : Program) (K : TypeId) (w : World) (b n : Nat) (M : Int → Option Value) : Prop :=
  ∃ D : DataW Value, w.ownsMap P K asIs b n D ∧ ∀ x, wf64 x → Maps.has D (.int .i64 x) = (M x).isSome ∧ ∀ v, M x = some v → ∀ z, D.atKey (.int .i64 x) z = .held v

variable {P : Program} {K E T : TypeId} {w : World} {b n : Nat} {M : Int → Option Value}

theorem MapIs.lt (h : MapIs P K w b n M) : b < w.heap.size := by obtain ⟨D, o, _⟩ := h; exact o.lt
theorem MapIs.same {w' : World} (h : MapIs P K w b n M) (e : w'.heap[b]? = w.heap[b]?) : MapIs P K w' b n M := by
  obtain ⟨D, ⟨es, ck, hb, r⟩, q⟩ := h
  exact ⟨D, ⟨es, ck, e.trans hb, r⟩, q⟩
theorem MapIs.mono (h : MapIs P K w b n M) {n' : Nat} (hn : n ≤ n') : MapIs P K w b n' M := by
  obtain ⟨D, o, q⟩ := h
  exact ⟨D, o.mono hn, q⟩
theorem key64 (hK : P.underlying K = some (.int .i64)) {x : Int} (h : wf64 x) : keyOf P K (.int .i64 x) = some (.int .i64 x) := Maps.keyOf_int_mk hK h
theorem MapIs.store (h : MapIs P K w b n M) (hT : P.underlying T = some (.map K E)) (hK : P.underlying K = some (.int .i64)) (hn : n < maxLen) {x : Int} (hx : wf64 x) (v : Value) :
    ∃ w', (Instr.mapUpdate T (.map (some b)) (.int .i64 x) v).run P w = .ok () w' ∧ MapIs P K w' b (n + 1) (fun y => if y = x then some v else M y) ∧ w.mapTurned w' b := by
  obtain ⟨D, o, q⟩ := h
  obtain ⟨w', hr, o', ht⟩ := o.store (Maps.int_keyed hK) hT hn (key64 hK hx) (d := .held v) (ps := []) rfl
  refine ⟨w', hr, ⟨_, o', fun y hy => ?_⟩, ht⟩
  have hk : WideAt.IsKeyLit (.int .i64 x) := (Maps.int_keyed hK).key (key64 hK hx)
  by_cases e : y = x
  · subst e
    simp only [if_pos]
    exact ⟨Maps.has_put_same o.isMap hk _, fun u hu z => by cases hu; exact Maps.atKey_put_same o.isMap hk _ _⟩
  · simp only [if_neg e]
    have hne : (Lit.int .i64 y) ≠ .int .i64 x := fun q => e (by cases q; rfl)
    obtain ⟨q1, q2⟩ := q y hy
    exact ⟨(Maps.has_put_other hne _).trans q1, fun u hu z => (Maps.atKey_put_other hne _ _).trans (q2 u hu z)⟩
theorem MapIs.drop (h : MapIs P K w b n M) (hT : P.underlying T = some (.map K E)) (hK : P.underlying K = some (.int .i64)) {x : Int} (hx : wf64 x) (ty : TypeId) :
    ∃ w', (Builtin.delete_ #[T, K] ty #[.map (some b), .int .i64 x]).run P w = .ok (.tuple #[]) w' ∧ MapIs P K w' b n (fun y => if y = x then none else M y) ∧ w.mapTurned w' b := by
  obtain ⟨D, o, q⟩ := h
  obtain ⟨w', hr, o', ht⟩ := o.drop (Maps.int_keyed hK) hT (key64 hK hx) ty
  refine ⟨w', hr, ⟨_, o', fun y hy => ?_⟩, ht⟩
  have hk : WideAt.IsKeyLit (.int .i64 x) := (Maps.int_keyed hK).key (key64 hK hx)
  by_cases e : y = x
  · subst e
    simp only [if_pos]
    exact ⟨Maps.has_del_same, fun u hu z => by cases hu⟩
  · simp only [if_neg e]
    have hne : (Lit.int .i64 y) ≠ .int .i64 x := fun q => e (by cases q; rfl)
    obtain ⟨q1, q2⟩ := q y hy
    exact ⟨(Maps.has_del_other hne).trans q1, fun u hu z => (Maps.atKey_del_other hne _).trans (q2 u hu z)⟩
theorem MapIs.clear (h : MapIs P K w b n M) (hT : P.underlying T = some (.map K E)) (ty : TypeId) :
    ∃ w', (Builtin.clear_ #[T] ty #[.map (some b)]).run P w = .ok (.tuple #[]) w' ∧ MapIs P K w' b 0 (fun _ => none) ∧ w.mapTurned w' b := by
  obtain ⟨D, ⟨es, ck, hb, F, hs, hD⟩, q⟩ := h
  refine ⟨setBlock w b (.map #[] ck), ?_, ⟨.map [], ⟨#[], ck, heap_setBlock_same hb _, ⟨by simp, stamped_empty ck, by simp⟩, Nat.le_refl _, rfl⟩, fun x _ => ⟨rfl, fun v h => by cases h⟩⟩, ⟨es, ck, #[], ck, hb, rfl⟩⟩
  simp [Builtin.clear_, run_underlying hT, MapKept.run_getObj_map hb, MapKept.run_setObj_map _ hb, Result.andThen, setBlock]

end Go.Proofs.YtedhoghleelhfaaGreat.Lk
namespace Go.Proofs.YtedhoghleelhfaaGreat.Lk
set_option linter.unusedVariables false
set_option linter.unusedSimpArgs false
open Go Go.RowKit Go.Shelf Go.Proofs
attribute [local go_sem] Oper.semAt_some
theorem ret_int {k : IntKind} {a b : Int} (h : a = b) : Ending.returned (.int k a) = .returned (.int k b) := by rw [h]
theorem ret_bool {a b : Bool} (h : a = b) : Ending.returned (.bool a) = .returned (.bool b) := by rw [h]
theorem bcat {a b c : World} (h : Below a.heap.size a b) (k : Below b.heap.size b c) : Below a.heap.size a c := h.trans (k.mono h.size)
/- A world of a class. -/
structure Cls (S : World → Prop) : Type where
  w : World
  h : S w
theorem wp_region_cls {P : Program} (S : World → Prop) {id : Nat} {Q : Exit → Act → World → Prop} {a : Act} {w : World} {l : List Oper} (hm : P.follows .mixedOrders = true) (hB : Region.lexB .any l.toArray = true)
    (hS : S w.drew) (h : wpQuiet P l.toArray (fun w' => ∃ u : Cls S, w' = u.w) (fun a' => ∀ w', (∃ u : Cls S, w' = u.w) → Q .normal a' w') l a) : (Code.region id l.toArray true).wp P Q a w :=
  wp_region_quiet (C := fun w' => ∃ u : Cls S, w' = u.w) hm hB ⟨⟨_, hS⟩, rfl⟩ h
theorem cls_call {P : Program} {f : FuncId} {args : Array Value} {S : World → Prop} {u : Cls S} {v : Value} {R : World → Prop}
    (h : Calls P f args u.w fun e w' => e = .returned v ∧ R w') (hR : ∀ w', R w' → S w') : Calls P f args u.w fun e w' => e = .returned v ∧ ∃ u' : Cls S, w' = u'.w :=
  h.mono fun _ w' ⟨he, hw⟩ => ⟨he, ⟨w', hR w' hw⟩, rfl⟩

theorem grown_of_below {w w' : World} (h : Below w.heap.size w w') : w.grownBy w' none := ⟨h.os, h.tape, h.output, h.size, fun k hk _ => h.block k hk⟩
theorem cell_block {w w' : World} {p : Addr} (h : w'.heap[p.block]? = w.heap[p.block]?) : w'.cell? p = w.cell? p := by unfold World.cell?; rw [h]

theorem own_form {w : World} {base : Nat} {e : TypeId} {S : Nat} {v : Value} {n : Nat} {xs : List Value} (h : w.ownsRow base e S v n xs) : ∃ a cap, v = .slice a n cap ∧ (a = none → n = 0 ∧ cap = 0) ∧ n ≤ cap ∧ cap ≤ maxLen := by
  rcases h.2 with ⟨rfl, h0⟩ | ⟨g, cap, cur, rfl, hb, hg, hnc, hcm, hcs, htake⟩
  · subst h0; exact ⟨none, 0, rfl, fun _ => ⟨rfl, rfl⟩, Nat.le_refl _, Nat.zero_le _⟩
  · exact ⟨_, cap, rfl, fun h => (by cases h), hnc, hcm⟩
theorem owns_same {w w' : World} {base : Nat} {e : TypeId} {size : Nat} {v : Value} {n : Nat} {xs : List Value} (h : w.ownsRow base e size v n xs) (hb : ∀ k, v.ownBlock = some k → w'.heap[k]? = w.heap[k]?) : w'.ownsRow base e size v n xs := by
  refine ⟨h.1, ?_⟩
  rcases h.2 with hn | ⟨g, cap, cur, rfl, hb', hg, rest⟩
  · exact .inl hn
  · exact .inr ⟨g, cap, cur, rfl, hb', by rw [hb g rfl]; exact hg, rest⟩
theorem owns_go {w w' : World} {base : Nat} {e : TypeId} {size : Nat} {v : Value} {n : Nat} {xs : List Value} (h : w.ownsRow base e size v n xs) (hb : Below w.heap.size w w') : w'.ownsRow base e size v n xs :=
  owns_same h fun k hk => hb.block k (h.lt k hk).2
theorem own_since {w : World} {base : Nat} {e : TypeId} {S : Nat} {v : Value} {n : Nat} {xs : List Value} (h : w.ownsRow base e S v n xs) : ∀ k, v.ownBlock = some k → base ≤ k ∧ k < w.heap.size := fun k hk => h.lt k hk
theorem owns_base {w : World} {b b' : Nat} {e : TypeId} {size : Nat} {v : Value} {n : Nat} {xs : List Value} (hb : b' ≤ b) (h : w.ownsRow b e size v n xs) : w.ownsRow b' e size v n xs := by
  refine ⟨h.1, ?_⟩
  rcases h.2 with hn | ⟨g, cap, cur, rfl, hb', rest⟩
  · exact .inl hn
  · exact .inr ⟨g, cap, cur, rfl, by omega, rest⟩
/- The operation of that number: it comes written out. -/
def nth : List Oper → Nat → Option Oper
  | [], _ => none
  | o :: _, 0 => some o
  | _ :: l, n + 1 => nth l n
theorem nth_eq : ∀ (l : List Oper) (i : Nat), l.toArray[i]? = nth l i
  | [], _ => rfl
  | o :: l, 0 => by simp [nth]
  | o :: l, n + 1 => by
    have := nth_eq l n
    simp only [List.getElem?_toArray] at this ⊢
    rw [List.getElem?_cons_succ, this]
    rfl
theorem start_held {P : Program} {S : World → Prop} {Q : Exit → Act → World → Prop} {id : Nat} {a : Act} {w : World} {l : List Oper} (N : Nat) (hN : l.length = N) (hm : P.follows .mixedOrders = true)
    (hS : S w.drew) (h : wpAnyH P .any l.toArray Q S N (Array.replicate N false) a w.drew) : (Code.region id l.toArray true).wp P Q a w := by
  subst hN
  exact wp_region_held_drew (S := S) hm hS fun _ => by simpa using h
theorem take_held {P : Program} {S : World → Prop} {Q : Exit → Act → World → Prop} {md : Region.Mode} {l : List Oper} (i : Nat) {oi : Oper} {v : Value} {fuel : Nat} {listed : Array Bool} {a : Act} {w : World} (hS : S w) (hi : nth l i = some oi)
    (hs : Region.noSelect l.toArray = true) (hf : Region.free md l.toArray listed i = true) (hr : (Region.ready md l.toArray listed).contains i = true) (hQ : ∀ c a w, Q (.panic c) (a.put oi.dst v) w → Q (.panic c) a w)
    (hw : Region.wanted oi (yielded l.toArray a.tmps) = true) (hy : ∀ w, S w → (execOp a.eval oi).run P w = .ok (.value v) w)
    (h : wpAnyH P md l.toArray Q S fuel (listed.setIfInBounds i true) (a.put oi.dst v) w) : wpAnyH P md l.toArray Q S (fuel + 1) listed a w :=
  wpAnyH_take ((nth_eq l i).trans hi) hs hf hr hQ (Or.inl ⟨hw, hy⟩) hS h
theorem tkq {P : Program} {S : World → Prop} {Q : Exit → Act → World → Prop} {md : Region.Mode} {l : List Oper} (i : Nat) {oi : Oper} {v : Value} {fuel : Nat} {listed : Array Bool} {a a' : Act} {w : World} (hS : S w) (h : wpAnyH P md l.toArray Q S fuel (listed.setIfInBounds i true) a' w)
    (hi : nth l i = some oi := by rfl) (hy : ∀ w, S w → (execOp a.eval oi).run P w = .ok (.value v) w := by (intro u hu; go_simp; try rfl)) (ha : a.put oi.dst v = a' := by (simp only [Act.put, List.setIfInBounds_toArray, List.set_cons_zero, List.set_cons_succ]; try rfl))
    (hs : Region.noSelect l.toArray = true := by kernel_rfl) (hf : Region.free md l.toArray listed i = true := by kernel_rfl) (hr : (Region.ready md l.toArray listed).contains i = true := by kernel_rfl)
    (hQ : ∀ c a w, Q (.panic c) (a.put oi.dst v) w → Q (.panic c) a w := by exact fun _ _ _ h => h) (hw : Region.wanted oi (yielded l.toArray a.tmps) = true := by kernel_rfl) : wpAnyH P md l.toArray Q S (fuel + 1) listed a w :=
  take_held i hS hi hs hf hr hQ hw hy (ha ▸ h)
theorem tkf {P : Program} {S : World → Prop} {Q : Exit → Act → World → Prop} {md : Region.Mode} {l : List Oper} (i : Nat) {oi : Oper} {v : Value} {fuel : Nat} {listed : Array Bool} {a a' : Act} {w : World} (hS : S w) (hi : nth l i = some oi) (hy : ∀ w, S w → (execOp a.eval oi).run P w = .ok (.value v) w) (h : wpAnyH P md l.toArray Q S fuel (listed.setIfInBounds i true) a' w)
    (ha : a.put oi.dst v = a' := by (simp only [Act.put, List.setIfInBounds_toArray, List.set_cons_zero, List.set_cons_succ]; try rfl))
    (hs : Region.noSelect l.toArray = true := by kernel_rfl) (hf : Region.free md l.toArray listed i = true := by kernel_rfl) (hr : (Region.ready md l.toArray listed).contains i = true := by kernel_rfl)
    (hQ : ∀ c a w, Q (.panic c) (a.put oi.dst v) w → Q (.panic c) a w := by exact fun _ _ _ h => h) (hw : Region.wanted oi (yielded l.toArray a.tmps) = true := by kernel_rfl) : wpAnyH P md l.toArray Q S (fuel + 1) listed a w :=
  take_held i hS hi hs hf hr hQ hw hy (ha ▸ h)
/- One operation that stands alone and writes. -/
theorem store_held {P : Program} {S : World → Prop} {Q : Exit → Act → World → Prop} {md : Region.Mode} {l : List Oper} (i : Nat) {o : Oper} {fuel : Nat} {listed : Array Bool} {a : Act} {w : World} (hi : nth l i = some o)
    (hr : Region.ready md l.toArray listed = [i]) (hw : Region.wanted o (yielded l.toArray a.tmps) = true) (w' : World) (hrun : (execOp a.eval o).run P w = .ok .skip w') (hS : S w')
    (h : wpAnyH P md l.toArray Q S fuel (listed.setIfInBounds i true) (a.put o.dst undef) w') : wpAnyH P md l.toArray Q S (fuel + 1) listed a w := by
  refine wpAnyH_ready hr (by simp) (AllReadyH.cons ((nth_eq l i).trans hi) ?_ AllReadyH.nil)
  intro K' hK
  rw [if_pos hw]
  unfold Oper.wp
  rw [hrun]
  exact hK.out _ _ hS fun _ => h
theorem done_held {P : Program} {S : World → Prop} {Q : Exit → Act → World → Prop} {md : Region.Mode} {l : List Oper} {listed : Array Bool} {a : Act} {w : World} (hr : Region.ready md l.toArray listed = []) (h : Q .normal a w) (fuel : Nat) : wpAnyH P md l.toArray Q S fuel listed a w :=
  wpAnyH_done hr h fuel

theorem run_store_op {o : Oper} {a : Act} {w w' : World} (ty : TypeId) (x y : Operand) (ho : o.op = .store ty x y) (g : Nat) (cells : Array Value) (hx : a.eval x = .pointer (some ⟨g, 0, none⟩)) (hy : a.eval y = .agg cells)
    (h : (storeVar ty ⟨g, 0, none⟩ (.agg cells)).run Tryz.prog w = .ok () w') : (execOp a.eval o).run Tryz.prog w = .ok .skip w' := by
  unfold execOp
  simp only [ho, hx, hy, Instr.storeAt, Instr.sureAddr, Sem.run_bind, Sem.run_pure, Result.andThen_ok, h]
theorem skip_held {P : Program} {S : World → Prop} {Q : Exit → Act → World → Prop} {md : Region.Mode} {l : List Oper} (i : Nat) {oi : Oper} {fuel : Nat} {listed : Array Bool} {a : Act} {w : World} (hS : S w) (hi : nth l i = some oi)
    (hs : Region.noSelect l.toArray = true) (hf : Region.free md l.toArray listed i = true) (hr : (Region.ready md l.toArray listed).contains i = true) (hQ : ∀ c a w, Q (.panic c) (a.put oi.dst undef) w → Q (.panic c) a w)
    (hw : Region.wanted oi (yielded l.toArray a.tmps) = false)
    (h : wpAnyH P md l.toArray Q S fuel (listed.setIfInBounds i true) (a.put oi.dst undef) w) : wpAnyH P md l.toArray Q S (fuel + 1) listed a w :=
  wpAnyH_take ((nth_eq l i).trans hi) hs hf hr hQ (Or.inr ⟨hw, rfl⟩) hS h
theorem skq {P : Program} {S : World → Prop} {Q : Exit → Act → World → Prop} {md : Region.Mode} {l : List Oper} (i : Nat) {oi : Oper} {fuel : Nat} {listed : Array Bool} {a a' : Act} {w : World} (hS : S w) (h : wpAnyH P md l.toArray Q S fuel (listed.setIfInBounds i true) a' w)
    (hi : nth l i = some oi := by rfl) (ha : a.put oi.dst undef = a' := by (simp only [Act.put, List.setIfInBounds_toArray, List.set_cons_zero, List.set_cons_succ]; try rfl))
    (hs : Region.noSelect l.toArray = true := by kernel_rfl) (hf : Region.free md l.toArray listed i = true := by kernel_rfl) (hr : (Region.ready md l.toArray listed).contains i = true := by kernel_rfl)
    (hQ : ∀ c a w, Q (.panic c) (a.put oi.dst undef) w → Q (.panic c) a w := by exact fun _ _ _ h => h) (hw : Region.wanted oi (yielded l.toArray a.tmps) = false := by kernel_rfl) : wpAnyH P md l.toArray Q S (fuel + 1) listed a w :=
  skip_held i hS hi hs hf hr hQ hw (ha ▸ h)
theorem call_in {P : Program} {S : World → Prop} {Q : Exit → Act → World → Prop} {md : Region.Mode} {l : List Oper} {o : Oper} {fuel : Nat} {listed : Array Bool} {a : Act} {w : World} {E : Prop} {K' : Act → World → Prop} (hK : Shut (∀ a w, S w → (S w → wpAnyH P md l.toArray Q S fuel listed a w) → K' a w))
    (hw : Region.wanted o (yielded l.toArray a.tmps) = true) (f : FuncId) (vals : Array Value) (hrun : (execOp a.eval o).run P w = .ok (.enter f vals) w) (R : Value → World → Prop)
    (hc : Calls P f vals w fun e w' => ∃ v, e = .returned v ∧ R v w') (h : ∀ v w', R v w' → S w' ∧ wpAnyH P md l.toArray Q S fuel listed (a.put o.dst v) w') : if Region.wanted o (yielded l.toArray a.tmps) = true then Oper.wp P o a w K' Q else E := by
  rw [if_pos hw]
  unfold Oper.wp
  rw [hrun]
  refine Calls.mono hc ?_
  rintro e w' ⟨v, rfl, hR⟩
  exact hK.out _ _ (h v w' hR).1 fun _ => (h v w' hR).2
theorem value_in {P : Program} {S : World → Prop} {Q : Exit → Act → World → Prop} {md : Region.Mode} {l : List Oper} {o : Oper} {fuel : Nat} {listed : Array Bool} {a : Act} {w : World} {E : Prop} {K' : Act → World → Prop} (hK : Shut (∀ a w, S w → (S w → wpAnyH P md l.toArray Q S fuel listed a w) → K' a w))
    (hw : Region.wanted o (yielded l.toArray a.tmps) = true) (v : Value) (w' : World) (hrun : (execOp a.eval o).run P w = .ok (.value v) w') (hS : S w') (h : wpAnyH P md l.toArray Q S fuel listed (a.put o.dst v) w') : if Region.wanted o (yielded l.toArray a.tmps) = true then Oper.wp P o a w K' Q else E := by
  rw [if_pos hw]
  unfold Oper.wp
  rw [hrun]
  exact hK.out _ _ hS fun _ => h
theorem skip_in {P : Program} {S : World → Prop} {Q : Exit → Act → World → Prop} {md : Region.Mode} {l : List Oper} {o : Oper} {fuel : Nat} {listed : Array Bool} {a : Act} {w : World} {E : Prop} {K' : Act → World → Prop} (hK : Shut (∀ a w, S w → (S w → wpAnyH P md l.toArray Q S fuel listed a w) → K' a w))
    (hw : Region.wanted o (yielded l.toArray a.tmps) = true) (w' : World) (hrun : (execOp a.eval o).run P w = .ok .skip w') (hS : S w') (h : wpAnyH P md l.toArray Q S fuel listed (a.put o.dst undef) w') : if Region.wanted o (yielded l.toArray a.tmps) = true then Oper.wp P o a w K' Q else E := by
  rw [if_pos hw]
  unfold Oper.wp
  rw [hrun]
  exact hK.out _ _ hS fun _ => h

/- A statement that does not panic. -/
def calm (Q : Exit → Act → World → Prop) : Exit → Act → World → Prop
  | .normal, a, w => Q .normal a w
  | _, _, _ => False
theorem calm_wp {P : Program} {c : Code} {Q : Exit → Act → World → Prop} {a : Act} {w : World} (h : c.wp P (calm Q) a w) : c.wp P Q a w :=
  wp_mono h (fun e a w hq => by cases e <;> first | exact hq | exact hq.elim)
theorem done_calm {P : Program} {S : World → Prop} {Q : Exit → Act → World → Prop} {md : Region.Mode} {l : List Oper} {listed : Array Bool} {a : Act} {w : World} (hr : Region.ready md l.toArray listed = []) (h : Q .normal a w) (fuel : Nat) : wpAnyH P md l.toArray (calm Q) S fuel listed a w :=
  wpAnyH_done (Q := calm Q) hr h fuel
/- Within a round: what holds in every order of the plain walk holds there. -/
def noDefer (l : List Oper) : Bool := l.all fun o => match o.op with
  | .defer _ => false
  | _ => true
theorem noDefer_at {l : List Oper} (h : noDefer l = true) {i : Nat} {o : Oper} (hi : l.toArray[i]? = some o) : ∀ c, o.op ≠ .defer c := by
  intro c hc
  have hm : o ∈ l := by
    rw [List.getElem?_toArray] at hi
    exact List.mem_of_getElem? hi
  have := List.all_eq_true.1 h o hm
  rw [hc] at this
  cases this
theorem op_round {l n : Nat} {P : Program} {o : Oper} {a : Act} {w : World} {K : Act → World → Prop} {Q : Exit → Act → World → Prop} (hd : ∀ c, o.op ≠ .defer c) (h : o.wp P a w K Q) : o.wpIn (Fence.wide.inRound l) n P a w K Q := by
  unfold Oper.wpIn
  refine ⟨fun _ _ => trivial, ?_⟩
  rw [Oper.semAt_plain _ _ _ hd]
  unfold Oper.wp at h
  generalize (execOp a.eval o).run P w = r at *
  cases r with
  | ok x w' =>
    cases x <;> simp only [Oper.upon, Oper.uponIn] at h ⊢ <;>
      first
        | exact h
        | exact ⟨fun hh => (by cases hh), CallsIn.inRound l (callsIn_wide.2 h)⟩
        | exact ⟨fun hh => (by cases hh), fun c cs _ => by obtain ⟨v, w2, q, s⟩ := h c cs; exact ⟨v, w2, q, stepsIn_wide.2 s⟩⟩
        | exact h.elim
  | halt x w' => cases x <;> simp only [Oper.upon, Oper.uponIn] at h ⊢ <;> exact h
theorem any_round {l n : Nat} {P : Program} {md : Region.Mode} {ops : Array Oper} {Q : Exit → Act → World → Prop} (hO : ∀ a w, ¬ Q .outgrown a w) (hd : ∀ (i : Nat) (o : Oper), ops[i]? = some o → ∀ c, o.op ≠ .defer c) : ∀ (fuel : Nat) (listed : Array Bool) (a : Act) (w : World), wpAny P md ops Q fuel listed a w → wpAnyIn (Fence.wide.inRound l) n P md ops Q fuel listed a w
  | 0, _, _, _, h => h
  | fuel + 1, listed, a, w, h => ⟨h.1, fun i hi => by
      have h2 := wpOp_mono (fun a' w' h' => any_round (l := l) (n := n) hO hd fuel _ a' w' h') (h.2 i hi)
      unfold wpOpIn
      unfold wpOp at h2
      cases ho : ops[i]? with
      | none => simpa [ho] using h2
      | some o =>
        simp only [ho] at h2 ⊢
        by_cases hw : Region.wanted o (yielded ops a.tmps) = true
        · rw [if_pos hw] at h2 ⊢
          rcases h2 with h2 | ⟨_, a', w', h3⟩
          · exact op_round (hd i o ho) h2
          · exact (hO a' w' h3).elim
        · rw [if_neg hw] at h2 ⊢
          exact ⟨fun _ _ => trivial, h2⟩⟩
theorem start_round {l n : Nat} {P : Program} {S : World → Prop} {Q : Exit → Act → World → Prop} {id : Nat} {a : Act} {w : World} {ls : List Oper} (N : Nat) (hN : ls.length = N) (hm : P.follows .mixedOrders = true) (hd : noDefer ls = true) (hO : ∀ a w, ¬ Q .outgrown a w)
    (hS : S w.drew) (h : wpAnyH P .any ls.toArray Q S N (Array.replicate N false) a w.drew) : (Code.region id ls.toArray true).wpIn (Fence.wide.inRound l) n P Q a w := by
  subst hN
  refine wpIn_region_any hm (any_round hO (fun i o hi => noDefer_at hd hi) _ _ _ _ ?_)
  have := wpAny_of_held _ _ _ _ h
  simpa using this
theorem cell_same {w w' : World} {b o : Nat} (h : w'.heap[b]? = w.heap[b]?) : w'.cell? ⟨b, o, none⟩ = w.cell? ⟨b, o, none⟩ := by unfold World.cell?; rw [h]
theorem frozen_same {w w' : World} {b o : Nat} (h : w'.heap[b]? = w.heap[b]?) : w'.frozen? ⟨b, o, none⟩ = w.frozen? ⟨b, o, none⟩ := by unfold World.frozen?; rw [h]
theorem eql_nil (w : World) (t e : TypeId) (a : Option Addr) (l c : Nat) (h : Tryz.prog.underlying t = some (.slice e)) : (binOp .eql t (.slice a l c) (.slice none 0 0)).run Tryz.prog w = .ok (.bool a.isNone) w := by
  simp only [binOp]
  simp [run_equal_slice_nil w t e a l c h]
/- Numbers that may be. -/
def rowL {α : Type} (f : α → List Value) (xs : List α) : List Value := xs.flatMap f
theorem rowL_append {α : Type} (f : α → List Value) (xs ys : List α) : rowL f (xs ++ ys) = rowL f xs ++ rowL f ys := by simp [rowL]
theorem rowL_len {α : Type} {f : α → List Value} {S : Nat} (hf : ∀ x, (f x).length = S) (xs : List α) : (rowL f xs).length = xs.length * S := by
  induction xs with
  | nil => simp [rowL]
  | cons x l ih => rw [show rowL f (x :: l) = f x ++ rowL f l from rfl, List.length_append, ih, hf, List.length_cons, Nat.succ_mul]; omega
theorem rowL_at {α : Type} {f : α → List Value} {S : Nat} (hf : ∀ x, (f x).length = S) : ∀ (xs : List α) (i : Nat) (h : i < xs.length) (j : Nat) (v : Value), (f (xs[i]'h))[j]? = some v → (rowL f xs)[i * S + j]? = some v
  | [], i, h => by simp at h
  | x :: l, 0, h => fun j v hv => by
    have hj := (List.getElem?_eq_some_iff.1 hv).1
    rw [show rowL f (x :: l) = f x ++ rowL f l from rfl, Nat.zero_mul, Nat.zero_add]
    rw [List.getElem?_append_left (by simpa using hj)]
    simpa using hv
  | x :: l, i + 1, h => fun j v hv => by
    rw [show rowL f (x :: l) = f x ++ rowL f l from rfl, List.getElem?_append_right (by rw [hf, Nat.succ_mul]; omega), hf, show (i + 1) * S + j - S = i * S + j by rw [Nat.succ_mul]; omega]
    exact rowL_at hf l i (by simpa using h) j v (by simpa using hv)
theorem rowL_inv {α : Type} {f : α → List Value} {S : Nat} (hf : ∀ x, (f x).length = S) : ∀ (xs : List α) (k : Nat) (v : Value), (rowL f xs)[k]? = some v → ∃ i j, ∃ h : i < xs.length, k = i * S + j ∧ (f (xs[i]'h))[j]? = some v
  | [], k, v, h => by simp [rowL] at h
  | x :: l, k, v, h => by
    rw [show rowL f (x :: l) = f x ++ rowL f l from rfl] at h
    by_cases hk : k < (f x).length
    · rw [List.getElem?_append_left hk] at h
      exact ⟨0, k, by simp, by omega, by simpa using h⟩
    · rw [List.getElem?_append_right (by omega), hf] at h
      rw [hf] at hk
      obtain ⟨i, j, hi, e, hv⟩ := rowL_inv hf l (k - S) v h
      exact ⟨i + 1, j, by simpa using hi, by rw [Nat.succ_mul]; omega, by simpa using hv⟩
end Go.Proofs.YtedhoghleelhfaaGreat.Lk
namespace Go.Proofs.YtedhoghleelhfaaGreat.Plain

def cut (a : Int) : Int := if a < 0 then 0 else if 4611686018427387904 < a then 4611686018427387904 else a
def sum (a b : Int) : Int := if 4611686018427387904 - cut b < cut a then 4611686018427387904 else cut a + cut b
def less (a b : Int) : Int := if cut a = 4611686018427387904 then 4611686018427387904 else if cut a < cut b then 0 else cut a - cut b
def times (a b : Int) : Int := if cut a * cut b ≤ 4611686018427387904 then cut a * cut b else 4611686018427387904
def up (a b : Int) : Int := if cut b = 0 then 0 else if cut a = 4611686018427387904 then 4611686018427387904 else if cut a % cut b = 0 then cut a / cut b else cut a / cut b + 1

theorem cut_bd (a : Int) : 0 ≤ cut a ∧ cut a ≤ 4611686018427387904 := by unfold cut; split <;> (try split) <;> omega
theorem less_bd (a b : Int) : 0 ≤ less a b ∧ less a b ≤ 4611686018427387904 := by
  have h1 := cut_bd a; have h2 := cut_bd b
  unfold less; split <;> (try split) <;> omega



end Go.Proofs.YtedhoghleelhfaaGreat.Plain
namespace Go.Proofs.YtedhoghleelhfaaGreat.Tick
open Go.RowKit
open Plain

/- Nothing old has turned, and what is frozen stays as it was. -/
structure Kept (w w' : World) : Prop where
  below : Below w.heap.size w w'
  froz : ∀ a, w'.frozen? a = w.frozen? a

theorem Kept.refl (w : World) : Kept w w := ⟨Below.refl _ _, fun _ => rfl⟩
theorem Kept.trans {a b c : World} (h : Kept a b) (k : Kept b c) : Kept a c :=
  ⟨h.below.trans (k.below.mono h.below.size), fun x => (k.froz x).trans (h.froz x)⟩
theorem Kept.alloc {a w : World} (h : Kept a w) (c : Array Value) (t : TypeId) : Kept a (w.alloc (.cells c t)) :=
  ⟨h.below.alloc h.below.size _, fun x => (frozen?_alloc_cells _ _ _ x).trans (h.froz x)⟩
theorem Kept.setCell {a w : World} (h : Kept a w) {p : Addr} (hp : a.heap.size ≤ p.block) (u : Value) : Kept a (w.setCell p u) :=
  ⟨h.below.setCell hp _, fun x => (World.frozen?_setCell _ _ _ _).trans (h.froz x)⟩
theorem Kept.drew {a w : World} (h : Kept a w) : Kept a w.drew := ⟨h.below.drew, h.froz⟩
theorem Kept.grown {w w' : World} (h : Kept w w') : Grown w w' := ⟨h.below.frame _, h.froz, h.below.size⟩

theorem cut_any (a : Int) (w : World) : Calls Tryz.prog 105 #[.int .i64 a] w fun e w' => e = .returned (.int .i64 (cut a)) ∧ w' = w := by
  by_cases h1 : a < 0
  · have e : cut a = 0 := by unfold cut; rw [if_pos h1]
    rw [e]
    go_enter Tryz.func105, Tryz.ntmps105
    go_wp2
    go_ret
    exact ⟨rfl, rfl⟩
  · by_cases h2 : 4611686018427387904 < a
    · have e : cut a = 4611686018427387904 := by unfold cut; rw [if_neg h1, if_pos h2]
      rw [e]
      go_enter Tryz.func105, Tryz.ntmps105
      go_wp2
      go_ret
      exact ⟨rfl, rfl⟩
    · have e : cut a = a := by unfold cut; rw [if_neg h1, if_neg h2]
      rw [e]
      go_enter Tryz.func105, Tryz.ntmps105
      go_wp2
      go_ret
      exact ⟨rfl, rfl⟩

set_option maxHeartbeats 1000000 in
theorem both_any (a b : Int) (w : World) : Calls Tryz.prog 92 #[.int .i64 a, .int .i64 b] w fun e w' => e = .returned (.agg #[.int .i64 (cut a), .int .i64 (cut b)]) ∧ Kept w w' := by
  go_enter Tryz.func92, Tryz.ntmps92
  go_wp2
  refine wp_loop_rounds 3 ?_
  rw [rounds_succ]
  go_wp2_with (go_at_call 105; refine (cut_any _ _).mono ?_; rintro e w' ⟨rfl, rfl⟩)
  rw [rounds_succ]
  go_wp2_with (go_at_call 105; refine (cut_any _ _).mono ?_; rintro e w' ⟨rfl, rfl⟩)
  rw [rounds_succ]
  go_wp2
  exact bodyPost_ret (v := .agg #[.int .i64 (cut a), .int .i64 (cut b)]) (by simp [results, Tryz.results92, go_sem]) rfl ⟨rfl, (((Kept.refl _).alloc _ _).alloc _ _)⟩

theorem ret_int {k : IntKind} {a b : Int} (h : a = b) : Ending.returned (.int k a) = .returned (.int k b) := by rw [h]

set_option maxHeartbeats 1000000 in
theorem less_any (a b : Int) (w : World) : Calls Tryz.prog 77 #[.int .i64 a, .int .i64 b] w fun e w' => e = .returned (.int .i64 (less a b)) ∧ Kept w w' := by
  obtain ⟨a0, a1⟩ := cut_bd a
  obtain ⟨b0, b1⟩ := cut_bd b
  have hb := both_any a b w
  have hs : less a b = if cut a = 4611686018427387904 then 4611686018427387904 else if cut a < cut b then 0 else cut a - cut b := rfl
  generalize cut a = x at *
  generalize cut b = y at *
  generalize less a b = r at *
  have H : Hid (r = if x = 4611686018427387904 then 4611686018427387904 else if x < y then 0 else x - y) := hs
  clear hs
  by_cases h : x = 4611686018427387904
  · subst h
    go_enter Tryz.func77, Tryz.ntmps77
    go_wp2_with (go_at_call 92; refine hb.mono ?_; rintro e w1 ⟨rfl, k1⟩)
    go_ret
    exact ⟨ret_int (by rw [H.out]; rfl), by repeat (first | exact Kept.refl _ | assumption | apply Kept.drew | apply Kept.alloc)⟩
  · have hx : (x == 4611686018427387904) = false := by simpa using h
    by_cases h2 : x < y
    all_goals
      go_enter Tryz.func77, Tryz.ntmps77
      go_wp2_with (go_at_call 92; refine hb.mono ?_; rintro e w1 ⟨rfl, k1⟩)
      go_ret
      exact ⟨ret_int (by rw [H.out, if_neg h]; first | rw [if_pos (by omega)] | rw [if_neg (by omega)]), by repeat (first | exact Kept.refl _ | assumption | apply Kept.drew | apply Kept.alloc)⟩

end Go.Proofs.YtedhoghleelhfaaGreat.Tick
namespace Go.Proofs.YtedhoghleelhfaaGreat.Lk
set_option linter.unusedVariables false
set_option linter.unusedSimpArgs false
open Go Go.RowKit Go.Shelf Go.Proofs
attribute [local go_sem] Oper.semAt_some

/- A telegram. -/
structure Tl where
  kd : Int
  rb : Int
  ep : Int
  nm : Int
  mq : Int
  md : Int
  mn : Int
  fx : Int
  fy : Int
  fd : Bool
  tx : Int
  ty : Int
  td : Bool
  ma : Int
  me : Int
  px : Int
  py : Int
  pd : Bool
  ld : Int
def tlL (t : Tl) : List Value := [.int .i64 t.kd, .int .i64 t.rb, .int .i64 t.ep, .int .i64 t.nm, .int .i64 t.mq, .int .i64 t.md, .int .i64 t.mn, .int .i64 t.fx, .int .i64 t.fy, .bool t.fd, .int .i64 t.tx, .int .i64 t.ty, .bool t.td, .int .i64 t.ma, .int .i64 t.me, .int .i64 t.px, .int .i64 t.py, .bool t.pd, .int .i64 t.ld]
def tlA (t : Tl) : Array Value := (tlL t).toArray
def tl0 : Tl := ⟨0, 0, 0, 0, 0, 0, 0, 0, 0, false, 0, 0, false, 0, 0, 0, 0, false, 0⟩
theorem tlA_one (t : Tl) : (tlA t).all (·.oneCell') = true := by cases t; simp [tlA, tlL, Value.oneCell']
theorem infoTele : (Tryz.prog.info? 46).map (·.size) = some 19 := by kernel_rfl
theorem aggTele (w : World) : (isAgg 46).run Tryz.prog w = .ok true w := by unfold isAgg; rw [Sem.run_bind, run_underlying Tryz.underlying46 w]; rfl
theorem zeroTele (w : World) : (zeroValue 46).run Tryz.prog w = .ok (.agg (tlA tl0)) w := by kernel_rfl
theorem built0 : Tryz.prog.built 46 [] = some (tlA tl0) := by kernel_rfl
/- A struct that is read from anywhere. -/
theorem run_loadVar_at (w : World) (p : Addr) (ty : TypeId) (cs : Array Value) (hc : ∀ j v, cs[j]? = some v → w.cell? (p.add j) = some v)
    (hagg : (isAgg ty).run Tryz.prog w = .ok true w) (hi : (Tryz.prog.info? ty).map (·.size) = some cs.size) : (loadVar ty p).run Tryz.prog w = .ok (.agg cs) w := by
  have hl : (loadCells p cs.toList.length).run Tryz.prog w = .ok cs.toList.toArray w := run_loadCells_list (P := Tryz.prog) w p cs.toList (fun j v hv => hc j v (by simpa using hv))
  cases hq : Tryz.prog.info? ty with
  | none => simp [hq] at hi
  | some i =>
    have hs : i.size = cs.size := by simpa [hq] using hi
    simp only [Array.length_toList, Array.toArray_toList] at hl
    simp [loadVar, Sem.run_bind, hagg, sizeOf, typeInfo, hq, hs, hl]
theorem run_load_at {o : Oper} {a : Act} {w : World} (ty : TypeId) (x : Operand) (ho : o.op = .load ty x) (p : Addr) (hx : a.eval x = .pointer (some p)) (cs : Array Value) (h : (loadVar ty p).run Tryz.prog w = .ok (.agg cs) w) :
    (execOp a.eval o).run Tryz.prog w = .ok (.value (.agg cs)) w := by
  unfold execOp
  simp only [ho, hx, Instr.loadAt, Instr.sureAddr, Sem.run_bind, Sem.run_pure, Result.andThen_ok, h]
theorem wpList_load_at {ops : Array Oper} {rest : List Oper} {o : Oper} {a : Act} {w : World} {Q : Exit → Act → World → Prop} (hgd : o.guard = none) (ty : TypeId) (x : Operand) (ho : o.op = .load ty x)
    (p : Addr) (hx : a.eval x = .pointer (some p)) (cs : Array Value) (hl : (loadVar ty p).run Tryz.prog w = .ok (.agg cs) w)
    (h : wpList Tryz.prog ops Q rest (a.put o.dst (.agg cs)) w) : wpList Tryz.prog ops Q (o :: rest) a w :=
  wpList_plain hgd fun _ hK => by
    unfold Oper.wp execOp
    simp only [ho, hx, Instr.loadAt, Instr.sureAddr, Sem.run_bind, Sem.run_pure, Result.andThen_ok, hl]
    exact hK _ _ h
/- A telegram, a sending, that lies in a block of its own. -/
theorem add_zero (g j : Nat) : (⟨g, 0, none⟩ : Addr).add j = ⟨g, j, none⟩ := by
  unfold Addr.add
  by_cases h : j = 0
  · subst h; simp
  · simp [h]
theorem load_tele {w : World} {g : Nat} {t : Tl} {T : TypeId} {fr : Nat × Nat} (h : w.heap[g]? = some (.cells (tlA t) T fr)) : (loadVar 46 ⟨g, 0, none⟩).run Tryz.prog w = .ok (.agg (tlA t)) w :=
  run_loadVar_at w _ _ _ (fun j v hv => by rw [add_zero]; simpa [World.cell?, h] using hv) (aggTele _) infoTele
theorem tl_kd {w : World} {g : Nat} {t : Tl} {T : TypeId} {fr : Nat × Nat} (h : w.heap[g]? = some (.cells (tlA t) T fr)) : w.cell? ⟨g, 0, none⟩ = some (.int .i64 t.kd) := by
  have e : (tlA t)[0]? = some (.int .i64 t.kd) := rfl
  simpa [World.cell?, h] using e
theorem tl_rb {w : World} {g : Nat} {t : Tl} {T : TypeId} {fr : Nat × Nat} (h : w.heap[g]? = some (.cells (tlA t) T fr)) : w.cell? ⟨g, 1, none⟩ = some (.int .i64 t.rb) := by
  have e : (tlA t)[1]? = some (.int .i64 t.rb) := rfl
  simpa [World.cell?, h] using e
theorem tl_nm {w : World} {g : Nat} {t : Tl} {T : TypeId} {fr : Nat × Nat} (h : w.heap[g]? = some (.cells (tlA t) T fr)) : w.cell? ⟨g, 3, none⟩ = some (.int .i64 t.nm) := by
  have e : (tlA t)[3]? = some (.int .i64 t.nm) := rfl
  simpa [World.cell?, h] using e
/- A new variable that is given its value at once. -/
theorem alloc_setRow (w : World) (zs cs : Array Value) (ty : TypeId) : (w.alloc (.cells zs ty)).setRow w.heap.size cs = w.alloc (.cells cs ty) := by
  have : (w.heap.push (.cells zs ty (0, 0))).modify w.heap.size (fun | .cells _ elem frozen => .cells cs elem frozen | o => o) = w.heap.push (.cells cs ty (0, 0)) := by
    apply Array.ext_getElem?
    intro i
    rw [Array.getElem?_modify, Array.getElem?_push, Array.getElem?_push]
    by_cases hi : i = w.heap.size
    · subst hi; simp
    · rw [if_neg (fun e => hi e.symm), if_neg hi, if_neg hi]
  exact congrArg (fun h => ({ w with heap := h } : World)) this
theorem wpList_new {ops : Array Oper} {rest : List Oper} {o1 o2 : Oper} {a : Act} {w : World} {Q : Exit → Act → World → Prop} (g1 : o1.guard = none) (g2 : o2.guard = none) (ty : TypeId) (d : Tmp) (y : Operand)
    (h1 : o1.op = .alloc ty) (hd : o1.dst = some d) (h2 : o2.op = .store ty (.tmp d) y) (hd2 : o2.dst = none) (zs cs : Array Value) (hz : (zeroValue ty).run Tryz.prog w = .ok (.agg zs) w)
    (hx : (a.put (some d) (.pointer (some ⟨w.heap.size, 0, none⟩))).eval (.tmp d) = .pointer (some ⟨w.heap.size, 0, none⟩)) (hy : (a.put (some d) (.pointer (some ⟨w.heap.size, 0, none⟩))).eval y = .agg cs)
    (hi : (Tryz.prog.info? ty).map (·.size) = some cs.size) (hs : zs.size = cs.size) (hc : cs.all (·.oneCell') = true)
    (h : wpList Tryz.prog ops Q rest ((a.put (some d) (.pointer (some ⟨w.heap.size, 0, none⟩))).put none undef) (w.alloc (.cells cs ty))) : wpList Tryz.prog ops Q (o1 :: o2 :: rest) a w := by
  refine wpList_plain g1 fun K hK => ?_
  unfold Oper.wp execOp
  simp only [h1, Instr.alloc, Sem.run_bind, hz, newVar, newRow, run_newObj_alloc, Sem.run_pure, Result.andThen_ok, Value.cells]
  refine hK _ _ ?_
  rw [hd]
  refine wpList_store_row g2 ty (.tmp d) y h2 w.heap.size cs hx hy ty zs (World.alloc_heap_new _ _) hi hs hc ?_
  rw [alloc_setRow, hd2]
  exact h
theorem wpList_boxAt {ops : Array Oper} {rest : List Oper} {o : Oper} {a : Act} {w : World} {Q : Exit → Act → World → Prop} (hg : o.guard = none) (t : TypeId) (x : Operand) (ho : o.op = .box t x) (cs : Array Value) (hx : a.eval x = .agg cs)
    (h : wpList Tryz.prog ops Q rest (a.put o.dst (.pointer (some ⟨w.heap.size, 0, none⟩))) (w.alloc (.cells cs t))) : wpList Tryz.prog ops Q (o :: rest) a w := by
  refine wpList_plain hg fun K hK => ?_
  unfold Oper.wp execOp
  simp only [ho, hx, Sem.run_bind, Instr.box, newVar, newRow, run_newObj_alloc, Sem.run_pure, Result.andThen_ok, Value.cells]
  exact hK _ _ h
theorem results_cell_tmp {fn : Func} {p q : Tmp} {ty : TypeId} (h : fn.results = #[.cell p ty, .tmp q]) (tmps : Array Value) (w : World) (N : Nat) (cs : Array Value)
    (hp : tmps.getD p undef = .pointer (some ⟨N, 0, none⟩)) (hg : (loadVar ty ⟨N, 0, none⟩).run Tryz.prog w = .ok (.agg cs) w) :
    (results fn tmps).run Tryz.prog w = .ok (.tuple #[.agg cs, tmps.getD q undef]) w := by
  have hp' : tmps[p]?.getD undef = .pointer (some ⟨N, 0, none⟩) := by simpa using hp
  simp [results, h, hp', asAddr, hg]
/- Two telegrams held against each other. -/
set_option maxRecDepth 100000 in
set_option maxHeartbeats 2000000 in
theorem eqTele_self (t : Tl) (w : World) : (Op.equalIn 10000 46 (.agg (tlA t)) (.agg (tlA t))).run Tryz.prog w = .ok true w := by
  cases t
  simp only [tlA, tlL]
  go_simp
theorem gTele : Tryz.prog.eqGuardType Tryz.prog.depth 46 = false := by kernel_rfl
end Go.Proofs.YtedhoghleelhfaaGreat.Lk
