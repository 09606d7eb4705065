/-
  A map keyed by ints whose elements are structs: what it holds, as a function of the key.
-/
import Derived.Maps.OwnSet
import Derived.Below
import Derived.WalkArith
namespace Go.Proofs.Ytdplacpdbknlgaa.Lk
set_option linter.unusedVariables false
set_option linter.unusedSimpArgs false
open Go Go.RowKit Go.MapKept Go.WideShapes
open Go.ChangeMaps (setBlock heap_setBlock_same heap_setBlock_other)
open Go.WideElems (Fit)

/- An element reads as itself. -/
def asIs (v : Value) : Option (DataW Value × List MemPlace) := some (.held v, [])
def wf64 (x : Int) : Prop := (Lit.int .i64 x).wf = true
theorem wf64_of {x : Int} (h1 : -9223372036854775808 ≤ x) (h2 : x ≤ 9223372036854775807) : wf64 x := by
  exact WalkArith.wf_i64 ⟨h1, h2⟩

/- Block b is a map of at most n entries that holds just M. -/
def MapIs (P : Program) (K : TypeId) (w : World) (b n : Nat) (M : Int → Option Value) : Prop :=
  ∃ D : DataW Value, w.ownsMap P K asIs b n D ∧ ∀ x, wf64 x → Maps.has D (.int .i64 x) = (M x).isSome ∧ ∀ v, M x = some v → ∀ z, D.atKey (.int .i64 x) z = .held v

variable {P : Program} {K E T : TypeId} {w : World} {b n : Nat} {M : Int → Option Value}

theorem mapIs_made (w : World) : MapIs P K (w.alloc (.map #[] 0)) w.heap.size 0 (fun _ => none) :=
  ⟨_, World.ownsMap_made w P K asIs, fun x _ => ⟨rfl, fun v h => by cases h⟩⟩
theorem MapIs.lt (h : MapIs P K w b n M) : b < w.heap.size := by obtain ⟨D, o, _⟩ := h; exact o.lt
theorem MapIs.same {w' : World} (h : MapIs P K w b n M) (e : w'.heap[b]? = w.heap[b]?) : MapIs P K w' b n M := by
  obtain ⟨D, ⟨es, ck, hb, r⟩, q⟩ := h
  exact ⟨D, ⟨es, ck, e.trans hb, r⟩, q⟩
theorem MapIs.mono (h : MapIs P K w b n M) {n' : Nat} (hn : n ≤ n') : MapIs P K w b n' M := by
  obtain ⟨D, o, q⟩ := h
  exact ⟨D, o.mono hn, q⟩
theorem key64 (hK : P.underlying K = some (.int .i64)) {x : Int} (h : wf64 x) : keyOf P K (.int .i64 x) = some (.int .i64 x) := Maps.keyOf_int_mk hK h
theorem MapIs.look (h : MapIs P K w b n M) (hT : P.underlying T = some (.map K E)) (hK : P.underlying K = some (.int .i64)) {z : Value} (hz : (zeroValue E).run P w = .ok z w) {x : Int} (hx : wf64 x) :
    (Instr.lookup T (.map (some b)) (.int .i64 x) true).run P w = .ok (.tuple #[(M x).getD z, .bool (M x).isSome]) w := by
  obtain ⟨D, o, q⟩ := h
  obtain ⟨v, ps, hr, hv⟩ := o.look_ok (Maps.int_keyed hK) hT hz (zd := .held z) (zp := []) rfl (key64 hK hx)
  obtain ⟨q1, q2⟩ := q x hx
  rw [hr, q1]
  have hv' : DataW.held v = D.atKey (.int .i64 x) (.held z) := by
    have := congrArg (fun o => o.map Prod.fst) hv
    simpa [asIs] using this
  cases hm : M x with
  | some u =>
    rw [q2 u hm] at hv'
    cases hv'
    rfl
  | none =>
    rw [hm] at q1
    rw [Maps.atKey_of_not_has q1] at hv'
    cases hv'
    rfl
theorem MapIs.store (h : MapIs P K w b n M) (hT : P.underlying T = some (.map K E)) (hK : P.underlying K = some (.int .i64)) (hn : n < maxLen) {x : Int} (hx : wf64 x) (v : Value) :
    ∃ w', (Instr.mapUpdate T (.map (some b)) (.int .i64 x) v).run P w = .ok () w' ∧ MapIs P K w' b (n + 1) (fun y => if y = x then some v else M y) ∧ w.mapTurned w' b := by
  obtain ⟨D, o, q⟩ := h
  obtain ⟨w', hr, o', ht⟩ := o.store (Maps.int_keyed hK) hT hn (key64 hK hx) (d := .held v) (ps := []) rfl
  refine ⟨w', hr, ⟨_, o', fun y hy => ?_⟩, ht⟩
  have hk : WideAt.IsKeyLit (.int .i64 x) := (Maps.int_keyed hK).key (key64 hK hx)
  by_cases e : y = x
  · subst e
    simp only [if_pos]
    exact ⟨Maps.has_put_same o.isMap hk _, fun u hu z => by cases hu; exact Maps.atKey_put_same o.isMap hk _ _⟩
  · simp only [if_neg e]
    have hne : (Lit.int .i64 y) ≠ .int .i64 x := fun q => e (by cases q; rfl)
    obtain ⟨q1, q2⟩ := q y hy
    exact ⟨(Maps.has_put_other hne _).trans q1, fun u hu z => (Maps.atKey_put_other hne _ _).trans (q2 u hu z)⟩
theorem MapIs.drop (h : MapIs P K w b n M) (hT : P.underlying T = some (.map K E)) (hK : P.underlying K = some (.int .i64)) {x : Int} (hx : wf64 x) (ty : TypeId) :
    ∃ w', (Builtin.delete_ #[T, K] ty #[.map (some b), .int .i64 x]).run P w = .ok (.tuple #[]) w' ∧ MapIs P K w' b n (fun y => if y = x then none else M y) ∧ w.mapTurned w' b := by
  obtain ⟨D, o, q⟩ := h
  obtain ⟨w', hr, o', ht⟩ := o.drop (Maps.int_keyed hK) hT (key64 hK hx) ty
  refine ⟨w', hr, ⟨_, o', fun y hy => ?_⟩, ht⟩
  have hk : WideAt.IsKeyLit (.int .i64 x) := (Maps.int_keyed hK).key (key64 hK hx)
  by_cases e : y = x
  · subst e
    simp only [if_pos]
    exact ⟨Maps.has_del_same, fun u hu z => by cases hu⟩
  · simp only [if_neg e]
    have hne : (Lit.int .i64 y) ≠ .int .i64 x := fun q => e (by cases q; rfl)
    obtain ⟨q1, q2⟩ := q y hy
    exact ⟨(Maps.has_del_other hne).trans q1, fun u hu z => (Maps.atKey_del_other hne _).trans (q2 u hu z)⟩
theorem MapIs.clear (h : MapIs P K w b n M) (hT : P.underlying T = some (.map K E)) (ty : TypeId) :
    ∃ w', (Builtin.clear_ #[T] ty #[.map (some b)]).run P w = .ok (.tuple #[]) w' ∧ MapIs P K w' b 0 (fun _ => none) ∧ w.mapTurned w' b := by
  obtain ⟨D, ⟨es, ck, hb, F, hs, hD⟩, q⟩ := h
  refine ⟨setBlock w b (.map #[] ck), ?_, ⟨.map [], ⟨#[], ck, heap_setBlock_same hb _, ⟨by simp, stamped_empty ck, by simp⟩, Nat.le_refl _, rfl⟩, fun x _ => ⟨rfl, fun v h => by cases h⟩⟩, ⟨es, ck, #[], ck, hb, rfl⟩⟩
  simp [Builtin.clear_, run_underlying hT, MapKept.run_getObj_map hb, MapKept.run_setObj_map _ hb, Result.andThen, setBlock]

theorem turned_heap {w' : World} (h : w.mapTurned w' b) {g : Nat} (hg : g ≠ b) : w'.heap[g]? = w.heap[g]? := by
  obtain ⟨es, ck, es', ck', hb, rfl⟩ := h
  exact heap_setBlock_other hb _ hg
theorem turned_size {w' : World} (h : w.mapTurned w' b) : w'.heap.size = w.heap.size := by
  obtain ⟨es, ck, es', ck', hb, rfl⟩ := h
  simp [setBlock]
end Go.Proofs.Ytdplacpdbknlgaa.Lk
