/-
  What came in: bytes, numbers, structs and lists, opened; how many bytes they are put as, against their bulk.
-/
import Derived.Test.YthdgpadakmdlkaaRows
import Derived.Test.YthdgpadakmdlkaaCodecHeld
import Derived.Deep.Slices
import Derived.ChangeSame
namespace Go.Proofs.Ythdgpadakmdlkaa.Codec
set_option linter.unusedVariables false
set_option linter.unusedSimpArgs false
open Go Go.RowKit Go.ChangeShapes Go.WideShapes Go.ChangeAt

theorem bulk_one {H : Type} (d : DataW H) : 1 ≤ Rows.uptoBulk d := by
  cases d with
  | lit l => cases l <;> simp [Rows.uptoBulk]
  | nil => simp [Rows.uptoBulk]
  | ptr d => simp [Rows.uptoBulk]
  | slice elems spare => simp [Rows.uptoBulk]
  | agg parts => simp [Rows.uptoBulk]
  | iface t d => simp [Rows.uptoBulk]
  | map entries => simp [Rows.uptoBulk]
  | held h => simp [Rows.uptoBulk]
theorem bulk_len {H : Type} (l : List (DataW H)) : l.length ≤ Rows.uptoBulkAll l := by
  induction l with
  | nil => simp [Rows.uptoBulkAll]
  | cons x r ih => have := bulk_one x; simp only [Rows.uptoBulkAll, List.length_cons]; omega
theorem i64_wf {x : Int} (h : (Lit.int .i64 x).wf = true) : I64 x := by
  simp [Lit.wf, IntKind.min, IntKind.max, IntKind.bits, IntKind.signed] at h
  exact ⟨by omega, by omega⟩

theorem bytes_up {H : Type} {enc : TypeId × Value → H} {W : World} {fuel : Nat} {a : Option Addr} {len cap : Nat} {d : DataW H × List MemPlace} (h : DataW.trod enc Try.prog W 0 (fun _ => true) true fuel 29 [.slice a len cap] = some d) :
    ∃ zs, Row W a len zs ∧ (a = none → len = 0 ∧ cap = 0) ∧ len ≤ cap ∧ cap ≤ 9223372036854775807 ∧ len ≤ Rows.uptoBulk d.1 := by
  rcases open_ints Try.underlying29 Try.underlying5 (by kernel_rfl) h with ⟨hcs, hd⟩ | ⟨x, l, c, zs, hcs, _, hl, hm, hz, hd, hcell, hwz⟩
  · simp at hcs
    obtain ⟨rfl, rfl, rfl⟩ := hcs
    exact ⟨[], ⟨rfl, by simp, fun i hi => by omega⟩, fun _ => ⟨rfl, rfl⟩, Nat.le_refl _, by omega, Nat.zero_le _⟩
  · simp at hcs
    obtain ⟨rfl, rfl, rfl⟩ := hcs
    have hz' : zs.length = cap := by simpa using hz
    refine ⟨zs.take len, ⟨by rw [List.length_take]; omega, fun z hzm => ?_, fun j hj => ⟨x, rfl, ?_⟩⟩, fun h => (by cases h), hl, hm, ?_⟩
    · have := hwz z (List.mem_of_mem_take hzm)
      simp [Lit.wf, IntKind.min, IntKind.max, IntKind.bits, IntKind.signed] at this
      omega
    · rw [hcell j (by omega), getD_in zs j (by omega), getD_in _ j (by rw [List.length_take]; omega), List.getElem_take]
    · rw [hd]
      simp only [Rows.uptoBulk]
      have := bulk_len (lits (H := H) .u8 (zs.take len))
      simp only [lits, List.length_map, List.length_take] at this
      simp only [lits]
      omega

/- Where what came in lies. -/
def Old (W : World) : Nat → Prop := fun g => g < W.heap.size
theorem bulk_append {H : Type} (l r : List (DataW H)) : Rows.uptoBulkAll (l ++ r) = Rows.uptoBulkAll l + Rows.uptoBulkAll r := by
  induction l with
  | nil => simp [Rows.uptoBulkAll]
  | cons x l ih => simp only [List.cons_append, Rows.uptoBulkAll, ih]; omega

theorem up_int {H : Type} {enc : TypeId × Value → H} {W : World} {n : Nat} {cs : List Value} {d : DataW H × List MemPlace} (h : DataW.trod enc Try.prog W 0 (fun _ => true) true n 3 cs = some d) :
    ∃ x, cs = [.int .i64 x] ∧ I64 x ∧ (num x).length ≤ 10 * Rows.uptoBulk d.1 := by
  obtain ⟨x, q, e, f⟩ := DataW.trod_int Try.underlying3 h
  refine ⟨x, q, i64_wf f, ?_⟩
  rw [e]
  have := num_len x
  simp [Rows.uptoBulk]
  omega
theorem up_bool {H : Type} {enc : TypeId × Value → H} {W : World} {n : Nat} {cs : List Value} {d : DataW H × List MemPlace} (h : DataW.trod enc Try.prog W 0 (fun _ => true) true n 4 cs = some d) :
    ∃ x, cs = [.bool x] ∧ (cFlag.put x).length ≤ 10 * Rows.uptoBulk d.1 := by
  obtain ⟨x, q, e⟩ := DataW.trod_bool Try.underlying4 h
  refine ⟨x, q, ?_⟩
  rw [e]
  simp [Rows.uptoBulk, cFlag]

theorem up_items {α : Type} {H : Type} (c : Cod α) (El : (Nat → Prop) → α → Array Value → World → Prop) (S : Nat) (hS0 : 0 < S) (W : World) (a : Addr) (D : Nat → DataW H) (m : Nat)
    (hx : ∀ i, i < m → ∃ (x : α) (cs : List Value), W.cells? 0 (a.add (i * S)) S = some cs ∧ El (Old W) x cs.toArray W ∧ c.ok x ∧ (c.put x).length ≤ 10 * Rows.uptoBulk (D i)) :
    ∀ len, len ≤ m → ∃ ys : List (α × Array Value), ys.length = len ∧ (∀ y ∈ ys, El (Old W) y.1 y.2 W ∧ c.ok y.1) ∧
      (∀ i (h : i < ys.length), Old W a.block ∧ ∀ j u, ((ys[i]'h).2)[j]? = some u → W.cell? (a.add (i * S + j)) = some u) ∧ ((ys.map Prod.fst).flatMap c.put).length ≤ 10 * Rows.uptoBulkAll ((List.range len).map D) := by
  intro len
  induction len with
  | zero => intro _; exact ⟨[], rfl, fun y hy => by simp at hy, fun i hi => by simp at hi, by simp⟩
  | succ len ih =>
    intro hm
    obtain ⟨ys, h1, h2, h3, h4⟩ := ih (by omega)
    obtain ⟨x, cs, k1, k2, k3, k4⟩ := hx len (by omega)
    obtain ⟨_, hlen, hcell⟩ := World.cells?_some k1
    refine ⟨ys ++ [(x, cs.toArray)], by rw [List.length_append, h1]; rfl, fun y hy => ?_, fun i hi => ?_, ?_⟩
    · rcases List.mem_append.1 hy with hy | hy
      · exact h2 y hy
      · rw [List.mem_singleton.1 hy]; exact ⟨k2, k3⟩
    · have hb : Old W a.block := by
        have h0 := hcell 0 hS0
        rw [List.getElem?_eq_getElem (by omega)] at h0
        have := World.block_lt_of_cell? W _ h0
        rwa [block_add, block_add] at this
      refine ⟨hb, fun j u hj => ?_⟩
      by_cases hil : i < ys.length
      · rw [List.getElem_append_left hil] at hj
        exact (h3 i hil).2 j u hj
      · have hi' : i = len := by rw [List.length_append, h1] at hi; simp at hi; omega
        subst hi'
        rw [List.getElem_append_right (by omega)] at hj
        simp only [h1, Nat.sub_self, List.getElem_cons_zero, List.getElem?_toArray] at hj
        have hjl := (List.getElem?_eq_some_iff.1 hj).1
        rw [← add_add]
        exact (hcell j (by omega)).trans hj
    · have e1 : (List.range (len + 1)).map D = (List.range len).map D ++ [D len] := by rw [List.range_succ, List.map_append]; rfl
      have e2 : (ys ++ [(x, cs.toArray)]).map Prod.fst = ys.map Prod.fst ++ [x] := by rw [List.map_append]; rfl
      rw [e1, e2, bulk_append, List.flatMap_append, List.length_append, List.flatMap_singleton]
      simp only [Rows.uptoBulkAll]
      omega
theorem up_list {α : Type} {H : Type} {enc : TypeId × Value → H} {W : World} (c : Cod α) (El : (Nat → Prop) → α → Array Value → World → Prop) (S : Nat) (hS0 : 0 < S) (sl e : TypeId) (hsl : Try.prog.underlying sl = some (.slice e)) (hS : Try.prog.cellsOf e = S)
    (hEl : ∀ (n : Nat) (cs : List Value) (d : DataW H × List MemPlace), cs.length = S → DataW.trod enc Try.prog W 0 (fun _ => true) true n e cs = some d → ∃ x, El (Old W) x cs.toArray W ∧ c.ok x ∧ (c.put x).length ≤ 10 * Rows.uptoBulk d.1)
    {fuel : Nat} {v : Value} {d : DataW H × List MemPlace} (h : DataW.trod enc Try.prog W 0 (fun _ => true) true fuel sl [v] = some d) :
    ∃ xs, ListAt S El (Old W) xs v W ∧ (list c).ok xs ∧ ((list c).put xs).length ≤ 10 * Rows.uptoBulk d.1 := by
  rcases Go.Deep.open_slice hsl h with ⟨hcs, hd⟩ | ⟨a, l, cp, m, n, D, Pl, hcs, _, hl, hm, hmm, hd, hx⟩
  · simp at hcs
    subst hcs
    refine ⟨[], ListAt.nil _ _ _ _, ⟨⟨by simp, by simp⟩, fun x hx => by simp at hx⟩, ?_⟩
    rw [hd, list_put]
    have := num_len ((([] : List α).length : Nat) : Int)
    simp [Rows.uptoBulk]
    simp at this
    omega
  · simp at hcs
    subst hcs
    have hm' : m = cp := by simpa using hmm
    obtain ⟨ys, h1, h2, h3, h4⟩ := up_items c El S hS0 W a D m (fun i hi => by
      obtain ⟨cs', k1, k2⟩ := hx i hi
      rw [hS] at k1
      obtain ⟨_, hlen, _⟩ := World.cells?_some k1
      obtain ⟨x, e1, e2, e3⟩ := hEl n cs' _ hlen k2
      exact ⟨x, cs', k1, e1, e2, e3⟩) l (by omega)
    refine ⟨ys.map Prod.fst, ⟨some a, cp, ys, rfl, by rw [h1], fun y hy => (h2 y hy).1, fun i hi => ⟨a, rfl, h3 i hi⟩, fun e => by cases e⟩, ⟨?_, fun x hx => ?_⟩, ?_⟩
    · rw [List.length_map, h1]
      unfold maxLen at hm
      exact ⟨by omega, by omega⟩
    · obtain ⟨y, hy, rfl⟩ := List.mem_map.1 hx
      exact (h2 y hy).2
    · rw [hd, list_put, List.length_append]
      have := num_len (((ys.map Prod.fst).length : Nat) : Int)
      simp only [Rows.uptoBulk]
      omega
end Go.Proofs.Ythdgpadakmdlkaa.Codec
