/-
  The chapter's own link.
-/
import Derived.Test.YtjladfpfhhnagaaLinkLastPlain
import Derived.Test.YtjladfpfhhnagaaTickRefs
namespace Go.Proofs.Ytjladfpfhhnagaa.Lk
set_option linter.unusedVariables false
set_option linter.unusedSimpArgs false
open Go Go.RowKit Go.Shelf Go.Proofs Go.Proofs.Ytjladfpfhhnagaa.Tick Go.Proofs.Ytjladfpfhhnagaa.Plain
attribute [local go_sem] Oper.semAt_some

/- What waits at a robot, as the chapter keeps it. -/
def wL (o : Option (Tl × Int)) : List Value := .bool o.isSome :: (tlL (tlOf o) ++ [.int .i64 (o.getD (tl0, 0)).2])
def wA (o : Option (Tl × Int)) : Array Value := (wL o).toArray
theorem wL_len (o : Option (Tl × Int)) : (wL o).length = 21 := rfl
theorem wA_one (o : Option (Tl × Int)) : (wA o).all (·.oneCell') = true := by
  simp only [wA, wL, tlL, List.cons_append, List.nil_append]
  simp [Value.oneCell']
theorem infoW : (Try.prog.info? 66).map (·.size) = some 21 := by kernel_rfl
theorem infoW3 : (Try.prog.info? 66).map (fun i => (i.zero, i.size, i.bytes)) = some (some (.agg (wA none)), 21, 168) := by kernel_rfl
theorem builtW (t : Tl) (n : Int) : Try.prog.built 66 [(0, .bool true), (1, .agg (tlA t)), (2, .int .i64 n)] = some (wA (some (t, n))) := by
  cases t; kernel_rfl
theorem builtW0 : Try.prog.built 66 [] = some (wA none) := by kernel_rfl
structure RAt (w : World) (r g N : Nat) (rsd : Int) (M : Mp) : Prop where
  at_ : w.heap[r]? = some (.cells #[.slice (some ⟨g, 0, none⟩) N N, .int .i64 rsd] 62 (0, 0))
  row : ∀ i, i < N → w.rangeAt g (i * 21) (wL (M (i : Int)))
  there : ∀ i, i < N → w.there g (i * 21) 21
  lt : g < w.heap.size
  ne : r ≠ g
theorem lt_of_eq {w w' : World} {g : Nat} (h : g < w.heap.size) (e : w'.heap[g]? = w.heap[g]?) : g < w'.heap.size := by
  have h1 := Array.getElem?_eq_getElem h
  rw [← e] at h1
  exact (Array.getElem?_eq_some_iff.1 h1).1
theorem RAt.rlt {w : World} {r g N : Nat} {rsd : Int} {M : Mp} (h : RAt w r g N rsd M) : r < w.heap.size := (Array.getElem?_eq_some_iff.1 h.at_).1
theorem RAt.same {w : World} {r g N : Nat} {rsd : Int} {M : Mp} {w' : World} (h : RAt w r g N rsd M) (e1 : w'.heap[r]? = w.heap[r]?) (e2 : w'.heap[g]? = w.heap[g]?) : RAt w' r g N rsd M :=
  ⟨e1.trans h.at_, fun i hi j v hv => (cell_same e2).trans (h.row i hi j v hv), fun i hi j hj => ⟨by rw [cell_same e2]; exact (h.there i hi j hj).1, by rw [frozen_same e2]; exact (h.there i hi j hj).2⟩, lt_of_eq h.lt e2, h.ne⟩
theorem RAt.go {w : World} {r g N : Nat} {rsd : Int} {M : Mp} {w' : World} (h : RAt w r g N rsd M) (hb : Below w.heap.size w w') : RAt w' r g N rsd M := h.same (hb.block _ h.rlt) (hb.block _ h.lt)
theorem RAt.like {w : World} {r g N : Nat} {rsd : Int} {M : Mp} {M' : Mp} (h : RAt w r g N rsd M) (e : ∀ i : Nat, i < N → M' (i : Int) = M (i : Int)) : RAt w r g N rsd M' :=
  ⟨h.at_, fun i hi => by rw [e i hi]; exact h.row i hi, h.there, h.lt, h.ne⟩
theorem RAt.put {w : World} {r g N : Nat} {rsd : Int} {M : Mp} (h : RAt w r g N rsd M) {k : Nat} (hk : k < N) (o : Option (Tl × Int)) : RAt (w.setCells g (k * 21) (wL o)) r g N rsd (upd M (k : Int) o) := by
  refine ⟨(setCells_heap g r h.ne _ _ w).trans h.at_, fun j hj => ?_, fun j hj => World.there_setCells (h.there j hj) _ _ _, by rw [(setCells_rest g _ _ w).1]; exact h.lt, h.ne⟩
  unfold upd
  by_cases e : j = k
  · subst e
    rw [if_pos rfl]
    exact World.rangeAt_setCells_same w g _ _ (by rw [wL_len]; exact h.there j hj)
  · rw [if_neg (by omega)]
    exact World.rangeAt_setCells_apart (h.row j hj) _ _ _ (by rw [wL_len, wL_len]; omega)
theorem ref_c0 {w : World} {r g N : Nat} {rsd : Int} (h : w.heap[r]? = some (.cells #[.slice (some ⟨g, 0, none⟩) N N, .int .i64 rsd] 62 (0, 0))) : w.cell? ⟨r, 0, none⟩ = some (.slice (some ⟨g, 0, none⟩) N N) := by simp [World.cell?, h]
theorem ref_c1 {w : World} {r g N : Nat} {rsd : Int} (h : w.heap[r]? = some (.cells #[.slice (some ⟨g, 0, none⟩) N N, .int .i64 rsd] 62 (0, 0))) : w.cell? ⟨r, 1, none⟩ = some (.int .i64 rsd) := by simp [World.cell?, h]
theorem RAt.on {w : World} {r g N : Nat} {rsd : Int} {M : Mp} (h : RAt w r g N rsd M) {k : Nat} (hk : k < N) : w.cell? ⟨g, k * 21, none⟩ = some (.bool (M (k : Int)).isSome) := h.row k hk 0 _ rfl
theorem RAt.at2 {w : World} {r g N : Nat} {rsd : Int} {M : Mp} (h : RAt w r g N rsd M) {k : Nat} (hk : k < N) : w.cell? ⟨g, k * 21 + 20, none⟩ = some (.int .i64 ((M (k : Int)).getD (tl0, 0)).2) := h.row k hk 20 _ rfl
theorem RAt.tele {w : World} {r g N : Nat} {rsd : Int} {M : Mp} (h : RAt w r g N rsd M) {k : Nat} (hk : k < N) : (loadVar 37 ⟨g, k * 21 + 1, none⟩).run Try.prog w = .ok (.agg (tlA (tlOf (M (k : Int))))) w :=
  run_loadVar_at w _ _ _ (fun j v hv => by
    rw [add_at]
    have hj : (tlL (tlOf (M (k : Int))))[j]? = some v := by unfold tlA at hv; simpa using hv
    have := h.row k hk (j + 1) v (by unfold wL; rw [List.getElem?_cons_succ, List.getElem?_append_left (List.getElem?_eq_some_iff.1 hj).1]; exact hj)
    rwa [show k * 21 + (j + 1) = k * 21 + 1 + j by omega] at this) (aggTele _) infoTele
theorem run_build_w {o : Oper} {a : Act} {w : World} (x y : Operand) (ho : o.op = .build 66 #[(0, .const (.bool true)), (1, x), (2, y)]) (t : Tl) (n : Int) (hx : a.eval x = .agg (tlA t)) (hy : a.eval y = .int .i64 n) :
    (execOp a.eval o).run Try.prog w = .ok (.value (.agg (wA (some (t, n))))) w := by
  have hb := builtW t n
  have hf : (Try.prog.built 66 (#[(0, .const (.bool true)), (1, x), (2, y)].map fun (i, x) => (i, a.eval x)).toList) = some (wA (some (t, n))) := by
    simp only [List.map_toArray, List.map_cons, List.map_nil, hx, hy]
    exact hb
  unfold execOp
  simp only [ho, Sem.run_bind, run_build w 66 _ _ hf, Result.andThen_ok, Sem.run_pure]
theorem run_store_mid_op {o : Oper} {a : Act} {w : World} (ty : TypeId) (x y : Operand) (ho : o.op = .store ty x y) (b k : Nat) (cells : Array Value) (hx : a.eval x = .pointer (some ⟨b, k, none⟩)) (hy : a.eval y = .agg cells)
    (ht : w.there b k cells.size) (hi : (Try.prog.info? ty).map (·.size) = some cells.size) (h1 : cells.all (·.oneCell') = true) : (execOp a.eval o).run Try.prog w = .ok .skip (w.setCells b k cells.toList) := by
  unfold execOp
  simp only [ho, hx, hy, Instr.storeAt, Instr.sureAddr, Sem.run_bind, Sem.run_pure, Result.andThen_ok, run_storeVar_mid w b k ty cells ht hi h1]
/- New rows. -/
def zW (N : Nat) : Array Value := (rowL wL (List.replicate N none)).toArray
theorem made0 : madeCells (Value.agg (wA none)).cells (0 * 21) = zW 0 := by kernel_rfl
theorem made1 : madeCells (Value.agg (wA none)).cells (1 * 21) = zW 1 := by kernel_rfl
theorem made2 : madeCells (Value.agg (wA none)).cells (2 * 21) = zW 2 := by kernel_rfl
theorem made3 : madeCells (Value.agg (wA none)).cells (3 * 21) = zW 3 := by kernel_rfl
theorem made4 : madeCells (Value.agg (wA none)).cells (4 * 21) = zW 4 := by kernel_rfl
theorem made5 : madeCells (Value.agg (wA none)).cells (5 * 21) = zW 5 := by kernel_rfl
theorem made6 : madeCells (Value.agg (wA none)).cells (6 * 21) = zW 6 := by kernel_rfl
theorem made7 : madeCells (Value.agg (wA none)).cells (7 * 21) = zW 7 := by kernel_rfl
theorem made8 : madeCells (Value.agg (wA none)).cells (8 * 21) = zW 8 := by kernel_rfl
theorem made_zW (N : Nat) (h : N ≤ 8) : madeCells (Value.agg (wA none)).cells (N * 21) = zW N := by
  have : ∀ k, k ≤ 8 → madeCells (Value.agg (wA none)).cells (k * 21) = zW k := fun k hk => by
    match k, hk with
    | 0, _ => exact made0
    | 1, _ => exact made1
    | 2, _ => exact made2
    | 3, _ => exact made3
    | 4, _ => exact made4
    | 5, _ => exact made5
    | 6, _ => exact made6
    | 7, _ => exact made7
    | 8, _ => exact made8
    | k + 9, hk => omega
  exact this N h
theorem run_rows (N : Nat) (h : N ≤ 8) (w : World) : (Instr.makeSlice 60 (.int .i64 N) (.int .i64 N)).run Try.prog w = .ok (.slice (some ⟨w.heap.size, 0, none⟩) N N) (w.alloc (.cells (zW N) 66)) := by
  obtain ⟨i0, hi, hz0, hz1, hz2⟩ := info_parts infoW3
  have hr := run_make (P := Try.prog) w 60 66 i0 _ Try.underlying60 hi hz0 .i64 .i64 N N (by omega) (Int.le_refl _) (by rw [hz2]; omega) (by omega)
  rw [hz1, Int.toNat_natCast, made_zW N h] at hr
  exact hr
theorem rows_at (w : World) (N : Nat) (T : TypeId) : (∀ i, i < N → (w.alloc (.cells (zW N) T)).rangeAt w.heap.size (i * 21) (wL none)) ∧ ∀ i, i < N → (w.alloc (.cells (zW N) T)).there w.heap.size (i * 21) 21 := by
  have hn : (w.alloc (.cells (zW N) T)).heap[w.heap.size]? = some (.cells (zW N) T (0, 0)) := World.alloc_heap_new _ _
  have hl : ∀ i j, i < N → ∀ v, (wL none)[j]? = some v → (w.alloc (.cells (zW N) T)).cell? ⟨w.heap.size, i * 21 + j, none⟩ = some v := fun i j hi v hv => by
    have := rowL_at wL_len (List.replicate N none) i (by rw [List.length_replicate]; exact hi) j v (by rw [List.getElem_replicate]; exact hv)
    rw [cell_of_row _ _ _ _ _ _ hn]
    unfold zW
    rw [List.getElem?_toArray]
    exact this
  refine ⟨fun i hi j v hv => hl i j hi v hv, fun i hi j hj => ⟨?_, thaw hn⟩⟩
  rw [hl i j hi _ (List.getElem?_eq_getElem (by rw [wL_len]; exact hj))]
  rfl
/- New. -/
theorem rnew_no0 (rs rsd : Int) (w : World) (g1 : rs < 0) : Calls Try.prog 10 #[.int .i64 rs, .int .i64 rsd] w fun e w' => e = .returned (.pointer none) ∧ w' = w := by
  go_enter Try.func10, Try.ntmps10
  go_wp2
  go_ret
  exact ⟨rfl, rfl⟩
theorem rnew_no1 (rs rsd : Int) (w : World) (g1 : ¬ rs < 0) (g2 : 8 < rs) : Calls Try.prog 10 #[.int .i64 rs, .int .i64 rsd] w fun e w' => e = .returned (.pointer none) ∧ w' = w := by
  go_enter Try.func10, Try.ntmps10
  go_wp2
  go_ret
  exact ⟨rfl, rfl⟩
theorem rnew_no2 (rs rsd : Int) (w : World) (g1 : ¬ rs < 0) (g2 : ¬ 8 < rs) (g3 : rsd < 1) : Calls Try.prog 10 #[.int .i64 rs, .int .i64 rsd] w fun e w' => e = .returned (.pointer none) ∧ w' = w := by
  go_enter Try.func10, Try.ntmps10
  go_wp2
  go_ret
  exact ⟨rfl, rfl⟩
theorem rnew_ok (N : Nat) (rsd : Int) (w : World) (h2 : N ≤ 8) (h3 : 1 ≤ rsd) : Calls Try.prog 10 #[.int .i64 (N : Int), .int .i64 rsd] w fun e w' => e = .returned (.pointer (some ⟨w.heap.size + 1, 0, none⟩)) ∧ RAt w' (w.heap.size + 1) w.heap.size N rsd (fun _ => none) ∧ Below w.heap.size w w' := by
  have hm := run_rows N h2 w
  have n1 : ¬ (N : Int) < 0 := by omega
  have n2 : ¬ 8 < (N : Int) := by omega
  have n3 : ¬ rsd < 1 := by omega
  obtain ⟨x1, hx1⟩ : ∃ x1, x1 = w.alloc (.cells (zW N) 66) := ⟨_, rfl⟩
  have r1 := rows_at w N 66
  rw [← hx1] at hm r1
  have s1 : x1.heap.size = w.heap.size + 1 := by rw [hx1]; simp
  have b1 : Below w.heap.size w x1 := by rw [hx1]; exact (Below.refl _ _).alloc (Nat.le_refl _) _
  have HE : Hid (RAt (x1.alloc (.cells #[.slice (some ⟨w.heap.size, 0, none⟩) N N, .int .i64 rsd] 62)) (w.heap.size + 1) w.heap.size N rsd (fun _ => none) ∧ Below w.heap.size w (x1.alloc (.cells #[.slice (some ⟨w.heap.size, 0, none⟩) N N, .int .i64 rsd] 62))) := by
    have b2 : Below x1.heap.size x1 (x1.alloc (.cells #[.slice (some ⟨w.heap.size, 0, none⟩) N N, .int .i64 rsd] 62)) := (Below.refl _ _).alloc (Nat.le_refl _) _
    have e2 := b2.block w.heap.size (by omega)
    refine ⟨⟨?_, fun i hi j v hv => (cell_same e2).trans (r1.1 i hi j v hv), fun i hi j hj => ⟨by rw [cell_same e2]; exact (r1.2 i hi j hj).1, by rw [frozen_same e2]; exact (r1.2 i hi j hj).2⟩, by have := b2.size; omega, by omega⟩, b1.trans (b2.mono (by omega))⟩
    rw [← s1]
    exact World.alloc_heap_new _ _
  clear hx1 r1 b1
  go_enter Try.func10, Try.ntmps10
  go_wp2
  go_ret
  exact ⟨rfl, HE.out.1, HE.out.2⟩
end Go.Proofs.Ytjladfpfhhnagaa.Lk
