/-
  What the laws over a radio have in common: the first sentence of all (awake).
-/
import Derived.Test.YtdplacpdbknlgaaRadTell
import Derived.BigFrame
namespace Go.Proofs.Ytdplacpdbknlgaa.Lk
set_option linter.unusedVariables false
set_option linter.unusedSimpArgs false
open Go Go.RowKit Go.Shelf Go.Proofs
attribute [local go_sem] Oper.semAt_some

theorem wpList_valW {ops : Array Oper} {rest : List Oper} {o : Oper} {a : Act} {w : World} {Q : Exit → Act → World → Prop} (hw : Region.wanted o (yielded ops a.tmps) = true) (v : Value) (w' : World) (hr : (execOp a.eval o).run Try.prog w = .ok (.value v) w')
    (h : wpList Try.prog ops Q rest (a.put o.dst v) w') : wpList Try.prog ops Q (o :: rest) a w :=
  BigFrame.wpList_want hw fun _ hK => by
    unfold Oper.wp
    rw [hr]
    exact hK _ _ h
theorem builtNum (n : Int) : Try.prog.built 42 [(3, .int .i64 n)] = some (tlA (tlG 0 0 0 n)) := by kernel_rfl
theorem run_buildT {o : Oper} {a : Act} {w : World} (parts : Array (Nat × Operand)) (ho : o.op = .build 42 parts) (cs : Array Value) (vs : List (Nat × Value)) (hv : (parts.map fun (i, x) => (i, a.eval x)).toList = vs) (hf : Try.prog.built 42 vs = some cs) : (execOp a.eval o).run Try.prog w = .ok (.value (.agg cs)) w := by
  subst hv
  unfold execOp
  simp only [ho, Sem.run_bind, run_build w 42 _ _ hf, Result.andThen_ok, Sem.run_pure]
theorem run_two (s t : Tl) (w : World) : (Instr.buildSlice 27 2 #[(0, .agg (tlA s)), (1, .agg (tlA t))]).run Try.prog w = .ok (.slice (some ⟨w.heap.size, 0, none⟩) 2 2) (w.alloc (.cells (tlL s ++ tlL t).toArray 42)) := by
  cases s
  cases t
  kernel_rfl
theorem run_two_op {o : Oper} {a : Act} {w : World} (x y : Operand) (ho : o.op = .buildSlice 27 2 #[(0, x), (1, y)]) (s t : Tl) (hx : a.eval x = .agg (tlA s)) (hy : a.eval y = .agg (tlA t)) : (execOp a.eval o).run Try.prog w = .ok (.value (.slice (some ⟨w.heap.size, 0, none⟩) 2 2)) (w.alloc (.cells (tlL s ++ tlL t).toArray 42)) := by
  unfold execOp
  simp only [ho, List.map_toArray, List.map_cons, List.map_nil, hx, hy, Sem.run_bind, run_two, Result.andThen_ok, Sem.run_pure]
theorem own_two (s t : Tl) (w : World) : Own (w.alloc (.cells (tlL s ++ tlL t).toArray 42)) w.heap.size (.slice (some ⟨w.heap.size, 0, none⟩) 2 2) [s, t] := by
  have h := World.ownsRow_lit (base := w.heap.size) (e := 42) (size := 19) w (tlL s ++ tlL t).toArray 2 (Nat.le_refl _) (by decide) (by simp [tlL_len])
  simpa [Own, rowL] using h
theorem own_single (t : Tl) (w : World) : Own (w.alloc (.cells (tlA t) 42)) w.heap.size (.slice (some ⟨w.heap.size, 0, none⟩) 1 1) [t] := by
  have h := World.ownsRow_lit (base := w.heap.size) (e := 42) (size := 19) w (tlA t) 1 (Nat.le_refl _) (by decide) (tlA_size t)
  simpa [Own, rowL, tlA] using h
/- A box that was made behind the radio. -/
theorem Tn.box {T : TypeId} {B : Nat} {w0 w w' : World} {p : Nat} {v v' : Value} {l : List Tl} (t : Tn w w' p v v') (h : RdAt T B w0 p v l) {k : Nat} (hk : w0.heap.size ≤ k) (hl : k < w.heap.size) : w'.heap[k]? = w.heap[k]? :=
  t.block k hl (by have := h.lt; omega) fun e => by have := (h.own.lt k e).2; omega
def tA : Tl := tlG 0 0 0 1
def tB : Tl := tlG 0 0 0 2
theorem tl_nmT {w : World} {g : Nat} {t : Tl} (h : w.heap[g]? = some (.cells (tlA t) 42 (0, 0))) : w.cell? ⟨g, 3, none⟩ = some (.int .i64 t.nm) := tl_nm h
set_option maxRecDepth 100000 in
set_option maxHeartbeats 2000000 in
theorem awake20_any (w : World) : Calls Try.prog 8 #[] w fun e w' => e = .returned (.bool true) ∧ Below w.heap.size w w' := by
  have n1 := radNew_any w
  obtain ⟨B, hB⟩ : ∃ B, w.heap.size = B := ⟨_, rfl⟩
  rw [hB] at n1 ⊢
  have HX : Hid (w.heap.size = B) := hB
  have p3 : plN 3 2 = 1 := rfl
  have p1 : plN (-1) 2 = 1 := rfl
  clear hB
  go_enter Try.func8, Try.ntmps8
  go_wp2_with (first
    | (go_at_call 9; refine n1.mono ?_; rintro e x1 ⟨rfl, G1, b1⟩; clear n1)
    | (refine wpList_valW (by kernel_rfl) (.agg (tlA tA)) _ (run_buildT _ rfl _ _ rfl (builtNum 1)) ?_)
    | (refine wpList_valW (by kernel_rfl) (.agg (tlA tB)) _ (run_buildT _ rfl _ _ rfl (builtNum 2)) ?_)
    | (refine wpList_valW (by kernel_rfl) _ _ (run_two_op (.tmp 12) (.tmp 13) rfl tA tB rfl rfl) ?_; obtain ⟨x2, hx2⟩ : ∃ x2, x1.alloc (.cells (tlL tA ++ tlL tB).toArray 42) = x2 := ⟨_, rfl⟩; have O2 := own_two tA tB x1; rw [hx2] at O2 ⊢; have bb2 : Below x1.heap.size x1 x2 := (by rw [← hx2]; exact (Below.refl _ _).alloc (Nat.le_refl _) _); have G2 := G1.go bb2; have b2 : Below B w x2 := b1.trans (bb2.mono (by have := b1.size; have := HX.out; omega)); clear G1 b1 bb2 hx2)
    | (go_at_call 11; refine (send_case G2 (Lies.of_own O2) (by decide) 2 (by decide)).mono ?_; rintro e x3 ⟨rfl, v3, G3, t3⟩; have b3 := t3.below G2 b2; clear G2 b2 O2 t3)
    | (have X' := b6; go_at_call 19; refine (radLen_any G7).mono ?_; rintro e yw ⟨rfl, hyw⟩; rw [hyw]; clear hyw)
    | (go_at_call 13; refine (radHear_any G5 (-1) false tB rfl).mono ?_; rintro e x6 ⟨rfl, v6, G6, t6⟩; have b6 := t6.below G5 b5; have z6 := (t6.box G4 (Nat.le_refl _) (by omega)).trans z5; have G6' : RdAt 57 B x6 B v6 [tA] := G6; obtain ⟨x7, hx7⟩ : ∃ x7, x6.alloc (.cells (tlA tB) 42) = x7 := ⟨_, rfl⟩; have bb7 : Below x6.heap.size x6 x7 := (by rw [← hx7]; exact (Below.refl _ _).alloc (Nat.le_refl _) _); have G7 := G6'.go bb7; have b7 : Below B w x7 := b6.trans (bb7.mono (by have := b6.size; have := HX.out; omega)); have y7 := tl_nmT ((bb7.block _ (by have := t6.size; omega)).trans z6); have z7 : x7.heap[x6.heap.size]? = some (.cells (tlA tB) 42 (0, 0)) := (by rw [← hx7]; exact World.alloc_heap_new _ _); have y8 := tl_nmT z7; have H7 : Hid (x6.alloc (.cells (tlA tB) 42) = x7) := hx7; clear hx7 G6 G6' z7 bb7)
    | (have X' := z5; go_at_call 19; refine (radLen_any G5).mono ?_; rintro e yw ⟨rfl, hyw⟩; rw [hyw]; clear hyw)
    | (go_at_call 13; refine (radHear_any G3 3 true tB rfl).mono ?_; rintro e x4 ⟨rfl, v4, G4, t4⟩; have b4 := t4.below G3 b3; obtain ⟨x5, hx5⟩ : ∃ x5, x4.alloc (.cells (tlA tB) 42) = x5 := ⟨_, rfl⟩; have bb5 : Below x4.heap.size x4 x5 := (by rw [← hx5]; exact (Below.refl _ _).alloc (Nat.le_refl _) _); have G5 := G4.go bb5; have b5 : Below B w x5 := b4.trans (bb5.mono (by have := b4.size; have := HX.out; omega)); have z5 : x5.heap[x4.heap.size]? = some (.cells (tlA tB) 42 (0, 0)) := (by rw [← hx5]; exact World.alloc_heap_new _ _); have s5 : x5.heap.size = x4.heap.size + 1 := (by rw [← hx5]; simp); have H5 : Hid (x4.alloc (.cells (tlA tB) 42) = x5) := hx5; clear hx5 t4 G3 b3 bb5)
    | (have X' := y8; refine wpList_new rfl rfl 42 5 (.tmp 28) rfl rfl rfl rfl (tlA tl0) (tlA tB) (zeroTele _) rfl rfl infoTele rfl (tlA_one _) ?_; rw [H7.out])
    | (refine wpList_new rfl rfl 42 2 (.tmp 21) rfl rfl rfl rfl (tlA tl0) (tlA tB) (zeroTele _) rfl rfl infoTele rfl (tlA_one _) ?_; rw [H5.out]))
  go_ret
  exact ⟨rfl, b7⟩
end Go.Proofs.Ytdplacpdbknlgaa.Lk
