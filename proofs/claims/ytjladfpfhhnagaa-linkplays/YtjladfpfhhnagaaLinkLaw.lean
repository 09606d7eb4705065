/-
  What the laws have in common: Place, the first sentence of all (awake).
-/
import Derived.Test.YtjladfpfhhnagaaLinkDue
namespace Go.Proofs.Ytjladfpfhhnagaa.Lk
set_option linter.unusedVariables false
set_option linter.unusedSimpArgs false
open Go Go.RowKit Go.Shelf Go.Proofs Go.Proofs.Ytjladfpfhhnagaa.Tick Go.Proofs.Ytjladfpfhhnagaa.Plain
attribute [local go_sem] Oper.semAt_some

def place (v n : Int) : Int := if v.tmod n < 0 then v.tmod n + n else v.tmod n
theorem tmod_low (v n : Int) (h : 0 < n) : -n < v.tmod n := by
  by_cases g : 0 ≤ v
  · have := Int.tmod_nonneg n g
    omega
  · have h1 := Int.tmod_lt_of_pos (-v) h
    rw [Int.neg_tmod] at h1
    omega
theorem place_bd (v n : Int) (h : 0 < n) : 0 ≤ place v n ∧ place v n < n := by
  have h2 := Int.tmod_lt_of_pos v h
  have h3 := tmod_low v n h
  unfold place
  split <;> omega
set_option maxHeartbeats 1000000 in
theorem place_any (v n : Int) (w : World) (h0 : 0 < n) (h1 : n ≤ 9223372036854775807) : Calls Try.prog 12 #[.int .i64 v, .int .i64 n] w fun e w' => e = .returned (.int .i64 (place v n)) ∧ w' = w := by
  have h2 := Int.tmod_lt_of_pos v h0
  have h3 := tmod_low v n h0
  have H : Hid (place v n = if v.tmod n < 0 then v.tmod n + n else v.tmod n) := rfl
  generalize place v n = r at *
  by_cases hc : v.tmod n < 0
  all_goals
    go_enter Try.func12, Try.ntmps12
    go_wp2
    go_ret
    exact ⟨ret_int (by rw [H.out]; first | rw [if_pos (by omega)] | rw [if_neg (by omega)]), rfl⟩

theorem wpList_buildAs {ops : Array Oper} {rest : List Oper} {o : Oper} {a : Act} {w : World} {Q : Exit → Act → World → Prop} (hg : o.guard = none) (t : TypeId) (parts : Array (Nat × Operand)) (ho : o.op = .build t parts) (cs : Array Value) (vs : List (Nat × Value))
    (hv : (parts.map fun (i, x) => (i, a.eval x)).toList = vs) (hf : Try.prog.built t vs = some cs) (h : wpList Try.prog ops Q rest (a.put o.dst (.agg cs)) w) : wpList Try.prog ops Q (o :: rest) a w := by
  subst hv
  refine wpList_plain hg fun K hK => ?_
  unfold Oper.wp execOp
  simp only [ho, Sem.run_bind, run_build w t _ _ hf, Result.andThen_ok, Sem.run_pure]
  exact hK _ _ h
/- A telegram of which some fields are given. -/
def tlG (kd rb ep nm : Int) : Tl := ⟨kd, rb, ep, nm, 0, 0, 0, 0, 0, false, 0, 0, false, 0, 0, 0, 0, false, 0⟩
theorem builtA : Try.prog.built 37 [(0, .int .i64 1), (1, .int .i64 1), (3, .int .i64 3)] = some (tlA (tlG 1 1 0 3)) := by kernel_rfl
def M1 : Mp := upd (fun _ => none) 1 (some (tlG 1 1 0 3, 5))
theorem own_slice {w : World} {B : Nat} {v : Value} {l : List Tl} {n : Nat} (h : Own w B v l) (hn : l.length = n) : ∃ a cap, v = .slice a n cap := by
  obtain ⟨a, cap, e, _⟩ := own_form h
  rw [hn] at e
  exact ⟨a, cap, e⟩
set_option maxRecDepth 100000 in
set_option maxHeartbeats 2000000 in
theorem awake17 (w : World) : Calls Try.prog 11 #[] w fun e w' => e = .returned (.bool true) ∧ Below w.heap.size w w' := by
  have lx : (1 : Nat) ≤ 900000 := by decide
  have l1 : (dueL 14 10 M1 2).length = 0 := rfl
  have l2 : (dueL 15 10 (dueM 14 10 M1 2) 2).length = 1 := rfl
  have l3 : (dueL 20 10 (dueM 15 10 (dueM 14 10 M1 2) 2) 2).length = 0 := rfl
  have n1 := new_ok 2 10 w (by decide) (by decide) (by decide)
  obtain ⟨B, hB⟩ : ∃ B, w.heap.size = B := ⟨_, rfl⟩
  rw [hB] at n1 ⊢
  have HX : Hid (w.heap.size = B) := hB
  clear hB
  go_enter Try.func11, Try.ntmps11
  go_wp2_with (first
    | (have X7 := c6; go_at_call 18; refine (due_any (N := 2) G6 20 (by decide) (by omega)).mono ?_; rintro e y7 ⟨v7, rfl, n7, O7, G7, m7, g7⟩; obtain ⟨a7, k7, rfl⟩ := own_slice O7 l3; have c7 : Below B w y7 := c6.grown g7 (by have := c6.size; have := HX.out; omega) (fun k hk => by cases hk; exact Nat.le_refl _))
    | (have X6 := c5; go_at_call 18; refine (due_any (N := 2) G5 15 (by decide) (by omega)).mono ?_; rintro e y6 ⟨v6, rfl, n6, O6, G6, m6, g6⟩; obtain ⟨a6, k6, rfl⟩ := own_slice O6 l2; have c6 : Below B w y6 := c5.grown g6 (by have := c5.size; have := HX.out; omega) (fun k hk => by cases hk; exact Nat.le_refl _))
    | (have X5 := c3; go_at_call 18; refine (due_any (N := 2) G3 14 (by decide) (by omega)).mono ?_; rintro e y5 ⟨v5, rfl, n5, O5, G5, m5, g5⟩; obtain ⟨a5, k5, rfl⟩ := own_slice O5 l1; have c5 : Below B w y5 := c3.grown g5 (by have := c3.size; have := HX.out; omega) (fun k hk => by cases hk; exact Nat.le_refl _))
    | (go_at_call 9; refine n1.mono ?_; rintro e x1 ⟨rfl, G1, b1⟩; have hs1 := G1.lt)
    | (refine wpList_buildAs rfl 37 _ rfl (tlA (tlG 1 1 0 3)) _ rfl builtA ?_)
    | (go_at_call 13; refine (send_ok G1 (tlG 1 1 0 3) 5 (by decide) (by decide) (Or.inl rfl) (wf64_of (by decide) (by decide)) (by decide)).mono ?_; rintro e x2 ⟨rfl, G2, g2⟩; have c2 : Below B w x2 := b1.grown g2 (by omega) (fun k hk => by cases hk; exact Nat.le_refl _); obtain ⟨x3, hx3⟩ : ∃ x3, x3 = x2.alloc (.cells (tlA (tlG 1 1 0 3)) 37) := ⟨_, rfl⟩; have b3 : Below x2.heap.size x2 x3 := (by rw [hx3]; exact (Below.refl _ _).alloc (Nat.le_refl _) _); have z3 : x3.heap[x2.heap.size]? = some (.cells (tlA (tlG 1 1 0 3)) 37 (0, 0)) := (by rw [hx3]; exact World.alloc_heap_new _ _); have z4 := tl_nm z3; have G3 := G2.go b3; have c3 : Below B w x3 := c2.trans (b3.mono (by have := c2.size; have := HX.out; omega)); have f0 : B < x3.heap.size := G3.blt)
    | (refine wpList_new rfl rfl 37 3 (.tmp 19) rfl rfl rfl rfl (tlA tl0) (tlA (tlG 1 1 0 3)) (zeroTele _) rfl rfl infoTele rfl (tlA_one _) ?_; rw [← hx3]; clear hx3))
  go_ret
  exact ⟨rfl, c7⟩
end Go.Proofs.Ytjladfpfhhnagaa.Lk
