/-
  The chapter's own answer: an operation's bytes, bytes as an operation.
-/
import Derived.Test.YtgliglealchjjaaCodecRefRead
import Derived.Test.YtgliglealchjjaaCodecFace
import Derived.Deep.DeepCutAuto
namespace Go.Proofs.Ytgliglealchjjaa.Codec
set_option linter.unusedVariables false
set_option linter.unusedSimpArgs false
open Go Go.RowKit

theorem goes_below {b : Value} {w w' : World} (h : Below w.heap.size w w') : Goes b w b w' := ⟨⟨h.os, h.tape, h.output, h.size, fun k hk _ => h.block k hk⟩, fun g hg => Or.inl hg⟩
theorem drew_below4 (w : World) : Below w.heap.size w w.drew := below_drewN w 1
set_option maxHeartbeats 1000000 in
theorem refnum_any (w : World) (b : Value) (zs : List Int) (v : Int) (hm : Mine w b zs) (hv : I64 v) (hl : zs.length + 10 ≤ 140737488355328) :
    Calls Try.prog 46 #[b, .int .i64 v] w fun e w' => ∃ b', e = .returned b' ∧ Mine w' b' (zs ++ num v) ∧ Goes b w b' w' := by
  have c1 := fun u : World => refNumber_any v u hv
  have hN := num_len v
  generalize num v = NV at *
  go_enter Try.func46, Try.ntmps46
  go_wp2_with (first
    | (go_at_call 10; refine (c1 _).mono ?_; rintro e1 w1 ⟨b1, rfl, m1, B1, n1⟩; obtain ⟨a1, k1, rfl, r1, z1, l1, l2⟩ := m1.form)
    | (have X' := r1; at_builtin; refine wpList_append_mine rfl (.tmp 5) (.tmp 7) rfl _ zs rfl (hm.later B1) _ _ _ NV rfl r1 (fun h => (z1 h).2) (by omega) ?_; intro v2 w2 m2 g2))
  go_ret
  exact ⟨v2, rfl, m2, (goes_below B1).trans g2⟩

set_option maxRecDepth 100000 in
set_option maxHeartbeats 4000000 in
theorem refPutOp_any (w : World) (x y z : Int) (ho : cOp.ok (x, y, z)) :
    Calls Try.prog 28 #[.agg #[.int .i64 x, .int .i64 y, .int .i64 z]] w (Made (cOp.put (x, y, z)) w) := by
  obtain ⟨o1, o2, o3⟩ := ho
  have hx := num_len x
  have hy := num_len y
  have e : cOp.put (x, y, z) = ([] ++ num x ++ num y) ++ num z := by
    show num x ++ (num y ++ num z) = _
    simp
  rw [e]
  have c1 := fun (u : World) => refnum_any u (.slice none 0 0) [] x (Mine.nil u) o1 (by simp)
  have c2 := fun (u : World) (b : Value) (hm : Mine u b ([] ++ num x)) => refnum_any u b _ y hm o2 (by simp; omega)
  have c3 := fun (u : World) (b : Value) (hm : Mine u b ([] ++ num x ++ num y)) => refnum_any u b _ z hm o3 (by simp; omega)
  generalize [] ++ num x ++ num y ++ num z = Z3 at *
  generalize [] ++ num x ++ num y = Z2 at *
  generalize [] ++ num x = Z1 at *
  obtain ⟨wc, hwc⟩ : ∃ wc, wc = w.alloc (.cells #[.int .i64 x, .int .i64 y, .int .i64 z] 61) := ⟨_, rfl⟩
  have B0 : Below w.heap.size w wc := by rw [hwc]; exact (Below.refl _ _).alloc (Nat.le_refl _) _
  have hlt : w.heap.size < wc.heap.size := by rw [hwc]; simp
  have q0 : ∀ u, Below wc.heap.size wc u → u.cell? ⟨w.heap.size, 0, none⟩ = some (.int .i64 x) := fun u hu => (hu.cell (p := ⟨w.heap.size, 0, none⟩) hlt).trans (by rw [hwc, cell_new]; rfl)
  have q1 : ∀ u, Below wc.heap.size wc u → u.cell? ⟨w.heap.size, 1, none⟩ = some (.int .i64 y) := fun u hu => (hu.cell (p := ⟨w.heap.size, 1, none⟩) hlt).trans (by rw [hwc, cell_new]; rfl)
  have q2 : ∀ u, Below wc.heap.size wc u → u.cell? ⟨w.heap.size, 2, none⟩ = some (.int .i64 z) := fun u hu => (hu.cell (p := ⟨w.heap.size, 2, none⟩) hlt).trans (by rw [hwc, cell_new]; rfl)
  go_enter Try.func28, Try.ntmps28
  go_upto_region 1 with fail
  rw [← hwc]
  clear hwc
  go_cut [2] (fun b wx => Mine wx b Z3 ∧ Below wc.heap.size wc wx ∧ ∀ g, b.ownBlock = some g → wc.heap.size ≤ g)
  case first =>
    have S0 : Below wc.heap.size wc wc.drew := drew_below4 wc
    refine start_held (S := fun u => Below wc.heap.size wc u) 10 rfl (by kernel_rfl) S0 ?_
    simp only [Array.replicate_succ, Array.replicate_zero, List.push_toArray, List.nil_append, List.cons_append]
    refine take_held 0 S0 rfl (by kernel_rfl) (by kernel_rfl) (by kernel_rfl) (fun _ _ _ h => h) (by kernel_rfl) (v := .pointer (some ⟨w.heap.size, 0, none⟩)) ?y0 ?r0
    case y0 => (intro u hu; go_simp; try rfl)
    simp only [Act.put, List.setIfInBounds_toArray, List.set_cons_zero, List.set_cons_succ]
    refine take_held 1 S0 rfl (by kernel_rfl) (by kernel_rfl) (by kernel_rfl) (fun _ _ _ h => h) (by kernel_rfl) (v := .int .i64 x) ?y1 ?r1
    case y1 => (intro u hu; have hq := q0 u hu; go_simp; try rfl)
    simp only [Act.put, List.setIfInBounds_toArray, List.set_cons_zero, List.set_cons_succ]
    refine take_held 3 S0 rfl (by kernel_rfl) (by kernel_rfl) (by kernel_rfl) (fun _ _ _ h => h) (by kernel_rfl) (v := .pointer (some ⟨w.heap.size, 1, none⟩)) ?y3 ?r3
    case y3 => (intro u hu; go_simp; try rfl)
    simp only [Act.put, List.setIfInBounds_toArray, List.set_cons_zero, List.set_cons_succ]
    refine take_held 4 S0 rfl (by kernel_rfl) (by kernel_rfl) (by kernel_rfl) (fun _ _ _ h => h) (by kernel_rfl) (v := .int .i64 y) ?y4 ?r4
    case y4 => (intro u hu; have hq := q1 u hu; go_simp; try rfl)
    simp only [Act.put, List.setIfInBounds_toArray, List.set_cons_zero, List.set_cons_succ]
    refine take_held 6 S0 rfl (by kernel_rfl) (by kernel_rfl) (by kernel_rfl) (fun _ _ _ h => h) (by kernel_rfl) (v := .pointer (some ⟨w.heap.size, 2, none⟩)) ?y6 ?r6
    case y6 => (intro u hu; go_simp; try rfl)
    simp only [Act.put, List.setIfInBounds_toArray, List.set_cons_zero, List.set_cons_succ]
    refine take_held 7 S0 rfl (by kernel_rfl) (by kernel_rfl) (by kernel_rfl) (fun _ _ _ h => h) (by kernel_rfl) (v := .int .i64 z) ?y7 ?r7
    case y7 => (intro u hu; have hq := q2 u hu; go_simp; try rfl)
    simp only [Act.put, List.setIfInBounds_toArray, List.set_cons_zero, List.set_cons_succ]
    refine call_held 2 rfl (by kernel_rfl) (by kernel_rfl) 46 #[.slice none 0 0, .int .i64 x] (by go_simp) _ (c1 _) ?_
    rintro e1 x1 ⟨b1, rfl, m1, g1⟩
    have S1 : Below wc.heap.size wc x1 := bcat S0 g1.below (Nat.le_refl _)
    have n1 : ∀ g, b1.ownBlock = some g → wc.heap.size ≤ g := fun g hg => Nat.le_trans S0.size (g1.new g hg)
    refine Or.inl ⟨_, rfl, S1, ?_⟩
    simp only [Act.put, List.setIfInBounds_toArray, List.set_cons_zero, List.set_cons_succ]
    refine call_held 5 rfl (by kernel_rfl) (by kernel_rfl) 46 #[b1, .int .i64 y] (by go_simp) _ (c2 _ _ m1) ?_
    rintro e2 x2 ⟨b2, rfl, m2, g2⟩
    have S2 : Below wc.heap.size wc x2 := Goes.below_of S1 g2 n1
    have n2 : ∀ g, b2.ownBlock = some g → wc.heap.size ≤ g := g2.new_of n1 S1.size
    refine Or.inl ⟨_, rfl, S2, ?_⟩
    simp only [Act.put, List.setIfInBounds_toArray, List.set_cons_zero, List.set_cons_succ]
    refine call_held 8 rfl (by kernel_rfl) (by kernel_rfl) 46 #[b2, .int .i64 z] (by go_simp) _ (c3 _ _ m2) ?_
    rintro e3 x3 ⟨b3, rfl, m3, g3⟩
    have S3 : Below wc.heap.size wc x3 := Goes.below_of S2 g3 n2
    have n3 : ∀ g, b3.ownBlock = some g → wc.heap.size ≤ g := g3.new_of n2 S2.size
    refine Or.inl ⟨_, rfl, S3, ?_⟩
    simp only [Act.put, List.setIfInBounds_toArray, List.set_cons_zero, List.set_cons_succ]
    refine read_held 9 rfl (by kernel_rfl) (by kernel_rfl) (b3) (by go_simp) S3 ?_
    simp only [Act.put, List.setIfInBounds_toArray, List.set_cons_zero, List.set_cons_succ]
    refine done_held (by kernel_rfl) ?_ _
    go_wp2_with fail
    go_meet
    exact ⟨m3, S3, n3⟩
  case rest =>
  obtain ⟨m, S, nn⟩ := hcut
  go_wp2_with fail
  go_ret
  exact ⟨_, rfl, m, bcat B0 S (Nat.le_refl _), fun g hg => Nat.le_trans B0.size (nn g hg)⟩

set_option maxHeartbeats 1000000 in
theorem rwhole_any (w : World) (R : Nat) (a : Option Addr) (cap : Nat) (zs : List Int) (k : Nat) (bad : Bool) (h : RR w R a cap zs k bad) :
    Calls Try.prog 43 #[.pointer (some ⟨R, 0, none⟩)] w fun e w' => e = .returned (.bool (!bad && decide (k = zs.length))) ∧ ∃ m, w' = w.drewN m := by
  have h1 := h.s
  have h2 := h.i
  have h3 := h.b
  generalize zs.length = L at *
  clear h
  cases bad with
  | true =>
    go_enter Try.func43, Try.ntmps43
    go_wp2
    go_quiet (fail)
    go_wp2
    go_ret
    exact ⟨rfl, nq, rfl⟩
  | false =>
    have HE : Hid ((!false && decide (k = L)) = ((k : Int) == (L : Int))) := by
      show (!false && decide (k = L)) = ((k : Int) == (L : Int))
      by_cases g : k = L
      · rw [g]; simp
      · rw [decide_eq_false g, beq_eq_false_iff_ne.2 (by omega)]; rfl
    rw [HE.out]
    clear HE
    go_enter Try.func43, Try.ntmps43
    go_wp2
    go_quiet (fail)
    go_wp2
    go_ret
    exact ⟨rfl, nq, rfl⟩
end Go.Proofs.Ytgliglealchjjaa.Codec
