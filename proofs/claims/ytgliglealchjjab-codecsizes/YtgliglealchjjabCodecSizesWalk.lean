/-
  The law CodecSizes: how many bytes numbers have.
-/
import Derived.Test.YtgliglealchjjabCodecAwake
import Derived.Deep.RegionWith
namespace Go.Proofs.Ytgliglealchjjab.Codec
set_option linter.unusedVariables false
set_option linter.unusedSimpArgs false
open Go Go.RowKit

def far (v : Int) : Nat := if v < 0 then (-(v + 1)).toNat else v.toNat
theorem far_fold (v : Int) : fold v / 2 = far v := by
  unfold fold far
  split <;> omega
theorem grp_mono (f : Nat) : ∀ u u' : Nat, u / 2 ≤ u' / 2 → (grp f u).length ≤ (grp f u').length := by
  induction f with
  | zero => intro u u' _; simp [grp]
  | succ f ih =>
    intro u u' h
    have hp := grp_pos (f + 1) u'
    by_cases h1 : u < 128
    · have e : (grp (f + 1) u).length = 1 := by unfold grp; rw [if_pos h1]; rfl
      omega
    · have e1 : grp (f + 1) u = ((u % 128 + 128 : Nat) : Int) :: grp f (u / 128) := by conv => lhs; unfold grp; rw [if_neg h1]
      have e2 : grp (f + 1) u' = ((u' % 128 + 128 : Nat) : Int) :: grp f (u' / 128) := by conv => lhs; unfold grp; rw [if_neg (by omega)]
      have := ih (u / 128) (u' / 128) (by omega)
      rw [e1, e2, List.length_cons, List.length_cons]
      omega
theorem num_far (a b : Int) (h : far a ≤ far b) : (num a).length ≤ (num b).length := grp_mono 9 _ _ (by rw [far_fold, far_fold]; exact h)
theorem num_one (a : Int) : (num a).length = 1 ↔ (-64 ≤ a ∧ a < 64) := by
  unfold num
  by_cases h : fold a < 128
  · have e : (grp 9 (fold a)).length = 1 := by unfold grp; rw [if_pos h]; rfl
    rw [e]
    unfold fold at h
    constructor
    · intro _; split at h <;> omega
    · intro _; rfl
  · have e : grp 9 (fold a) = ((fold a % 128 + 128 : Nat) : Int) :: grp 8 (fold a / 128) := by conv => lhs; unfold grp; rw [if_neg h]
    have := grp_pos 8 (fold a / 128)
    rw [e, List.length_cons]
    unfold fold at h
    constructor
    · intro _; omega
    · intro _; split at h <;> omega

set_option maxHeartbeats 1000000 in
theorem far_any (v : Int) (w : World) (h : I64 v) : Calls Try.prog 18 #[.int .i64 v] w fun e w' => e = .returned (.int .u64 (far v : Nat)) ∧ w' = w := by
  have h' := h
  obtain ⟨h0, h1⟩ := h'
  by_cases hv : v < 0
  · have H : Hid (-(v + 1) = (far v : Nat)) := by unfold far; rw [if_pos hv]; show -(v + 1) = _; omega
    go_enter Try.func18, Try.ntmps18
    go_wp2
    go_ret
    exact ⟨ret_int H.out, rfl⟩
  · have H : Hid (v = (far v : Nat)) := by unfold far; rw [if_neg hv]; show v = _; omega
    go_enter Try.func18, Try.ntmps18
    go_wp2
    go_ret
    exact ⟨ret_int H.out, rfl⟩

set_option maxRecDepth 100000 in
set_option maxHeartbeats 4000000 in
theorem sizes_all (a b : Int) (ha : I64 a) (hb : I64 b) (w : World) : Calls Try.prog 5 #[.int .i64 a, .int .i64 b] w fun e w' => e = .returned (.bool true) ∧ Below w.heap.size w w' := by
  have cN := fun (v : Int) (hv : I64 v) (u : World) => PutNumber_any none 0 0 [] v u ⟨rfl, Bytes.nil, fun i hi => by omega⟩ (fun _ => rfl) (by decide) hv
  have cA := cN a ha
  have cB := cN b hb
  rw [List.nil_append] at cA cB
  have fA := far_any a
  have fB := far_any b
  have x1 := num_pos a
  have x2 := num_len a
  have y1 := num_pos b
  have y2 := num_len b
  have m1 := num_far a b
  have m2 := num_far b a
  have o1 := num_one a
  have cW := awake_any
  generalize hX : num a = LA at *
  generalize hY : num b = LB at *
  generalize far a = p at *
  generalize far b = q at *
  clear cN hX hY
  have hx1 : (1 : Int) ≤ (LA.length : Int) := by omega
  have hx2 : (LA.length : Int) ≤ 10 := by omega
  have hy1 : (1 : Int) ≤ (LB.length : Int) := by omega
  have hy2 : (LB.length : Int) ≤ 10 := by omega
  have gA : ((LA.length : Int) == 1) = (decide (a ≥ -64) && decide (a < 64)) := by
    by_cases h : -64 ≤ a ∧ a < 64
    · rw [o1.2 h, decide_eq_true (show a ≥ -64 from h.1), decide_eq_true h.2]; rfl
    · have : LA.length ≠ 1 := fun e => h (o1.1 e)
      rw [beq_eq_false_iff_ne.2 (by omega)]
      by_cases h1 : a ≥ -64
      · rw [decide_eq_true h1, decide_eq_false (by omega)]; rfl
      · rw [decide_eq_false h1]; rfl
  have HA : Hid (((LA.length : Int) == 1) = (decide (a ≥ -64) && decide (a < 64))) := gA
  clear gA o1
  have M : Hid ((p ≤ q → LA.length ≤ LB.length) ∧ (q ≤ p → LB.length ≤ LA.length)) := ⟨m1, m2⟩
  clear m1 m2 x1 x2 y1 y2
  rcases Nat.lt_trichotomy p q with hpq | rfl | hpq
  all_goals
    first
      | (have t1 : LA.length ≤ LB.length := M.out.1 (by omega); have t1' : ¬ (LA.length : Int) > (LB.length : Int) := by omega)
      | skip
    first
      | (have t2 : LB.length ≤ LA.length := M.out.2 (by omega); have t2' : ¬ (LB.length : Int) > (LA.length : Int) := by omega)
      | skip
    by_cases h1 : a ≥ -64
    · by_cases h2 : a < 64
      · have hq : ((LA.length : Int) == 1) = true := by rw [HA.out, decide_eq_true h1, decide_eq_true h2]; rfl
        go_enter Try.func5, Try.ntmps5
        go_wp2_with (first
          | (have B1' := B1; go_at_call 16; refine (cB _).mono ?_; rintro e w2 ⟨b2, rfl, k2, bel2, n2⟩; obtain ⟨a2, c2, rfl, r2, _, _, _⟩ := k2.form; have B2 := bcat B1 bel2 (Nat.le_refl _))
          | (go_at_call 16; refine (cA _).mono ?_; rintro e w1 ⟨b1, rfl, k1, bel1, n1⟩; obtain ⟨a1, c1, rfl, r1, _, _, _⟩ := k1.form; have B1 := bel1)
          | (go_at_call_of 18 a; refine (fA w2 ha).mono ?_; rintro e w9 ⟨rfl, hw9⟩; rw [hw9]; clear hw9 w9)
          | (go_at_call_of 18 b; refine (fB w2 hb).mono ?_; rintro e w9 ⟨rfl, hw9⟩; rw [hw9]; clear hw9 w9)
          | (go_at_call 17; refine (cW _).mono ?_; rintro e w3 ⟨rfl, bel3⟩))
        go_ret
        exact ⟨rfl, bcat B2 bel3 (Nat.le_refl _)⟩
      · have hq : ((LA.length : Int) == 1) = false := by rw [HA.out, decide_eq_false h2]; simp
        go_enter Try.func5, Try.ntmps5
        go_wp2_with (first
          | (have B1' := B1; go_at_call 16; refine (cB _).mono ?_; rintro e w2 ⟨b2, rfl, k2, bel2, n2⟩; obtain ⟨a2, c2, rfl, r2, _, _, _⟩ := k2.form; have B2 := bcat B1 bel2 (Nat.le_refl _))
          | (go_at_call 16; refine (cA _).mono ?_; rintro e w1 ⟨b1, rfl, k1, bel1, n1⟩; obtain ⟨a1, c1, rfl, r1, _, _, _⟩ := k1.form; have B1 := bel1)
          | (go_at_call_of 18 a; refine (fA w2 ha).mono ?_; rintro e w9 ⟨rfl, hw9⟩; rw [hw9]; clear hw9 w9)
          | (go_at_call_of 18 b; refine (fB w2 hb).mono ?_; rintro e w9 ⟨rfl, hw9⟩; rw [hw9]; clear hw9 w9)
          | (go_at_call 17; refine (cW _).mono ?_; rintro e w3 ⟨rfl, bel3⟩))
        go_ret
        refine ⟨?_, bcat B2 bel3 (Nat.le_refl _)⟩
        show Ending.returned (.bool (!decide (a < 64))) = _
        rw [decide_eq_false (show ¬ a < 64 by omega)]
        rfl
    · have hq : ((LA.length : Int) == 1) = false := by rw [HA.out, decide_eq_false h1]; rfl
      go_enter Try.func5, Try.ntmps5
      go_wp2_with (first
        | (have B1' := B1; go_at_call 16; refine (cB _).mono ?_; rintro e w2 ⟨b2, rfl, k2, bel2, n2⟩; obtain ⟨a2, c2, rfl, r2, _, _, _⟩ := k2.form; have B2 := bcat B1 bel2 (Nat.le_refl _))
        | (go_at_call 16; refine (cA _).mono ?_; rintro e w1 ⟨b1, rfl, k1, bel1, n1⟩; obtain ⟨a1, c1, rfl, r1, _, _, _⟩ := k1.form; have B1 := bel1)
        | (go_at_call_of 18 a; refine (fA w2 ha).mono ?_; rintro e w9 ⟨rfl, hw9⟩; rw [hw9]; clear hw9 w9)
        | (go_at_call_of 18 b; refine (fB w2 hb).mono ?_; rintro e w9 ⟨rfl, hw9⟩; rw [hw9]; clear hw9 w9)
        | (go_at_call 17; refine (cW _).mono ?_; rintro e w3 ⟨rfl, bel3⟩))
      go_ret
      exact ⟨rfl, bcat B2 bel3 (Nat.le_refl _)⟩
end Go.Proofs.Ytgliglealchjjab.Codec
