/-
  Numbers as bytes: what the code's inner functions answer (folded, unfolded, putNumber, firstNumber).
-/
import Derived.Test.YthdgpadakmdlkaaCodecMem
namespace Go.Proofs.Ythdgpadakmdlkaa.Codec
set_option linter.unusedVariables false
set_option linter.unusedSimpArgs false
open Go Go.RowKit

theorem not64 (x : Nat) (h : x < 18446744073709551616) : bits .xor .u64 IntKind.u64.max (x : Int) = 18446744073709551615 - x := by
  show IntKind.u64.wrap ((BitVec.ofInt 64 IntKind.u64.max ^^^ BitVec.ofInt 64 (x : Int)).toNat : Int) = _
  rw [show BitVec.ofInt 64 IntKind.u64.max = BitVec.allOnes 64 from by decide, BitVec.allOnes_xor, BitVec.toNat_not, ofInt_u64 x h, IntKind.wrap_u64]
  omega
theorem fold_neg (v : Int) (h : I64 v) (hv : v < 0) : bits .xor .u64 IntKind.u64.max (IntKind.u64.wrap (IntKind.u64.wrap v * 2)) = (fold v : Nat) := by
  obtain ⟨h0, h1⟩ := h
  have e : IntKind.u64.wrap (IntKind.u64.wrap v * 2) = ((2 * v + 18446744073709551616).toNat : Int) := by
    rw [IntKind.wrap_u64, IntKind.wrap_u64]; omega
  rw [e, not64 _ (by omega)]
  unfold fold
  rw [if_pos hv]
  omega
theorem odd64 (u : Nat) (h : u < 18446744073709551616) : bits .and .u64 (u : Int) 1 = ((u % 2 : Nat) : Int) := by
  have := u64_and_nat u 1 h (by decide)
  rw [nat_mask1] at this
  exact this
theorem unf_odd (u : Nat) (h : u < 18446744073709551616) (hv : u % 2 = 1) : wrap64 (bits .xor .u64 IntKind.u64.max ((u : Int) / 2)) = unf u := by
  have e : (u : Int) / 2 = ((u / 2 : Nat) : Int) := by omega
  rw [e, not64 _ (by omega)]
  unfold unf
  rw [if_pos hv]
  unfold wrap64
  omega

set_option maxHeartbeats 1000000 in
theorem folded_any (v : Int) (w : World) (h : I64 v) : Calls Try.prog 103 #[.int .i64 v] w fun e w' => e = .returned (.int .u64 (fold v : Nat)) ∧ w' = w := by
  have h' := h
  obtain ⟨h0, h1⟩ := h'
  by_cases hv : v < 0
  · have H : Hid (bits .xor .u64 IntKind.u64.max (IntKind.u64.wrap (IntKind.u64.wrap v * 2)) = (fold v : Nat)) := fold_neg v h hv
    go_enter Try.func103, Try.ntmps103
    go_wp2
    go_ret
    exact ⟨ret_int H.out, rfl⟩
  · have H : Hid (v * 2 = (fold v : Nat)) := by unfold fold; rw [if_neg hv]; show v * 2 = _; omega
    go_enter Try.func103, Try.ntmps103
    go_wp2
    go_ret
    exact ⟨ret_int H.out, rfl⟩
set_option maxHeartbeats 1000000 in
theorem unfolded_any (u : Nat) (w : World) (h : u < 18446744073709551616) : Calls Try.prog 116 #[.int .u64 (u : Nat)] w fun e w' => e = .returned (.int .i64 (unf u)) ∧ w' = w := by
  have ho := odd64 u h
  by_cases hv : u % 2 = 1
  · rw [hv] at ho
    have hq : (bits .and .u64 (u : Int) 1 == 1) = true := by rw [ho]; rfl
    have H : Hid (wrap64 (bits .xor .u64 IntKind.u64.max ((u : Int) / 2)) = unf u) := unf_odd u h hv
    clear ho hv
    go_enter Try.func116, Try.ntmps116
    go_wp2
    go_ret
    exact ⟨ret_int H.out, rfl⟩
  · have hq : (bits .and .u64 (u : Int) 1 == 1) = false := by rw [ho, beq_eq_false_iff_ne]; omega
    have H : Hid ((u : Int) / 2 = unf u) := by unfold unf; rw [if_neg hv]; show (u : Int) / 2 = _; omega
    clear ho hv
    go_enter Try.func116, Try.ntmps116
    go_wp2
    go_ret
    exact ⟨ret_int H.out, rfl⟩

theorem or8 (x : Nat) (h : x < 256) : bits .or .u8 (x : Int) 128 = ((x % 128 + 128 : Nat) : Int) := by
  have e : ∀ y : Fin 256, y.val ||| 128 = y.val % 128 + 128 := by decide +kernel
  have h1 := u8_or_nat x 128 h (by decide)
  rw [e ⟨x, h⟩] at h1
  exact h1
theorem or_low (u : Nat) : bits .or .u8 ((u : Int) % 256) 128 = ((u % 128 + 128 : Nat) : Int) := by
  have e : (u : Int) % 256 = ((u % 256 : Nat) : Int) := by omega
  rw [e, or8 _ (by omega)]
  congr 2
  omega

set_option maxRecDepth 100000 in
set_option maxHeartbeats 1000000 in
theorem putNumber_any (w : World) (b : Value) (zs : List Int) (v : Int) (hm : Mine w b zs) (hv : I64 v) (hl : zs.length + (num v).length ≤ 140737488355328) :
    Calls Try.prog 75 #[b, .int .i64 v] w fun e w' => ∃ b', e = .returned b' ∧ Mine w' b' (zs ++ num v) ∧ Goes b w b' w' := by
  have c1 := folded_any v w hv
  have H : Hid (∀ u : Nat, u = fold v → zs ++ grp 9 u = zs ++ num v) := by intro u e; rw [e]; rfl
  have hu := fold_lt v hv
  generalize fold v = u0 at *
  have HL : Hid ((zs ++ num v).length ≤ 140737488355328) := by show (zs ++ num v).length ≤ _; rw [List.length_append]; omega
  generalize zs ++ num v = R at *
  go_enter Try.func75, Try.ntmps75
  go_wp2_with (go_at_call 103; refine c1.mono ?_; rintro e w ⟨rfl, rfl⟩)
  go_loopw [0, 5] (fun b' u' wr => ∃ (ys : List Int) (f u : Nat), u' = .int .u64 (u : Nat) ∧ Mine wr b' ys ∧ Goes b w b' wr ∧ Hid (ys ++ grp f u = R ∧ u < 2 * 128 ^ f) ∧ u < 18446744073709551616) (fun _ u' _ => (intOf u').toNat)
  case atStart => exact ⟨zs, 9, u0, rfl, hm, Goes.refl _ _, ⟨H.out u0 rfl, by rw [two_pow]; exact hu⟩, hu⟩
  case round =>
    obtain ⟨ys, f, u, rfl, hm', hb, HR, hu'⟩ := hrel
    by_cases h : u < 128
    · have r1 := row_one wr (u : Int) 5 (0, 0) (by omega) (by omega)
      have hlen : ys.length + 1 ≤ 140737488355328 := by
        have e := HL.out
        rw [← HR.out.1, List.length_append] at e
        have := grp_pos f u
        omega
      have HE : Hid (ys ++ [(u : Int)] = R) := by
        have e := HR.out.1
        rw [← e]
        cases f with
        | zero => rfl
        | succ f => unfold grp; rw [if_pos h]; rfl
      go_wp2_with (at_builtin; refine wpList_append_mine rfl (.tmp 18) (.tmp 21) rfl _ ys rfl (hm'.alloc _) _ 1 1 [(u : Int)] rfl r1 (fun h => by cases h) (by omega) ?_; intro v1 w1 m1 b1)
      go_ret
      rw [HE.out] at m1
      exact ⟨v1, rfl, m1, (hb.trans (goes_alloc _ _ _)).trans b1⟩
    · obtain ⟨f', rfl⟩ : ∃ f', f = f' + 1 := by
        cases f with
        | zero => have := HR.out.2; simp at this; omega
        | succ f => exact ⟨f, rfl⟩
      have ho := or_low u
      have r1 := row_one wr (bits .or .u8 ((u : Int) % 256) 128) 5 (0, 0) (by omega) (by omega)
      have HO : Hid (bits .or .u8 ((u : Int) % 256) 128 = ((u % 128 + 128 : Nat) : Int)) := ho
      clear ho
      have hlen : ys.length + 1 ≤ 140737488355328 := by
        have e := HL.out
        rw [← HR.out.1, List.length_append] at e
        have := grp_pos (f' + 1) u
        omega
      have HE : Hid ((ys ++ [((u % 128 + 128 : Nat) : Int)]) ++ grp f' (u / 128) = R ∧ u / 128 < 2 * 128 ^ f') := by
        obtain ⟨e, e2⟩ := HR.out
        refine ⟨?_, by rw [Nat.pow_succ] at e2; omega⟩
        rw [← e]
        conv => rhs; unfold grp
        rw [if_neg h]; simp
      generalize ((u % 128 + 128 : Nat) : Int) = x at *
      go_wp2_with (at_builtin; refine wpList_append_mine rfl (.tmp 10) (.tmp 14) rfl _ ys rfl (hm'.alloc _) _ 1 1 _ rfl r1 (fun h => by cases h) (by omega) ?_; intro v1 w1 m1 b1)
      rw [HO.out] at m1
      go_roundw
      case rel => exact ⟨_, f', u / 128, by go_num, m1, (hb.trans (goes_alloc _ _ _)).trans b1, HE, by omega⟩
      case measure => simp [intOf]; omega
end Go.Proofs.Ythdgpadakmdlkaa.Codec
