/-
  The number at the beginning of some bytes: what firstNumber and GetNumber answer.
-/
import Derived.Test.YthdgpadakmdlkaaCodecNum
namespace Go.Proofs.Ythdgpadakmdlkaa.Codec
set_option linter.unusedVariables false
set_option linter.unusedSimpArgs false
open Go Go.RowKit

structure Inv (zs : List Int) (k acc : Nat) : Prop where
  le : k ≤ 10
  lt : acc < 128 ^ k
  eq : getG 10 0 zs = (getG (10 - k) k (zs.drop k)).map fun p => (acc + 128 ^ k * p.1, p.2)
theorem Inv.start (zs : List Int) : Inv zs 0 0 := by
  refine ⟨by omega, by decide, ?_⟩
  simp only [Nat.sub_zero, List.drop_zero, Nat.pow_zero, Nat.one_mul, Nat.zero_add]
  cases getG 10 0 zs with
  | none => rfl
  | some p => rfl
theorem Inv.open {zs : List Int} {k acc : Nat} (h : Inv zs k acc) (hk : k < zs.length) (h10 : k < 10) : getG 10 0 zs = (getG (9 - k + 1) k (zs.getD k 0 :: zs.drop (k + 1))).map fun p => (acc + 128 ^ k * p.1, p.2) := by
  rw [h.eq, List.drop_eq_getElem_cons hk, getD_in zs k hk, show 10 - k = 9 - k + 1 by omega]
theorem Inv.step {zs : List Int} {k acc : Nat} (h : Inv zs k acc) (hk : k < zs.length) (h10 : k < 10) (c1 : 128 ≤ zs.getD k 0) (c2 : zs.getD k 0 < 256) : Inv zs (k + 1) (acc + 128 ^ k * (zs.getD k 0 - 128).toNat) := by
  have e := h.open hk h10
  generalize zs.getD k 0 = c at *
  refine ⟨by omega, ?_, ?_⟩
  · have h1 := h.lt
    have h2 : (c - 128).toNat ≤ 127 := by omega
    have h3 : 128 ^ k * (c - 128).toNat ≤ 128 ^ k * 127 := Nat.mul_le_mul_left _ h2
    rw [Nat.pow_succ]
    omega
  · rw [e]
    conv => lhs; unfold getG
    rw [if_neg (by omega), Option.map_map, show 10 - (k + 1) = 9 - k by omega]
    congr 1
    funext p
    simp only [Function.comp, Prod.mk.injEq, and_true]
    rw [Nat.mul_add, Nat.pow_succ, ← Nat.mul_assoc, Nat.add_assoc]
theorem Inv.bad {zs : List Int} {k acc : Nat} (h : Inv zs k acc) (hk : k < zs.length) (h10 : k < 10) (c1 : zs.getD k 0 < 128) (hb : (0 < k ∧ zs.getD k 0 = 0) ∨ (k = 9 ∧ 1 < zs.getD k 0)) : getNum zs = none := by
  have e := h.open hk h10
  generalize zs.getD k 0 = c at *
  unfold getNum
  rw [e]
  unfold getG
  rw [if_pos c1, if_pos (hb.imp id fun h => ⟨by omega, h.2⟩)]
  rfl
theorem Inv.good {zs : List Int} {k acc : Nat} (h : Inv zs k acc) (hk : k < zs.length) (h10 : k < 10) (c1 : zs.getD k 0 < 128) (hb : ¬ ((0 < k ∧ zs.getD k 0 = 0) ∨ (k = 9 ∧ 1 < zs.getD k 0))) : getNum zs = some (unf (acc + 128 ^ k * (zs.getD k 0).toNat), zs.drop (k + 1)) := by
  have e := h.open hk h10
  generalize zs.getD k 0 = c at *
  unfold getNum
  rw [e]
  unfold getG
  rw [if_pos c1, if_neg (fun h => hb (h.imp id fun h => ⟨by omega, h.2⟩))]
  rfl
theorem Inv.out {zs : List Int} {k acc : Nat} (h : Inv zs k acc) (hk : k = 10 ∨ zs.length ≤ k) : getNum zs = none := by
  unfold getNum
  rw [h.eq]
  rcases hk with rfl | hk
  · rfl
  · rw [List.drop_eq_nil_of_le hk]
    cases h10 : 10 - k with
    | zero => rfl
    | succ n => rfl
theorem Inv.last {zs : List Int} {acc : Nat} (h : Inv zs 9 acc) (hk : 9 < zs.length) (c1 : ¬ zs.getD 9 0 < 128) : getNum zs = none := by
  have e := h.open hk (by decide)
  generalize zs.getD 9 0 = c at *
  unfold getNum
  rw [e]
  unfold getG
  rw [if_neg c1]
  rfl
def Now (zs : List Int) (k t : Nat) : Prop := (k < 10 ∧ Inv zs k t) ∨ (k = 10 ∧ getNum zs = none)
theorem Now.step {zs : List Int} {k t : Nat} (h : Now zs k t) (hk : k < zs.length) (h10 : k < 10) (c1 : 128 ≤ zs.getD k 0) (c2 : zs.getD k 0 < 256) (t' : Nat) (ht : k < 9 → t' = t + 128 ^ k * (zs.getD k 0 - 128).toNat) : Now zs (k + 1) t' := by
  rcases h with ⟨_, h⟩ | ⟨h, _⟩
  · by_cases h9 : k < 9
    · rw [ht h9]
      exact Or.inl ⟨by omega, h.step hk h10 c1 c2⟩
    · obtain rfl : k = 9 := by omega
      exact Or.inr ⟨rfl, h.last hk (by omega)⟩
  · omega
theorem Now.out {zs : List Int} {k t : Nat} (h : Now zs k t) (hk : k = 10 ∨ zs.length ≤ k) : getNum zs = none := by
  rcases h with ⟨_, h⟩ | ⟨_, h⟩
  · exact h.out hk
  · exact h
theorem Now.inv {zs : List Int} {k t : Nat} (h : Now zs k t) (h10 : k < 10) : Inv zs k t := by
  rcases h with ⟨_, h⟩ | ⟨h, _⟩
  · exact h
  · omega
theorem pow_bits (k : Nat) : 128 ^ k = 2 ^ (7 * k) := by rw [Nat.pow_mul]
theorem or64 (t k c : Nat) (ht : t < 128 ^ k) (h : 128 ^ k * c < 18446744073709551616) (hk : k < 10) : bits .or .u64 (t : Int) (IntKind.u64.wrap ((c : Int) * 2 ^ (7 * k))) = ((t + 128 ^ k * c : Nat) : Int) := by
  have hp : 128 ^ k ≤ 128 ^ 9 := Nat.pow_le_pow_right (by decide) (by omega)
  have h9 : (128 : Nat) ^ 9 = 9223372036854775808 := by decide
  have e : IntKind.u64.wrap ((c : Int) * 2 ^ (7 * k)) = ((128 ^ k * c : Nat) : Int) := by
    have e1 : (c : Int) * 2 ^ (7 * k) = ((128 ^ k * c : Nat) : Int) := by rw [pow_bits]; simp [Int.mul_comm]
    rw [e1, IntKind.wrap_u64]
    omega
  rw [e, u64_or_nat t _ (by omega) h]
  rw [pow_bits] at *
  rw [Nat.or_comm, ← Nat.two_pow_add_eq_or_of_lt ht, Nat.add_comm]
def fnum (zs : List Int) : Int × Nat := match getNum zs with
  | some (v, r) => (v, zs.length - r.length)
  | none => (0, 0)
theorem fnum_none {zs : List Int} (h : getNum zs = none) : fnum zs = (0, 0) := by unfold fnum; rw [h]
theorem fnum_some {zs : List Int} {v : Int} {k : Nat} (h : getNum zs = some (v, zs.drop k)) (hk : k ≤ zs.length) : fnum zs = (v, k) := by
  unfold fnum
  rw [h]
  simp only [List.length_drop, Prod.mk.injEq, true_and]
  omega
theorem fnum_cases (zs : List Int) (hb : Bytes zs) : (∃ v k, getNum zs = some (v, zs.drop k) ∧ 0 < k ∧ k ≤ zs.length ∧ I64 v ∧ fnum zs = (v, k)) ∨ (getNum zs = none ∧ fnum zs = (0, 0)) := by
  cases h : getNum zs with
  | none => exact Or.inr ⟨rfl, fnum_none h⟩
  | some p =>
    obtain ⟨v, r⟩ := p
    have h' : cNum.get (zs.drop 0) = some (v, r) := h
    obtain ⟨k, rfl, h1, h2, h3, h4⟩ := gNum.rest hb (Nat.zero_le _) h'
    exact Or.inl ⟨v, k, rfl, h1, h2, h4, fnum_some h h2⟩

theorem and8 (c : Int) (c0 : 0 ≤ c) (c1 : c < 256) : bits .and .u8 c 128 = if c < 128 then 0 else 128 := by
  have e : ∀ y : Fin 256, y.val &&& 128 = if y.val < 128 then 0 else 128 := by decide +kernel
  obtain ⟨n, rfl⟩ := Int.eq_ofNat_of_zero_le c0
  have h := u8_and_nat n 128 (by omega) (by decide)
  rw [e ⟨n, by omega⟩] at h
  refine Eq.trans h ?_
  by_cases g : n < 128
  · rw [if_pos g, if_pos (by omega)]; rfl
  · rw [if_neg g, if_neg (by omega)]; rfl
theorem andNot8 (c : Int) (c0 : 0 ≤ c) (c1 : c < 256) : bits .andNot .u8 c 128 = c % 128 := by
  have e : ∀ y : Fin 256, y.val &&& 127 = y.val % 128 := by decide +kernel
  obtain ⟨n, rfl⟩ := Int.eq_ofNat_of_zero_le c0
  have h := u8_andNot_nat n 128 (by omega) (by decide)
  rw [show (255 - 128 : Nat) = 127 from rfl, e ⟨n, by omega⟩] at h
  refine Eq.trans h ?_
  show ((n % 128 : Nat) : Int) = _
  omega

theorem min2_any (x : Nat) : ∃ n : Nat, (n = x ∨ n = 10) ∧ n ≤ x ∧ n ≤ 10 ∧ ∀ w, (Builtin.min_ #[3, 3] 3 #[.int .i64 x, .int .i64 10]).run Try.prog w = .ok (.int .i64 n) w := by
  refine ⟨if 10 < x then 10 else x, by split <;> omega, by split <;> omega, by split <;> omega, fun w => ?_⟩
  rw [run_min_int2]
  congr 2
  by_cases g : 10 < x
  · rw [if_pos g, if_pos (by omega)]
    rfl
  · rw [if_neg g, if_neg (by omega)]

set_option maxRecDepth 100000 in
set_option maxHeartbeats 1000000 in
theorem first_any (a : Option Addr) (cap : Nat) (zs : List Int) (w : World) (hr : Row w a zs.length zs) (hm : zs.length ≤ 9223372036854775807) (hc : zs.length ≤ cap) (hc2 : cap ≤ 9223372036854775807) (h0 : a = none → cap = 0) :
    Calls Try.prog 98 #[.slice a zs.length cap] w fun e w' => e = .returned (.tuple #[.int .i64 (fnum zs).1, .int .i64 (fnum zs).2]) ∧ w' = w := by
  obtain ⟨n, hn, hn1, hn2, hmin⟩ := min2_any zs.length
  cases a with
  | none =>
    obtain rfl : cap = 0 := h0 rfl
    have hz : zs.length = 0 := by omega
    obtain rfl : zs = [] := List.eq_nil_of_length_eq_zero hz
    obtain rfl : n = 0 := by simp at hn1; exact hn1
    have hf : fnum [] = (0, 0) := rfl
    rw [hf]
    go_enter Try.func98, Try.ntmps98
    go_wp2
    go_loop [4, 13] (fun t i => i = .int .i64 0) (fun _ i => 0)
    case atStart => rfl
    case round =>
      subst hrel
      go_wp2
      go_ret2
      exact ⟨rfl, rfl⟩
  | some x =>
    have HC : Hid (∀ v k, k ≤ zs.length → getNum zs = some (v, zs.drop k) → fnum zs = (v, k)) := fun v k h1 h2 => fnum_some h2 h1
    have HN : Hid (getNum zs = none → fnum zs = (0, 0)) := fun h => fnum_none h
    generalize hF : fnum zs = F at *
    obtain ⟨F1, F2⟩ := F
    simp only
    have ST : Hid (Now zs 0 0) := Or.inl ⟨by decide, Inv.start zs⟩
    have HL : Hid (zs.length = zs.length) := rfl
    generalize hL : zs.length = L at hr hm hc hmin hn hn1 HC
    clear hF
    go_enter Try.func98, Try.ntmps98
    go_wp2
    go_loop [4, 13] (fun t i => ∃ k acc : Nat, k ≤ n ∧ i = .int .i64 k ∧ t = .int .u64 (acc : Nat) ∧ acc < 18446744073709551616 ∧ Hid (Now zs k acc)) (fun _ i => n - (intOf i).toNat)
    case atStart => exact ⟨0, 0, by omega, rfl, rfl, by decide, ST⟩
    case round =>
      obtain ⟨k, acc, hk, rfl, rfl, hacc, HI⟩ := hrel
      by_cases hlt : k < n
      · obtain ⟨y, hy, hcell⟩ := hr.cell k (by omega)
        cases hy
        obtain ⟨b0, b1⟩ := hr.at k (by omega)
        have ha := and8 _ b0 b1
        have hb := andNot8 _ b0 b1
        have HS : Hid (128 ≤ zs.getD k 0 → ∀ t' : Nat, (k < 9 → t' = acc + 128 ^ k * (zs.getD k 0 - 128).toNat) → Now zs (k + 1) t') := fun h t' ht => HI.out.step (by omega) (by omega) h b1 t' ht
        have HB : Hid (zs.getD k 0 < 128 → ((0 < k ∧ zs.getD k 0 = 0) ∨ (k = 9 ∧ 1 < zs.getD k 0)) → getNum zs = none) := fun h1 h2 => (HI.out.inv (by omega)).bad (by omega) (by omega) h1 h2
        have HG : Hid (zs.getD k 0 < 128 → ¬ ((0 < k ∧ zs.getD k 0 = 0) ∨ (k = 9 ∧ 1 < zs.getD k 0)) → getNum zs = some (unf (acc + 128 ^ k * (zs.getD k 0).toNat), zs.drop (k + 1))) := fun h1 h2 => (HI.out.inv (by omega)).good (by omega) (by omega) h1 h2
        have HT : Hid (acc < 128 ^ k) := (HI.out.inv (by omega)).lt
        clear HI
        generalize zs.getD k 0 = c at *
        have hk10 : k < 10 := by omega
        by_cases hc128 : c < 128
        · rw [if_pos hc128] at ha
          have hcm : c % 128 = c := by omega
          rw [hcm] at hb
          clear HS
          by_cases hbad : (0 < k ∧ c = 0) ∨ (k = 9 ∧ 1 < c)
          · have hF := HN.out (HB.out hc128 hbad)
            cases hF
            clear HB HG HN HC
            rcases hbad with ⟨g1, rfl⟩ | ⟨g1, g2⟩
            · go_wp2
              go_ret2
              exact ⟨rfl, rfl⟩
            · have g3 : (c == 0) = false := by rw [beq_eq_false_iff_ne]; omega
              have g4 : ((k : Int) == 9) = true := by rw [g1]; rfl
              have g5 : 0 < k := by omega
              clear g1
              go_wp2
              go_ret2
              exact ⟨rfl, rfl⟩
          · have hg := HG.out hc128 hbad
            have hF := HC.out _ _ (by omega) hg
            obtain ⟨d, rfl⟩ := Int.eq_ofNat_of_zero_le b0
            rw [Int.toNat_natCast] at hF
            have hfit : 128 ^ k * d < 18446744073709551616 := by
              by_cases h9 : k = 9
              · have hd : d ≤ 1 := by
                  by_cases g : d ≤ 1
                  · exact g
                  · exact absurd (Or.inr ⟨h9, by omega⟩) hbad
                subst h9
                have h9 : (128 : Nat) ^ 9 = 9223372036854775808 := by decide
                rw [h9]; omega
              · have hp : 128 ^ k ≤ 128 ^ 8 := Nat.pow_le_pow_right (by decide) (by omega)
                have h9 : (128 : Nat) ^ 8 = 72057594037927936 := by decide
                have := Nat.mul_le_mul hp (show d ≤ 127 by omega)
                omega
            have ho := or64 acc k d HT.out hfit hk10
            have hs : acc + 128 ^ k * d < 18446744073709551616 := by
              have h1 := HT.out
              by_cases h9 : k = 9
              · have hd : d ≤ 1 := by
                  by_cases g : d ≤ 1
                  · exact g
                  · exact absurd (Or.inr ⟨h9, by omega⟩) hbad
                subst h9
                have h9 : (128 : Nat) ^ 9 = 9223372036854775808 := by decide
                rw [h9] at h1 ⊢; omega
              · have hp : 128 ^ k ≤ 128 ^ 8 := Nat.pow_le_pow_right (by decide) (by omega)
                have h9 : (128 : Nat) ^ 8 = 72057594037927936 := by decide
                have := Nat.mul_le_mul hp (show d ≤ 127 by omega)
                omega
            have cu := unfolded_any (acc + 128 ^ k * d) w hs
            rw [← ho] at cu
            generalize hq : unf (acc + 128 ^ k * d) = q at *
            have HO : Hid (q = F1 ∧ k + 1 = F2) := by cases hF; exact ⟨rfl, rfl⟩
            clear ho hs hfit hF hg HG HB HN HC HT hq
            by_cases hk0 : k = 0
            · have g1 : ¬ 0 < k := by omega
              have g4 : ((k : Int) == 9) = false := by rw [beq_eq_false_iff_ne]; omega
              clear hk0 hbad
              go_wp2_with (go_at_call 116; refine cu.mono ?_; rintro e w ⟨rfl, rfl⟩)
              go_ret2
              obtain ⟨rfl, rfl⟩ := HO.out
              exact ⟨rfl, rfl⟩
            · have g1 : 0 < k := by omega
              have g2 : d ≠ 0 := fun e => hbad (Or.inl ⟨g1, by omega⟩)
              have g3 : ((d : Int) == 0) = false := by rw [beq_eq_false_iff_ne]; omega
              by_cases hk9 : k = 9
              · have g4 : d ≤ 1 := by
                  by_cases g : d ≤ 1
                  · exact g
                  · exact absurd (Or.inr ⟨hk9, by omega⟩) hbad
                have g5 : ((k : Int) == 9) = true := by rw [hk9]; rfl
                clear hk9 hbad
                go_wp2_with (go_at_call 116; refine cu.mono ?_; rintro e w ⟨rfl, rfl⟩)
                go_ret2
                obtain ⟨rfl, rfl⟩ := HO.out
                exact ⟨rfl, rfl⟩
              · have g4 : ((k : Int) == 9) = false := by rw [beq_eq_false_iff_ne]; omega
                go_wp2_with (go_at_call 116; refine cu.mono ?_; rintro e w ⟨rfl, rfl⟩)
                go_ret2
                obtain ⟨rfl, rfl⟩ := HO.out
                exact ⟨rfl, rfl⟩
        · rw [if_neg hc128] at ha
          clear HB HG HN HC
          have h5 : ∃ t' : Nat, bits .or .u64 (acc : Int) (IntKind.u64.wrap (c % 128 * 2 ^ (7 * k))) = (t' : Int) ∧ t' < 18446744073709551616 ∧ (k < 9 → t' = acc + 128 ^ k * (c - 128).toNat) := by
            obtain ⟨d, hd⟩ := Int.eq_ofNat_of_zero_le (show 0 ≤ c - 128 by omega)
            have hcm : c % 128 = (d : Int) := by omega
            rw [hcm, hd, Int.toNat_natCast]
            by_cases h9 : k < 9
            · have hp : 128 ^ k ≤ 128 ^ 8 := Nat.pow_le_pow_right (by decide) (by omega)
              have h9 : (128 : Nat) ^ 8 = 72057594037927936 := by decide
              have h8 := Nat.mul_le_mul hp (show d ≤ 127 by omega)
              have h7 := HT.out
              exact ⟨_, or64 acc k d HT.out (by omega) hk10, by omega, fun _ => rfl⟩
            · obtain ⟨x', hx'⟩ : ∃ x' : Nat, IntKind.u64.wrap ((d : Int) * 2 ^ (7 * k)) = (x' : Int) ∧ x' < 18446744073709551616 := by
                rw [IntKind.wrap_u64]
                exact ⟨((d : Int) * 2 ^ (7 * k) % 18446744073709551616).toNat, by omega, by omega⟩
              refine ⟨acc ||| x', by rw [hx'.1, u64_or_nat acc x' hacc hx'.2], Nat.or_lt_two_pow (n := 64) hacc hx'.2, fun h => absurd h h9⟩
          obtain ⟨t', ht1, ht2, ht3⟩ := h5
          have HT' : Hid (bits .or .u64 (acc : Int) (IntKind.u64.wrap (c % 128 * 2 ^ (7 * k))) = (t' : Int)) := ht1
          clear ht1
          go_wp2
          refine ⟨⟨k + 1, t', by omega, by go_num, by rw [HT'.out], ht2, HS.out (by omega) t' ht3⟩, ?_⟩
          simp [intOf]; omega
      · have hF := HN.out (HI.out.out (by rcases hn with h | h <;> omega))
        cases hF
        go_wp2
        go_ret2
        exact ⟨rfl, rfl⟩
end Go.Proofs.Ythdgpadakmdlkaa.Codec
