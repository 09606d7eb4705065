/-
  PutNumber and GetNumber of package codec, for a program that calls no more of it.
-/
import Derived.Test.YticfkdiggiogdaaCodecFirst
namespace Go.Proofs.Yticfkdiggiogdaa.Codec
set_option linter.unusedVariables false
set_option linter.unusedSimpArgs false
open Go Go.RowKit

theorem first_len (a : Option Addr) (n cap : Nat) (zs : List Int) (hn : zs.length = n) (w : World) (hr : Row w a n zs) (hm : n ≤ 9223372036854775807) (hc : n ≤ cap) (hc2 : cap ≤ 9223372036854775807) (h0 : a = none → cap = 0) :
    Calls Try.prog 96 #[.slice a n cap] w fun e w' => e = .returned (.tuple #[.int .i64 (fnum zs).1, .int .i64 (fnum zs).2]) ∧ w' = w := by
  subst hn
  exact first_any a cap zs w hr hm hc hc2 h0

def Made (zs : List Int) (w : World) (e : Ending) (w' : World) : Prop := ∃ b, e = .returned b ∧ Mine w' b zs ∧ Below w.heap.size w w' ∧ ∀ g, b.ownBlock = some g → w.heap.size ≤ g
set_option maxRecDepth 100000 in
set_option maxHeartbeats 1000000 in
theorem PutNumber_any (a : Option Addr) (n cap : Nat) (zs : List Int) (v : Int) (w : World) (hr : Row w a n zs) (hc : a = none → cap = 0) (hm : n ≤ 140737488351232) (hv : I64 v) :
    Calls Try.prog 61 #[.slice a n cap, .int .i64 v] w (Made (zs ++ num v) w) := by
  obtain ⟨i0, hi, hz0, hz1, hz2⟩ := info_parts info5
  have hl := hr.len
  have hN := num_len v
  have c1 := fun (u : World) (b1 : Value) (hm : Mine u b1 zs) => putNumber_any u b1 zs v hm hv (by omega)
  generalize zs ++ num v = N at *
  have hmi : (n : Int) ≤ 140737488351232 := by omega
  clear hN hv
  go_enter Try.func61, Try.ntmps61
  go_wp2_with (first
    | (go_at_call 83; refine (c1 _ _ m2).mono ?_; rintro e w3 ⟨b3, rfl, m3, g3⟩)
    | (at_make; refine wpList_make_own _ rfl _ _ 30 rfl 0 5 i0 (.int .u8 0) 1 Try.underlying30 hi hz0 hz1 _ _ _ (n + 10) rfl rfl (by omega) (by rw [hz2]; omega) (by unfold maxLen; omega) (Nat.zero_le _) ?_; intro w1 hown1 hgrow1; have m1 : Mine w1 (.slice (some ⟨w.heap.size, 0, none⟩) 0 (n + 10)) [] := ⟨hown1, Bytes.nil⟩)
    | (at_builtin; refine wpList_append_mine rfl (.tmp 10) (.tmp 11) rfl _ [] rfl m1 a n cap zs rfl (hr.after (below_grown hgrow1)) hc (by simp; omega) ?_; intro v2 w2 m2 g2; rw [List.nil_append] at m2))
  go_ret
  have hb := below_grown hgrow1
  have h0 : ∀ g, Value.ownBlock (.slice (some ⟨w.heap.size, 0, none⟩) 0 (n + 10)) = some g → w.heap.size ≤ g := fun g hg => by cases hg; exact Nat.le_refl _
  have g23 := g2.trans g3
  exact ⟨b3, rfl, m3, g23.below_of hb h0, g23.new_of h0 hb.size⟩

set_option maxRecDepth 100000 in
set_option maxHeartbeats 1000000 in
theorem GetNumber_none (a : Option Addr) (n cap : Nat) (v : Int) (w : World) (h : v < 0 ∨ (n : Int) < v) :
    Calls Try.prog 89 #[.slice a n cap, .int .i64 v] w fun e w' => e = .returned (.tuple #[.int .i64 0, .int .i64 0, .bool false]) ∧ w' = w := by
  rcases Int.lt_or_le v 0 with h0 | h0
  · go_enter Try.func89, Try.ntmps89
    go_wp2
    go_ret3
    exact ⟨rfl, rfl⟩
  · have h1 : (n : Int) < v := by rcases h with h | h <;> omega
    go_enter Try.func89, Try.ntmps89
    go_wp2
    go_ret3
    exact ⟨rfl, rfl⟩
set_option maxRecDepth 100000 in
set_option maxHeartbeats 1000000 in
theorem GetNumber_any (a : Option Addr) (n cap k : Nat) (zs : List Int) (w : World) (hr : Row w a n zs) (hk : k ≤ n) (hc : n ≤ cap) (hc2 : cap ≤ 9223372036854775807) (h0 : a = none → cap = 0) :
    Calls Try.prog 89 #[.slice a n cap, .int .i64 (k : Nat)] w fun e w' => w' = w ∧
      ((∃ v m, getNum (zs.drop k) = some (v, zs.drop (k + m)) ∧ 0 < m ∧ k + m ≤ n ∧ I64 v ∧ e = .returned (.tuple #[.int .i64 v, .int .i64 ((k + m : Nat) : Int), .bool true])) ∨
       (getNum (zs.drop k) = none ∧ e = .returned (.tuple #[.int .i64 0, .int .i64 0, .bool false]))) := by
  have hl := hr.len
  have hki : (k : Int) ≤ (n : Int) := by omega
  have hci : (n : Int) ≤ (cap : Int) := by omega
  have hzero : ∀ (a' : Option Addr), Calls Try.prog 96 #[.slice a' 0 0] w fun e w' => e = .returned (.tuple #[.int .i64 0, .int .i64 0]) ∧ w' = w := fun a' => by
    have := first_len a' 0 0 [] rfl w ⟨rfl, by simp, fun i hi => by omega⟩ (by decide) (by decide) (by decide) (fun _ => rfl)
    have hf0 : fnum [] = (0, 0) := rfl
    rw [hf0] at this
    exact this
  cases a with
  | none =>
    obtain rfl : cap = 0 := h0 rfl
    obtain rfl : n = 0 := by omega
    obtain rfl : k = 0 := by omega
    obtain rfl : zs = [] := List.eq_nil_of_length_eq_zero hl
    have c1 := hzero none
    go_enter Try.func89, Try.ntmps89
    go_wp2_with (go_at_call 96; refine c1.mono ?_; rintro e w ⟨rfl, rfl⟩)
    go_ret3
    exact ⟨rfl, Or.inr ⟨rfl, rfl⟩⟩
  | some x =>
    by_cases hkc : k < cap
    · have hkc' : (k : Int) < (cap : Int) := by omega
      have c1 := first_len (some (x.add k)) (n - k) (cap - k) (zs.drop k) (by rw [List.length_drop, hl]) w (by have := hr.tail k hk hc; rwa [if_neg (by omega)] at this) (by omega) (by omega) (by omega) (fun e => by cases e)
      have hs : Bytes zs := hr.small
      rcases fnum_cases (zs.drop k) (hs.drop k) with ⟨v, m, e1, e2, e3, e4, e5⟩ | ⟨e1, e5⟩
      · rw [e5] at c1
        simp only at c1
        rw [List.length_drop, hl] at e3
        have hn : ((m : Int) == 0) = false := by rw [beq_eq_false_iff_ne]; omega
        have hn2 : (k : Int) + m ≤ (n : Int) := by omega
        have H : Hid (getNum (zs.drop k) = some (v, zs.drop (k + m))) := by rw [← List.drop_drop]; exact e1
        have he : Hid ((k : Int) + m = ((k + m : Nat) : Int)) := by show (k : Int) + m = _; omega
        clear e5 e1 hr
        go_enter Try.func89, Try.ntmps89
        go_wp2_with (go_at_call 96; refine c1.mono ?_; rintro e w ⟨rfl, rfl⟩)
        go_ret3
        exact ⟨rfl, Or.inl ⟨v, m, H.out, e2, by omega, e4, rfl⟩⟩
      · rw [e5] at c1
        have H : Hid (getNum (zs.drop k) = none) := e1
        clear e5 e1 hr
        go_enter Try.func89, Try.ntmps89
        go_wp2_with (go_at_call 96; refine c1.mono ?_; rintro e w ⟨rfl, rfl⟩)
        go_ret3
        exact ⟨rfl, Or.inr ⟨H.out, rfl⟩⟩
    · obtain rfl : cap = k := by omega
      obtain rfl : n = cap := by omega
      have H : Hid (getNum (zs.drop n) = none) := by rw [List.drop_eq_nil_of_le (by omega)]; rfl
      have c1 := hzero (some x)
      clear hr
      go_enter Try.func89, Try.ntmps89
      go_wp2_with (go_at_call 96; refine c1.mono ?_; rintro e w ⟨rfl, rfl⟩)
      go_ret3
      exact ⟨rfl, Or.inr ⟨H.out, rfl⟩⟩
end Go.Proofs.Yticfkdiggiogdaa.Codec
