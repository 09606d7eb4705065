/-
  What each call of package crc, and of the chapter's own answer, comes to in the model, for every register and all bytes; nothing that was there is turned.
-/
import Derived.Test.YtnehkjabhmhijaaChecked
import Derived.Test.YtnehkjabhmhijaaCrcPlain
import Derived.WalkKit
import Derived.ProofKit
import Derived.OpenShut
import Derived.BigQuiet
import Derived.Deep.QuietTactic
import Derived.WalkSmall
namespace Go.Proofs.Ytnehkjabhmhijaa.Crc
open Go Go.RowKit

theorem ret_int {k : IntKind} {a b : Int} (h : a = b) : Ending.returned (.int k a) = .returned (.int k b) := by rw [h]

set_option maxHeartbeats 1000000 in
theorem byte_any (r : BitVec 32) (c : Int) (w : World) (c0 : 0 ≤ c) (c1 : c < 256) : Calls Try.prog 45 #[.int .u32 (u32 r), .int .u8 c] w fun e w' => e = .returned (.int .u32 (u32 (byte r c))) ∧ w' = w := by
  obtain ⟨r0, r1⟩ := u32_bd r
  have he := enter_word r c c0
  have H : Hid (byte r c = shs 8 (r ^^^ BitVec.ofNat 32 c.toNat)) := rfl
  have H2 : Hid (bits .xor .u32 (u32 r) c = u32 (r ^^^ BitVec.ofNat 32 c.toNat)) := he
  clear he
  generalize r ^^^ BitVec.ofNat 32 c.toNat = q at H H2
  generalize byte r c = res at H
  generalize u32 r = x at r0 r1 H2
  go_enter Try.func45, Try.ntmps45
  go_wp2
  go_loop [0, 9] (fun t i => ∃ k : Nat, k ≤ 8 ∧ i = .int .i64 k ∧ t = .int .u32 (u32 (shs k q))) (fun _ i => 8 - (intOf i).toNat)
  case atStart => exact ⟨0, by omega, rfl, by rw [H2.out]; rfl⟩
  case round =>
    obtain ⟨k, hk, rfl, rfl⟩ := hrel
    have HS : Hid (bits .xor .u32 (u32 (shs k q) / 2) (bits .and .u32 3988292384 (-bits .and .u32 (u32 (shs k q)) 1 % 4294967296)) = u32 (shs (k + 1) q)) := by rw [shs_succ]; exact round_word _
    obtain ⟨y0, y1⟩ := u32_bd (shs k q)
    have HE : Hid (k = 8 → u32 (shs k q) = u32 res) := by intro h; rw [h, H.out]
    generalize u32 (shs k q) = y at y0 y1 HS HE
    by_cases hlt : k < 8
    · go_wp2
      go_round
      case rel => exact ⟨k + 1, by omega, by go_num, by rw [HS.out]⟩
      case measure => simp [intOf]; omega
    · go_wp2
      go_ret
      exact ⟨ret_int (HE.out (by omega)), rfl⟩

theorem low_bit (c : Int) (k : Nat) (c0 : 0 ≤ c) : (c / 2 ^ k).tmod 2 % 4294967296 = c / 2 ^ k % 2 := by
  have h : 0 ≤ c / 2 ^ k := Int.ediv_nonneg c0 (Int.le_of_lt (Int.pow_pos (by decide)))
  rw [Int.tmod_eq_emod_of_nonneg h]
  omega

set_option maxHeartbeats 1000000 in
theorem step_any (r : BitVec 32) (c : Int) (w : World) (c0 : 0 ≤ c) (c1 : c < 256) : Calls Try.prog 42 #[.int .u32 (u32 r), .int .u8 c] w fun e w' => e = .returned (.int .u32 (u32 (byte r c))) ∧ w' = w := by
  have hs : Hid (u32 (st r c.toNat 0) = u32 r) := by rw [st_zero]; exact rfl
  have he : Hid (u32 (st r c.toNat 8) = u32 (byte r c)) := by rw [st_last r c c1]; exact rfl
  generalize u32 r = x at hs
  generalize u32 (byte r c) = res at he
  go_enter Try.func42, Try.ntmps42
  go_wp2
  go_loop [0, 5] (fun t i => ∃ k : Nat, k ≤ 8 ∧ i = .int .i64 k ∧ t = .int .u32 (u32 (st r c.toNat k))) (fun _ i => 8 - (intOf i).toNat)
  case atStart => exact ⟨0, by omega, rfl, by rw [hs.out]⟩
  case round =>
    obtain ⟨k, hk, rfl, rfl⟩ := hrel
    have H1 : Hid (k < 8 → u32 (st r c.toNat k) % 2 ≠ (c / 2 ^ k) % 2 → bits .xor .u32 (u32 (st r c.toNat k) / 2) 3988292384 = u32 (st r c.toNat (k + 1))) := fun hk h => ref_one r c k c0 hk h
    have H2 : Hid (k < 8 → u32 (st r c.toNat k) % 2 = (c / 2 ^ k) % 2 → u32 (st r c.toNat k) / 2 = u32 (st r c.toNat (k + 1))) := fun hk h => ref_none r c k c0 hk h
    obtain ⟨y0, y1⟩ := u32_bd (st r c.toNat k)
    have HE : Hid (k = 8 → u32 (st r c.toNat k) = res) := by intro h; rw [h, he.out]
    generalize u32 (st r c.toNat k) = y at y0 y1 H1 H2 HE
    have hq : (c / 2 ^ k).tmod 2 % 4294967296 = c / 2 ^ k % 2 := low_bit c k c0
    have HQ : Hid ((c / 2 ^ k).tmod 2 % 4294967296 = c / 2 ^ k % 2) := hq
    clear hq
    by_cases hlt : k < 8
    · go_wp2
      all_goals
        rename_i hne
        rw [HQ.out] at hne
        simp only [bne_iff_ne, ne_eq, bne_eq_false_iff_eq] at hne
        go_round
        case rel => exact ⟨k + 1, by omega, by go_num, by first | rw [H1.out hlt hne] | rw [H2.out hlt hne]⟩
        case measure => simp [intOf]; omega
    · go_wp2
      go_ret
      exact ⟨ret_int (HE.out (by omega)), rfl⟩

/- Bytes that lie in memory from an address on. -/
structure Row (w : World) (a : Option Addr) (n : Nat) (zs : List Int) : Prop where
  len : zs.length = n
  small : ∀ z ∈ zs, 0 ≤ z ∧ z < 256
  cell : ∀ i, i < n → ∃ x, a = some x ∧ w.cell? (x.add i) = some (.int .u8 (zs.getD i 0))

theorem getD_in (zs : List Int) (k : Nat) (h : k < zs.length) : zs.getD k 0 = zs[k] := by
  rw [List.getD_eq_getElem?_getD, List.getElem?_eq_getElem h, Option.getD_some]
theorem take_snoc (zs : List Int) (k : Nat) (h : k < zs.length) : zs.take (k + 1) = zs.take k ++ [zs.getD k 0] := by
  rw [List.take_succ_eq_append_getElem h, getD_in _ _ h]
theorem run_take (r : BitVec 32) (zs : List Int) (k : Nat) (h : k < zs.length) : run r (zs.take (k + 1)) = byte (run r (zs.take k)) (zs.getD k 0) := by
  rw [take_snoc zs k h, run_snoc]
theorem Row.at {w : World} {a : Option Addr} {n : Nat} {zs : List Int} (h : Row w a n zs) (k : Nat) (hk : k < n) : 0 ≤ zs.getD k 0 ∧ zs.getD k 0 < 256 := by
  have hl := h.len
  rw [getD_in _ _ (by omega)]
  exact h.small _ (List.getElem_mem _)

set_option maxHeartbeats 1000000 in
theorem more_any (s : BitVec 32) (a : Option Addr) (n cap : Nat) (zs : List Int) (w : World) (hr : Row w a n zs) (hm : n ≤ maxLen) : Calls Try.prog 43 #[.int .u32 (u32 s), .slice a n cap] w fun e w' => e = .returned (.int .u32 (u32 (more s zs))) ∧ w' = w := by
  unfold maxLen at hm
  have hl := hr.len
  obtain ⟨s0, s1⟩ := u32_bd s
  have hn : Hid (bits .xor .u32 IntKind.u32.max (u32 s) = u32 (~~~ s)) := not_word s
  generalize u32 s = x0 at *
  go_enter Try.func43, Try.ntmps43
  go_wp2
  go_loop [5, 12] (fun t i => ∃ k : Nat, k ≤ n ∧ i = .int .i64 k ∧ t = .int .u32 (u32 (run (~~~ s) (zs.take k)))) (fun _ i => n - (intOf i).toNat)
  case atStart => exact ⟨0, by omega, rfl, by rw [hn.out]; rfl⟩
  case round =>
    obtain ⟨k, hk, rfl, rfl⟩ := hrel
    by_cases hlt : k < n
    · obtain ⟨x, rfl, hx⟩ := hr.cell k hlt
      obtain ⟨b0, b1⟩ := hr.at k hlt
      have HZ : Hid (run (~~~ s) (zs.take (k + 1)) = byte (run (~~~ s) (zs.take k)) (zs.getD k 0)) := run_take _ _ _ (by omega)
      clear hr
      generalize zs.getD k 0 = z at hx b0 b1 HZ
      go_wp2_with (go_at_call 45; refine (byte_any _ _ _ (by assumption) (by assumption)).mono ?_; rintro e w' ⟨rfl, rfl⟩)
      go_round
      case rel => exact ⟨k + 1, by omega, by go_num, by rw [HZ.out]⟩
      case measure => simp [intOf]; omega
    · have hw : Hid (bits .xor .u32 IntKind.u32.max (u32 (run (~~~ s) (zs.take k))) = u32 (more s zs)) := by
        rw [List.take_of_length_le (by omega)]; exact not_word _
      go_wp2
      go_ret
      exact ⟨ret_int hw.out, rfl⟩

set_option maxHeartbeats 1000000 in
theorem of_any (a : Option Addr) (n cap : Nat) (zs : List Int) (w : World) (hr : Row w a n zs) (hm : n ≤ maxLen) : Calls Try.prog 44 #[.slice a n cap] w fun e w' => e = .returned (.int .u32 (u32 (more 0#32 zs))) ∧ w' = w := by
  have hc := more_any 0#32 a n cap zs w hr hm
  have e0 : u32 0#32 = 0 := rfl
  rw [e0] at hc
  generalize u32 (more 0#32 zs) = v at *
  go_enter Try.func44, Try.ntmps44
  go_wp2_with (go_at_call 43; refine hc.mono ?_; rintro e w' ⟨rfl, rfl⟩)
  go_ret
  exact ⟨rfl, rfl⟩

set_option maxHeartbeats 1000000 in
theorem refMore_any (s : BitVec 32) (a : Option Addr) (n cap : Nat) (zs : List Int) (w : World) (hr : Row w a n zs) (hm : n ≤ maxLen) : Calls Try.prog 38 #[.int .u32 (u32 s), .slice a n cap] w fun e w' => e = .returned (.int .u32 (u32 (more s zs))) ∧ w' = w := by
  unfold maxLen at hm
  have hl := hr.len
  obtain ⟨s0, s1⟩ := u32_bd s
  have hn : Hid (bits .xor .u32 (u32 s) 4294967295 = u32 (~~~ s)) := not_word' s
  generalize u32 s = x0 at *
  go_enter Try.func38, Try.ntmps38
  go_wp2
  go_loop [5, 6] (fun t i => ∃ k : Nat, k ≤ n ∧ i = .int .i64 k ∧ t = .int .u32 (u32 (run (~~~ s) (zs.take k)))) (fun _ i => n - (intOf i).toNat)
  case atStart => exact ⟨0, by omega, rfl, by rw [hn.out]; rfl⟩
  case round =>
    obtain ⟨k, hk, rfl, rfl⟩ := hrel
    by_cases hlt : k < n
    · obtain ⟨x, rfl, hx⟩ := hr.cell k hlt
      obtain ⟨b0, b1⟩ := hr.at k hlt
      have HZ : Hid (run (~~~ s) (zs.take (k + 1)) = byte (run (~~~ s) (zs.take k)) (zs.getD k 0)) := run_take _ _ _ (by omega)
      clear hr
      generalize zs.getD k 0 = z at hx b0 b1 HZ
      go_wp2_with (go_at_call 42; refine (step_any _ _ _ (by assumption) (by assumption)).mono ?_; rintro e w' ⟨rfl, rfl⟩)
      go_round
      case rel => exact ⟨k + 1, by omega, by go_num, by rw [HZ.out]⟩
      case measure => simp [intOf]; omega
    · have hw : Hid (bits .xor .u32 (u32 (run (~~~ s) (zs.take k))) 4294967295 = u32 (more s zs)) := by
        rw [List.take_of_length_le (by omega)]; exact not_word' _
      go_wp2
      go_ret
      exact ⟨ret_int hw.out, rfl⟩

set_option maxHeartbeats 1000000 in
theorem refOf_any (a : Option Addr) (n cap : Nat) (zs : List Int) (w : World) (hr : Row w a n zs) (hm : n ≤ maxLen) : Calls Try.prog 27 #[.slice a n cap] w fun e w' => e = .returned (.int .u32 (u32 (more 0#32 zs))) ∧ w' = w := by
  have hc := refMore_any 0#32 a n cap zs w hr hm
  have e0 : u32 0#32 = 0 := rfl
  rw [e0] at hc
  generalize u32 (more 0#32 zs) = v at *
  go_enter Try.func27, Try.ntmps27
  go_wp2_with (go_at_call 38; refine hc.mono ?_; rintro e w' ⟨rfl, rfl⟩)
  go_ret
  exact ⟨rfl, rfl⟩

/- Where a number leads among n places. -/
def place (v n : Int) : Int := if v.tmod n < 0 then v.tmod n + n else v.tmod n
theorem tmod_low (v n : Int) (h : 0 < n) : -n < v.tmod n := by
  by_cases g : 0 ≤ v
  · have := Int.tmod_nonneg n g
    omega
  · have h1 := Int.tmod_lt_of_pos (-v) h
    rw [Int.neg_tmod] at h1
    omega
theorem place_bd (v n : Int) (h : 0 < n) : 0 ≤ place v n ∧ place v n < n := by
  unfold place
  have h1 := Int.tmod_lt_of_pos v h
  have h2 := tmod_low v n h
  split <;> omega

set_option maxHeartbeats 1000000 in
theorem place_any (v n : Int) (w : World) (h0 : 0 < n) (h1 : n ≤ 9223372036854775807) : Calls Try.prog 11 #[.int .i64 v, .int .i64 n] w fun e w' => e = .returned (.int .i64 (place v n)) ∧ w' = w := by
  have h2 := Int.tmod_lt_of_pos v h0
  have h3 := tmod_low v n h0
  have H : Hid (place v n = if v.tmod n < 0 then v.tmod n + n else v.tmod n) := rfl
  generalize place v n = r at *
  by_cases hc : v.tmod n < 0
  all_goals
    go_enter Try.func11, Try.ntmps11
    go_wp2
    go_ret
    exact ⟨ret_int (by rw [H.out]; first | rw [if_pos (by omega)] | rw [if_neg (by omega)]), rfl⟩

end Go.Proofs.Ytnehkjabhmhijaa.Crc
