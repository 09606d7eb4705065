/-
  A number's four bytes, the number of four bytes, the sum of a record, and whether a record may say so many bytes: what the code's inner functions answer.
-/
import Derived.Test.YtnehkjabhmhijaaWalPlain
import Derived.Test.YtnehkjabhmhijaaCrcCalls
import Derived.Test.YtnehkjabhmhijaaDiskLone
namespace Go.Proofs.Ytnehkjabhmhijaa.Wal
set_option linter.unusedVariables false
set_option linter.unusedSimpArgs false
open Go Go.RowKit
open Go.Proofs.Ytnehkjabhmhijaa.Disk (Row getD_in ret_int)

theorem crcRow {w : World} {a : Option Addr} {n : Nat} {zs : List Int} (h : Row w a n zs) : Crc.Row w a n zs := ⟨h.len, h.small, h.cell⟩

set_option maxHeartbeats 1000000 in
theorem sum_any (a b : Option Addr) (n cn m cm : Nat) (xs ys : List Int) (w : World) (hx : Row w a n xs) (hy : Row w b m ys) (hn : n ≤ 140737488355328) (hm : m ≤ 140737488355328) :
    Calls Try.prog 40 #[.slice a n cn, .slice b m cm] w fun e w' => e = .returned (.int .u32 (sumOf xs ys)) ∧ w' = w := by
  have c1 := Crc.of_any a n cn xs w (crcRow hx) (by unfold maxLen; omega)
  have c2 := Crc.more_any (Crc.more 0#32 xs) b m cm ys w (crcRow hy) (by unfold maxLen; omega)
  rw [Crc.more_append] at c2
  have H : Hid (sumOf xs ys = Crc.u32 (Crc.more 0#32 (xs ++ ys))) := rfl
  generalize Crc.u32 (Crc.more 0#32 (xs ++ ys)) = v at *
  generalize Crc.u32 (Crc.more 0#32 xs) = v1 at *
  generalize sumOf xs ys = r at *
  go_enter Try.func40, Try.ntmps40
  go_wp2_with (first | (go_at_call 43; refine c2.mono ?_; rintro e w' ⟨rfl, rfl⟩) | (go_at_call 44; refine c1.mono ?_; rintro e w' ⟨rfl, rfl⟩))
  go_ret
  exact ⟨ret_int (Eq.symm H), rfl⟩

set_option maxHeartbeats 1000000 in
theorem mayBe_any (n : Int) (w : World) : Calls Try.prog 29 #[.int .i64 n] w fun e w' => e = .returned (.bool (decide (1 ≤ n ∧ n ≤ 65536))) ∧ w' = w := by
  by_cases h1 : 1 ≤ n
  · by_cases h2 : n ≤ 65536
    · rw [decide_eq_true ⟨h1, h2⟩]
      go_enter Try.func29, Try.ntmps29
      go_wp2
      go_ret
      exact ⟨rfl, rfl⟩
    · rw [decide_eq_false (fun h => h2 h.2)]
      go_enter Try.func29, Try.ntmps29
      go_wp2
      go_ret
      exact ⟨rfl, rfl⟩
  · rw [decide_eq_false (fun h => h1 h.1)]
    go_enter Try.func29, Try.ntmps29
    go_wp2
    go_ret
    exact ⟨rfl, rfl⟩

theorem or_add (x z k : Nat) (hx : x < 2 ^ (8 * k)) (hz : z < 256) (hk : k < 4) : bits .or .u32 (x : Int) (((z : Int) * 2 ^ (8 * k)) % 4294967296) = ((2 ^ (8 * k) * z + x : Nat) : Int) := by
  have hb : 2 ^ (8 * k) * z + x < 2 ^ 32 ∧ 2 ^ (8 * k) * z < 2 ^ 32 ∧ x < 2 ^ 32 := by
    rcases (show k = 0 ∨ k = 1 ∨ k = 2 ∨ k = 3 by omega) with rfl | rfl | rfl | rfl <;> simp at hx ⊢ <;> omega
  have e : ((z : Int) * 2 ^ (8 * k)) % 4294967296 = ((2 ^ (8 * k) * z : Nat) : Int) := by
    rcases (show k = 0 ∨ k = 1 ∨ k = 2 ∨ k = 3 by omega) with rfl | rfl | rfl | rfl <;> simp <;> omega
  rw [e]
  show IntKind.u32.wrap ((BitVec.ofInt 32 (x : Int) ||| BitVec.ofInt 32 ((2 ^ (8 * k) * z : Nat) : Int)).toNat : Int) = _
  rw [BitVec.ofInt_natCast, BitVec.ofInt_natCast, BitVec.toNat_or, BitVec.toNat_ofNat, BitVec.toNat_ofNat, Nat.mod_eq_of_lt hb.2.2, Nat.mod_eq_of_lt hb.2.1, Nat.or_comm, ← Nat.two_pow_add_eq_or_of_lt hx, IntKind.wrap_u32']
  omega
theorem num_step (zs : List Int) (hl : zs.length = 4) (hs : ∀ z ∈ zs, 0 ≤ z ∧ z < 256) (k : Nat) (hk : k < 4) : bits .or .u32 (num (zs.take k)) (zs.getD k 0 * 2 ^ (8 * k) % 4294967296) = num (zs.take (k + 1)) := by
  obtain ⟨a, b, c, d, rfl⟩ := four_split zs hl
  simp only [List.mem_cons, List.not_mem_nil, or_false, forall_eq_or_imp, forall_eq] at hs
  obtain ⟨⟨a0, a1⟩, ⟨b0, b1⟩, ⟨c0, c1⟩, ⟨d0, d1⟩⟩ := hs
  obtain ⟨a, rfl⟩ := Int.eq_ofNat_of_zero_le a0
  obtain ⟨b, rfl⟩ := Int.eq_ofNat_of_zero_le b0
  obtain ⟨c, rfl⟩ := Int.eq_ofNat_of_zero_le c0
  obtain ⟨d, rfl⟩ := Int.eq_ofNat_of_zero_le d0
  rcases (show k = 0 ∨ k = 1 ∨ k = 2 ∨ k = 3 by omega) with rfl | rfl | rfl | rfl
  · have h := or_add 0 a 0 (by decide) (by omega) (by decide)
    refine Eq.trans h ?_
    simp [num]
  · have h := or_add a b 1 (by simp; omega) (by omega) (by decide)
    refine Eq.trans (Eq.trans (by simp [num]) h) ?_
    simp [num]
    omega
  · have h := or_add (a + 256 * b) c 2 (by simp; omega) (by omega) (by decide)
    refine Eq.trans (Eq.trans (by simp [num]) h) ?_
    simp [num]
    omega
  · have h := or_add (a + 256 * (b + 256 * c)) d 3 (by simp; omega) (by omega) (by decide)
    refine Eq.trans (Eq.trans (by simp [num]) h) ?_
    simp [num]
    omega

set_option maxHeartbeats 1000000 in
theorem number_any (a : Option Addr) (cap : Nat) (zs : List Int) (w : World) (hr : Row w a 4 zs) : Calls Try.prog 41 #[.slice a 4 cap] w fun e w' => e = .returned (.int .u32 (num zs)) ∧ w' = w := by
  have hl := hr.len
  go_enter Try.func41, Try.ntmps41
  go_wp2
  go_loop [3, 8] (fun t i => ∃ k : Nat, k ≤ 4 ∧ i = .int .i64 k ∧ t = .int .u32 (num (zs.take k))) (fun _ i => 4 - (intOf i).toNat)
  case atStart => exact ⟨0, by omega, rfl, rfl⟩
  case round =>
    obtain ⟨k, hk, rfl, rfl⟩ := hrel
    by_cases g : k < 4
    · obtain ⟨x, rfl, hc⟩ := hr.cell k g
      obtain ⟨b0, b1⟩ := hr.at k g
      have H : Hid (bits .or .u32 (num (zs.take k)) (zs.getD k 0 * 2 ^ (8 * k) % 4294967296) = num (zs.take (k + 1))) := num_step zs hl hr.small k g
      generalize zs.getD k 0 = z at *
      go_wp2
      go_round
      case rel => exact ⟨k + 1, by omega, rfl, by rw [H.out]⟩
      case measure => simp [intOf]; omega
    · obtain rfl : k = 4 := by omega
      go_wp2
      go_ret
      exact ⟨ret_int (by rw [List.take_of_length_le (by omega)]), rfl⟩

def part (v : Int) (k : Nat) : List Int := (four v).take k ++ List.replicate (4 - k) 0
theorem part_length (v : Int) (k : Nat) (h : k ≤ 4) : (part v k).length = 4 := by simp [part, four]; omega
theorem part_set (v : Int) (k : Nat) (h : k < 4) (v0 : 0 ≤ v) : (part v k).set k (v / 2 ^ (8 * k) % 256) = part v (k + 1) := by
  rcases (show k = 0 ∨ k = 1 ∨ k = 2 ∨ k = 3 by omega) with rfl | rfl | rfl | rfl <;> simp [part, four, List.replicate]
theorem own_zero4 {w : World} {base g n : Nat} (h : w.ownsRow base 5 1 (.slice (some ⟨g, 0, none⟩) n n) n (madeCells (Value.int .u8 0).cells (n * 1)).toList) :
    w.ownsRow base 5 1 (.slice (some ⟨g, 0, none⟩) n n) n ((List.replicate n (0 : Int)).map (Value.int .u8)) := by
  have e : (madeCells (Value.int .u8 0).cells (n * 1)).toList = (List.replicate n (0 : Int)).map (Value.int .u8) := by
    rw [List.map_replicate, Nat.mul_one]
    exact toList_madeCells_one _ _
  rwa [e] at h

set_option maxHeartbeats 1000000 in
theorem bytesOf_any (v : Int) (w : World) (v0 : 0 ≤ v) (v1 : v < 4294967296) : Calls Try.prog 39 #[.int .u32 v] w fun e w' => e = .returned (.slice (some ⟨w.heap.size, 0, none⟩) 4 4) ∧
    w'.ownsRow w.heap.size 5 1 (.slice (some ⟨w.heap.size, 0, none⟩) 4 4) 4 ((four v).map (Value.int .u8)) ∧ Below w.heap.size w w' := by
  obtain ⟨i0, hi, hz0, hz1, hz2⟩ := info_parts Disk.info5
  go_enter Try.func39, Try.ntmps39
  go_wp2_with (at_make; refine wpList_make_full _ rfl _ _ 22 rfl w.heap.size 5 i0 (.int .u8 0) 1 Try.underlying22 hi hz0 hz1 .i64 .i64 _ _ 4 rfl rfl rfl rfl (by rw [hz2]; decide) (by decide) (Nat.le_refl _) ?_; intro w3 hown hgrow)
  have hown0 := own_zero4 hown
  have bel0 : Below w.heap.size w w3 := (Below.refl _ _).grown hgrow (Nat.le_refl _) (by intro k hk; cases hk)
  clear hown hgrow
  go_loopw [8] (fun i wr => ∃ (k : Nat), k ≤ 4 ∧ i = .int .i64 k ∧ wr.ownsRow w.heap.size 5 1 (.slice (some ⟨w.heap.size, 0, none⟩) 4 4) 4 ((part v k).map (Value.int .u8)) ∧ Below w.heap.size w wr) (fun i _ => 4 - (intOf i).toNat)
  case atStart => exact ⟨0, by omega, rfl, hown0, bel0⟩
  case round =>
    clear hown0 bel0
    obtain ⟨k, hk, rfl, hown, bel⟩ := hrel
    by_cases hlt : k < 4
    · have HV : Hid ((part v k).set k (v / 2 ^ (8 * k) % 256) = part v (k + 1)) := part_set v k hlt v0
      have hyl := part_length v k hk
      have gx := hown.cellAt k (by omega)
      generalize part v k = ys at *
      rw [List.getElem?_map, List.getElem?_eq_getElem (by omega), Option.map_some] at gx
      have gf := hown.frozenAt k
      have t3 : (k : Int) < 4 := by omega
      have HO := hown.stored k
      clear hown
      generalize ys[k] = vy at gx
      have HH : Hid (∀ u : Value, (wr.setCell ⟨w.heap.size, k, none⟩ u).ownsRow w.heap.size 5 1 (.slice (some ⟨w.heap.size, 0, none⟩) 4 4) 4 ((ys.map (Value.int .u8)).set k u) ∧ wr.grownBy (wr.setCell ⟨w.heap.size, k, none⟩ u) (some w.heap.size)) := HO
      clear HO
      go_wp2
      obtain ⟨o1, o2⟩ := HH.out (.int .u8 (v / 2 ^ (8 * k) % 256))
      go_roundw
      case rel => exact ⟨k + 1, by omega, by go_num, by rw [← HV.out, List.map_set]; exact o1, bel.grown o2 bel.size (by intro q hq; cases hq; exact Nat.le_refl _)⟩
      case measure => simp [intOf]; omega
    · obtain rfl : k = 4 := by omega
      go_wp2
      go_ret
      exact ⟨rfl, hown, bel⟩
end Go.Proofs.Ytnehkjabhmhijaa.Wal
