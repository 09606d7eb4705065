/-
  A record's bytes, in new memory.
-/
import Derived.Test.YtnehkjabhmhijaaWalLater
namespace Go.Proofs.Ytnehkjabhmhijaa.Wal
set_option linter.unusedVariables false
set_option linter.unusedSimpArgs false
open Go Go.RowKit
open Go.Proofs.Ytnehkjabhmhijaa.Disk (Row getD_in ret_int add_add wpList_append_bytes owns_row)

theorem owns_nought {w : World} {base : Nat} {e : TypeId} {size : Nat} {v : Value} {n : Nat} {xs : List Value} (h : w.ownsRow base e size v n xs) : w.ownsRow 0 e size v n xs := by
  refine ⟨h.1, ?_⟩
  rcases h.2 with hn | ⟨g, cap, cur, rfl, hb', hg, rest⟩
  · exact .inl hn
  · exact .inr ⟨g, cap, cur, rfl, Nat.zero_le _, hg, rest⟩
theorem owns_later {w w' : World} {base : Nat} {e : TypeId} {size : Nat} {v : Value} {n : Nat} {xs : List Value} (h : w.ownsRow base e size v n xs) (hb : Below w.heap.size w w') : w'.ownsRow base e size v n xs := by
  refine Disk.owns_same h fun g hg => hb.block g ?_
  rcases h.2 with ⟨ev, h00⟩ | ⟨g', c', u', ev, hb', hh', r'⟩
  · rw [ev] at hg
    cases hg
  · rw [ev] at hg
    cases hg
    exact (Array.getElem?_eq_some_iff.1 hh').1
theorem blk_step {v v' : Value} {B s : Nat} (h : v'.ownBlock = v.ownBlock ∨ v'.ownBlock = Option.some s) (hv : ∀ g, v.ownBlock = Option.some g → B ≤ g) (hs : B ≤ s) : ∀ g, v'.ownBlock = Option.some g → B ≤ g := by
  intro g hg
  rcases h with h | h
  · exact hv g (h ▸ hg)
  · rw [h] at hg
    cases hg
    exact hs
theorem made_blk (B s c : Nat) (h : B ≤ s) : ∀ g, Value.ownBlock (.slice (Option.some ⟨s, 0, none⟩) 0 c) = Option.some g → B ≤ g := by
  intro g hg
  cases hg
  exact h

theorem small_append {xs ys : List Int} (h1 : ∀ z ∈ xs, 0 ≤ z ∧ z < 256) (h2 : ∀ z ∈ ys, 0 ≤ z ∧ z < 256) : ∀ z ∈ xs ++ ys, 0 ≤ z ∧ z < 256 := by
  intro z hz
  rcases List.mem_append.1 hz with h | h
  · exact h1 z h
  · exact h2 z h
theorem rec_length (x : List Int) : (rec x).length = 8 + x.length := by simp [rec, four_length]; omega
theorem rec_small (x : List Int) (h : ∀ z ∈ x, 0 ≤ z ∧ z < 256) : ∀ z ∈ rec x, 0 ≤ z ∧ z < 256 := small_append (small_append (four_small _) (four_small _)) h

set_option maxHeartbeats 2000000 in
theorem record_any (a : Option Addr) (n cap : Nat) (zs : List Int) (w : World) (hr : Row w a n zs) (h0 : a = none → cap = 0) (hn : n ≤ 65536) :
    Calls Try.prog 30 #[.slice a n cap] w fun e w' => ∃ a' cap', e = .returned (.slice a' (8 + n) cap') ∧ Row w' a' (8 + n) (rec zs) ∧ (a' = none → cap' = 0) ∧ Below w.heap.size w w' := by
  obtain ⟨i0, hi, hz0, hz1, hz2⟩ := info_parts Disk.info5
  have hl := hr.len
  have e32 : (n : Int) % 4294967296 = n := by omega
  have H : Hid (rec zs = (four n ++ four (sumOf (four n) zs)) ++ zs) := by rw [← hl]; exact rfl
  have sb := sumOf_bd (four n) zs
  have s4 := four_small (n : Int)
  generalize hF : four (n : Int) = F at *
  have lF : F.length = 4 := by rw [← hF]; rfl
  have c1 := bytesOf_any (n : Int) w (by omega) (by omega)
  rw [hF] at c1
  clear hF
  have s5 := four_small (sumOf F zs)
  have lG : (four (sumOf F zs)).length = 4 := rfl
  generalize hq : sumOf F zs = q at *
  generalize hG : four q = G at *
  have he : (rec zs).length = 8 + n := by rw [rec_length, hl]
  generalize rec zs = R at *
  go_enter Try.func30, Try.ntmps30
  go_wp2_with (first
    | (at_builtin; refine wpList_append_bytes rfl (.tmp 22) (.tmp 23) rfl _ 8 (F ++ G) rfl o5 a n cap zs rfl (hr.after bW5) h0 (by omega) ?_; intro a6 c6 w6 o6 g6 t6)
    | (at_builtin; refine wpList_append_bytes rfl (.tmp 16) (.tmp 20) rfl _ 4 F rfl o3' _ 4 4 G rfl r4 (fun h => by cases h) (by decide) ?_; intro a5 c5 w5 o5 g5 t5; have bW5 := bW4.grown g5 bW4.size k3; have k5 := blk_step t5 k3 bW4.size)
    | (go_at_call_of 39 q; refine (bytesOf_any q w3 sb.1 sb.2).mono ?_; rintro e w4 ⟨rfl, o4, b4⟩; rw [hG] at o4; have r4 := (owns_row o4 s5).1; have bW4 := bW3.trans (b4.mono bW3.size); have o3' := owns_later o3 b4)
    | (go_at_call 40; refine (sum_any _ a 4 4 n cap F zs w3 r13 (hr.after bW3) (by decide) (by omega)).mono ?_; rintro e w9 ⟨rfl, hw9⟩; rw [hw9, hq])
    | (at_builtin; refine wpList_append_bytes rfl (.tmp 13) (.tmp 14) rfl _ 0 [] rfl (owns_nought o2) _ 4 4 F rfl (r1.after b2) (fun h => by cases h) (by decide) ?_; intro a3 c3 w3 o3 g3 t3; have b3 := b2.grown g3 b2.size (made_blk w1.heap.size w1.heap.size (8 + n) (Nat.le_refl _)); have bW3 := bW2.grown g3 bW2.size (made_blk w.heap.size w1.heap.size (8 + n) b1.size); have k3 := blk_step t3 (made_blk w.heap.size w1.heap.size (8 + n) b1.size) bW2.size; have r13 := r1.after b3)
    | (at_make; refine wpList_make_own _ rfl _ _ 22 rfl w1.heap.size 5 i0 (.int .u8 0) 1 Try.underlying22 hi hz0 hz1 .i64 .i64 _ (8 + n) rfl rfl (by omega) (by rw [hz2]; omega) (by unfold maxLen; omega) (Nat.le_refl _) ?_; intro w2 o2 g2; have b2 : Below w1.heap.size w1 w2 := (Below.refl _ _).grown g2 (Nat.le_refl _) (by intro k hk; cases hk); have bW2 := b1.trans (b2.mono b1.size))
    | (go_at_call_of 39 n; refine c1.mono ?_; rintro e w1 ⟨rfl, o1, b1⟩; have r1 := (owns_row o1 s4).1))
  go_ret
  rw [← H.out] at o6
  obtain ⟨r6, h6, _⟩ := owns_row o6 (by rw [H.out]; exact small_append (small_append s4 s5) hr.small)
  exact ⟨a6, c6, rfl, r6, h6, bW5.grown g6 bW5.size k5⟩
end Go.Proofs.Ytnehkjabhmhijaa.Wal
