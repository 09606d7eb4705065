/-
  The chapter's own head: its bytes; and bytes that make makes.
-/
import Derived.Test.YticfkdiggiogdaaStoreAwake
import Derived.Test.YticfkdiggiogdaaWalRef
import Derived.Test.YticfkdiggiogdaaCodecRefNum
namespace Go.Proofs.Yticfkdiggiogdaa.Store
set_option linter.unusedVariables false
set_option linter.unusedSimpArgs false
open Go Go.RowKit Go.Shelf Go.Proofs
open Go.Proofs.Yticfkdiggiogdaa.Disk (Row getD_in ret_int add_add DiskIs Kept St now setSt owns_row owns_same)
open Go.Proofs.Yticfkdiggiogdaa.Wal (start_held take_held call_held read_held done_held Owns Fr Live Free LogIs cell_block rec setSt_at setSt_two appSt now_app openSt σ0)
open Go.Proofs.Yticfkdiggiogdaa.Codec (num I64 Made Mine Bytes)

set_option maxRecDepth 100000 in
set_option maxHeartbeats 2000000 in
theorem refHead_any (w : World) (g s : Int) (a : Option Addr) (n cap : Nat) (zs : List Int) (hr : Codec.Row w a n zs) (h0 : a = none → cap = 0) (hg : I64 g) (hs : I64 s) (hn : n ≤ 140737488350000) :
    Calls Try.prog 32 #[.int .i64 g, .int .i64 s, .slice a n cap] w (Made (headOf g s zs) w) := by
  have lg := Codec.num_len g
  have ls := Codec.num_len s
  have lr := hr.len
  have c1 := fun u : World => Codec.refNumber_any g u hg
  have c2 := fun u : World => Codec.refNumber_any s u hs
  unfold headOf
  go_enter Try.func32, Try.ntmps32
  go_wp2_with (first
    | (at_builtin; refine Codec.wpList_append_mine rfl (.tmp 11) (.tmp 12) rfl _ (num g ++ num s) rfl m3 a n cap zs rfl (hr.after B3) h0 (by rw [List.length_append]; omega) ?_; intro v4 w4 m4 g4)
    | (at_builtin; refine Codec.wpList_append_mine rfl (.tmp 8) (.tmp 10) rfl _ (num g) rfl (m1.later b2) a2 (num s).length d2 (num s) rfl r2 (fun h => (z2 h).2) (by omega) ?_; intro v3 w3 m3 g3; have B3 := g3.below_of (Codec.bcat b1 b2 (Nat.le_refl _)) n1; have n3 := g3.new_of n1 (Nat.le_trans b1.size b2.size))
    | (go_at_call_of 67 s; refine (c2 w1).mono ?_; rintro e w2 ⟨v2, rfl, m2, b2, n2⟩; obtain ⟨a2, d2, rfl, r2, z2, l2, q2⟩ := m2.form)
    | (go_at_call_of 67 g; refine (c1 w).mono ?_; rintro e w1 ⟨v1, rfl, m1, b1, n1⟩))
  go_ret
  exact ⟨v4, rfl, m4, g4.below_of B3 n3, g4.new_of n3 B3.size⟩
end Go.Proofs.Yticfkdiggiogdaa.Store
