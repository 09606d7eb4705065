/-
  A call at both disks.
-/
import Derived.Test.YtnifpfkemjolkaaDiskDo
namespace Go.Proofs.Ytnifpfkemjolkaa.Disk
set_option linter.unusedVariables false
set_option linter.unusedSimpArgs false
open Go Go.RowKit
attribute [local go_sem ↓] Go.wp_at_zero Go.wp_at_succ


set_option maxRecDepth 100000 in
set_option maxHeartbeats 4000000 in
theorem do_sync {W w : World} {D E : Nat} {σ : St} {m : Nat} (h : Both W w (fun _ => False) D E σ σ m) (hm : m < 262000) (kind file n q : Int) (ba : Option Addr) (bl bcap : Nat) (bs : List Int) (hr : Row W ba bl bs) (hx : 0 < bl → ∀ x, ba = some x → x.block < W.heap.size) (hnil : ba = none → bl = 0 ∧ bcap = 0) (hl : bl ≤ 2000)
    (hn : n ≤ 9223372036854775807) (hq : q ≤ 9223372036854775807) (hk : place kind 4 = 2) : Calls Try.prog 7 #[.pointer (some ⟨D, 0, none⟩), .pointer (some ⟨E, 0, none⟩), .agg #[.int .i64 kind, .int .i64 file, .int .i64 n, .int .i64 q, .slice ba bl bcap]] w fun e w' => Did W m e w' := by
  obtain ⟨pl, hpl, cP⟩ : ∃ pl : Int → Int, (∀ v, pl v = place v 4) ∧ ∀ v w, Calls Try.prog 15 #[.int .i64 v, .int .i64 4] w fun e w' => e = .returned (.int .i64 (pl v)) ∧ w' = w := ⟨fun v => place v 4, fun _ => rfl, fun v w => place_any v 4 w (by decide) (by decide)⟩
  rw [← hpl] at hk
  obtain ⟨f0, f1⟩ := place_bounds file 4 (by decide)
  rw [← hpl] at f0 f1
  clear hpl
  have hb0 : Below w.heap.size w (w.alloc (.cells #[.int .i64 kind, .int .i64 file, .int .i64 n, .int .i64 q, .slice ba bl bcap] 30)) := (Below.refl _ _).alloc (Nat.le_refl _) _
  have hsz : (w.alloc (.cells #[.int .i64 kind, .int .i64 file, .int .i64 n, .int .i64 q, .slice ba bl bcap] 30)).heap.size = w.heap.size + 1 := by simp
  have n2 : (w.alloc (.cells #[.int .i64 kind, .int .i64 file, .int .i64 n, .int .i64 q, .slice ba bl bcap] 30)).cell? ⟨w.heap.size, 2, none⟩ = some (.int .i64 n) := cell_of_row _ _ 2 _ _ _ (heap_alloc_new w _)
  have n3 : (w.alloc (.cells #[.int .i64 kind, .int .i64 file, .int .i64 n, .int .i64 q, .slice ba bl bcap] 30)).cell? ⟨w.heap.size, 3, none⟩ = some (.int .i64 q) := cell_of_row _ _ 3 _ _ _ (heap_alloc_new w _)
  have hB : Both W (w.alloc (.cells #[.int .i64 kind, .int .i64 file, .int .i64 n, .int .i64 q, .slice ba bl bcap] 30)) (fun k => k = w.heap.size) D E σ σ m := h.fresh _ hb0 fun k hk => by omega
  go_enter Try.func7, Try.ntmps7
  go_wp2_with (first
    | (go_at_call 19; refine (both_rsync h1 (by omega) _).mono ?_; rintro e w2 ⟨_, rfl, rfl, h2, hp2⟩)
    | (go_at_call 10; refine (both_sync hB (by omega) _).mono ?_; rintro e w1 ⟨_, rfl, rfl, h1, hp1⟩)
    | (go_at_call 15; refine (cP _ _).mono ?_; rintro e v ⟨rfl, rfl⟩; try rw [hk]))
  go_ret3
  exact ⟨D, E, _, rfl, h2.none⟩

end Go.Proofs.Ytnifpfkemjolkaa.Disk
