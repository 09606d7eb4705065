/-
  A call at both disks.
-/
import Derived.Test.YtnifpfkemjolkaaDiskDo
namespace Go.Proofs.Ytnifpfkemjolkaa.Disk
set_option linter.unusedVariables false
set_option linter.unusedSimpArgs false
open Go Go.RowKit
attribute [local go_sem ↓] Go.wp_at_zero Go.wp_at_succ


set_option maxRecDepth 100000 in
set_option maxHeartbeats 4000000 in
theorem do_crash {W w : World} {D E : Nat} {σ : St} {m : Nat} (h : Both W w (fun _ => False) D E σ σ m) (hm : m < 262000) (kind file n q : Int) (ba : Option Addr) (bl bcap : Nat) (bs : List Int) (hr : Row W ba bl bs) (hx : 0 < bl → ∀ x, ba = some x → x.block < W.heap.size) (hnil : ba = none → bl = 0 ∧ bcap = 0) (hl : bl ≤ 2000)
    (hn : n ≤ 9223372036854775807) (hq : q ≤ 9223372036854775807) (hk : place kind 4 = 3) : Calls Try.prog 7 #[.pointer (some ⟨D, 0, none⟩), .pointer (some ⟨E, 0, none⟩), .agg #[.int .i64 kind, .int .i64 file, .int .i64 n, .int .i64 q, .slice ba bl bcap]] w fun e w' => Did W m e w' := by
  obtain ⟨pl, hpl, cP⟩ : ∃ pl : Int → Int, (∀ v, pl v = place v 4) ∧ ∀ v w, Calls Try.prog 15 #[.int .i64 v, .int .i64 4] w fun e w' => e = .returned (.int .i64 (pl v)) ∧ w' = w := ⟨fun v => place v 4, fun _ => rfl, fun v w => place_any v 4 w (by decide) (by decide)⟩
  rw [← hpl] at hk
  obtain ⟨f0, f1⟩ := place_bounds file 4 (by decide)
  rw [← hpl] at f0 f1
  clear hpl
  have hb0 : Below w.heap.size w (w.alloc (.cells #[.int .i64 kind, .int .i64 file, .int .i64 n, .int .i64 q, .slice ba bl bcap] 30)) := (Below.refl _ _).alloc (Nat.le_refl _) _
  have hsz : (w.alloc (.cells #[.int .i64 kind, .int .i64 file, .int .i64 n, .int .i64 q, .slice ba bl bcap] 30)).heap.size = w.heap.size + 1 := by simp
  have n2 : (w.alloc (.cells #[.int .i64 kind, .int .i64 file, .int .i64 n, .int .i64 q, .slice ba bl bcap] 30)).cell? ⟨w.heap.size, 2, none⟩ = some (.int .i64 n) := cell_of_row _ _ 2 _ _ _ (heap_alloc_new w _)
  have n3 : (w.alloc (.cells #[.int .i64 kind, .int .i64 file, .int .i64 n, .int .i64 q, .slice ba bl bcap] 30)).cell? ⟨w.heap.size, 3, none⟩ = some (.int .i64 q) := cell_of_row _ _ 3 _ _ _ (heap_alloc_new w _)
  have hB : Both W (w.alloc (.cells #[.int .i64 kind, .int .i64 file, .int .i64 n, .int .i64 q, .slice ba bl bcap] 30)) (fun k => k = w.heap.size) D E σ σ m := h.fresh _ hb0 fun k hk => by omega
  go_enter Try.func7, Try.ntmps7
  go_wp2_with (first
    | (go_at_call 15; refine (cP _ _).mono ?_; rintro e v ⟨rfl, rfl⟩; try rw [hk]))
  generalize w.alloc (.cells #[.int .i64 kind, .int .i64 file, .int .i64 n, .int .i64 q, .slice ba bl bcap] 30) = v at *
  have hBd := hB.drew
  have hsW := hBd.below.size
  have hlt : w.heap.size < v.drew.heap.size := by show w.heap.size < v.heap.size; omega
  clear cP hB h
  go_region_law (first
    | (refine step_fn 12 rfl rfl #[.pointer (some ⟨D, 0, none⟩), .int .i64 n, .int .i64 q] (by go_simp) _ (both_crash huR (by omega) _ _ hn hq) ?_; rintro r u2 ⟨D', rfl, hd2, hB2, hb2⟩; have hend : Both W u2 (fun _ => False) D' E' (crashSt σ n q) (crashSt σ n q) (m + 2) := both_fo huR.below (hr1.rebase hsW) hd2 hb2)
    | (refine step_fn 20 rfl rfl #[.pointer (some ⟨E, 0, none⟩), .int .i64 n, .int .i64 q] (by go_simp) _ (both_rcrash huD (by omega) _ _) ?_; rintro r u2 ⟨E', rfl, hr2, hB2, hb2⟩; have hend : Both W u2 (fun _ => False) D' E' (crashSt σ n q) (crashSt σ n q) (m + 2) := both_of huD.below (hd1.rebase hsW) hr2 hb2)
    | (refine step_fn 12 rfl rfl #[.pointer (some ⟨D, 0, none⟩), .int .i64 n, .int .i64 q] (by go_simp) _ (both_crash hBd (by omega) _ _ hn hq) ?_; rintro r u ⟨D', rfl, hd1, huD, hbu⟩; have cu2 : u.cell? ⟨w.heap.size, 2, none⟩ = some (.int .i64 n) := (hbu.cell (p := ⟨w.heap.size, 2, none⟩) hlt).trans n2; have cu3 : u.cell? ⟨w.heap.size, 3, none⟩ = some (.int .i64 q) := (hbu.cell (p := ⟨w.heap.size, 3, none⟩) hlt).trans n3)
    | (refine step_fn 20 rfl rfl #[.pointer (some ⟨E, 0, none⟩), .int .i64 n, .int .i64 q] (by go_simp) _ (both_rcrash hBd (by omega) _ _) ?_; rintro r u ⟨E', rfl, hr1, huR, hbu⟩; have cu2 : u.cell? ⟨w.heap.size, 2, none⟩ = some (.int .i64 n) := (hbu.cell (p := ⟨w.heap.size, 2, none⟩) hlt).trans n2; have cu3 : u.cell? ⟨w.heap.size, 3, none⟩ = some (.int .i64 q) := (hbu.cell (p := ⟨w.heap.size, 3, none⟩) hlt).trans n3))
  all_goals
    go_wp2
    go_ret3
    exact ⟨D', E', _, rfl, hend⟩

end Go.Proofs.Ytnifpfkemjolkaa.Disk
