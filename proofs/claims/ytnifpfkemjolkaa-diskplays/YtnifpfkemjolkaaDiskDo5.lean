/-
  A call at both disks.
-/
import Derived.Test.YtnifpfkemjolkaaDiskDo2
import Derived.Test.YtnifpfkemjolkaaDiskDo3
import Derived.Test.YtnifpfkemjolkaaDiskDo4
namespace Go.Proofs.Ytnifpfkemjolkaa.Disk
set_option linter.unusedVariables false
set_option linter.unusedSimpArgs false
open Go Go.RowKit
attribute [local go_sem ↓] Go.wp_at_zero Go.wp_at_succ


theorem do_any {W w : World} {D E : Nat} {σ : St} {m : Nat} (h : Both W w (fun _ => False) D E σ σ m) (hm : m < 262000) (kind file n q : Int) (ba : Option Addr) (bl bcap : Nat) (bs : List Int) (hr : Row W ba bl bs) (hx : 0 < bl → ∀ x, ba = some x → x.block < W.heap.size) (hnil : ba = none → bl = 0 ∧ bcap = 0) (hl : bl ≤ 2000)
    (hn : n ≤ 9223372036854775807) (hq : q ≤ 9223372036854775807) : Calls Try.prog 7 #[.pointer (some ⟨D, 0, none⟩), .pointer (some ⟨E, 0, none⟩), .agg #[.int .i64 kind, .int .i64 file, .int .i64 n, .int .i64 q, .slice ba bl bcap]] w fun e w' => Did W m e w' := by
  obtain ⟨p0, p1⟩ := place_bounds kind 4 (by decide)
  rcases (show place kind 4 = 0 ∨ place kind 4 = 1 ∨ place kind 4 = 2 ∨ place kind 4 = 3 by omega) with hk | hk | hk | hk
  · exact do_append h hm kind file n q ba bl bcap bs hr hx hnil hl hn hq hk
  · exact do_cut h hm kind file n q ba bl bcap bs hr hx hnil hl hn hq hk
  · exact do_sync h hm kind file n q ba bl bcap bs hr hx hnil hl hn hq hk
  · exact do_crash h hm kind file n q ba bl bcap bs hr hx hnil hl hn hq hk

end Go.Proofs.Ytnifpfkemjolkaa.Disk
