/-
  What each call of a robot tells and leaves.
-/
import Derived.Test.YtedmfhkdaifegaaGreatRobMem
namespace Go.Proofs.YtedmfhkdaifegaaGreat.Rob
set_option linter.unusedVariables false
set_option linter.unusedSimpArgs false
open Go Go.RowKit Go.Shelf Go.Proofs Go.Proofs.YtedmfhkdaifegaaGreat.Lk Go.Proofs.YtedmfhkdaifegaaGreat.Plain
attribute [local go_sem] Oper.semAt_some

section
variable {w : World} {R : Wh} {r : Rb} (h : RbAt w R r)
include h
set_option maxHeartbeats 1000000 in
theorem moves_any : Calls Tryz.prog 48 #[.pointer (some ⟨R.p, 0, none⟩)] w fun e w' => e = .returned (.bool (under r)) ∧ w' = w := by
  have c := h.c21
  generalize hp : R.p = p at *
  go_enter Tryz.func48, Tryz.ntmps48
  go_wp2
  go_ret
  exact ⟨rfl, rfl⟩
set_option maxHeartbeats 1000000 in
theorem load_any : Calls Tryz.prog 27 #[.pointer (some ⟨R.p, 0, none⟩)] w fun e w' => e = .returned (.int .i64 r.ld) ∧ w' = w := by
  have c := h.c6
  go_enter Tryz.func27, Tryz.ntmps27
  go_wp2
  go_ret
  exact ⟨rfl, rfl⟩
set_option maxHeartbeats 1000000 in
theorem epoch_any : Calls Tryz.prog 23 #[.pointer (some ⟨R.p, 0, none⟩)] w fun e w' => e = .returned (.int .i64 r.ep) ∧ w' = w := by
  have c := h.c7
  go_enter Tryz.func23, Tryz.ntmps23
  go_wp2
  go_ret
  exact ⟨rfl, rfl⟩
set_option maxHeartbeats 1000000 in
theorem carry_any (n : Int) : Calls Tryz.prog 45 #[.pointer (some ⟨R.p, 0, none⟩), .int .i64 n] w fun e w' => e = .returned (.tuple #[]) ∧ RbAt w' R (carryR r n) ∧ Only R.p w w' := by
  have c := h.c6
  have f := h.froz 6
  have HE : Hid (RbAt (w.setCell ⟨R.p, 6, none⟩ (.int .i64 n)) R (carryR r n) ∧ Only R.p w (w.setCell ⟨R.p, 6, none⟩ (.int .i64 n))) := ⟨h.set 6 [.int .i64 n] rfl, Only.setCell _ _ _ _⟩
  clear h
  go_enter Tryz.func45, Tryz.ntmps45
  go_wp2
  go_end0
  exact ⟨rfl, HE.out⟩
set_option maxHeartbeats 1000000 in
theorem stopped_any : Calls Tryz.prog 58 #[.pointer (some ⟨R.p, 0, none⟩)] w fun e w' => e = .returned (.bool (stopd r)) ∧ w' = w := by
  have c7 := h.c7
  have c8 := h.c8
  unfold stopd
  clear h
  by_cases h0 : r.lt = 0
  · have d0 : decide (r.lt = 0) = true := decide_eq_true h0
    have e0 : (r.lt == 0) = true := by rw [beq_iff_eq]; exact h0
    rw [d0]
    go_enter Tryz.func58, Tryz.ntmps58
    go_wp2
    go_ret
    exact ⟨by simp [h0], rfl⟩
  · have d0 : decide (r.lt = 0) = false := decide_eq_false h0
    have e0 : (r.lt == 0) = false := by rw [beq_eq_false_iff_ne]; exact h0
    rw [d0]
    go_enter Tryz.func58, Tryz.ntmps58
    go_wp2
    go_ret
    exact ⟨by simp [h0], rfl⟩
end
end Go.Proofs.YtedmfhkdaifegaaGreat.Rob
