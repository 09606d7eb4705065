/-
  The chapter's own answer: a bool that its reader reads.
-/
import Derived.Test.YthdgpadakmdlkaaCodecRefOp
import Derived.Test.YthdgpadakmdlkaaCodecRead2
namespace Go.Proofs.Ythdgpadakmdlkaa.Codec
set_option linter.unusedVariables false
set_option linter.unusedSimpArgs false
open Go Go.RowKit

set_option maxRecDepth 100000 in
set_option maxHeartbeats 2000000 in
theorem rflag_any (w : World) (R : Nat) (a : Option Addr) (cap : Nat) (zs : List Int) (k : Nat) (bad : Bool) (h : RR w R a cap zs k bad) :
    Calls Try.prog 48 #[.pointer (some ⟨R, 0, none⟩)] w (RReads cFlag vBool (.bool false) w R a cap zs k bad) := by
  have h1 := h.s
  have h2 := h.i
  have h3 := h.b
  have hf1 := h.fz
  have hf2 := h.fb
  have hmax : zs.length ≤ 9223372036854775807 := Nat.le_trans h.cap1 h.cap2
  have HB : Hid (∀ m, RR ((w.drewN m).setCell ⟨R, 2, none⟩ (.bool true)) R a cap zs k true ∧ w.grownBy ((w.drewN m).setCell ⟨R, 2, none⟩ (.bool true)) (some R)) := fun m => ⟨(h.drewN m).bad, (grown_drewN w m _).trans (grown_setCell _ _ _)⟩
  cases bad with
  | true =>
    clear h
    generalize hL : zs.length = L at *
    clear hL
    go_enter Try.func48, Try.ntmps48
    go_wp2
    go_quiet (fail)
    go_wp2
    go_ret
    exact ⟨(HB.out _).2, Or.inr ⟨Or.inl rfl, rfl, k, (HB.out _).1⟩⟩
  | false =>
    by_cases hk : k < zs.length
    · obtain ⟨x, rfl, hc⟩ := h.row.cell k hk
      obtain ⟨b0, b1⟩ := h.row.at k hk
      have hap : x.block ≠ R := h.apart x rfl (by omega)
      have hdrop : zs.drop k = zs.getD k 0 :: zs.drop (k + 1) := by rw [List.drop_eq_getElem_cons hk, getD_in zs k hk]
      have HG : Hid (cFlag.get (zs.drop k) = if 1 < zs.getD k 0 then none else some (zs.getD k 0 == 1, zs.drop (k + 1))) := by rw [hdrop]; rfl
      have HR : Hid (∀ m, RR ((w.drewN m).setCell ⟨R, 1, none⟩ (.int .i64 ((k : Int) + 1))) R (some x) cap zs (k + 1) false ∧ w.grownBy ((w.drewN m).setCell ⟨R, 1, none⟩ (.int .i64 ((k : Int) + 1))) (some R)) :=
        fun m => ⟨(h.drewN m).step (k + 1) (by omega), (grown_drewN w m _).trans (grown_setCell _ _ _)⟩
      have hd : decide ((zs.length : Int) ≤ (k : Int)) = false := decide_eq_false (by omega)
      have hk' : (k : Int) < (zs.length : Int) := by omega
      generalize zs.getD k 0 = c at *
      clear h hdrop
      generalize hL : zs.length = L at *
      clear hL
      by_cases hc1 : 1 < c
      · rw [if_pos hc1] at HG
        go_enter Try.func48, Try.ntmps48
        go_wp2
        go_quiet (fail)
        go_wp2
        go_ret
        exact ⟨(HB.out _).2, Or.inr ⟨Or.inr HG.out, rfl, k, (HB.out _).1⟩⟩
      · rw [if_neg hc1] at HG
        have hc1' : decide (1 < c) = false := decide_eq_false hc1
        have hne : x.add k ≠ ⟨R, 1, none⟩ := fun e => hap (by rw [← block_add x k, e])
        have hc3 : ∀ m v, ((w.drewN m).setCell ⟨R, 1, none⟩ v).cell? (x.add k) = some (.int .u8 c) := fun m v => by
          rw [World.cell?_setCell_other _ _ _ _ (fun e => hne e.symm)]
          exact hc
        have hc4 : ∀ m m' v, (((w.drewN m).setCell ⟨R, 1, none⟩ v).drewN m').cell? (x.add k) = some (.int .u8 c) := fun m m' v => hc3 m v
        have hw : IntKind.i64.wrap (k : Int) = (k : Int) := by rw [IntKind.wrap_i64]; omega
        go_enter Try.func48, Try.ntmps48
        go_wp2
        go_quiet (fail)
        go_wp2
        go_quiet (fail)
        go_wp2
        go_ret
        exact ⟨(HR.out _).2.trans (grown_drewN _ _ _), Or.inl ⟨c == 1, k + 1, rfl, HG.out, by omega, trivial, rfl, (HR.out _).1.drewN _⟩⟩
    · have HG : Hid (cFlag.get (zs.drop k) = none) := by rw [List.drop_eq_nil_of_le (by omega)]; rfl
      have hd : decide ((zs.length : Int) ≤ (k : Int)) = true := decide_eq_true (by omega)
      clear h
      generalize hL : zs.length = L at *
      clear hL
      go_enter Try.func48, Try.ntmps48
      go_wp2
      go_quiet (fail)
      go_wp2
      go_ret
      exact ⟨(HB.out _).2, Or.inr ⟨Or.inr HG.out, rfl, k, (HB.out _).1⟩⟩
end Go.Proofs.Ythdgpadakmdlkaa.Codec
