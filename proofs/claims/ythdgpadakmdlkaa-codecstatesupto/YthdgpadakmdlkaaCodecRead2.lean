/-
  The reader of package codec: a bool, a cell, a pose, an operation.
-/
import Derived.Test.YthdgpadakmdlkaaCodecRead
namespace Go.Proofs.Ythdgpadakmdlkaa.Codec
set_option linter.unusedVariables false
set_option linter.unusedSimpArgs false
open Go Go.RowKit

theorem left_quiet (w : World) (R : Nat) (a : Option Addr) (cap : Nat) (zs : List Int) (k : Nat) (h : Rd w R a cap zs k) (D : Int) (hD : D = ((zs.length - k : Nat) : Int)) (n : Nat) :
    Calls Try.prog 66 #[.pointer (some ⟨R, 0, none⟩)] (w.drewN n) fun e w' => e = .returned (.int .i64 D) ∧ ∃ m, w' = w.drewN m := by
  subst hD
  exact (left_any (w.drewN n) R a cap zs k (h.drewN n)).mono fun _ _ ⟨he, m, hm⟩ => ⟨he, _, hm.trans (World.drewN_drewN _ _ _)⟩
def vBool (x : Bool) : Value := .bool x

set_option maxRecDepth 100000 in
set_option maxHeartbeats 1000000 in
theorem flag_any (w : World) (R : Nat) (a : Option Addr) (cap : Nat) (zs : List Int) (k : Nat) (h : Rd w R a cap zs k) :
    Calls Try.prog 91 #[.pointer (some ⟨R, 0, none⟩)] w (Reads cFlag vBool w R a cap zs k) := by
  have h1 := h.s
  have h2 := h.i
  have h3 := h.le
  have h4 := h.cap1
  have h5 := h.cap2
  have hf := h.fz
  have gU := giveUp_any
  unfold gaveUp at gU
  obtain ⟨D, hD⟩ : ∃ D : Int, D = ((zs.length - k : Nat) : Int) := ⟨_, rfl⟩
  have cL := left_quiet w R a cap zs k h D hD
  by_cases hk : k < zs.length
  · have hd : (D == 0) = false := by rw [beq_eq_false_iff_ne]; omega
    obtain ⟨x, rfl, hc⟩ := h.row.cell k hk
    obtain ⟨b0, b1⟩ := h.row.at k hk
    have hdrop : zs.drop k = zs.getD k 0 :: zs.drop (k + 1) := by rw [List.drop_eq_getElem_cons hk, getD_in zs k hk]
    have HG : Hid (cFlag.get (zs.drop k) = if 1 < zs.getD k 0 then none else some (zs.getD k 0 == 1, zs.drop (k + 1))) := by rw [hdrop]; rfl
    have HS : Hid (∀ m, Rd ((w.drewN m).setCell ⟨R, 1, none⟩ (.int .i64 ((k + 1 : Nat) : Int))) R (some x) cap zs (k + 1) ∧ w.grownBy ((w.drewN m).setCell ⟨R, 1, none⟩ (.int .i64 ((k + 1 : Nat) : Int))) (some R)) :=
          fun m => ⟨((h.drewN m).step (k + 1) (by omega)).1, (grown_drewN w m _).trans ((h.drewN m).step (k + 1) (by omega)).2⟩
    have hk' : (k : Int) < (zs.length : Int) := by omega
    generalize zs.getD k 0 = c at *
    clear hD h hdrop
    generalize hL : zs.length = L at *
    clear hL
    by_cases hc1 : 1 < c
    · rw [if_pos hc1] at HG
      go_enter Try.func91, Try.ntmps91
      go_wp2
      go_quiet ((go_at_call 66; exact cL _))
      go_wp2_with (go_at_call 67; refine (gU _).mono ?_; rintro e w1 ⟨rfl, rfl⟩)
      exact ⟨rfl, Or.inr ⟨HG.out, rfl, grown_drewN _ _ _⟩⟩
    · rw [if_neg hc1] at HG
      have hc1' : decide (c > 1) = false := by rw [decide_eq_false_iff_not]; omega
      go_enter Try.func91, Try.ntmps91
      go_wp2
      go_quiet ((go_at_call 66; exact cL _))
      go_wp2
      go_quiet (fail)
      go_wp2
      go_ret
      exact Or.inl ⟨c == 1, k + 1, HG.out, by omega, trivial, rfl, (HS.out _).1, (HS.out _).2⟩
  · have hd : (D == 0) = true := by rw [hD, show zs.length - k = 0 by omega]; rfl
    have HG : Hid (cFlag.get (zs.drop k) = none) := by rw [List.drop_eq_nil_of_le (by omega)]; rfl
    clear hD h
    generalize hL : zs.length = L at *
    clear hL
    go_enter Try.func91, Try.ntmps91
    go_wp2
    go_quiet ((go_at_call 66; exact cL _))
    go_wp2_with (go_at_call 67; refine (gU _).mono ?_; rintro e w1 ⟨rfl, rfl⟩)
    exact ⟨rfl, Or.inr ⟨HG.out, rfl, grown_drewN _ _ _⟩⟩

/- A new block that is written and read: what it holds; the reader stays. -/
theorem Rd.alloc {w : World} {R : Nat} {a : Option Addr} {cap : Nat} {zs : List Int} {k : Nat} (h : Rd w R a cap zs k) (o : Obj) : Rd (w.alloc o) R a cap zs k := h.same ((Below.refl _ _).alloc (Nat.le_refl _) o)
theorem Rd.setRow {w : World} {R : Nat} {a : Option Addr} {cap : Nat} {zs : List Int} {k : Nat} (h : Rd w R a cap zs k) (N : Nat) (cs : Array Value) (hN : N ≠ R) (hx : ∀ x, a = some x → zs.length ≠ 0 → x.block ≠ N) : Rd (w.setRow N cs) R a cap zs k := by
  refine ⟨?_, ?_, ?_, ⟨h.row.len, h.row.small, fun i hi => ?_⟩, h.apart, h.le, h.cap1, h.cap2, h.nil⟩
  · rw [cell_setRow_other _ _ _ _ (fun e => hN e.symm)]; exact h.s
  · rw [cell_setRow_other _ _ _ _ (fun e => hN e.symm)]; exact h.i
  · rw [← h.fz]; unfold World.frozen?; rw [setRow_other _ _ _ _ (fun e => hN e.symm)]
  · obtain ⟨x, hx', hc⟩ := h.row.cell i hi
    refine ⟨x, hx', ?_⟩
    rw [cell_setRow_other _ _ _ _ (by rw [block_add]; exact hx x hx' (by omega))]
    exact hc
theorem heap_kept {w w' : World} {R N : Nat} (hg : w.grownBy w' (some R)) (hN : N < w.heap.size) (hne : N ≠ R) {o : Obj} (h : w.heap[N]? = some o) : w'.heap[N]? = some o := by rw [hg.block N hN (fun e => hne (Option.some.inj e))]; exact h
theorem grown_setRow {w w' : World} {R N : Nat} (hg : w.grownBy w' (some R)) (hN : w.heap.size ≤ N) (cs : Array Value) : w.grownBy (w'.setRow N cs) (some R) :=
  ⟨hg.os, hg.tape, hg.output, by rw [setRow_size]; exact hg.size, fun k hk hne => by rw [setRow_other _ _ _ _ (by omega)]; exact hg.block k hk hne⟩
theorem Rd.out {w : World} {R : Nat} {a : Option Addr} {cap : Nat} {zs : List Int} {k : Nat} (h : Rd w R a cap zs k) : ∀ x, a = some x → zs.length ≠ 0 → x.block < w.heap.size := fun x hx hn => h.row.lt x hx hn
end Go.Proofs.Ythdgpadakmdlkaa.Codec
