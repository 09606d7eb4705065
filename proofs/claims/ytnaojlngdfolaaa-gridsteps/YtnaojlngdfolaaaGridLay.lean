/-
  How a grid is laid: blocked cells, ports, homes.
-/
import Derived.Test.YtnaojlngdfolaaaGridLists
namespace Go.Proofs.Ytnaojlngdfolaaa.Grid
set_option linter.unusedVariables false
set_option linter.unusedSimpArgs false
open Go Go.RowKit

theorem grow_trans {w w1 w2 : World} {u : Nat} (h : w.grownBy w1 (some u)) (h1 : w1.grownBy w2 (some u)) : w.grownBy w2 (some u) := h.trans h1
theorem grow_alloc (w : World) (u : Nat) (o : Obj) : w.grownBy (w.alloc o) (some u) := World.grownBy_alloc _ _ _
theorem ListAt.grow {α : Type} {S S' : Nat} {El : (Nat → Prop) → α → Array Value → World → Prop} (hE : Held El S') {F : Nat → Prop} {xs : List α} {v : Value} {w w' : World} {u : Nat} (h : ListAt S El F xs v w) (hF : ∀ g, F g → g < w.heap.size ∧ g ≠ u) (hb : w.grownBy w' (some u)) : ListAt S El F xs v w' :=
  h.stable hE fun g hg => hb.block g (hF g hg).1 fun e => (hF g hg).2 (Option.some.inj e)
theorem drop_item {α : Type} (l : List α) {k : Nat} (hk : k < l.length) : l.drop k = l[k] :: l.drop (k + 1) := List.drop_eq_getElem_cons hk

set_option maxRecDepth 100000 in
set_option maxHeartbeats 2000000 in
theorem block_any (g u : Nat) (W H : Int) (us : List Int) (vp : Value) (F : Nat → Prop) (l : List Cell) (v : Value) (w : World) (hG : GridAt w g u W H us vp) (hL : ListAt 2 cellEl F l v w) (hF : ∀ b, F b → b < w.heap.size ∧ b ≠ u) (hm : l.length ≤ 9223372036854775807) :
    Calls Try.prog 65 #[.pointer (some ⟨g, 0, none⟩), v] w fun e w' => w.grownBy w' (some u) ∧
      ((∃ us', takeAll W H 1 us l = some us' ∧ e = .returned (.bool true) ∧ GridAt w' g u W H us' vp) ∨ (takeAll W H 1 us l = none ∧ e = .returned (.bool false))) := by
  obtain ⟨a, cap, hv, h0⟩ := hL.form
  subst hv
  obtain ⟨R, hR⟩ : ∃ R, takeAll W H 1 us l = R := ⟨_, rfl⟩
  rw [hR]
  obtain ⟨n, hN⟩ : ∃ n, l.length = n := ⟨_, rfl⟩
  have HN : Hid (l.length = n) := hN
  rw [hN] at hm ⊢
  have HR : Hid (takeAll W H 1 us (l.drop 0) = R) := hR
  clear hN hR
  go_enter Try.func65, Try.ntmps65
  go_wp2
  go_loopw [9] (fun i wr => ∃ (k : Nat) (us1 : List Int), k ≤ n ∧ i = .int .i64 k ∧ GridAt wr g u W H us1 vp ∧ w.grownBy wr (some u) ∧ Hid (takeAll W H 1 us1 (l.drop k) = R)) (fun i _ => n - (intOf i).toNat)
  case atStart => exact ⟨0, us, Nat.zero_le _, rfl, hG, World.grownBy.refl _ _, HR⟩
  case round =>
    obtain ⟨k, us1, hk, rfl, G1, gr, HK⟩ := hrel
    by_cases hlt : k < n
    · have hlt' : k < l.length := by rw [HN.out]; exact hlt
      have HD : Hid (l.drop k = l[k]'hlt' :: l.drop (k + 1)) := drop_item l hlt'
      obtain ⟨p, cs, cap', hv, hpF, hcs, hrd⟩ := (hL.grow heldCell hF gr).item hlt'
      generalize l[k]'hlt' = xy at *
      obtain ⟨x, y⟩ := xy
      have hcs' : cs = #[.int .i64 x, .int .i64 y] := hcs
      subst hcs'
      obtain ⟨rfl, rfl⟩ : a = some p ∧ cap = cap' := by cases hv; exact ⟨rfl, rfl⟩
      have cT := fun o => take_any g u W H us1 vp x y (wr.alloc o) (G1.alloc o) 1 (by decide)
      clear hv hcs
      go_wp2_with (first
        | (refine wpList_load_at rfl 28 (.tmp 11) rfl (p.add (k * 2)) rfl #[.int .i64 x, .int .i64 y] hrd (aggCell _) info_cell ?_)
        | (go_at_call 122; refine (cT _).mono ?_; rintro e w1 ⟨g1, ⟨us2, t2, rfl, G2⟩ | ⟨t2, rfl, G2⟩⟩))
      · go_roundw
        case rel =>
          refine ⟨k + 1, us2, by omega, by go_num, G2, grow_trans gr (grow_trans (grow_alloc _ _ _) g1), ?_⟩
          have := HK.out
          rw [HD.out] at this
          unfold takeAll at this
          rw [t2, Option.bind_some] at this
          exact this
        case measure => simp [intOf]; omega
      · go_ret
        refine ⟨grow_trans gr (grow_trans (grow_alloc _ _ _) g1), Or.inr ⟨?_, rfl⟩⟩
        have := HK.out
        rw [HD.out] at this
        unfold takeAll at this
        rw [t2, Option.bind_none] at this
        exact this.symm
    · obtain rfl : k = n := by omega
      have hK := HK.out
      rw [List.drop_eq_nil_of_le (by rw [HN.out]; omega)] at hK
      clear HK
      have HK2 : Hid (R = some us1) := hK.symm
      clear hK
      go_wp2
      go_ret
      exact ⟨gr, Or.inl ⟨us1, HK2.out, rfl, G1⟩⟩
end Go.Proofs.Ytnaojlngdfolaaa.Grid
