/-
  The chapter's own answer: its reader (bytes, place, whether all was bad), a number of it.
-/
import Derived.Test.YthdgpadakmdlkaaCodecRefNum
import Derived.Test.YthdgpadakmdlkaaCodecRead
namespace Go.Proofs.Ythdgpadakmdlkaa.Codec
set_option linter.unusedVariables false
set_option linter.unusedSimpArgs false
open Go Go.RowKit

/- The chapter's reader, in block R: the bytes, where it stands, whether all was bad. -/
structure RR (w : World) (R : Nat) (a : Option Addr) (cap : Nat) (zs : List Int) (k : Nat) (bad : Bool) : Prop where
  s : w.cell? ⟨R, 0, none⟩ = some (.slice a zs.length cap)
  i : w.cell? ⟨R, 1, none⟩ = some (.int .i64 k)
  b : w.cell? ⟨R, 2, none⟩ = some (.bool bad)
  fz : w.frozen? ⟨R, 1, none⟩ = false
  fb : w.frozen? ⟨R, 2, none⟩ = false
  row : Row w a zs.length zs
  apart : ∀ x, a = some x → zs.length ≠ 0 → x.block ≠ R
  le : k ≤ zs.length
  cap1 : zs.length ≤ cap
  cap2 : cap ≤ 9223372036854775807
  nil : a = none → cap = 0
theorem RR.lt {w : World} {R : Nat} {a : Option Addr} {cap : Nat} {zs : List Int} {k : Nat} {bad : Bool} (h : RR w R a cap zs k bad) : R < w.heap.size := World.block_lt_of_cell? w _ h.s
theorem RR.same {w w' : World} {R : Nat} {a : Option Addr} {cap : Nat} {zs : List Int} {k : Nat} {bad : Bool} (h : RR w R a cap zs k bad) (hb : Below w.heap.size w w') : RR w' R a cap zs k bad :=
  ⟨(hb.cell (p := ⟨R, 0, none⟩) h.lt).trans h.s, (hb.cell (p := ⟨R, 1, none⟩) h.lt).trans h.i, (hb.cell (p := ⟨R, 2, none⟩) h.lt).trans h.b, (hb.frozen (p := ⟨R, 1, none⟩) h.lt).trans h.fz, (hb.frozen (p := ⟨R, 2, none⟩) h.lt).trans h.fb, h.row.after hb, h.apart, h.le, h.cap1, h.cap2, h.nil⟩
theorem RR.drewN {w : World} {R : Nat} {a : Option Addr} {cap : Nat} {zs : List Int} {k : Nat} {bad : Bool} (h : RR w R a cap zs k bad) (m : Nat) : RR (w.drewN m) R a cap zs k bad := h.same (below_drewN w m)
theorem row_set {w : World} {R j : Nat} {a : Option Addr} {zs : List Int} (v : Value) (h : Row w a zs.length zs) (ap : ∀ x, a = some x → zs.length ≠ 0 → x.block ≠ R) : Row (w.setCell ⟨R, j, none⟩ v) a zs.length zs := by
  refine ⟨h.len, h.small, fun i hi => ?_⟩
  obtain ⟨x, hx, hc⟩ := h.cell i hi
  refine ⟨x, hx, ?_⟩
  rw [World.cell?_setCell_other _ _ _ _ (fun e => ap x hx (by omega) (by rw [← block_add x i, ← e]))]
  exact hc
theorem RR.step {w : World} {R : Nat} {a : Option Addr} {cap : Nat} {zs : List Int} {k : Nat} {bad : Bool} (h : RR w R a cap zs k bad) (k' : Nat) (hk : k' ≤ zs.length) : RR (w.setCell ⟨R, 1, none⟩ (.int .i64 k')) R a cap zs k' bad := by
  refine ⟨?_, ?_, ?_, ?_, ?_, row_set _ h.row h.apart, h.apart, hk, h.cap1, h.cap2, h.nil⟩
  · rw [World.cell?_setCell_other _ _ _ _ (by simp)]; exact h.s
  · exact World.cell?_setCell_same _ _ _ h.i
  · rw [World.cell?_setCell_other _ _ _ _ (by simp)]; exact h.b
  · rw [World.frozen?_setCell]; exact h.fz
  · rw [World.frozen?_setCell]; exact h.fb
theorem RR.bad {w : World} {R : Nat} {a : Option Addr} {cap : Nat} {zs : List Int} {k : Nat} {bad : Bool} (h : RR w R a cap zs k bad) : RR (w.setCell ⟨R, 2, none⟩ (.bool true)) R a cap zs k true := by
  refine ⟨?_, ?_, ?_, ?_, ?_, row_set _ h.row h.apart, h.apart, h.le, h.cap1, h.cap2, h.nil⟩
  · rw [World.cell?_setCell_other _ _ _ _ (by simp)]; exact h.s
  · rw [World.cell?_setCell_other _ _ _ _ (by simp)]; exact h.i
  · exact World.cell?_setCell_same _ _ _ h.b
  · rw [World.frozen?_setCell]; exact h.fz
  · rw [World.frozen?_setCell]; exact h.fb
theorem add64 (t k c : Nat) (h : t + 128 ^ k * c < 18446744073709551616) : IntKind.u64.wrap ((t : Int) + IntKind.u64.wrap ((c : Int) * 2 ^ (7 * k))) = ((t + 128 ^ k * c : Nat) : Int) := by
  have e : IntKind.u64.wrap ((c : Int) * 2 ^ (7 * k)) = ((128 ^ k * c : Nat) : Int) := by
    have e1 : (c : Int) * 2 ^ (7 * k) = ((128 ^ k * c : Nat) : Int) := by rw [pow_bits]; simp [Int.mul_comm]
    rw [e1, IntKind.wrap_u64]
    omega
  rw [e, IntKind.wrap_u64]
  omega

theorem unf_ok (U : Nat) (h : U < 18446744073709551616) : I64 (unf U) := by
  unfold unf I64
  split <;> omega
/- What a call of the chapter's reader comes to. -/
def RReads {α : Type} (c : Cod α) (val : α → Value) (zero : Value) (w : World) (R : Nat) (a : Option Addr) (cap : Nat) (zs : List Int) (k : Nat) (bad : Bool) (e : Ending) (w' : World) : Prop :=
  w.grownBy w' (some R) ∧ ((∃ x k', bad = false ∧ c.get (zs.drop k) = some (x, zs.drop k') ∧ k < k' ∧ c.ok x ∧ e = .returned (val x) ∧ RR w' R a cap zs k' false) ∨
  ((bad = true ∨ c.get (zs.drop k) = none) ∧ e = .returned zero ∧ ∃ k', RR w' R a cap zs k' true))

set_option maxRecDepth 100000 in
set_option maxHeartbeats 1000000 in
theorem rnumber_bad (w : World) (R : Nat) (a : Option Addr) (cap : Nat) (zs : List Int) (k : Nat) (h : RR w R a cap zs k true) :
    Calls Try.prog 27 #[.pointer (some ⟨R, 0, none⟩)] w (RReads cNum vInt (.int .i64 0) w R a cap zs k true) := by
  have h1 := h.s
  have h2 := h.i
  have h3 := h.b
  have hf := h.fb
  have HB : Hid (∀ m, RR ((w.drewN m).setCell ⟨R, 2, none⟩ (.bool true)) R a cap zs k true) := fun m => (h.drewN m).bad
  have HG : Hid (∀ m, w.grownBy ((w.drewN m).setCell ⟨R, 2, none⟩ (.bool true)) (some R)) := fun m => (grown_drewN w m _).trans (grown_setCell _ _ _)
  generalize zs.length = L at h1
  clear h
  go_enter Try.func27, Try.ntmps27
  go_wp2
  go_loopw [3, 4] (fun u' k' wr => u' = .int .u64 0 ∧ k' = .int .i64 0 ∧ wr = w) (fun _ _ _ => 0)
  case atStart => exact ⟨rfl, rfl, rfl⟩
  case round =>
    obtain ⟨rfl, rfl, rfl⟩ := hrel
    go_wp2
    go_quiet (fail)
    go_wp2
    go_ret
    exact ⟨HG.out _, Or.inr ⟨Or.inl rfl, rfl, k, HB.out _⟩⟩

set_option maxRecDepth 100000 in
set_option maxHeartbeats 1000000 in
theorem rnumber_good (w : World) (R : Nat) (a : Option Addr) (cap : Nat) (zs : List Int) (p : Nat) (h : RR w R a cap zs p false) :
    Calls Try.prog 27 #[.pointer (some ⟨R, 0, none⟩)] w (RReads cNum vInt (.int .i64 0) w R a cap zs p false) := by
  have ST : Hid (Now (zs.drop p) 0 0) := Or.inl ⟨by decide, Inv.start _⟩
  have hp := h.le
  have hbs : Bytes zs := h.row.small
  go_enter Try.func27, Try.ntmps27
  go_wp2
  go_loopw [3, 4] (fun u' k' wr => ∃ k acc : Nat, k ≤ 10 ∧ p + k ≤ zs.length ∧ u' = .int .u64 (acc : Nat) ∧ k' = .int .i64 k ∧ acc < 18446744073709551616 ∧ RR wr R a cap zs (p + k) false ∧ w.grownBy wr (some R) ∧ Hid (Now (zs.drop p) k acc)) (fun _ k' _ => 10 - (intOf k').toNat)
  case atStart => exact ⟨0, 0, by omega, by omega, rfl, rfl, by decide, h, World.grownBy.refl _ _, ST⟩
  case round =>
    obtain ⟨k, acc, hk, hpk, rfl, rfl, hacc, hr, hg, HI⟩ := hrel
    clear ST h
    have h1 := hr.s
    have h2 := hr.i
    have h3 := hr.b
    have hf1 := hr.fz
    have hf2 := hr.fb
    by_cases hk10 : k = 10
    · have HN : Hid (cNum.get (zs.drop p) = none) := HI.out.out (Or.inl hk10)
      have HB : Hid (RR (wr.setCell ⟨R, 2, none⟩ (.bool true)) R a cap zs (p + k) true ∧ w.grownBy (wr.setCell ⟨R, 2, none⟩ (.bool true)) (some R)) := ⟨hr.bad, hg.trans (grown_setCell _ _ _)⟩
      have hk' : ¬ k < 10 := by omega
      clear hr hg HI hk10
      go_wp2
      go_ret
      exact ⟨HB.out.2, Or.inr ⟨Or.inr HN.out, rfl, _, HB.out.1⟩⟩
    · have hk' : k < 10 := by omega
      by_cases hend : p + k = zs.length
      · have HN : Hid (cNum.get (zs.drop p) = none) := HI.out.out (Or.inr (by rw [List.length_drop]; omega))
        have HB : Hid (∀ m, RR ((wr.drewN m).setCell ⟨R, 2, none⟩ (.bool true)) R a cap zs (p + k) true ∧ w.grownBy ((wr.drewN m).setCell ⟨R, 2, none⟩ (.bool true)) (some R)) := fun m => ⟨(hr.drewN m).bad, (hg.trans (grown_drewN wr m _)).trans (grown_setCell _ _ _)⟩
        have hd : decide ((zs.length : Int) ≤ ((p + k : Nat) : Int)) = true := by rw [hend]; simp
        clear hr hg HI hk10
        go_wp2
        go_quiet (fail)
        go_wp2
        go_ret
        exact ⟨(HB.out _).2, Or.inr ⟨Or.inr HN.out, rfl, _, (HB.out _).1⟩⟩
      · have hd : decide ((zs.length : Int) ≤ ((p + k : Nat) : Int)) = false := decide_eq_false (by omega)
        obtain ⟨x, rfl, hcell⟩ := hr.row.cell (p + k) (by omega)
        obtain ⟨b0, b1⟩ := hr.row.at (p + k) (by omega)
        have hkl : k < (zs.drop p).length := by rw [List.length_drop]; omega
        have hgd : (zs.drop p).getD k 0 = zs.getD (p + k) 0 := by simp [List.getD_eq_getElem?_getD, List.getElem?_drop]
        have HS : Hid (128 ≤ zs.getD (p + k) 0 → ∀ t' : Nat, (k < 9 → t' = acc + 128 ^ k * (zs.getD (p + k) 0 - 128).toNat) → Now (zs.drop p) (k + 1) t') := by
          rw [← hgd] at b1 ⊢
          exact fun h t' ht => HI.out.step hkl hk' h b1 t' ht
        have HB : Hid (zs.getD (p + k) 0 < 128 → ((0 < k ∧ zs.getD (p + k) 0 = 0) ∨ (k = 9 ∧ 1 < zs.getD (p + k) 0)) → cNum.get (zs.drop p) = none) := by
          rw [← hgd]
          exact fun h1 h2 => (HI.out.inv hk').bad hkl hk' h1 h2
        have HL : Hid (k = 9 → ¬ zs.getD (p + k) 0 < 128 → cNum.get (zs.drop p) = none) := by
          rw [← hgd]
          intro h9 h1
          subst h9
          exact (HI.out.inv hk').last hkl h1
        have HG : Hid (zs.getD (p + k) 0 < 128 → ¬ ((0 < k ∧ zs.getD (p + k) 0 = 0) ∨ (k = 9 ∧ 1 < zs.getD (p + k) 0)) → cNum.get (zs.drop p) = some (unf (acc + 128 ^ k * (zs.getD (p + k) 0).toNat), zs.drop (p + (k + 1)))) := by
          rw [← hgd, ← List.drop_drop]
          exact fun h1 h2 => (HI.out.inv hk').good hkl hk' h1 h2
        have HT : Hid (acc < 128 ^ k) := (HI.out.inv hk').lt
        have HR : Hid (∀ m, RR ((wr.drewN m).setCell ⟨R, 1, none⟩ (.int .i64 ((p : Int) + (k : Int) + 1))) R (some x) cap zs (p + (k + 1)) false ∧ w.grownBy ((wr.drewN m).setCell ⟨R, 1, none⟩ (.int .i64 ((p : Int) + (k : Int) + 1))) (some R)) :=
          fun m => ⟨(hr.drewN m).step (p + k + 1) (by omega), (hg.trans (grown_drewN wr m _)).trans (grown_setCell _ _ _)⟩
        have hap : x.block ≠ R := hr.apart x rfl (by omega)
        have hmax : zs.length ≤ 9223372036854775807 := Nat.le_trans hr.cap1 hr.cap2
        clear HI hgd hr hg hbs
        generalize zs.getD (p + k) 0 = c at *
        by_cases hA : k = 9 ∧ 1 < c
        · obtain ⟨g1, g2⟩ := hA
          have HN : Hid (cNum.get (zs.drop p) = none) := by
            by_cases hc : c < 128
            · exact HB.out hc (Or.inr ⟨g1, g2⟩)
            · exact HL.out g1 hc
          have g4 : ((k : Int) == 9) = true := by rw [g1]; rfl
          clear HB HL HG HS HT g1
          go_wp2
          go_quiet (fail)
          go_wp2
          go_quiet (fail)
          go_wp2
          go_ret
          exact ⟨(HR.out _).2.trans (grown_setCell _ _ _), Or.inr ⟨Or.inr HN.out, rfl, _, (HR.out _).1.bad⟩⟩
        · by_cases hc : c < 128
          · by_cases hz : 0 < k ∧ c = 0
            · have HN : Hid (cNum.get (zs.drop p) = none) := HB.out hc (Or.inl hz)
              obtain ⟨g1, rfl⟩ := hz
              have hsh : IntKind.u64.wrap ((0 : Int) % 128 * 2 ^ (7 * k)) = 0 := by rw [show (0 : Int) % 128 = 0 from rfl, Int.zero_mul]; rfl
              clear HB HL HG HS HT hA
              by_cases g1 : k = 9
              · have g4 : ((k : Int) == 9) = true := by rw [g1]; rfl
                clear g1
                go_wp2
                go_quiet (fail)
                go_wp2
                go_quiet (fail)
                go_wp2
                go_ret
                exact ⟨(HR.out _).2.trans (grown_setCell _ _ _), Or.inr ⟨Or.inr HN.out, rfl, _, (HR.out _).1.bad⟩⟩
              · have g4 : ((k : Int) == 9) = false := by rw [beq_eq_false_iff_ne]; omega
                clear g1
                go_wp2
                go_quiet (fail)
                go_wp2
                go_quiet (fail)
                go_wp2
                go_ret
                exact ⟨(HR.out _).2.trans (grown_setCell _ _ _), Or.inr ⟨Or.inr HN.out, rfl, _, (HR.out _).1.bad⟩⟩
            · have hbad : ¬ ((0 < k ∧ c = 0) ∨ (k = 9 ∧ 1 < c)) := not_or.2 ⟨hz, hA⟩
              have hg := HG.out hc hbad
              obtain ⟨d, rfl⟩ := Int.eq_ofNat_of_zero_le b0
              rw [Int.toNat_natCast] at hg
              have hs : acc + 128 ^ k * d < 18446744073709551616 := by
                have h1 := HT.out
                by_cases h9 : k = 9
                · have hd : d ≤ 1 := by
                    by_cases g : d ≤ 1
                    · exact g
                    · exact absurd (Or.inr ⟨h9, by omega⟩) hbad
                  subst h9
                  have h9 : (128 : Nat) ^ 9 = 9223372036854775808 := by decide
                  rw [h9] at h1 ⊢; omega
                · have hp : 128 ^ k ≤ 128 ^ 8 := Nat.pow_le_pow_right (by decide) (by omega)
                  have h9 : (128 : Nat) ^ 8 = 72057594037927936 := by decide
                  have := Nat.mul_le_mul hp (show d ≤ 127 by omega)
                  omega
              have hm : (d : Int) % 128 = d := by omega
              have ha : IntKind.u64.wrap ((acc : Int) + IntKind.u64.wrap ((d : Int) * 2 ^ (7 * k))) = ((acc + 128 ^ k * d : Nat) : Int) := add64 acc k d hs
              obtain ⟨U, hU⟩ : ∃ U, U = acc + 128 ^ k * d := ⟨_, rfl⟩
              rw [← hU] at ha hg hs
              have HO : Hid (cNum.get (zs.drop p) = some (unf U, zs.drop (p + (k + 1)))) := hg
              have g10 : d = 0 → U = acc := fun h => by rw [hU, h, Nat.mul_zero, Nat.add_zero]
              clear hU HB HL HG HS HT hg hc
              have g5 : k = 9 → d ≤ 1 := fun h => by
                by_cases g : d ≤ 1
                · exact g
                · exact absurd ⟨h, by omega⟩ hA
              have g6 : d = 0 → ¬ 0 < k := fun h1 h2 => hz ⟨h2, by omega⟩
              clear hA hz hbad
              have hok : I64 (unf U) := unf_ok U hs
              by_cases hodd : U % 2 = 1
              · have hq : ((U : Int) % 2 == 1) = true := by rw [beq_iff_eq]; omega
                have H : Hid (-((U : Int) / 2) - 1 = unf U) := by
                  unfold unf
                  rw [if_pos hodd]
                  show -((U : Int) / 2) - 1 = _
                  omega
                clear hodd
                by_cases g1 : k = 9
                · have g4 : ((k : Int) == 9) = true := by rw [g1]; rfl
                  have g7 := g5 g1
                  have g8 : ((d : Int) == 0) = false := by rw [beq_eq_false_iff_ne]; intro e; exact g6 (by omega) (by omega)
                  clear g1 g5 g6 g10
                  go_wp2
                  go_quiet (fail)
                  go_wp2
                  go_quiet (fail)
                  go_wp2
                  go_ret
                  exact ⟨(HR.out _).2, Or.inl ⟨unf U, p + (k + 1), rfl, HO.out, by omega, hok, ret_int H.out, (HR.out _).1⟩⟩
                · have g4 : ((k : Int) == 9) = false := by rw [beq_eq_false_iff_ne]; omega
                  by_cases g9 : d = 0
                  · subst g9
                    have g7 := g6 rfl
                    obtain rfl := g10 rfl
                    clear g1 g5 g6 g10 ha
                    go_wp2
                    go_quiet (fail)
                    go_wp2
                    go_quiet (fail)
                    go_wp2
                    go_ret
                    exact ⟨(HR.out _).2, Or.inl ⟨unf U, p + (k + 1), rfl, HO.out, by omega, hok, ret_int H.out, (HR.out _).1⟩⟩
                  · have g8 : ((d : Int) == 0) = false := by rw [beq_eq_false_iff_ne]; omega
                    clear g1 g5 g6 g10
                    go_wp2
                    go_quiet (fail)
                    go_wp2
                    go_quiet (fail)
                    go_wp2
                    go_ret
                    exact ⟨(HR.out _).2, Or.inl ⟨unf U, p + (k + 1), rfl, HO.out, by omega, hok, ret_int H.out, (HR.out _).1⟩⟩
              · have hq : ((U : Int) % 2 == 1) = false := by rw [beq_eq_false_iff_ne]; omega
                have H : Hid ((U : Int) / 2 = unf U) := by
                  unfold unf
                  rw [if_neg hodd]
                  show (U : Int) / 2 = _
                  omega
                clear hodd
                by_cases g1 : k = 9
                · have g4 : ((k : Int) == 9) = true := by rw [g1]; rfl
                  have g7 := g5 g1
                  have g8 : ((d : Int) == 0) = false := by rw [beq_eq_false_iff_ne]; intro e; exact g6 (by omega) (by omega)
                  clear g1 g5 g6 g10
                  go_wp2
                  go_quiet (fail)
                  go_wp2
                  go_quiet (fail)
                  go_wp2
                  go_ret
                  exact ⟨(HR.out _).2, Or.inl ⟨unf U, p + (k + 1), rfl, HO.out, by omega, hok, ret_int H.out, (HR.out _).1⟩⟩
                · have g4 : ((k : Int) == 9) = false := by rw [beq_eq_false_iff_ne]; omega
                  by_cases g9 : d = 0
                  · subst g9
                    have g7 := g6 rfl
                    obtain rfl := g10 rfl
                    clear g1 g5 g6 g10 ha
                    go_wp2
                    go_quiet (fail)
                    go_wp2
                    go_quiet (fail)
                    go_wp2
                    go_ret
                    exact ⟨(HR.out _).2, Or.inl ⟨unf U, p + (k + 1), rfl, HO.out, by omega, hok, ret_int H.out, (HR.out _).1⟩⟩
                  · have g8 : ((d : Int) == 0) = false := by rw [beq_eq_false_iff_ne]; omega
                    clear g1 g5 g6 g10
                    go_wp2
                    go_quiet (fail)
                    go_wp2
                    go_quiet (fail)
                    go_wp2
                    go_ret
                    exact ⟨(HR.out _).2, Or.inl ⟨unf U, p + (k + 1), rfl, HO.out, by omega, hok, ret_int H.out, (HR.out _).1⟩⟩
          · have h9 : k < 9 := by
              by_cases g : k = 9
              · exact absurd ⟨g, by omega⟩ hA
              · omega
            obtain ⟨d, hd⟩ := Int.eq_ofNat_of_zero_le (show 0 ≤ c - 128 by omega)
            have hs : acc + 128 ^ k * d < 18446744073709551616 := by
              have h1 := HT.out
              have hp : 128 ^ k ≤ 128 ^ 8 := Nat.pow_le_pow_right (by decide) (by omega)
              have h9 : (128 : Nat) ^ 8 = 72057594037927936 := by decide
              have := Nat.mul_le_mul hp (show d ≤ 127 by omega)
              omega
            have hm : c % 128 = (d : Int) := by omega
            have ha : IntKind.u64.wrap ((acc : Int) + IntKind.u64.wrap ((d : Int) * 2 ^ (7 * k))) = ((acc + 128 ^ k * d : Nat) : Int) := add64 acc k d hs
            obtain ⟨U, hU⟩ : ∃ U, U = acc + 128 ^ k * d := ⟨_, rfl⟩
            have HN : Hid (Now (zs.drop p) (k + 1) U) := HS.out (by omega) U (fun _ => by rw [hU, hd, Int.toNat_natCast])
            rw [← hU] at ha hs
            have g4 : ((k : Int) == 9) = false := by rw [beq_eq_false_iff_ne]; omega
            clear hU hd HB HL HG HS HT hA
            go_wp2
            go_quiet (fail)
            go_wp2
            go_quiet (fail)
            go_wp2
            go_roundw
            case rel => exact ⟨k + 1, U, by omega, by omega, rfl, by go_num, hs, (HR.out _).1, (HR.out _).2, HN⟩
            case measure => simp [intOf]; omega
theorem rnumber_any (w : World) (R : Nat) (a : Option Addr) (cap : Nat) (zs : List Int) (k : Nat) (bad : Bool) (h : RR w R a cap zs k bad) :
    Calls Try.prog 27 #[.pointer (some ⟨R, 0, none⟩)] w (RReads cNum vInt (.int .i64 0) w R a cap zs k bad) := by
  cases bad with
  | true => exact rnumber_bad w R a cap zs k h
  | false => exact rnumber_good w R a cap zs k h
end Go.Proofs.Ythdgpadakmdlkaa.Codec
