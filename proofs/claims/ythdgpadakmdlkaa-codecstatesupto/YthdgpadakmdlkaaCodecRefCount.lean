/-
  The chapter's own answer: how many a list has.
-/
import Derived.Test.YthdgpadakmdlkaaCodecRefThing
import Derived.Test.YthdgpadakmdlkaaCodecGetItems
namespace Go.Proofs.Ythdgpadakmdlkaa.Codec
set_option linter.unusedVariables false
set_option linter.unusedSimpArgs false
open Go Go.RowKit

/- What the count of a list comes to. -/
def Counted (zs : List Int) (k : Nat) (bad : Bool) (n k' : Nat) (bad' : Bool) : Prop :=
  (bad = false ∧ bad' = false ∧ cNum.get (zs.drop k) = some ((n : Int), zs.drop k') ∧ k < k' ∧ n ≤ zs.length - k') ∨ (bad' = true ∧ n = 0 ∧ (bad = true ∨ ∀ (α : Type) (c : Cod α), (list c).get (zs.drop k) = none))
set_option maxRecDepth 100000 in
set_option maxHeartbeats 2000000 in
theorem count_one (w : World) (R : Nat) (a : Option Addr) (cap : Nat) (zs : List Int) (k : Nat) (bad : Bool) (h : RR w R a cap zs k bad) :
    Calls Try.prog 49 #[.pointer (some ⟨R, 0, none⟩)] w fun e w' => w.grownBy w' (some R) ∧ ∃ (n k' : Nat) (bad' : Bool), e = .returned (.int .i64 n) ∧ RR w' R a cap zs k' bad' ∧ Counted zs k bad n k' bad' := by
  have cN := rnumber_any w R a cap zs k bad h
  have hmax : zs.length ≤ 9223372036854775807 := Nat.le_trans h.cap1 h.cap2
  clear h
  go_enter Try.func49, Try.ntmps49
  go_upto_region 2 with (go_at_call 27; refine cN.mono ?_; rintro e1 w1 ⟨g1, ⟨x, k1, hb, q1, l1, o1, rfl, r1⟩ | ⟨q1, rfl, k1, r1⟩⟩; all_goals try unfold vInt)
  · have h1 := r1.s
    have h2 := r1.i
    have h3 := r1.b
    have hf := r1.fb
    have hk := r1.le
    have HB : Hid (∀ m, RR ((w1.drewN m).setCell ⟨R, 2, none⟩ (.bool true)) R a cap zs k1 true ∧ w.grownBy ((w1.drewN m).setCell ⟨R, 2, none⟩ (.bool true)) (some R)) := fun m => ⟨(r1.drewN m).bad, (g1.trans (grown_drewN w1 m _)).trans (grown_setCell _ _ _)⟩
    have HR : Hid (∀ m, RR (w1.drewN m) R a cap zs k1 false ∧ w.grownBy (w1.drewN m) (some R)) := fun m => ⟨r1.drewN m, g1.trans (grown_drewN w1 m _)⟩
    have HQ : Hid (cNum.get (zs.drop k) = some (x, zs.drop k1)) := q1
    have HL : Hid ((zs.drop k1).length = zs.length - k1) := List.length_drop
    clear r1 g1 cN q1
    generalize hL : zs.length = L at *
    obtain ⟨o1, o2⟩ := o1
    rcases Int.lt_or_le x 0 with hneg | hpos
    · have hd : decide (x < 0) = true := decide_eq_true hneg
      go_wp2
      go_quiet (fail)
      go_wp2
      go_ret
      exact ⟨(HB.out _).2, 0, k1, true, rfl, (HB.out _).1, Or.inr ⟨rfl, rfl, Or.inr fun α c => list_bad HQ.out (Or.inl hneg)⟩⟩
    · obtain ⟨N, rfl⟩ := Int.eq_ofNat_of_zero_le hpos
      have hd : decide ((N : Int) < 0) = false := decide_eq_false (by omega)
      have hw : IntKind.i64.wrap ((L : Int) - (k1 : Int)) = (L : Int) - (k1 : Int) := by rw [IntKind.wrap_i64]; omega
      by_cases hbig : L - k1 < N
      · have hd2 : decide ((L : Int) - (k1 : Int) < (N : Int)) = true := decide_eq_true (by omega)
        go_wp2
        go_quiet (fail)
        go_wp2
        go_ret
        exact ⟨(HB.out _).2, 0, k1, true, rfl, (HB.out _).1, Or.inr ⟨rfl, rfl, Or.inr fun α c => list_bad HQ.out (Or.inr (by rw [HL.out]; omega))⟩⟩
      · have hd2 : decide ((L : Int) - (k1 : Int) < (N : Int)) = false := decide_eq_false (by omega)
        go_wp2
        go_quiet (fail)
        go_wp2
        go_ret
        exact ⟨(HR.out _).2, N, k1, false, rfl, (HR.out _).1, Or.inl ⟨hb, rfl, HQ.out, l1, by omega⟩⟩
  · have h1 := r1.s
    have h2 := r1.i
    have h3 := r1.b
    have hf := r1.fb
    have hk := r1.le
    have HR : Hid (∀ m, RR (w1.drewN m) R a cap zs k1 true ∧ w.grownBy (w1.drewN m) (some R)) := fun m => ⟨r1.drewN m, g1.trans (grown_drewN w1 m _)⟩
    have HN : Hid (Counted zs k bad 0 k1 true) := by
      refine Or.inr ⟨rfl, rfl, ?_⟩
      rcases q1 with q | q
      · exact Or.inl q
      · exact Or.inr fun α c => list_num_none q
    clear r1 g1 cN q1
    generalize hL : zs.length = L at *
    have hw : IntKind.i64.wrap ((L : Int) - (k1 : Int)) = (L : Int) - (k1 : Int) := by rw [IntKind.wrap_i64]; omega
    have hd2 : decide ((L : Int) - (k1 : Int) < 0) = false := decide_eq_false (by omega)
    go_wp2
    go_quiet (fail)
    go_wp2
    go_ret
    exact ⟨(HR.out _).2, 0, k1, true, rfl, (HR.out _).1, HN.out⟩
end Go.Proofs.Ythdgpadakmdlkaa.Codec
