/-
  The law DiskFull of package skeplaw03 returns true, without a panic. No condition.
-/
import Derived.Test.YtdhcoffbobegoaaRows
import Derived.WalkKit
import Derived.ProofKit
import Derived.OpenShut
import Derived.ShutString
import Derived.Test.YtdhcoffbobegoaaDiskFacts
namespace Go.Proofs.Ytdhcoffbobegoaa.diskFull
open Go.ChangeShapes Go.WideShapes Go.ChangeAt Go.RowKit
open Go.ChangeMaps (open_string shut_string)
set_option linter.unusedVariables false      -- a walk need not use every 'w<i>' (that an integer argument fits its kind)

theorem own : ownKnob Try.prog.godebug = none := by kernel_rfl

/-! ### STEP 1: THE WALK: the Go text returns true. 'Grown w w'': the world has at most new blocks (Derived/RowKit3.lean). Part the cases AHEAD of 'go_enter' where a test parts the walk; take each callee by a contract of your own. -/
set_option maxHeartbeats 4000000 in
theorem walk  (w : World) :
    Calls Try.prog 6 #[] w fun e w' => e = .returned (.bool true) ∧ Below w.heap.size w w' := by
  obtain ⟨i0, hi, hz0, hz1, hz2⟩ := info_parts Disk.info5
  obtain ⟨N, HN⟩ : ∃ N : Nat, Hid (N = 16777216) := ⟨_, rfl⟩
  have cA := Disk.awake_any w
  have HI : Hid ((16777216 : Int) = (N : Int)) := by rw [HN.out]; exact rfl
  have hsz : ((Disk.readOf (Disk.fu3 N) 0).length : Int) = 16777216 := by
    rw [show (0 : Int) = ((0 : Nat) : Int) from rfl, Disk.read_len _ 0 (by decide), Disk.len_fu3, HN.out]
    rfl
  go_enter Try.func6, Try.ntmps6
  go_wp2_with (first
    | (go_at_call 13; refine (Disk.lone_append_full (h9.alloc _) (by decide) 0 (by decide) _ _ _ _ (Disk.one_row w9 1 (by decide) (by decide)) (fun h => by cases h) (by have := Disk.len_fu5 N HN.out; omega) (by decide)).mono ?_; rintro e w10 ⟨rfl, h10⟩)
    | (go_at_call 13; refine (Disk.lone_append_ok (h8.alloc _) (by decide) 0 (by decide) _ _ _ _ (Disk.one_row w8 1 (by decide) (by decide)) (fun h => by cases h) (by have := Disk.len_fu4 N HN.out; omega)).mono ?_; rintro e w9 ⟨rfl, h9⟩; replace h9 : Disk.Lone w w9 w1.heap.size (Disk.fu5 N) 6 := h9)
    | (go_at_call 20; refine (Disk.lone_cut_ok h7 (by decide) 0 (by decide) 16777215 (by have := Disk.len_fu3 N; have := HN.out; omega)).mono ?_; rintro e w8 ⟨rfl, h8⟩; replace h8 : Disk.Lone w w8 w1.heap.size (Disk.fu4 N) 5 := h8)
    | (go_at_call 21; refine (Disk.lone_size h7 0).mono ?_; rintro e w' ⟨rfl, hw⟩; rw [hw])
    | (go_at_call 13; refine (Disk.lone_append_ok (h6.alloc _) (by decide) 1 (by decide) _ _ _ _ (Disk.one_row w6 1 (by decide) (by decide)) (fun h => by cases h) (by have := Disk.len_fu2' N; omega)).mono ?_; rintro e w7 ⟨rfl, h7⟩; replace h7 : Disk.Lone w w7 w1.heap.size (Disk.fu3 N) 4 := h7)
    | (go_at_call 13; refine (Disk.lone_append_ok h5 (by decide) 0 (by decide) _ _ _ _ (Disk.nil_row w5) (fun h => rfl) (by have := Disk.len_fu1 N; have := HN.out; omega)).mono ?_; rintro e w6 ⟨rfl, h6⟩; replace h6 : Disk.Lone w w6 w1.heap.size (Disk.fu2 N) 3 := h6)
    | (go_at_call 13; refine (Disk.lone_append_full (h4.alloc _) (by decide) 0 (by decide) _ _ _ _ (Disk.one_row w4 1 (by decide) (by decide)) (fun h => by cases h) (by have := Disk.len_fu1 N; have := HN.out; omega) (by decide)).mono ?_; rintro e w5 ⟨rfl, h5⟩)
    | (go_at_call 13; refine (Disk.lone_append_ok (h2.later (Disk.below_of_none hg3)) (by decide) 0 (by decide) _ _ _ _ (Disk.zero_row hown3) (fun h => by cases h) (by have := HN.out; show 0 + N ≤ _; omega)).mono ?_; rintro e w4 ⟨rfl, h4⟩; replace h4 : Disk.Lone w w4 w1.heap.size (Disk.fu1 N) 1 := h4)
    | (at_make; refine wpList_make_full _ rfl _ _ 28 rfl w2.heap.size 5 i0 (.int .u8 0) 1 Try.underlying28 hi hz0 hz1 .i64 .i64 _ _ N rfl rfl HI.out HI.out (by rw [hz2]; have := HN.out; omega) (by unfold maxLen; have := HN.out; omega) (Nat.le_refl _) ?_; intro w3 hown3 hg3)
    | (go_at_call 9; refine (Disk.lone_new w w1 hb1).mono ?_; rintro e w2 ⟨rfl, h2⟩)
    | (go_at_call 8; refine cA.mono ?_; rintro e w1 ⟨rfl, hb1⟩))
  go_ret
  exact ⟨rfl, h10.below⟩

/-! ### THE ROW's STEP: WRITTEN OUT: LEAVE IT -/
set_option maxRecDepth 100000 in
theorem lifted (os : Os) (started : os.Started) (H : Type) (enc : TypeId × Value → H) :
    ReturnsInHanded {} Try.checked os 6 .any (Rows.diskFullSpec.pre6 enc Try.prog Try.f6 Rows.diskFullRow.domain false) (Rows.diskFullSpec.post enc Try.prog Try.f6 false true false false) := by
  refine returnsInHanded_of_change (C := Try.checked) own started (by kernel_rfl) Try.func6
    (ChangeSpec.witness6 (enc := enc) (C := Try.checked) false ⟨#[], #[], []⟩ 8 (by kernel_rfl) (by kernel_rfl) (by kernel_rfl) (by kernel_rfl)) ?_
  intro W base args ds gs before hval0 hW hcnd _
  have hval : ∀ (j : Nat) t v, Try.f6.params[j]? = some t → args[j]? = some v → Value.okWide Try.prog W .any base t v := hval0
  have hW' := hW
  obtain ⟨p, q, hA0, hV, rfl, hfz, hnd⟩ := hW
  have hA : DataW.TrodAll enc Try.prog W 0 (fun _ => true) true Try.f6.params.toList args.toList ds p := hA0
  rw [Try.params6] at hA hval
  obtain ⟨rfl, rfl, rfl⟩ := trodAll_none hA
  obtain ⟨rfl, rfl⟩ := trodVars_none hV
  clear hA0 hval0
  simp only [List.append_nil] at hW'
  refine (walk  W).mono fun e W' ⟨he, bel⟩ => ?_
  subst he
  exact ⟨_, rfl, _, _, _, [], _, [], hW', trodAll_mk1 (shut_bool Try.underlying4 _), trodAll_mk0, rfl, bel.frame _, fun h => by cases h⟩

theorem over : Rows.diskFullRow.holds Try.pinned (OpenSpec.ofChange Rows.diskFullSpec) :=
  OpenClaim.holds_of_wide 6 Try.f6 rfl rfl rfl rfl rfl rfl rfl ⟨rfl, rfl, rfl, rfl, rfl⟩ rfl rfl rfl rfl rfl (by kernel_rfl) Try.func6 (by kernel_rfl)
    (of_decide_eq_true (by kernel_rfl)) (by unfold Func.isWrapper; first | (rw [if_pos (by decide +kernel)]; kernel_rfl) | (rw [if_neg (by decide +kernel)]; exact ⟨rfl, rfl⟩))
    (fun os started H enc _ => lifted os started H enc)

/-- ████ THE STATEMENT ████ -/
theorem proved : Rows.DiskFullSaid :=
  over
#print axioms proved
end Go.Proofs.Ytdhcoffbobegoaa.diskFull
