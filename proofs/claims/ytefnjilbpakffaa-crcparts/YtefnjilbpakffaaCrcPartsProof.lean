/-
  For all bytes and every number of type int the law CrcParts of package skeplaw02 returns true, without a panic, and leaves its arguments as they were. No condition.
-/
import Derived.Test.YtefnjilbpakffaaRows
import Derived.WalkKit
import Derived.ProofKit
import Derived.OpenShut
import Derived.ShutString
import Derived.SizedLaws
import Derived.Test.YtefnjilbpakffaaCrcLater
import Derived.ChangeOld
import Derived.Below
namespace Go.Proofs.Ytefnjilbpakffaa.crcParts
open Go.ChangeShapes Go.WideShapes Go.ChangeAt Go.RowKit
open Go.ChangeMaps (open_string shut_string)
set_option linter.unusedVariables false

theorem own : ownKnob Try.prog.godebug = none := by kernel_rfl
theorem laidOut : laidOutB Try.prog = true := by kernel_rfl

/-- WHAT THE WALK IS TOLD OF A SLICE OF INTEGERS THAT CAME IN: it is nil; or it leads to a row of 'cap' cells, the numbers 'zs' (the first 'len' are its elements, the rest its spare room), each fitting its kind. -/
def IsRow (k : IntKind) (w : World) (a : Option Addr) (len cap : Nat) (zs : List Int) : Prop :=
  (a = none ∧ len = 0 ∧ cap = 0 ∧ zs = []) ∨
  ∃ x, a = some x ∧ len ≤ cap ∧ cap ≤ 140737488351232 ∧ zs.length = cap ∧ (∀ i, i < zs.length → w.cell? (x.add i) = some (.int k (zs.getD i 0))) ∧ ∀ n ∈ zs, (Lit.int k n).wf = true

/-! ### STEP 1: THE WALK: the Go text returns true, AND WRITES NOTHING THAT WAS THERE: 'Below w.heap.size w w'' (Derived/Below.lean: '.refl', '.alloc', '.drew', '.setCell' at a new block, '.trans'). Open each 'IsRow' by 'rcases' AHEAD of 'go_enter'; part every test ahead of the walk. -/
set_option maxHeartbeats 4000000 in
theorem walk (a0 : Option Addr) (len0 cap0 : Nat) (z0 : List Int) (a1 : Int) (w : World) (w0 : IsRow .u8 w a0 len0 cap0 z0) (w1 : (Lit.int .i64 a1).wf = true) :
    Calls Try.prog 5 #[.slice a0 len0 cap0, .int .i64 a1] w fun e w' => e = .returned (.bool true) ∧ Below w.heap.size w w' := by
  obtain ⟨hr, hn, hc, hcap, h0⟩ := Crc.row_of w0
  generalize z0.take len0 = zs at hr
  have hl := hr.len
  obtain ⟨p0, p1⟩ := Crc.place_bd a1 (len0 + 1) (by omega)
  have hpl := fun w => Crc.place_any a1 (len0 + 1) w (by omega) (by omega)
  generalize Crc.place a1 (len0 + 1) = p at *
  obtain ⟨k, rfl⟩ := Int.eq_ofNat_of_zero_le p0
  have hk : k ≤ len0 := by omega
  have hne := Crc.Later.some w
  have cOf := fun u : Crc.Later w => Crc.of_any a0 len0 cap0 zs u.w (hr.after u.bel) (by unfold maxLen; omega)
  have cMore := fun u : Crc.Later w => Crc.more_any 0#32 a0 len0 cap0 zs u.w (hr.after u.bel) (by unfold maxLen; omega)
  have e0 : Crc.u32 0#32 = 0 := rfl
  rw [e0] at cMore
  clear e0
  cases a0 with
  | none =>
    obtain ⟨rfl, rfl⟩ := h0 rfl
    obtain rfl : k = 0 := by omega
    obtain rfl : zs = [] := List.eq_nil_of_length_eq_zero hl
    have c2 := fun u : Crc.Later w => Crc.more_any (Crc.more 0#32 []) none 0 0 [] u.w (hr.after u.bel) (by unfold maxLen; omega)
    rw [Crc.more_nil] at c2 cOf cMore
    go_enter Try.func5, Try.ntmps5
    go_wp2_with (go_at_call 15; refine (hpl _).mono ?_; rintro e w2 ⟨rfl, rfl⟩)
    refine Crc.wp_region_later (W := w2) (by kernel_rfl) (by kernel_rfl) (Below.refl _ _) ?_
    repeat (go_big_quiet_step (first | (go_at_call 10; exact Crc.later_same (cOf _)) | (go_at_call 13; exact Crc.later_same (cMore _)) | (go_at_call 13; exact Crc.later_same (c2 _)) | (go_at_call 12; exact Crc.later_grown (Crc.awake_any _))))
    refine wpQuiet_nil ?_
    rintro _ ⟨u, rfl⟩
    go_wp2
    all_goals
      go_ret
      exact ⟨rfl, u.bel⟩
  | some x =>
    have c1 := fun u : Crc.Later w => Crc.of_any (some x) k cap0 (zs.take k) u.w (Crc.Row.head (hr.after u.bel) k hk) (by unfold maxLen; omega)
    have c2 := fun u : Crc.Later w => Crc.more_any (Crc.more 0#32 (zs.take k)) (if cap0 = k then some x else some (x.add k)) (len0 - k) (cap0 - k) (zs.drop k) u.w (Crc.Row.tail (hr.after u.bel) k hk hc) (by unfold maxLen; omega)
    rw [Crc.more_parts] at c2
    go_enter Try.func5, Try.ntmps5
    go_wp2_with (go_at_call 15; refine (hpl _).mono ?_; rintro e w2 ⟨rfl, rfl⟩)
    refine Crc.wp_region_later (W := w2) (by kernel_rfl) (by kernel_rfl) (Below.refl _ _) ?_
    repeat (go_big_quiet_step (first | (go_at_call_of 10 k; exact Crc.later_same (c1 _)) | (go_at_call_of 13 k; exact Crc.later_same (c2 _)) | (go_at_call_of 10 len0; exact Crc.later_same (cOf _)) | (go_at_call_of 13 len0; exact Crc.later_same (cMore _)) | (go_at_call 12; exact Crc.later_grown (Crc.awake_any _))))
    refine wpQuiet_nil ?_
    rintro _ ⟨u, rfl⟩
    go_wp2
    all_goals
      go_ret
      exact ⟨rfl, u.bel⟩

/-! ### THE ROW's STEP: WRITTEN OUT: LEAVE IT -/
set_option maxRecDepth 100000 in
theorem lifted (os : Os) (started : os.Started) (H : Type) (enc : TypeId × Value → H) :
    ReturnsInHanded {} Try.checked os 5 .any (Rows.crcPartsSpec.pre6 enc Try.prog Try.f5 Rows.crcPartsRow.domain false) (Rows.crcPartsSpec.post enc Try.prog Try.f5 false true false false) := by
  refine returnsInHanded_of_change_sized (C := Try.checked) own started (by kernel_rfl) Try.func5
    (ChangeSpec.witness6 (enc := enc) (C := Try.checked) false ⟨#[], #[.slice none 0 0, .int .i64 0], []⟩ 8 (by kernel_rfl) (by kernel_rfl) (by kernel_rfl) (by kernel_rfl)) ?_
  intro W base args ds gs before hval0 hW hcnd hsz0 _
  have hval : ∀ (j : Nat) t v, Try.f5.params[j]? = some t → args[j]? = some v → Value.okWide Try.prog W .any base t v := hval0
  have hW' := hW
  obtain ⟨p, q, hA0, hV, rfl, hfz, hnd⟩ := hW
  have hA : DataW.TrodAll enc Try.prog W 0 (fun _ => true) true Try.f5.params.toList args.toList ds p := hA0
  have hsz : (DataW.weightsEach Try.prog (Try.f5.params.toList ++ Rows.crcPartsSpec.plain.varTypes Try.prog) (ds ++ gs)).all (· ≤ reachBytes) = true := hsz0
  clear hsz0
  rw [Try.params5] at hA hval hsz
  obtain ⟨v0, vs0, d0, ds0, p0, q0, hargs, rfl, rfl, h0, r0⟩ := trodAll_cons hA
  obtain ⟨v1, vs1, d1, ds1, p1, q1, rfl, rfl, rfl, h1, r1⟩ := trodAll_cons r0
  obtain ⟨rfl, rfl, rfl⟩ := trodAll_nil r1
  obtain rfl : args = #[v0, v1] := by cases args; simp_all
  obtain ⟨rfl, rfl⟩ := trodVars_none hV
  obtain ⟨a0, len0, cap0, rfl⟩ := okWide_slice Try.underlying22 (hval 0 22 v0 rfl rfl)
  have k0 := h0
  have lt0 : ∀ x ∈ p0, x.block < W.heap.size := by obtain ⟨m, hm⟩ := k0; exact DataW.trod_lt m _ _ _ hm
  obtain ⟨z0, w0⟩ : ∃ zs, IsRow .u8 W a0 len0 cap0 zs := by
    obtain ⟨fuel, hf⟩ := h0
    rcases open_ints Try.underlying22 Try.underlying5 (by kernel_rfl) hf with ⟨hcs, _⟩ | ⟨x, l, c, zs, hcs, _, hl, hm, hz, hd, hcell, hwz⟩
    · simp [Value.cells] at hcs
      obtain ⟨rfl, rfl, rfl⟩ := hcs
      exact ⟨[], .inl ⟨rfl, rfl, rfl, rfl⟩⟩
    · simp [Value.cells] at hcs
      obtain ⟨rfl, rfl, rfl⟩ := hcs
      have hb : cap0 ≤ 140737488351232 := by
        obtain ⟨rfl, rfl⟩ := Prod.mk.inj hd
        have := sized_slice hsz (j := 0) (t := 22) (e := 5) rfl rfl Try.underlying22
        rw [show Try.prog.bytesOf 5 = 1 by kernel_rfl] at this
        simp only [lits, List.length_map, List.length_take, List.length_drop, reachBytes] at this
        have hz' : zs.length = cap0 := by simpa using hz
        omega
      exact ⟨zs, .inr ⟨_, rfl, hl, hb, by simpa using hz, hcell, hwz⟩⟩
  obtain ⟨a1, rfl, rfl, rfl, w1⟩ := open_int Try.underlying3 (hval 1 3 v1 rfl rfl) h1
  clear hA0 hval0
  refine (walk a0 len0 cap0 z0 a1 W w0 w1).mono fun e W' ⟨he, bel⟩ => ?_
  subst he
  exact ⟨_, rfl, _, _, _, [], _, [], hW', trodAll_mk1 (shut_bool Try.underlying4 _), (trodAll_cons_mk (Below.trod laidOut (by kernel_rfl) (of_decide_eq_true (by kernel_rfl)) k0 bel lt0) (trodAll_cons_mk (shut_int Try.underlying3 w1) trodAll_mk0)), rfl, bel.frame _, fun h => by cases h⟩

theorem over : Rows.crcPartsRow.holds Try.pinned (OpenSpec.ofChange Rows.crcPartsSpec) :=
  OpenClaim.holds_of_wide 5 Try.f5 rfl rfl rfl rfl rfl rfl rfl ⟨rfl, rfl, rfl, rfl, rfl⟩ rfl rfl rfl rfl rfl (by kernel_rfl) Try.func5 (by kernel_rfl)
    (of_decide_eq_true (by kernel_rfl)) (by unfold Func.isWrapper; first | (rw [if_pos (by decide +kernel)]; kernel_rfl) | (rw [if_neg (by decide +kernel)]; exact ⟨rfl, rfl⟩))
    (fun os started H enc _ => lifted os started H enc)

/-- ████ THE STATEMENT ████ -/
theorem proved : Rows.CrcPartsSaid := over
#print axioms proved
end Go.Proofs.Ytefnjilbpakffaa.crcParts
