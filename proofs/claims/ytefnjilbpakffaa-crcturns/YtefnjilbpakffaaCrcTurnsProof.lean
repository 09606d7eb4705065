/-
  For all bytes, every number of type int and every number of type uint32 the law CrcTurns of package skeplaw02 returns true, without a panic, and leaves its arguments as they were. No condition.
-/
import Derived.Test.YtefnjilbpakffaaRows
import Derived.WalkKit
import Derived.ProofKit
import Derived.OpenShut
import Derived.ShutString
import Derived.SizedLaws
import Derived.Test.YtefnjilbpakffaaCrcLater
import Derived.ChangeOld
import Derived.Below
namespace Go.Proofs.Ytefnjilbpakffaa.crcTurns
open Go.ChangeShapes Go.WideShapes Go.ChangeAt Go.RowKit
open Go.ChangeMaps (open_string shut_string)
set_option linter.unusedVariables false

theorem own : ownKnob Try.prog.godebug = none := by kernel_rfl
theorem laidOut : laidOutB Try.prog = true := by kernel_rfl

/-- WHAT THE WALK IS TOLD OF A SLICE OF INTEGERS THAT CAME IN: it is nil; or it leads to a row of 'cap' cells, the numbers 'zs' (the first 'len' are its elements, the rest its spare room), each fitting its kind. -/
def IsRow (k : IntKind) (w : World) (a : Option Addr) (len cap : Nat) (zs : List Int) : Prop :=
  (a = none ∧ len = 0 ∧ cap = 0 ∧ zs = []) ∨
  ∃ x, a = some x ∧ len ≤ cap ∧ cap ≤ 140737488351232 ∧ zs.length = cap ∧ (∀ i, i < zs.length → w.cell? (x.add i) = some (.int k (zs.getD i 0))) ∧ ∀ n ∈ zs, (Lit.int k n).wf = true

/-! ### STEP 1: THE WALK: the Go text returns true, AND WRITES NOTHING THAT WAS THERE: 'Below w.heap.size w w'' (Derived/Below.lean: '.refl', '.alloc', '.drew', '.setCell' at a new block, '.trans'). Open each 'IsRow' by 'rcases' AHEAD of 'go_enter'; part every test ahead of the walk. -/
set_option maxHeartbeats 4000000 in
theorem walk (a0 : Option Addr) (len0 cap0 : Nat) (z0 : List Int) (a1 : Int) (a2 : Int) (w : World) (w0 : IsRow .u8 w a0 len0 cap0 z0) (w1 : (Lit.int .i64 a1).wf = true) (w2 : (Lit.int .u32 a2).wf = true) :
    Calls Try.prog 6 #[.slice a0 len0 cap0, .int .i64 a1, .int .u32 a2] w fun e w' => e = .returned (.bool true) ∧ Below w.heap.size w w' := by
  obtain ⟨hr, hn, hc, hcap, h0⟩ := Crc.row_of w0
  generalize z0.take len0 = zs at hr
  have hl := hr.len
  obtain ⟨row, rfl⟩ := Crc.word_of w2
  by_cases hz : len0 = 0
  · subst hz
    go_enter Try.func6, Try.ntmps6
    go_wp2_with (go_at_call 12; refine (Crc.awake_any _).mono ?_; rintro e w3 ⟨rfl, bel3⟩)
    go_ret
    exact ⟨rfl, bel3⟩
  · have hz1 : ((len0 : Int) == 0) = false := by simpa using hz
    obtain ⟨p0, p1⟩ := Crc.place_bd a1 (8 * len0) (by omega)
    have hpl := fun w => Crc.place_any a1 (8 * len0) w (by omega) (by omega)
    generalize Crc.place a1 (8 * len0) = p at *
    obtain ⟨k, rfl⟩ := Int.eq_ofNat_of_zero_le p0
    have hk : k < 8 * len0 := by omega
    obtain ⟨r0, r1⟩ := Crc.u32_bd row
    go_enter Try.func6, Try.ntmps6
    go_wp2_with (first | (go_at_call 9; refine (Crc.copy_any _ _ _ _ _ hr (by omega) h0).mono ?_; rintro e w3 ⟨a3, c3, rfl, hr3, own3, bel3⟩) | (go_at_call 15; refine (hpl _).mono ?_; rintro e w4 ⟨rfl, rfl⟩))
    obtain ⟨g, rfl⟩ := Crc.own_at own3 hz
    go_loopw [9] (fun t wr => ∃ (i : Nat) (cs : List Int), i ≤ 32 ∧ t = .int .i64 i ∧ Crc.Turned zs cs k i row.toNat ∧ wr.ownsRow w.heap.size 5 1 (.slice (some ⟨g, 0, none⟩) len0 c3) len0 (cs.map (Value.int .u8)) ∧ Below w.heap.size w wr) (fun t _ => 32 - (intOf t).toNat)
    case atStart => exact ⟨0, zs, by omega, rfl, Crc.Turned.start hr.small _ _, own3, bel3⟩
    case round =>
      clear own3 bel3
      obtain ⟨i, cs, hi, rfl, ht, hown, bel⟩ := hrel
      by_cases hgo2 : i < 32 ∧ k + i < 8 * len0
      · obtain ⟨hlt, hlt2⟩ := hgo2
        · have hgo : (k : Int) + (i : Int) < 8 * (len0 : Int) := by omega
          by_cases hb : row.toNat / 2 ^ i % 2 = 1
          · have hb1 := Crc.bit_on row i hb
            have HB : Hid (row.toNat / 2 ^ i % 2 = 1) := hb
            obtain ⟨j, q, e1, e2, e3, hq, hj⟩ := Crc.split_bit k i len0 hlt2
            have hlen := ht.len
            have gx := hown.cellAt j (by omega)
            rw [List.getElem?_map, List.getElem?_eq_getElem (by omega), Option.map_some] at gx
            have gf := hown.frozenAt j
            have HO := hown.stored j
            obtain ⟨v, HV, HT⟩ := Crc.turn_step ht hlt hb e1 hq (by omega)
            have HH : Hid (Crc.Turned zs (cs.set j v) k (i + 1) row.toNat ∧ ∀ u : Value, (wr.setCell ⟨g, j, none⟩ u).ownsRow w.heap.size 5 1 (.slice (some ⟨g, 0, none⟩) len0 c3) len0 ((cs.map (Value.int .u8)).set j u) ∧ wr.grownBy (wr.setCell ⟨g, j, none⟩ u) (some g)) := ⟨HT, HO⟩
            obtain ⟨o0, _⟩ := hown.lt g rfl
            clear hb hpl HO HT hown ht
            generalize Crc.u32 row = rw0 at *
            generalize cs[j] = vc at gx HV
            have HV2 : Hid (bits .xor .u8 vc (2 ^ q % 256) = v) := HV
            clear HV
            go_wp2
            obtain ⟨HT, HO⟩ := HH.out
            obtain ⟨o1, o2⟩ := HO (.int .u8 v)
            rw [HV2.out]
            go_roundw
            case rel => exact ⟨i + 1, cs.set j v, by omega, by go_num, HT, by rw [List.map_set]; exact o1, bel.grown o2 bel.size (by intro q hq; cases hq; exact o0)⟩
            case measure => simp [intOf]; omega
          · have hb1 := Crc.bit_off row i hb
            have HB : Hid (¬ row.toNat / 2 ^ i % 2 = 1) := hb
            clear hb hpl
            generalize Crc.u32 row = rw0 at *
            go_wp2
            go_roundw
            case rel => exact ⟨i + 1, cs, by omega, by go_num, ht.pass (by have := HB.out; omega), hown, bel⟩
            case measure => simp [intOf]; omega
      · have hleave : ¬ (i : Int) < 32 ∨ ((i : Int) < 32 ∧ ¬ (k : Int) + (i : Int) < 8 * (len0 : Int)) := by omega
        clear hgo2
        rcases hleave with hl1 | ⟨hl1, hl2⟩
        all_goals
          obtain ⟨ax, cx, ex, hrx⟩ := Crc.own_row hown ht.small
          cases ex
          have hne := Crc.Later.some wr
          have hrb := hr.after bel
          have cC := fun u : Crc.Later wr => Crc.of_any _ len0 c3 cs u.w (hrx.after u.bel) (by unfold maxLen; omega)
          have cB := fun u : Crc.Later wr => Crc.of_any a0 len0 cap0 zs u.w (hrb.after u.bel) (by unfold maxLen; omega)
          have sC := fun u : Crc.Later wr => Crc.conv_row (hrx.after u.bel) c3
          have sB := fun u : Crc.Later wr => Crc.conv_row (hrb.after u.bel) cap0
          have htold := ht.told hi
          by_cases heq : cs = zs
          · subst heq
            clear htold ht hown hrx hrb hpl hr hl
            generalize Crc.u32 (Crc.more 0#32 cs) = s1 at cC cB
            generalize strOfNums cs = t1 at sC sB
            generalize Crc.u32 row = rw0 at *
            go_wp2
            refine Crc.wp_region_later (W := wr) (by kernel_rfl) (by kernel_rfl) (Below.refl _ _) ?_
            repeat (go_big_quiet_step (first | (go_at_call_of 10 c3; exact Crc.later_same (cC _)) | (go_at_call_of 10 cap0; exact Crc.later_same (cB _)) | (go_at_call 12; exact Crc.later_grown (Crc.awake_any _))))
            refine wpQuiet_nil ?_
            rintro _ ⟨u, rfl⟩
            go_wp2
            go_ret
            exact ⟨rfl, bel.trans (u.bel.mono bel.size)⟩
          · have n1 : ¬ Crc.u32 (Crc.more 0#32 cs) = Crc.u32 (Crc.more 0#32 zs) := fun h => heq (htold.mp (Crc.u32_inj h))
            have n2 : ((strOfNums cs).toList == (strOfNums zs).toList) = false := Crc.str_ne cs zs ht.small hr.small heq
            clear htold ht hown hrx hrb hpl hr hl
            generalize Crc.u32 (Crc.more 0#32 cs) = s1 at cC n1
            generalize Crc.u32 (Crc.more 0#32 zs) = s2 at cB n1
            generalize strOfNums cs = t1 at sC n2
            generalize strOfNums zs = t2 at sB n2
            have n3 : (s1 == s2) = false := by simpa using n1
            generalize Crc.u32 row = rw0 at *
            go_wp2
            refine Crc.wp_region_later (W := wr) (by kernel_rfl) (by kernel_rfl) (Below.refl _ _) ?_
            repeat (go_big_quiet_step (first | (go_at_call_of 10 c3; exact Crc.later_same (cC _)) | (go_at_call_of 10 cap0; exact Crc.later_same (cB _)) | (go_at_call 12; exact Crc.later_grown (Crc.awake_any _))))
            refine wpQuiet_nil ?_
            rintro _ ⟨u, rfl⟩
            go_wp2
            go_ret
            exact ⟨rfl, bel.trans (u.bel.mono bel.size)⟩

/-! ### THE ROW's STEP: WRITTEN OUT: LEAVE IT -/
set_option maxRecDepth 100000 in
theorem lifted (os : Os) (started : os.Started) (H : Type) (enc : TypeId × Value → H) :
    ReturnsInHanded {} Try.checked os 6 .any (Rows.crcTurnsSpec.pre6 enc Try.prog Try.f6 Rows.crcTurnsRow.domain false) (Rows.crcTurnsSpec.post enc Try.prog Try.f6 false true false false) := by
  refine returnsInHanded_of_change_sized (C := Try.checked) own started (by kernel_rfl) Try.func6
    (ChangeSpec.witness6 (enc := enc) (C := Try.checked) false ⟨#[], #[.slice none 0 0, .int .i64 0, .int .u32 0], []⟩ 8 (by kernel_rfl) (by kernel_rfl) (by kernel_rfl) (by kernel_rfl)) ?_
  intro W base args ds gs before hval0 hW hcnd hsz0 _
  have hval : ∀ (j : Nat) t v, Try.f6.params[j]? = some t → args[j]? = some v → Value.okWide Try.prog W .any base t v := hval0
  have hW' := hW
  obtain ⟨p, q, hA0, hV, rfl, hfz, hnd⟩ := hW
  have hA : DataW.TrodAll enc Try.prog W 0 (fun _ => true) true Try.f6.params.toList args.toList ds p := hA0
  have hsz : (DataW.weightsEach Try.prog (Try.f6.params.toList ++ Rows.crcTurnsSpec.plain.varTypes Try.prog) (ds ++ gs)).all (· ≤ reachBytes) = true := hsz0
  clear hsz0
  rw [Try.params6] at hA hval hsz
  obtain ⟨v0, vs0, d0, ds0, p0, q0, hargs, rfl, rfl, h0, r0⟩ := trodAll_cons hA
  obtain ⟨v1, vs1, d1, ds1, p1, q1, rfl, rfl, rfl, h1, r1⟩ := trodAll_cons r0
  obtain ⟨v2, vs2, d2, ds2, p2, q2, rfl, rfl, rfl, h2, r2⟩ := trodAll_cons r1
  obtain ⟨rfl, rfl, rfl⟩ := trodAll_nil r2
  obtain rfl : args = #[v0, v1, v2] := by cases args; simp_all
  obtain ⟨rfl, rfl⟩ := trodVars_none hV
  obtain ⟨a0, len0, cap0, rfl⟩ := okWide_slice Try.underlying22 (hval 0 22 v0 rfl rfl)
  have k0 := h0
  have lt0 : ∀ x ∈ p0, x.block < W.heap.size := by obtain ⟨m, hm⟩ := k0; exact DataW.trod_lt m _ _ _ hm
  obtain ⟨z0, w0⟩ : ∃ zs, IsRow .u8 W a0 len0 cap0 zs := by
    obtain ⟨fuel, hf⟩ := h0
    rcases open_ints Try.underlying22 Try.underlying5 (by kernel_rfl) hf with ⟨hcs, _⟩ | ⟨x, l, c, zs, hcs, _, hl, hm, hz, hd, hcell, hwz⟩
    · simp [Value.cells] at hcs
      obtain ⟨rfl, rfl, rfl⟩ := hcs
      exact ⟨[], .inl ⟨rfl, rfl, rfl, rfl⟩⟩
    · simp [Value.cells] at hcs
      obtain ⟨rfl, rfl, rfl⟩ := hcs
      have hb : cap0 ≤ 140737488351232 := by
        obtain ⟨rfl, rfl⟩ := Prod.mk.inj hd
        have := sized_slice hsz (j := 0) (t := 22) (e := 5) rfl rfl Try.underlying22
        rw [show Try.prog.bytesOf 5 = 1 by kernel_rfl] at this
        simp only [lits, List.length_map, List.length_take, List.length_drop, reachBytes] at this
        have hz' : zs.length = cap0 := by simpa using hz
        omega
      exact ⟨zs, .inr ⟨_, rfl, hl, hb, by simpa using hz, hcell, hwz⟩⟩
  obtain ⟨a1, rfl, rfl, rfl, w1⟩ := open_int Try.underlying3 (hval 1 3 v1 rfl rfl) h1
  obtain ⟨a2, rfl, rfl, rfl, w2⟩ := open_int Try.underlying24 (hval 2 24 v2 rfl rfl) h2
  clear hA0 hval0
  refine (walk a0 len0 cap0 z0 a1 a2 W w0 w1 w2).mono fun e W' ⟨he, bel⟩ => ?_
  subst he
  exact ⟨_, rfl, _, _, _, [], _, [], hW', trodAll_mk1 (shut_bool Try.underlying4 _), (trodAll_cons_mk (Below.trod laidOut (by kernel_rfl) (of_decide_eq_true (by kernel_rfl)) k0 bel lt0) (trodAll_cons_mk (shut_int Try.underlying3 w1) (trodAll_cons_mk (shut_int Try.underlying24 w2) trodAll_mk0))), rfl, bel.frame _, fun h => by cases h⟩

theorem over : Rows.crcTurnsRow.holds Try.pinned (OpenSpec.ofChange Rows.crcTurnsSpec) :=
  OpenClaim.holds_of_wide 6 Try.f6 rfl rfl rfl rfl rfl rfl rfl ⟨rfl, rfl, rfl, rfl, rfl⟩ rfl rfl rfl rfl rfl (by kernel_rfl) Try.func6 (by kernel_rfl)
    (of_decide_eq_true (by kernel_rfl)) (by unfold Func.isWrapper; first | (rw [if_pos (by decide +kernel)]; kernel_rfl) | (rw [if_neg (by decide +kernel)]; exact ⟨rfl, rfl⟩))
    (fun os started H enc _ => lifted os started H enc)

/-- ████ THE STATEMENT ████ -/
theorem proved : Rows.CrcTurnsSaid := over
#print axioms proved
end Go.Proofs.Ytefnjilbpakffaa.crcTurns
