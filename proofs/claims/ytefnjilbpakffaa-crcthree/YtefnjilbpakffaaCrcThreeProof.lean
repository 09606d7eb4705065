/-
  For all bytes, three times, the law CrcThree of package skeplaw02 returns true, without a panic, and leaves its arguments as they were. No condition.
-/
import Derived.Test.YtefnjilbpakffaaRows
import Derived.WalkKit
import Derived.ProofKit
import Derived.OpenShut
import Derived.ShutString
import Derived.SizedLaws
import Derived.Test.YtefnjilbpakffaaCrcLater
import Derived.ChangeOld
import Derived.Below
namespace Go.Proofs.Ytefnjilbpakffaa.crcThree
open Go.ChangeShapes Go.WideShapes Go.ChangeAt Go.RowKit
open Go.ChangeMaps (open_string shut_string)
set_option linter.unusedVariables false

theorem own : ownKnob Try.prog.godebug = none := by kernel_rfl
theorem laidOut : laidOutB Try.prog = true := by kernel_rfl

/-- WHAT THE WALK IS TOLD OF A SLICE OF INTEGERS THAT CAME IN: it is nil; or it leads to a row of 'cap' cells, the numbers 'zs' (the first 'len' are its elements, the rest its spare room), each fitting its kind. -/
def IsRow (k : IntKind) (w : World) (a : Option Addr) (len cap : Nat) (zs : List Int) : Prop :=
  (a = none ∧ len = 0 ∧ cap = 0 ∧ zs = []) ∨
  ∃ x, a = some x ∧ len ≤ cap ∧ cap ≤ 140737488351232 ∧ zs.length = cap ∧ (∀ i, i < zs.length → w.cell? (x.add i) = some (.int k (zs.getD i 0))) ∧ ∀ n ∈ zs, (Lit.int k n).wf = true

/-! ### STEP 1: THE WALK: the Go text returns true, AND WRITES NOTHING THAT WAS THERE: 'Below w.heap.size w w'' (Derived/Below.lean: '.refl', '.alloc', '.drew', '.setCell' at a new block, '.trans'). Open each 'IsRow' by 'rcases' AHEAD of 'go_enter'; part every test ahead of the walk. -/
set_option maxHeartbeats 4000000 in
theorem walk (a0 : Option Addr) (len0 cap0 : Nat) (z0 : List Int) (a1 : Option Addr) (len1 cap1 : Nat) (z1 : List Int) (a2 : Option Addr) (len2 cap2 : Nat) (z2 : List Int) (w : World) (w0 : IsRow .u8 w a0 len0 cap0 z0) (w1 : IsRow .u8 w a1 len1 cap1 z1) (w2 : IsRow .u8 w a2 len2 cap2 z2) :
    Calls Try.prog 8 #[.slice a0 len0 cap0, .slice a1 len1 cap1, .slice a2 len2 cap2] w fun e w' => e = .returned (.bool true) ∧ Below w.heap.size w w' := by
  obtain ⟨hr0, hn0, hc0, hcap0, h00⟩ := Crc.row_of w0
  obtain ⟨hr1, hn1, hc1, hcap1, h01⟩ := Crc.row_of w1
  obtain ⟨hr2, hn2, hc2, hcap2, h02⟩ := Crc.row_of w2
  generalize z0.take len0 = xa at hr0
  generalize z1.take len1 = xb at hr1
  generalize z2.take len2 = xc at hr2
  obtain ⟨n, m0, m1, m2, hmin⟩ := Crc.min3_any len0 len1 len2
  obtain ⟨i0, hi, hz0, hz1, hz2⟩ := info_parts Crc.info5
  go_enter Try.func8, Try.ntmps8
  go_wp2_with (at_make; refine wpList_make_full _ rfl _ _ 22 rfl w.heap.size 5 i0 (.int .u8 0) 1 Try.underlying22 hi hz0 hz1 .i64 .i64 _ _ n rfl rfl rfl rfl (by rw [hz2]; omega) (by unfold maxLen; omega) (Nat.le_refl _) ?_; intro w3 hown hgrow)
  have hown0 := Crc.own_zero hown
  have bel0 : Below w.heap.size w w3 := (Below.refl _ _).grown hgrow (Nat.le_refl _) (by intro k hk; cases hk)
  clear hown hgrow
  go_loopw [9] (fun i wr => ∃ (k : Nat) (ys : List Int), k ≤ n ∧ i = .int .i64 k ∧ ys.length = n ∧ (∀ y ∈ ys, 0 ≤ y ∧ y < 256) ∧ (∀ j, j < k → (ys.getD j 0).toNat = ((xa.getD j 0).toNat ^^^ (xb.getD j 0).toNat) ^^^ (xc.getD j 0).toNat) ∧ wr.ownsRow w.heap.size 5 1 (.slice (some ⟨w.heap.size, 0, none⟩) n n) n (ys.map (Value.int .u8)) ∧ Below w.heap.size w wr) (fun i _ => n - (intOf i).toNat)
  case atStart => exact ⟨0, List.replicate n 0, by omega, rfl, by simp, by intro y hy; rw [List.eq_of_mem_replicate hy]; omega, by intro j hj; omega, hown0, bel0⟩
  case round =>
    clear hown0 bel0
    obtain ⟨k, ys, hk, rfl, hyl, hys, hmix, hown, bel⟩ := hrel
    by_cases hlt : k < n
    · obtain ⟨x0, rfl, g0⟩ := (hr0.after bel).cell k (by omega)
      obtain ⟨x1, rfl, g1⟩ := (hr1.after bel).cell k (by omega)
      obtain ⟨x2, rfl, g2⟩ := (hr2.after bel).cell k (by omega)
      obtain ⟨l0, u0⟩ := hr0.at k (by omega)
      obtain ⟨l1, u1⟩ := hr1.at k (by omega)
      obtain ⟨l2, u2⟩ := hr2.at k (by omega)
      obtain ⟨v, HV, HL, HS, HX⟩ := Crc.mix_step xa xb xc ys k n hlt hyl hys hmix l0 u0 l1 u1 l2 u2
      have gx := hown.cellAt k (by omega)
      rw [List.getElem?_map, List.getElem?_eq_getElem (by omega), Option.map_some] at gx
      have gf := hown.frozenAt k
      have t0 : (k : Int) < (len0 : Int) := by omega
      have t1 : (k : Int) < (len1 : Int) := by omega
      have t2 : (k : Int) < (len2 : Int) := by omega
      have t3 : (k : Int) < (n : Int) := by omega
      have HO := hown.stored k
      clear hown hmix hys hr0 hr1 hr2 w0 w1 w2
      generalize xa.getD k 0 = va at g0 l0 u0 HV
      generalize xb.getD k 0 = vb at g1 l1 u1 HV
      generalize xc.getD k 0 = vc at g2 l2 u2 HV
      generalize ys[k] = vy at gx
      have HH : Hid ((∀ y ∈ ys.set k v, 0 ≤ y ∧ y < 256) ∧ (∀ j, j < k + 1 → ((ys.set k v).getD j 0).toNat = ((xa.getD j 0).toNat ^^^ (xb.getD j 0).toNat) ^^^ (xc.getD j 0).toNat) ∧ ∀ u : Value, (wr.setCell ⟨w.heap.size, k, none⟩ u).ownsRow w.heap.size 5 1 (.slice (some ⟨w.heap.size, 0, none⟩) n n) n ((ys.map (Value.int .u8)).set k u) ∧ wr.grownBy (wr.setCell ⟨w.heap.size, k, none⟩ u) (some w.heap.size)) := ⟨HS, HX, HO⟩
      clear HS HX HO
      go_wp2
      go_region
      go_wp2
      obtain ⟨HS, HX, HO⟩ := HH.out
      obtain ⟨o1, o2⟩ := HO (.int .u8 v)
      rw [HV.out]
      go_roundw
      case rel => exact ⟨k + 1, ys.set k v, by omega, by go_num, HL, HS, HX, by rw [List.map_set]; exact o1.drew, (bel.grown o2 bel.size (by intro q hq; cases hq; exact Nat.le_refl _)).drew⟩
      case measure => simp [intOf]; omega
    · obtain rfl : k = n := by omega
      obtain ⟨ax, cx, ex, hrx⟩ := Crc.own_row hown hys
      cases ex
      have hne := Crc.Later.some wr
      have cA := fun u : Crc.Later wr => Crc.of_any a0 k cap0 (xa.take k) u.w (((hr0.after bel).after u.bel).head k m0) (by unfold maxLen; omega)
      have cB := fun u : Crc.Later wr => Crc.of_any a1 k cap1 (xb.take k) u.w (((hr1.after bel).after u.bel).head k m1) (by unfold maxLen; omega)
      have cC := fun u : Crc.Later wr => Crc.of_any a2 k cap2 (xc.take k) u.w (((hr2.after bel).after u.bel).head k m2) (by unfold maxLen; omega)
      have cX := fun u : Crc.Later wr => Crc.of_any _ k k ys u.w (hrx.after u.bel) (by unfold maxLen; omega)
      have hsum : (bits .xor .u32 (bits .xor .u32 (Crc.u32 (Crc.more 0#32 (xa.take k))) (Crc.u32 (Crc.more 0#32 (xb.take k)))) (Crc.u32 (Crc.more 0#32 (xc.take k))) == Crc.u32 (Crc.more 0#32 ys)) = true := Crc.three_eq xa xb xc ys k (by rw [hr0.len]; exact m0) (by rw [hr1.len]; exact m1) (by rw [hr2.len]; exact m2) hyl hmix
      clear hown hys hmix hr0 hr1 hr2 w0 w1 w2 hrx
      generalize Crc.u32 (Crc.more 0#32 (xa.take k)) = sa at cA hsum
      generalize Crc.u32 (Crc.more 0#32 (xb.take k)) = sb at cB hsum
      generalize Crc.u32 (Crc.more 0#32 (xc.take k)) = sc at cC hsum
      generalize Crc.u32 (Crc.more 0#32 ys) = sx at cX hsum
      go_wp2
      refine Crc.wp_region_later (W := wr) (by kernel_rfl) (by kernel_rfl) (Below.refl _ _) ?_
      repeat (go_big_quiet_step (first | (go_at_call_of 10 cap0; exact Crc.later_same (cA _)) | (go_at_call_of 10 cap1; exact Crc.later_same (cB _)) | (go_at_call_of 10 cap2; exact Crc.later_same (cC _)) | (go_at_call 10; exact Crc.later_same (cX _)) | (go_at_call 12; exact Crc.later_grown (Crc.awake_any _))))
      refine wpQuiet_nil ?_
      rintro _ ⟨u, rfl⟩
      go_wp2
      go_ret
      exact ⟨rfl, bel.trans (u.bel.mono bel.size)⟩

/-! ### THE ROW's STEP: WRITTEN OUT: LEAVE IT -/
set_option maxRecDepth 100000 in
theorem lifted (os : Os) (started : os.Started) (H : Type) (enc : TypeId × Value → H) :
    ReturnsInHanded {} Try.checked os 8 .any (Rows.crcThreeSpec.pre6 enc Try.prog Try.f8 Rows.crcThreeRow.domain false) (Rows.crcThreeSpec.post enc Try.prog Try.f8 false true false false) := by
  refine returnsInHanded_of_change_sized (C := Try.checked) own started (by kernel_rfl) Try.func8
    (ChangeSpec.witness6 (enc := enc) (C := Try.checked) false ⟨#[], #[.slice none 0 0, .slice none 0 0, .slice none 0 0], []⟩ 8 (by kernel_rfl) (by kernel_rfl) (by kernel_rfl) (by kernel_rfl)) ?_
  intro W base args ds gs before hval0 hW hcnd hsz0 _
  have hval : ∀ (j : Nat) t v, Try.f8.params[j]? = some t → args[j]? = some v → Value.okWide Try.prog W .any base t v := hval0
  have hW' := hW
  obtain ⟨p, q, hA0, hV, rfl, hfz, hnd⟩ := hW
  have hA : DataW.TrodAll enc Try.prog W 0 (fun _ => true) true Try.f8.params.toList args.toList ds p := hA0
  have hsz : (DataW.weightsEach Try.prog (Try.f8.params.toList ++ Rows.crcThreeSpec.plain.varTypes Try.prog) (ds ++ gs)).all (· ≤ reachBytes) = true := hsz0
  clear hsz0
  rw [Try.params8] at hA hval hsz
  obtain ⟨v0, vs0, d0, ds0, p0, q0, hargs, rfl, rfl, h0, r0⟩ := trodAll_cons hA
  obtain ⟨v1, vs1, d1, ds1, p1, q1, rfl, rfl, rfl, h1, r1⟩ := trodAll_cons r0
  obtain ⟨v2, vs2, d2, ds2, p2, q2, rfl, rfl, rfl, h2, r2⟩ := trodAll_cons r1
  obtain ⟨rfl, rfl, rfl⟩ := trodAll_nil r2
  obtain rfl : args = #[v0, v1, v2] := by cases args; simp_all
  obtain ⟨rfl, rfl⟩ := trodVars_none hV
  obtain ⟨a0, len0, cap0, rfl⟩ := okWide_slice Try.underlying22 (hval 0 22 v0 rfl rfl)
  have k0 := h0
  have lt0 : ∀ x ∈ p0, x.block < W.heap.size := by obtain ⟨m, hm⟩ := k0; exact DataW.trod_lt m _ _ _ hm
  obtain ⟨z0, w0⟩ : ∃ zs, IsRow .u8 W a0 len0 cap0 zs := by
    obtain ⟨fuel, hf⟩ := h0
    rcases open_ints Try.underlying22 Try.underlying5 (by kernel_rfl) hf with ⟨hcs, _⟩ | ⟨x, l, c, zs, hcs, _, hl, hm, hz, hd, hcell, hwz⟩
    · simp [Value.cells] at hcs
      obtain ⟨rfl, rfl, rfl⟩ := hcs
      exact ⟨[], .inl ⟨rfl, rfl, rfl, rfl⟩⟩
    · simp [Value.cells] at hcs
      obtain ⟨rfl, rfl, rfl⟩ := hcs
      have hb : cap0 ≤ 140737488351232 := by
        obtain ⟨rfl, rfl⟩ := Prod.mk.inj hd
        have := sized_slice hsz (j := 0) (t := 22) (e := 5) rfl rfl Try.underlying22
        rw [show Try.prog.bytesOf 5 = 1 by kernel_rfl] at this
        simp only [lits, List.length_map, List.length_take, List.length_drop, reachBytes] at this
        have hz' : zs.length = cap0 := by simpa using hz
        omega
      exact ⟨zs, .inr ⟨_, rfl, hl, hb, by simpa using hz, hcell, hwz⟩⟩
  obtain ⟨a1, len1, cap1, rfl⟩ := okWide_slice Try.underlying22 (hval 1 22 v1 rfl rfl)
  have k1 := h1
  have lt1 : ∀ x ∈ p1, x.block < W.heap.size := by obtain ⟨m, hm⟩ := k1; exact DataW.trod_lt m _ _ _ hm
  obtain ⟨z1, w1⟩ : ∃ zs, IsRow .u8 W a1 len1 cap1 zs := by
    obtain ⟨fuel, hf⟩ := h1
    rcases open_ints Try.underlying22 Try.underlying5 (by kernel_rfl) hf with ⟨hcs, _⟩ | ⟨x, l, c, zs, hcs, _, hl, hm, hz, hd, hcell, hwz⟩
    · simp [Value.cells] at hcs
      obtain ⟨rfl, rfl, rfl⟩ := hcs
      exact ⟨[], .inl ⟨rfl, rfl, rfl, rfl⟩⟩
    · simp [Value.cells] at hcs
      obtain ⟨rfl, rfl, rfl⟩ := hcs
      have hb : cap1 ≤ 140737488351232 := by
        obtain ⟨rfl, rfl⟩ := Prod.mk.inj hd
        have := sized_slice hsz (j := 1) (t := 22) (e := 5) rfl rfl Try.underlying22
        rw [show Try.prog.bytesOf 5 = 1 by kernel_rfl] at this
        simp only [lits, List.length_map, List.length_take, List.length_drop, reachBytes] at this
        have hz' : zs.length = cap1 := by simpa using hz
        omega
      exact ⟨zs, .inr ⟨_, rfl, hl, hb, by simpa using hz, hcell, hwz⟩⟩
  obtain ⟨a2, len2, cap2, rfl⟩ := okWide_slice Try.underlying22 (hval 2 22 v2 rfl rfl)
  have k2 := h2
  have lt2 : ∀ x ∈ p2, x.block < W.heap.size := by obtain ⟨m, hm⟩ := k2; exact DataW.trod_lt m _ _ _ hm
  obtain ⟨z2, w2⟩ : ∃ zs, IsRow .u8 W a2 len2 cap2 zs := by
    obtain ⟨fuel, hf⟩ := h2
    rcases open_ints Try.underlying22 Try.underlying5 (by kernel_rfl) hf with ⟨hcs, _⟩ | ⟨x, l, c, zs, hcs, _, hl, hm, hz, hd, hcell, hwz⟩
    · simp [Value.cells] at hcs
      obtain ⟨rfl, rfl, rfl⟩ := hcs
      exact ⟨[], .inl ⟨rfl, rfl, rfl, rfl⟩⟩
    · simp [Value.cells] at hcs
      obtain ⟨rfl, rfl, rfl⟩ := hcs
      have hb : cap2 ≤ 140737488351232 := by
        obtain ⟨rfl, rfl⟩ := Prod.mk.inj hd
        have := sized_slice hsz (j := 2) (t := 22) (e := 5) rfl rfl Try.underlying22
        rw [show Try.prog.bytesOf 5 = 1 by kernel_rfl] at this
        simp only [lits, List.length_map, List.length_take, List.length_drop, reachBytes] at this
        have hz' : zs.length = cap2 := by simpa using hz
        omega
      exact ⟨zs, .inr ⟨_, rfl, hl, hb, by simpa using hz, hcell, hwz⟩⟩
  clear hA0 hval0
  refine (walk a0 len0 cap0 z0 a1 len1 cap1 z1 a2 len2 cap2 z2 W w0 w1 w2).mono fun e W' ⟨he, bel⟩ => ?_
  subst he
  exact ⟨_, rfl, _, _, _, [], _, [], hW', trodAll_mk1 (shut_bool Try.underlying4 _), (trodAll_cons_mk (Below.trod laidOut (by kernel_rfl) (of_decide_eq_true (by kernel_rfl)) k0 bel lt0) (trodAll_cons_mk (Below.trod laidOut (by kernel_rfl) (of_decide_eq_true (by kernel_rfl)) k1 bel lt1) (trodAll_cons_mk (Below.trod laidOut (by kernel_rfl) (of_decide_eq_true (by kernel_rfl)) k2 bel lt2) trodAll_mk0))), rfl, bel.frame _, fun h => by cases h⟩

theorem over : Rows.crcThreeRow.holds Try.pinned (OpenSpec.ofChange Rows.crcThreeSpec) :=
  OpenClaim.holds_of_wide 8 Try.f8 rfl rfl rfl rfl rfl rfl rfl ⟨rfl, rfl, rfl, rfl, rfl⟩ rfl rfl rfl rfl rfl (by kernel_rfl) Try.func8 (by kernel_rfl)
    (of_decide_eq_true (by kernel_rfl)) (by unfold Func.isWrapper; first | (rw [if_pos (by decide +kernel)]; kernel_rfl) | (rw [if_neg (by decide +kernel)]; exact ⟨rfl, rfl⟩))
    (fun os started H enc _ => lifted os started H enc)

/-- ████ THE STATEMENT ████ -/
theorem proved : Rows.CrcThreeSaid := over
#print axioms proved
end Go.Proofs.Ytefnjilbpakffaa.crcThree
