/-
  The first sentence of each law of package skeplaw05: the document's examples.
-/
import Derived.Test.YthdgpadakmdlkaaCodecWholeOp
namespace Go.Proofs.Ythdgpadakmdlkaa.Codec
set_option linter.unusedVariables false
set_option linter.unusedSimpArgs false
open Go Go.RowKit

theorem exOp : cOp.whole [2, 0, 0] = some (1, 0, 0) := by decide +kernel
theorem exOp2 : cOp.put (1, 0, 0) = [2, 0, 0] := by decide +kernel
theorem exNum1 : num (-1) = [1] := by decide +kernel
theorem exNum2 : num 64 = [128, 1] := by decide +kernel
theorem row_three (w : World) (x y z : Int) (t : TypeId) (h : Bytes [x, y, z]) : Row (w.alloc (.cells #[.int .u8 x, .int .u8 y, .int .u8 z] t)) (some ⟨w.heap.size, 0, none⟩) 3 [x, y, z] := by
  refine ⟨rfl, h, fun i hi => ⟨_, rfl, ?_⟩⟩
  rw [Addr.add_lit, Nat.zero_add, cell_new]
  rcases (show i = 0 ∨ i = 1 ∨ i = 2 by omega) with rfl | rfl | rfl <;> rfl
theorem i64_of {x : Int} (h : (Lit.int .i64 x).wf = true) : I64 x := by
  simp [Lit.wf, IntKind.min, IntKind.max, IntKind.bits, IntKind.signed] at h
  exact ⟨by omega, by omega⟩
theorem i64_any (x : Int) (h0 : -9223372036854775808 ≤ x) (h1 : x < 9223372036854775808) : I64 x := ⟨h0, h1⟩

set_option maxRecDepth 100000 in
set_option maxHeartbeats 1000000 in
theorem awake_any (w : World) : Calls Try.prog 13 #[] w fun e w' => e = .returned (.bool true) ∧ Below w.heap.size w w' := by
  have cG : Calls Try.prog 35 #[.slice (some ⟨w.heap.size, 0, none⟩) 3 3] (w.alloc (.cells #[.int .u8 2, .int .u8 0, .int .u8 0] 5)) fun e w' => e = .returned (.tuple #[.agg #[.int .i64 1, .int .i64 0, .int .i64 0], .int .i64 0]) ∧ Below w.heap.size w w' := by
    have hb0 : Below w.heap.size w (w.alloc (.cells #[.int .u8 2, .int .u8 0, .int .u8 0] 5)) := (Below.refl _ _).alloc (Nat.le_refl _) _
    refine (GetOp_any 3 cOp _ heldOp (readOp 3) _ (some ⟨w.heap.size, 0, none⟩) 3 3 [2, 0, 0] (Nat.le_refl _) (row_three w 2 0 0 _ (Bytes.mk (by decide) (by decide) (Bytes.mk (by decide) (by decide) (Bytes.mk (by decide) (by decide) Bytes.nil)))) (by decide) (by decide) (fun h => by cases h)).mono ?_
    rintro e w' ⟨b, ⟨x, cs, F, q, o, i, _, rfl⟩ | ⟨q, rfl⟩⟩
    · rw [exOp] at q
      cases q
      cases i
      exact ⟨rfl, hb0.trans (b.mono hb0.size)⟩
    · rw [exOp] at q
      cases q
  have cN := fun (v : Int) (hv : I64 v) (u : World) => PutNumber_any none 0 0 [] v u ⟨rfl, Bytes.nil, fun i hi => by omega⟩ (fun _ => rfl) (by decide) hv
  have cN1 := cN (-1) (i64_any _ (by decide) (by decide))
  have cN2 := cN 64 (i64_any _ (by decide) (by decide))
  rw [List.nil_append, exNum1] at cN1
  rw [List.nil_append, exNum2] at cN2
  have cP := fun u : World => PutOp_any u 1 0 0 ⟨i64_any _ (by decide) (by decide), i64_any _ (by decide) (by decide), i64_any _ (by decide) (by decide)⟩
  rw [exOp2] at cP
  have s1 : ((strOfNums [1]).toList == [1]) = true := by decide +kernel
  have s2 : ((strOfNums [128, 1]).toList == [128, 1]) = true := by decide +kernel
  have s3 : ((strOfNums [2, 0, 0]).toList == [2, 0, 0]) = true := by decide +kernel
  clear cN
  go_enter Try.func13, Try.ntmps13
  go_wp2_with (first
    | (have B3' := B3; go_at_call 37; refine (cP _).mono ?_; rintro e w4 ⟨b4, rfl, m4, bel4, n4⟩; have v4 := m4.conv; have B4 := bcat B3 bel4 (Nat.le_refl _); have k4 := (B4.cell (p := ⟨w1.heap.size, 0, none⟩) (by simp)).trans (cell_new w1 _ _ _ 0); simp only [List.getElem?_toArray, List.getElem?_cons_zero] at k4)
    | (have B2' := B2; go_at_call 36; refine (cN2 _).mono ?_; rintro e w3 ⟨b3, rfl, m3, bel3, n3⟩; have v3 := m3.conv; have B3 := bcat B2 bel3 (Nat.le_refl _))
    | (go_at_call 36; refine (cN1 _).mono ?_; rintro e w2 ⟨b2, rfl, m2, bel2, n2⟩; have v2 := m2.conv; have B2 := bel2)
    | (go_at_call 35; refine cG.mono ?_; rintro e w1 ⟨rfl, b1⟩))
  go_ret
  exact ⟨rfl, (b1.alloc b1.size _).trans (B4.mono (by simp; exact Nat.le_succ_of_le b1.size))⟩
end Go.Proofs.Ythdgpadakmdlkaa.Codec
