/-
  The chapter's own answer: bytes as a state.
-/
import Derived.Test.YthdgpadakmdlkaaCodecRefMid
import Derived.Test.YthdgpadakmdlkaaCodecRefGetTele
namespace Go.Proofs.Ythdgpadakmdlkaa.Codec
set_option linter.unusedVariables false
set_option linter.unusedSimpArgs false
open Go Go.RowKit

theorem zState3 : (Try.prog.info? 57).map (·.size) = some 10 := by kernel_rfl
theorem zPort3 : (Try.prog.info? 104).map (·.size) = some 3 := by kernel_rfl
theorem zOrder3 : (Try.prog.info? 106).map (·.size) = some 4 := by kernel_rfl
set_option maxRecDepth 100000 in
set_option maxHeartbeats 16000000 in
theorem refGetState_any (M : Nat) (hM24 : M ≤ 16777216) (w : World) (a : Option Addr) (n cap : Nat) (zs : List Int) (hM : zs.length ≤ M) (hr : Row w a n zs) (hc : n ≤ cap) (hc2 : cap ≤ 9223372036854775807) (h0 : a = none → cap = 0) :
    Calls Try.prog 20 #[.slice a n cap] w fun e w' => Below w.heap.size w w' ∧
      ((∃ x cs F, cState.whole zs = some x ∧ stateEl F x cs w' ∧ New F w.heap.size w' ∧ e = .returned (.tuple #[.agg cs, .bool true])) ∨ (cState.whole zs = none ∧ e = .returned (.tuple #[.agg #[.int .i64 0, .int .i64 0, .bool false, .slice none 0 0, .slice none 0 0, .slice none 0 0, .slice none 0 0, .slice none 0 0, .int .i64 0, .int .i64 0], .bool false]))) := by
  have hl := hr.len
  have hN0 : (((w.alloc (.cells #[.int .i64 0, .int .i64 0, .bool false, .slice none 0 0, .slice none 0 0, .slice none 0 0, .slice none 0 0, .slice none 0 0, .int .i64 0, .int .i64 0] 57)).alloc (.cells #[.slice a n cap, .int .i64 0, .bool false] 72)).alloc (.cells #[.int .i64 0, .int .i64 0, .bool false, .slice none 0 0, .slice none 0 0, .slice none 0 0, .slice none 0 0, .slice none 0 0, .int .i64 0, .int .i64 0] 57)).heap[w.heap.size + 1 + 1]? = some (.cells #[.int .i64 0, .int .i64 0, .bool false, .slice none 0 0, .slice none 0 0, .slice none 0 0, .slice none 0 0, .slice none 0 0, .int .i64 0, .int .i64 0] 57 (0, 0)) := by
    have := heap_alloc_new ((w.alloc (.cells #[.int .i64 0, .int .i64 0, .bool false, .slice none 0 0, .slice none 0 0, .slice none 0 0, .slice none 0 0, .slice none 0 0, .int .i64 0, .int .i64 0] 57)).alloc (.cells #[.slice a n cap, .int .i64 0, .bool false] 72)) (.cells #[.int .i64 0, .int .i64 0, .bool false, .slice none 0 0, .slice none 0 0, .slice none 0 0, .slice none 0 0, .slice none 0 0, .int .i64 0, .int .i64 0] 57)
    simp only [World.size_alloc] at this
    exact this
  obtain ⟨wc, hwc⟩ : ∃ wc, wc = (((w.alloc (.cells #[.int .i64 0, .int .i64 0, .bool false, .slice none 0 0, .slice none 0 0, .slice none 0 0, .slice none 0 0, .slice none 0 0, .int .i64 0, .int .i64 0] 57)).alloc (.cells #[.slice a n cap, .int .i64 0, .bool false] 72)).alloc (.cells #[.int .i64 0, .int .i64 0, .bool false, .slice none 0 0, .slice none 0 0, .slice none 0 0, .slice none 0 0, .slice none 0 0, .int .i64 0, .int .i64 0] 57)).setRow (w.heap.size + 1 + 1) #[.int .i64 0, .int .i64 0, .bool false, .slice none 0 0, .slice none 0 0, .slice none 0 0, .slice none 0 0, .slice none 0 0, .int .i64 0, .int .i64 0] := ⟨_, rfl⟩
  have hS0 : Ob w (w.heap.size + 1) w.heap.size (w.heap.size + 1 + 1) 57 #[.int .i64 0, .int .i64 0, .bool false, .slice none 0 0, .slice none 0 0, .slice none 0 0, .slice none 0 0, .slice none 0 0, .int .i64 0, .int .i64 0] a cap zs wc #[.int .i64 0, .int .i64 0, .bool false, .slice none 0 0, .slice none 0 0, .slice none 0 0, .slice none 0 0, .slice none 0 0, .int .i64 0, .int .i64 0] 0 false := by
    have b1 : Below w.heap.size w (w.alloc (.cells #[.int .i64 0, .int .i64 0, .bool false, .slice none 0 0, .slice none 0 0, .slice none 0 0, .slice none 0 0, .slice none 0 0, .int .i64 0, .int .i64 0] 57)) := (Below.refl _ _).alloc (Nat.le_refl _) _
    have r1 := rr_fresh _ a n cap zs 72 (hr.after b1) hc hc2 h0 (w.heap.size + 1) (by simp)
    have r2 := r1.same ((Below.refl _ _).alloc (Nat.le_refl _) (.cells #[.int .i64 0, .int .i64 0, .bool false, .slice none 0 0, .slice none 0 0, .slice none 0 0, .slice none 0 0, .slice none 0 0, .int .i64 0, .int .i64 0] 57))
    rw [hwc]
    refine ⟨grown_setRow ((World.grownBy_alloc _ _ _).trans ((World.grownBy_alloc _ _ _).trans (World.grownBy_alloc _ _ _))) (by omega) _, r2.setRow _ _ (by omega) (fun x hx hn => by have := hr.lt x hx (by omega); omega), ?_, setRow_heap _ _ _ _ _ _ hN0, Nat.le_refl _, by omega, by omega, by omega, by omega, fun x hx hn => hr.lt x hx (by omega)⟩
    rw [setRow_other _ _ _ _ (by omega), alloc_old _ _ _ (by simp; omega), alloc_old _ _ _ (by simp)]
    exact heap_alloc_new _ _
  go_enter Try.func20, Try.ntmps20
  go_upto_region 3 with (refine wpList_store_row rfl 57 (.tmp 5) (.tmp 21) rfl (w.heap.size + 1 + 1) #[.int .i64 0, .int .i64 0, .bool false, .slice none 0 0, .slice none 0 0, .slice none 0 0, .slice none 0 0, .slice none 0 0, .int .i64 0, .int .i64 0] rfl rfl 57 #[.int .i64 0, .int .i64 0, .bool false, .slice none 0 0, .slice none 0 0, .slice none 0 0, .slice none 0 0, .slice none 0 0, .int .i64 0, .int .i64 0] hN0 zState3 rfl (by simp [Value.oneCell']) ?_)
  simp only [Act.put]
  rw [← hwc]
  clear hwc hN0
  have cN := num_one _ _ _ _ _ _ _ hS0.rr
  go_cut [23] (fun v wx => ∃ (x0 : Int) (k1 : Nat) (b1 : Bool), Ob w (w.heap.size + 1) w.heap.size (w.heap.size + 1 + 1) 57 #[.int .i64 0, .int .i64 0, .bool false, .slice none 0 0, .slice none 0 0, .slice none 0 0, .slice none 0 0, .slice none 0 0, .int .i64 0, .int .i64 0] a cap zs wx #[.int .i64 x0, .int .i64 0, .bool false, .slice none 0 0, .slice none 0 0, .slice none 0 0, .slice none 0 0, .slice none 0 0, .int .i64 0, .int .i64 0] k1 b1 ∧ Rd1 cNum zs 0 false x0 k1 b1)
  case first =>
    go_wp2_with (first
      | (go_at_call 27; refine cN.mono ?_; rintro e1 w1 ⟨g1, y0, k1', b1', rfl, r1, s1⟩; have hs1 := Ob.kept hS0 g1 r1; have hcl := hs1.cell 0 _ rfl; have hcl1 := hcl.1; have hcl2 := hcl.2))
    go_meet
    exact ⟨y0, k1', b1', hs1.put 0 _ _ rfl, s1⟩
  case rest =>
  obtain ⟨x0, k1, b1, hS1, st0⟩ := hcut
  clear cN hS0

  go_upto_region 4 with fail
  have cN := num_one _ _ _ _ _ _ _ hS1.rr
  go_cut [26] (fun v wx => ∃ (x1 : Int) (k2 : Nat) (b2 : Bool), Ob w (w.heap.size + 1) w.heap.size (w.heap.size + 1 + 1) 57 #[.int .i64 0, .int .i64 0, .bool false, .slice none 0 0, .slice none 0 0, .slice none 0 0, .slice none 0 0, .slice none 0 0, .int .i64 0, .int .i64 0] a cap zs wx #[.int .i64 x0, .int .i64 x1, .bool false, .slice none 0 0, .slice none 0 0, .slice none 0 0, .slice none 0 0, .slice none 0 0, .int .i64 0, .int .i64 0] k2 b2 ∧ Rd1 cNum zs k1 b1 x1 k2 b2)
  case first =>
    go_wp2_with (first
      | (go_at_call 27; refine cN.mono ?_; rintro e1 w1 ⟨g1, y1, k1', b1', rfl, r1, s1⟩; have hs1 := Ob.kept hS1 g1 r1; have hcl := hs1.cell 1 _ rfl; have hcl1 := hcl.1; have hcl2 := hcl.2))
    go_meet
    exact ⟨y1, k1', b1', hs1.put 1 _ _ rfl, s1⟩
  case rest =>
  obtain ⟨x1, k2, b2, hS2, st1⟩ := hcut
  clear cN hS1

  go_upto_region 5 with fail
  have cN := flag_one _ _ _ _ _ _ _ hS2.rr
  go_cut [29] (fun v wx => ∃ (x2 : Bool) (k3 : Nat) (b3 : Bool), Ob w (w.heap.size + 1) w.heap.size (w.heap.size + 1 + 1) 57 #[.int .i64 0, .int .i64 0, .bool false, .slice none 0 0, .slice none 0 0, .slice none 0 0, .slice none 0 0, .slice none 0 0, .int .i64 0, .int .i64 0] a cap zs wx #[.int .i64 x0, .int .i64 x1, .bool x2, .slice none 0 0, .slice none 0 0, .slice none 0 0, .slice none 0 0, .slice none 0 0, .int .i64 0, .int .i64 0] k3 b3 ∧ Rd1 cFlag zs k2 b2 x2 k3 b3)
  case first =>
    go_wp2_with (first
      | (go_at_call 48; refine cN.mono ?_; rintro e1 w1 ⟨g1, y2, k1', b1', rfl, r1, s1⟩; have hs1 := Ob.kept hS2 g1 r1; have hcl := hs1.cell 2 _ rfl; have hcl1 := hcl.1; have hcl2 := hcl.2))
    go_meet
    exact ⟨y2, k1', b1', hs1.put 2 _ _ rfl, s1⟩
  case rest =>
  obtain ⟨x2, k3, b3, hS3, st2⟩ := hcut
  clear cN hS2

  have cK := count_one _ _ _ _ _ _ _ hS3.rr
  go_wp2_with (go_at_call 49; refine cK.mono ?_; rintro e1 uu ⟨gu, n, k1, b1, rfl, r1, hn⟩)
  have hO := Ob.kept hS3 gu r1
  have hkz := r1.le
  have hn24 : n ≤ 16777216 := by
    rcases hn with ⟨_, _, _, _, h⟩ | ⟨_, h, _⟩ <;> omega
  have hNu : w.heap.size + 1 + 1 < uu.heap.size := lt_of_heap hO.so
  have hRu : w.heap.size + 1 < uu.heap.size := by omega
  obtain ⟨i0, hi0, hz0, hz1, hz2⟩ := info_parts infStack
  have HN : Hid (Counted zs k3 b3 n k1 b1) := hn
  have hb10 : b1 = true → b1 = false → getN cStack n (zs.drop k1) = none := fun h1 h2 => by rw [h1] at h2; cases h2
  clear cK hn gu r1 hS3
  have ST : Hid (Ob w (w.heap.size + 1) w.heap.size (w.heap.size + 1 + 1) 57 #[.int .i64 0, .int .i64 0, .bool false, .slice none 0 0, .slice none 0 0, .slice none 0 0, .slice none 0 0, .slice none 0 0, .int .i64 0, .int .i64 0] a cap zs uu #[.int .i64 x0, .int .i64 x1, .bool x2, .slice none 0 0, .slice none 0 0, .slice none 0 0, .slice none 0 0, .slice none 0 0, .int .i64 0, .int .i64 0] k1 b1) := hO
  clear hO
  go_loopw [7] (fun i wr => ∃ (j ki : Nat) (b : Bool) (v : Value) (ys : List (_ × Array Value)) (F : Nat → Prop), i = .int .i64 j ∧ j ≤ n ∧ Hid (GMid 3 99 cStack stackEl uu zs k1 n v j wr ki b ys F) ∧ Hid (Ob w (w.heap.size + 1) w.heap.size (w.heap.size + 1 + 1) 57 #[.int .i64 0, .int .i64 0, .bool false, .slice none 0 0, .slice none 0 0, .slice none 0 0, .slice none 0 0, .slice none 0 0, .int .i64 0, .int .i64 0] a cap zs wr #[.int .i64 x0, .int .i64 x1, .bool x2, v, .slice none 0 0, .slice none 0 0, .slice none 0 0, .slice none 0 0, .int .i64 0, .int .i64 0] ki b) ∧ Hid (Fr2 uu wr (w.heap.size + 1) (w.heap.size + 1 + 1)) ∧ Hid (b1 = true → b = true) ∧ Hid (b = true → b1 = false → getN cStack n (zs.drop k1) = none)) (fun i _ => n - (intOf i).toNat)
  case atStart => exact ⟨0, k1, b1, _, [], fun _ => False, rfl, Nat.zero_le _, GMid.start, ST, Fr2.refl _ _ _, id, hb10⟩
  case round =>
    clear ST hb10
    obtain ⟨j, k4, b4, u0, ys, F, rfl, hj, HM, HO, HF, HB, HD⟩ := hrel
    have mo := HO.out
    have h3 := mo.rr.b
    by_cases hc : j < n ∧ b4 = false
    · obtain ⟨hlt, rfl⟩ := hc
      have hd : decide ((j : Int) < (n : Int)) = true := decide_eq_true (by omega)
      go_upto_region 10 with fail
      have cC := cell_one _ _ _ _ _ _ _ mo.rr
      have hsz := lt_of_heap mo.so
      have mo1 : Hid _ := mo
      clear mo
      go_wp2_with (first
        | (go_at_call 50; refine cC.mono ?_; rintro e2 w2 ⟨g2, cx, cy, k2, b2, rfl, r2, s2⟩; have O2 := Ob.kept mo1.out g2 r2; have bA : Below w2.heap.size w2 ((w2.alloc (.cells #[.int .i64 0, .int .i64 0] 23)).setRow w2.heap.size #[.int .i64 cx, .int .i64 cy]) := below_row ((Below.refl _ _).alloc (Nat.le_refl _) _) (Nat.le_refl _) _; have O3 := O2.later bA; have hP0 : ((w2.alloc (.cells #[.int .i64 0, .int .i64 0] 23)).setRow w2.heap.size #[.int .i64 cx, .int .i64 cy]).heap[w2.heap.size]? = some (.cells #[.int .i64 cx, .int .i64 cy] 23 (0, 0)) := setRow_heap _ _ _ _ _ _ (heap_alloc_new w2 _); have cN := rnumbers_any M hM24 _ _ _ _ _ _ _ hM O3.rr)
        | (have X' := cN; refine wpList_store_row rfl 23 (.tmp 8) (.tmp 46) rfl w2.heap.size #[.int .i64 cx, .int .i64 cy] rfl rfl 23 #[.int .i64 0, .int .i64 0] (heap_alloc_new w2 _) zCell3 rfl (by simp [Value.oneCell']) ?_; generalize hwz : (w2.alloc (.cells #[.int .i64 0, .int .i64 0] 23)).setRow w2.heap.size #[.int .i64 cx, .int .i64 cy] = wz at *; clear hwz)
        | (have X' := cN; go_at_call 51; refine cN.mono ?_; rintro e5 w5 ⟨g5, l, vb, k5, b5, FF, rfl, q5, f5, r5, s5⟩; obtain ⟨qa, qc, rfl, _⟩ := q5.form; have O5 := O3.kept g5 r5; have hclv := (O5.cell 3 _ rfl).1; have sz2 := g2.size; have sz3 := bA.size; have hP := heap_kept g5 (lt_of_heap hP0) (by omega) hP0; have e5 : stackEl FF ((cx, cy), l) #[.int .i64 cx, .int .i64 cy, .slice qa l.length qc] w5 := ⟨_, rfl, q5⟩; have f6 : New FF wr.heap.size w5 := f5.keep (by omega) (Nat.le_refl _); have g6 := (g2.trans (grown_of_below bA (some (w.heap.size + 1)))).trans g5; have s6 := Rd1.also s2 s5; have hcs : (#[.int .i64 cx, .int .i64 cy, .slice qa l.length qc] : Array Value).size = 3 := rfl; have hc1 : ((#[.int .i64 cx, .int .i64 cy, .slice qa l.length qc] : Array Value).all fun x => x.oneCell') = true := (by simp [Value.oneCell']); have hReady := hP)
        | (have X' := hReady; refine wpList_load_row rfl 23 (.tmp 8) rfl w2.heap.size rfl 23 #[.int .i64 cx, .int .i64 cy] (0, 0) _ hP Try.underlying23 rfl zCell3 ?_)
        | (have X' := hReady; at_builtin; have BB := (Below.refl (w5).heap.size (w5)).alloc (Nat.le_refl _) (.cells #[.int .i64 cx, .int .i64 cy, .slice qa l.length qc] 99); have HW := news_new (w5) #[.int .i64 cx, .int .i64 cy, .slice qa l.length qc] 99; refine wpList_append_own_at _ rfl (.tmp 50) (.tmp 54) 51 rfl 0 99 i0 (.agg #[.int .i64 0, .int .i64 0, .slice none 0 0]) 3 40 Try.underlying51 hi0 hz0 hz1 hz2 rfl (by decide) u0 j (rowOf ys) rfl (HM.out.own_item g6 hRu BB) ⟨w5.heap.size, 0, none⟩ 1 1 #[.int .i64 cx, .int .i64 cy, .slice qa l.length qc].toList rfl (by rw [Array.length_toList, hcs]) HW (one_list hc1) (by unfold maxLen; omega) (by omega) (Nat.zero_le _) ?_; intro v3 w3 own3 g3 n3 at3; have O9 := (O5.later BB).apart g3 uu.heap.size (fun b hb => (HM.out.at_ b hb).2) (by omega) (by omega) (by omega) (by omega); have hcl3 := (O9.cell 3 _ rfl).1; have hcl4 := (O9.cell 3 _ rfl).2; obtain ⟨va, vc, rfl⟩ : ∃ va vc, v3 = .slice va (j + 1) vc := (by rcases own3.2 with ⟨hv, h0⟩ | ⟨_, _, _, hv, _⟩; (omega); (exact ⟨_, _, hv⟩))))
      go_roundw
      case rel =>
        have NX : Hid _ := HM.out.next (F2 := FF) heldStack hRu hNu hlt s6 e5 f6 g6 BB own3 g3 at3 3
        exact ⟨j + 1, k5, b5, _, _, _, by go_num, by omega, NX, O9.put 3 _ _ rfl, (((HF.out.grow g6 (fun b hb => Or.inl (Option.some.inj hb).symm)).grow (grown_of_below BB none) (fun b hb => by cases hb)).grow g3 (fun b hb => Or.inr (HM.out.at_ b hb).2)).set 3 _, fun h => (by have := HB.out h; cases this), fun h _ => HM.out.stop hlt (by have q := s6; rw [h] at q; exact q)⟩
      case measure => simp [intOf]; omega
    · have fin : ∃ (F : Nat → Prop) (l : List _), Hid (Lst 3 stackEl (w.heap.size + 1 + 1 + 1) l u0 F wr) ∧ Hid (Rd1 (list cStack) zs k3 b3 l k4 b4) := by
        have D := HM.out.done gStack heldStack mo.rr.row.small (fun e => by
          rcases Nat.lt_or_ge j n with h | h
          · exact absurd ⟨h, e⟩ hc
          · omega) HN.out HB.out HD.out hkz
        exact ⟨_, _, ⟨D.1.is, D.1.new.keep (by omega) (Nat.le_refl _)⟩, D.2⟩
      clear HB HD HM HN
      go_upto_region 8 with fail
      go_cut [42] from 33 to 42 (fun v wx => v = .bool false ∧ wx = wr)
      case first =>
        rcases Nat.lt_or_ge j n with hlt | hge
        · have hd : decide ((j : Int) < (n : Int)) = true := decide_eq_true (by omega)
          cases b4 with
          | false => exact absurd ⟨hlt, rfl⟩ hc
          | true =>
            clear hc fin mo
            go_wp2_with fail
            go_meet
            exact ⟨rfl, rfl⟩
        · have hd : decide ((j : Int) < (n : Int)) = false := decide_eq_false (by omega)
          clear hc fin mo
          go_wp2_with fail
          go_meet
          exact ⟨rfl, rfl⟩
      case rest =>
      obtain ⟨rfl, hwx⟩ := hcut
      rename World => wz0
      subst hwx
      obtain ⟨F0, l0, DL, DR0⟩ := fin
      have hS4 : Ob w (w.heap.size + 1) w.heap.size (w.heap.size + 1 + 1) 57 #[.int .i64 0, .int .i64 0, .bool false, .slice none 0 0, .slice none 0 0, .slice none 0 0, .slice none 0 0, .slice none 0 0, .int .i64 0, .int .i64 0] a cap zs _ #[.int .i64 x0, .int .i64 x1, .bool x2, u0, .slice none 0 0, .slice none 0 0, .slice none 0 0, .slice none 0 0, .int .i64 0, .int .i64 0] k4 b4 := mo
      have hf := HF.out
      have hL0n := DL.out
      clear HO HF mo h3 hc DL hf hj hn24 hkz hNu hRu i0 hi0 hz0 hz1 hz2
      have hL0 := hL0n
      clear hL0n
      have cK := count_one _ _ _ _ _ _ _ hS4.rr
      go_wp2_with (go_at_call 49; refine cK.mono ?_; rintro e1 uu ⟨gu, n, k1, b1, rfl, r1, hn⟩)
      have hO := Ob.kept hS4 gu r1
      have hLn0 := hL0.kept heldStack gu (by omega)
      have hkz := r1.le
      have hn24 : n ≤ 16777216 := by
        rcases hn with ⟨_, _, _, _, h⟩ | ⟨_, h, _⟩ <;> omega
      have hNu : w.heap.size + 1 + 1 < uu.heap.size := lt_of_heap hO.so
      have hRu : w.heap.size + 1 < uu.heap.size := by omega
      obtain ⟨i0, hi0, hz0, hz1, hz2⟩ := info_parts infRobot
      have HN : Hid (Counted zs k4 b4 n k1 b1) := hn
      have hb10 : b1 = true → b1 = false → getN cRobot n (zs.drop k1) = none := fun h1 h2 => by rw [h1] at h2; cases h2
      clear cK hn gu r1 hS4 hL0
      have ST : Hid (Ob w (w.heap.size + 1) w.heap.size (w.heap.size + 1 + 1) 57 #[.int .i64 0, .int .i64 0, .bool false, .slice none 0 0, .slice none 0 0, .slice none 0 0, .slice none 0 0, .slice none 0 0, .int .i64 0, .int .i64 0] a cap zs uu #[.int .i64 x0, .int .i64 x1, .bool x2, u0, .slice none 0 0, .slice none 0 0, .slice none 0 0, .slice none 0 0, .int .i64 0, .int .i64 0] k1 b1) := hO
      clear hO
      have hL0 : Hid _ := hLn0
      clear hLn0
      go_loopw [10] (fun i wr => ∃ (j ki : Nat) (b : Bool) (v : Value) (ys : List (_ × Array Value)) (F : Nat → Prop), i = .int .i64 j ∧ j ≤ n ∧ Hid (GMid 9 101 cRobot robotEl uu zs k1 n v j wr ki b ys F) ∧ Hid (Ob w (w.heap.size + 1) w.heap.size (w.heap.size + 1 + 1) 57 #[.int .i64 0, .int .i64 0, .bool false, .slice none 0 0, .slice none 0 0, .slice none 0 0, .slice none 0 0, .slice none 0 0, .int .i64 0, .int .i64 0] a cap zs wr #[.int .i64 x0, .int .i64 x1, .bool x2, u0, v, .slice none 0 0, .slice none 0 0, .slice none 0 0, .int .i64 0, .int .i64 0] ki b) ∧ Hid (Fr2 uu wr (w.heap.size + 1) (w.heap.size + 1 + 1)) ∧ Hid (b1 = true → b = true) ∧ Hid (b = true → b1 = false → getN cRobot n (zs.drop k1) = none)) (fun i _ => n - (intOf i).toNat)
      case atStart => exact ⟨0, k1, b1, _, [], fun _ => False, rfl, Nat.zero_le _, GMid.start, ST, Fr2.refl _ _ _, id, hb10⟩
      case round =>
        clear ST hb10
        obtain ⟨j, k5, b5, u1, ys, F, rfl, hj, HM, HO, HF, HB, HD⟩ := hrel
        have mo := HO.out
        have h3 := mo.rr.b
        by_cases hc : j < n ∧ b5 = false
        · obtain ⟨hlt, rfl⟩ := hc
          have hd : decide ((j : Int) < (n : Int)) = true := decide_eq_true (by omega)
          go_upto_region 17 with fail
          have cC := ritemRobot M hM24 _ _ _ _ _ _ _ hM mo.rr
          have mo1 : Hid _ := mo
          clear mo
          go_wp2_with (first
            | (go_at_call 52; refine cC.mono ?_; rintro e2 w2 ⟨g2, x, cs, k2, b2, F2, rfl, e2, f2, r2, s2⟩; have O2 := Ob.kept mo1.out g2 r2; have hcs := heldRobot.size e2; have hc1 := heldRobot.one e2; have bA : Below w2.heap.size w2 ((w2.alloc (.cells #[.int .i64 0, .int .i64 0, .bool false, .int .i64 0, .int .i64 0, .slice none 0 0, .bool false, .int .i64 0, .bool false] 101)).setRow w2.heap.size cs) := below_row ((Below.refl _ _).alloc (Nat.le_refl _) _) (Nat.le_refl _) _; have O3 := O2.later bA; have hclv := (O3.cell 4 _ rfl).1; have hP : ((w2.alloc (.cells #[.int .i64 0, .int .i64 0, .bool false, .int .i64 0, .int .i64 0, .slice none 0 0, .bool false, .int .i64 0, .bool false] 101)).setRow w2.heap.size cs).heap[w2.heap.size]? = some (.cells cs 101 (0, 0)) := setRow_heap _ _ _ _ _ _ (heap_alloc_new w2 _); have e6 := heldRobot.stable e2 fun g hg => bA.block g (f2 g hg).2; have f6 := f2.keep (Nat.le_refl _) bA.size; have g6 := g2.trans (grown_of_below bA (some (w.heap.size + 1))); have hfold := fold_cells #[.int .i64 0, .int .i64 0, .bool false, .int .i64 0, .int .i64 0, .slice none 0 0, .bool false, .int .i64 0, .bool false] cs (by rw [hcs]; rfl); rw [hcs] at hfold; have hCalled := hcs)
            | (have X' := hCalled; refine wpList_store_row rfl 101 (.tmp 11) (.tmp 72) rfl w2.heap.size cs rfl rfl 101 #[.int .i64 0, .int .i64 0, .bool false, .int .i64 0, .int .i64 0, .slice none 0 0, .bool false, .int .i64 0, .bool false] (heap_alloc_new w2 _) (by rw [hcs]; exact zRobot3) (by rw [hcs]; rfl) hc1 ?_; generalize hwz : (w2.alloc (.cells #[.int .i64 0, .int .i64 0, .bool false, .int .i64 0, .int .i64 0, .slice none 0 0, .bool false, .int .i64 0, .bool false] 101)).setRow w2.heap.size cs = wz at *; clear hwz; have hReady := hP)
            | (have X' := hReady; refine wpList_load_row rfl 101 (.tmp 11) rfl w2.heap.size rfl 101 cs (0, 0) _ hP Try.underlying101 rfl (by rw [hcs]; exact zRobot3) ?_)
            | (have X' := hReady; at_builtin; have BB := (Below.refl (wz).heap.size (wz)).alloc (Nat.le_refl _) (.cells cs 101); have HW := news_new (wz) cs 101; refine wpList_append_own_at _ rfl (.tmp 74) (.tmp 76) 52 rfl 0 101 i0 (.agg #[.int .i64 0, .int .i64 0, .bool false, .int .i64 0, .int .i64 0, .slice none 0 0, .bool false, .int .i64 0, .bool false]) 9 88 Try.underlying52 hi0 hz0 hz1 hz2 rfl (by decide) u1 j (rowOf ys) rfl (HM.out.own_item g6 hRu BB) ⟨wz.heap.size, 0, none⟩ 1 1 cs.toList rfl (by rw [Array.length_toList, hcs]) HW (one_list hc1) (by unfold maxLen; omega) (by omega) (Nat.zero_le _) ?_; intro v3 w3 own3 g3 n3 at3; have O9 := (O3.later BB).apart g3 uu.heap.size (fun b hb => (HM.out.at_ b hb).2) (by omega) (by omega) (by omega) (by omega); have hcl3 := (O9.cell 4 _ rfl).1; have hcl4 := (O9.cell 4 _ rfl).2; obtain ⟨va, vc, rfl⟩ : ∃ va vc, v3 = .slice va (j + 1) vc := (by rcases own3.2 with ⟨hv, h0⟩ | ⟨_, _, _, hv, _⟩; (omega); (exact ⟨_, _, hv⟩))))
          go_roundw
          case rel =>
            have NX : Hid _ := HM.out.next (F2 := F2) heldRobot hRu hNu hlt s2 e6 f6 g6 BB own3 g3 at3 4
            exact ⟨j + 1, k2, b2, _, _, _, by go_num, by omega, NX, O9.put 4 _ _ rfl, (((HF.out.grow g6 (fun b hb => Or.inl (Option.some.inj hb).symm)).grow (grown_of_below BB none) (fun b hb => by cases hb)).grow g3 (fun b hb => Or.inr (HM.out.at_ b hb).2)).set 4 _, fun h => (by have := HB.out h; cases this), fun h _ => HM.out.stop hlt (by have q := s2; rw [h] at q; exact q)⟩
          case measure => simp [intOf]; omega
        · have fin : ∃ (F : Nat → Prop) (l : List _), Hid (Lst 9 robotEl (w.heap.size + 1 + 1 + 1) l u1 F wr) ∧ Hid (Rd1 (list cRobot) zs k4 b4 l k5 b5) := by
            have D := HM.out.done gRobot heldRobot mo.rr.row.small (fun e => by
              rcases Nat.lt_or_ge j n with h | h
              · exact absurd ⟨h, e⟩ hc
              · omega) HN.out HB.out HD.out hkz
            exact ⟨_, _, ⟨D.1.is, D.1.new.keep (by omega) (Nat.le_refl _)⟩, D.2⟩
          clear HB HD HM HN
          go_upto_region 15 with fail
          go_cut [68] from 59 to 68 (fun v wx => v = .bool false ∧ wx = wr)
          case first =>
            rcases Nat.lt_or_ge j n with hlt | hge
            · have hd : decide ((j : Int) < (n : Int)) = true := decide_eq_true (by omega)
              cases b5 with
              | false => exact absurd ⟨hlt, rfl⟩ hc
              | true =>
                clear hc fin mo
                go_wp2_with fail
                go_meet
                exact ⟨rfl, rfl⟩
            · have hd : decide ((j : Int) < (n : Int)) = false := decide_eq_false (by omega)
              clear hc fin mo
              go_wp2_with fail
              go_meet
              exact ⟨rfl, rfl⟩
          case rest =>
          obtain ⟨rfl, hwx⟩ := hcut
          rename World => wz1
          subst hwx
          obtain ⟨F1, l1, DL, DR1⟩ := fin
          have hS5 : Ob w (w.heap.size + 1) w.heap.size (w.heap.size + 1 + 1) 57 #[.int .i64 0, .int .i64 0, .bool false, .slice none 0 0, .slice none 0 0, .slice none 0 0, .slice none 0 0, .slice none 0 0, .int .i64 0, .int .i64 0] a cap zs _ #[.int .i64 x0, .int .i64 x1, .bool x2, u0, u1, .slice none 0 0, .slice none 0 0, .slice none 0 0, .int .i64 0, .int .i64 0] k5 b5 := mo
          have hf := HF.out
          have hL1n := DL.out
          have hL0n := hL0.out.fr heldStack hf (by omega) (by omega)
          clear HO HF mo h3 hc DL hf hj hn24 hkz hNu hRu i0 hi0 hz0 hz1 hz2 hL0
          have hL0 := hL0n
          clear hL0n
          have hL1 := hL1n
          clear hL1n
          have cK := count_one _ _ _ _ _ _ _ hS5.rr
          go_wp2_with (go_at_call 49; refine cK.mono ?_; rintro e1 uu ⟨gu, n, k1, b1, rfl, r1, hn⟩)
          have hO := Ob.kept hS5 gu r1
          have hLn0 := hL0.kept heldStack gu (by omega)
          have hLn1 := hL1.kept heldRobot gu (by omega)
          have hkz := r1.le
          have hn24 : n ≤ 16777216 := by
            rcases hn with ⟨_, _, _, _, h⟩ | ⟨_, h, _⟩ <;> omega
          have hNu : w.heap.size + 1 + 1 < uu.heap.size := lt_of_heap hO.so
          have hRu : w.heap.size + 1 < uu.heap.size := by omega
          obtain ⟨i0, hi0, hz0, hz1, hz2⟩ := info_parts infPort
          have HN : Hid (Counted zs k5 b5 n k1 b1) := hn
          have hb10 : b1 = true → b1 = false → getN cPort n (zs.drop k1) = none := fun h1 h2 => by rw [h1] at h2; cases h2
          clear cK hn gu r1 hS5 hL0 hL1
          have ST : Hid (Ob w (w.heap.size + 1) w.heap.size (w.heap.size + 1 + 1) 57 #[.int .i64 0, .int .i64 0, .bool false, .slice none 0 0, .slice none 0 0, .slice none 0 0, .slice none 0 0, .slice none 0 0, .int .i64 0, .int .i64 0] a cap zs uu #[.int .i64 x0, .int .i64 x1, .bool x2, u0, u1, .slice none 0 0, .slice none 0 0, .slice none 0 0, .int .i64 0, .int .i64 0] k1 b1) := hO
          clear hO
          have hL0 : Hid _ := hLn0
          clear hLn0
          have hL1 : Hid _ := hLn1
          clear hLn1
          go_loopw [12] (fun i wr => ∃ (j ki : Nat) (b : Bool) (v : Value) (ys : List (_ × Array Value)) (F : Nat → Prop), i = .int .i64 j ∧ j ≤ n ∧ Hid (GMid 3 104 cPort portEl uu zs k1 n v j wr ki b ys F) ∧ Hid (Ob w (w.heap.size + 1) w.heap.size (w.heap.size + 1 + 1) 57 #[.int .i64 0, .int .i64 0, .bool false, .slice none 0 0, .slice none 0 0, .slice none 0 0, .slice none 0 0, .slice none 0 0, .int .i64 0, .int .i64 0] a cap zs wr #[.int .i64 x0, .int .i64 x1, .bool x2, u0, u1, v, .slice none 0 0, .slice none 0 0, .int .i64 0, .int .i64 0] ki b) ∧ Hid (Fr2 uu wr (w.heap.size + 1) (w.heap.size + 1 + 1)) ∧ Hid (b1 = true → b = true) ∧ Hid (b = true → b1 = false → getN cPort n (zs.drop k1) = none)) (fun i _ => n - (intOf i).toNat)
          case atStart => exact ⟨0, k1, b1, _, [], fun _ => False, rfl, Nat.zero_le _, GMid.start, ST, Fr2.refl _ _ _, id, hb10⟩
          case round =>
            clear ST hb10
            obtain ⟨j, k6, b6, u2, ys, F, rfl, hj, HM, HO, HF, HB, HD⟩ := hrel
            have mo := HO.out
            have h3 := mo.rr.b
            by_cases hc : j < n ∧ b6 = false
            · obtain ⟨hlt, rfl⟩ := hc
              have hd : decide ((j : Int) < (n : Int)) = true := decide_eq_true (by omega)
              go_upto_region 23 with fail
              have bA : Below wr.heap.size wr ((wr.alloc (.cells #[.int .i64 0, .int .i64 0, .slice none 0 0] 104)).setRow wr.heap.size #[.int .i64 0, .int .i64 0, .slice none 0 0]) := below_row ((Below.refl _ _).alloc (Nat.le_refl _) _) (Nat.le_refl _) _
              have Oa := mo.later bA
              have hP0 : ((wr.alloc (.cells #[.int .i64 0, .int .i64 0, .slice none 0 0] 104)).setRow wr.heap.size #[.int .i64 0, .int .i64 0, .slice none 0 0]).heap[wr.heap.size]? = some (.cells #[.int .i64 0, .int .i64 0, .slice none 0 0] 104 (0, 0)) := setRow_heap _ _ _ _ _ _ (heap_alloc_new wr _)
              have gw0 : wr.grownBy ((wr.alloc (.cells #[.int .i64 0, .int .i64 0, .slice none 0 0] 104)).setRow wr.heap.size #[.int .i64 0, .int .i64 0, .slice none 0 0]) (some (w.heap.size + 1)) := grown_of_below bA _
              have hsz := lt_of_heap mo.so
              have hsw := mo.grow.size
              have c0 := num_one _ _ _ _ _ _ _ Oa.rr
              clear mo
              go_wp2_with (first
                | (have X' := hReady; refine wpList_load_row rfl 104 (.tmp 13) rfl wr.heap.size rfl 104 #[.int .i64 y0, .int .i64 y1, .slice ya yl.length yc] (0, 0) _ hP3 Try.underlying104 rfl zPort3 ?_)
                | (have X' := hReady; at_builtin; have BB := (Below.refl (z2.setCell ⟨wr.heap.size, 2, none⟩ (.slice ya yl.length yc)).heap.size (z2.setCell ⟨wr.heap.size, 2, none⟩ (.slice ya yl.length yc))).alloc (Nat.le_refl _) (.cells #[.int .i64 y0, .int .i64 y1, .slice ya yl.length yc] 104); have HW := news_new (z2.setCell ⟨wr.heap.size, 2, none⟩ (.slice ya yl.length yc)) #[.int .i64 y0, .int .i64 y1, .slice ya yl.length yc] 104; rw [World.size_setCell] at HW; refine wpList_append_own_at _ rfl (.tmp 104) (.tmp 106) 53 rfl 0 104 i0 (.agg #[.int .i64 0, .int .i64 0, .slice none 0 0]) 3 40 Try.underlying53 hi0 hz0 hz1 hz2 rfl (by decide) u2 j (rowOf ys) rfl (HM.out.own_item gw3 hRu BB) ⟨z2.heap.size, 0, none⟩ 1 1 #[.int .i64 y0, .int .i64 y1, .slice ya yl.length yc].toList rfl (by rw [Array.length_toList, hcs]) HW (one_list hc1) (by unfold maxLen; omega) (by omega) (Nat.zero_le _) ?_; intro v3 w3 own3 g3 n3 at3; have O9 := (Oq3.later BB).apart g3 uu.heap.size (fun b hb => (HM.out.at_ b hb).2) (by omega) (by omega) (by omega) (by omega); have hcl3 := (O9.cell 5 _ rfl).1; have hcl4 := (O9.cell 5 _ rfl).2; obtain ⟨va, vc, rfl⟩ : ∃ va vc, v3 = .slice va (j + 1) vc := (by rcases own3.2 with ⟨hv, h0⟩ | ⟨_, _, _, hv, _⟩; (omega); (exact ⟨_, _, hv⟩)))
                | (have X' := c2; go_at_call 51; refine c2.mono ?_; rintro e2 z2 ⟨g2, yl, yv, kk3, bb3, FF, rfl, q2, f2, r2, s2⟩; obtain ⟨ya, yc, rfl, _⟩ := q2.form; have On2 := Oq2.kept g2 r2; have hn2 := heap_kept g2 (lt_of_heap hP2) (by omega) hP2; have cl2 := (cell_of hn2 2).trans rfl; have fz2 := frozen_of hn2 2; have gs2 := gw2.trans g2; have hP3 : (z2.setCell ⟨wr.heap.size, 2, none⟩ (.slice ya yl.length yc)).heap[wr.heap.size]? = some (.cells #[.int .i64 y0, .int .i64 y1, .slice ya yl.length yc] 104 (0, 0)) := heap_setCell_same _ _ _ _ _ _ hn2; have gw3 := grown_set gs2 wr.heap.size 2 (.slice ya yl.length yc) (Nat.le_refl _); have Oq3 := On2.aside wr.heap.size 2 (.slice ya yl.length yc) (by omega) (by omega) (by omega) (by omega); have hclv := (Oq3.cell 5 _ rfl).1; have e6 : portEl FF (y0, y1, yl) #[.int .i64 y0, .int .i64 y1, .slice ya yl.length yc] (z2.setCell ⟨wr.heap.size, 2, none⟩ (.slice ya yl.length yc)) := ⟨_, rfl, q2.stable heldIntEl fun g hg => heap_setCell_other _ _ _ _ (by have h1 := (f2 g hg).1; have h2 := lt_of_heap hP2; simp only; omega)⟩; have f6 : New FF wr.heap.size (z2.setCell ⟨wr.heap.size, 2, none⟩ (.slice ya yl.length yc)) := fun g hg => ⟨by have := (f2 g hg).1; have := gw2.size; omega, by rw [World.size_setCell]; exact (f2 g hg).2⟩; have s6 := Rd1.also s0 (Rd1.also s1 (s2)); have hcs : (#[.int .i64 y0, .int .i64 y1, .slice ya yl.length yc] : Array Value).size = 3 := rfl; have hc1 : ((#[.int .i64 y0, .int .i64 y1, .slice ya yl.length yc] : Array Value).all fun x => x.oneCell') = true := (by simp [Value.oneCell']); have hReady := hP3)
                | (have X' := c1; go_at_call 27; refine c1.mono ?_; rintro e1 z1 ⟨g1, y1, kk2, bb2, rfl, r1, s1⟩; have On1 := Oq1.kept g1 r1; have hn1 := heap_kept g1 (lt_of_heap hP1) (by omega) hP1; have cl1 := (cell_of hn1 1).trans rfl; have fz1 := frozen_of hn1 1; have gs1 := gw1.trans g1; have hP2 : (z1.setCell ⟨wr.heap.size, 1, none⟩ (.int .i64 y1)).heap[wr.heap.size]? = some (.cells #[.int .i64 y0, .int .i64 y1, .slice none 0 0] 104 (0, 0)) := heap_setCell_same _ _ _ _ _ _ hn1; have gw2 := grown_set gs1 wr.heap.size 1 (.int .i64 y1) (Nat.le_refl _); have Oq2 := On1.aside wr.heap.size 1 (.int .i64 y1) (by omega) (by omega) (by omega) (by omega); have c2 := rnumbers_any M hM24 _ _ _ _ _ _ _ hM Oq2.rr)
                | (have X' := c0; go_at_call 27; refine c0.mono ?_; rintro e0 z0 ⟨g0, y0, kk1, bb1, rfl, r0, s0⟩; have On0 := Oa.kept g0 r0; have hn0 := heap_kept g0 (lt_of_heap hP0) (by omega) hP0; have cl0 := (cell_of hn0 0).trans rfl; have fz0 := frozen_of hn0 0; have gs0 := gw0.trans g0; have hP1 : (z0.setCell ⟨wr.heap.size, 0, none⟩ (.int .i64 y0)).heap[wr.heap.size]? = some (.cells #[.int .i64 y0, .int .i64 0, .slice none 0 0] 104 (0, 0)) := heap_setCell_same _ _ _ _ _ _ hn0; have gw1 := grown_set gs0 wr.heap.size 0 (.int .i64 y0) (Nat.le_refl _); have Oq1 := On0.aside wr.heap.size 0 (.int .i64 y0) (by omega) (by omega) (by omega) (by omega); have c1 := num_one _ _ _ _ _ _ _ Oq1.rr)
                | (refine wpList_store_row rfl 104 (.tmp 13) (.tmp 93) rfl wr.heap.size #[.int .i64 0, .int .i64 0, .slice none 0 0] rfl rfl 104 #[.int .i64 0, .int .i64 0, .slice none 0 0] (heap_alloc_new wr _) zPort3 rfl (by simp [Value.oneCell']) ?_))
              go_roundw
              case rel =>
                have NX : Hid _ := HM.out.next (F2 := FF) heldPort hRu hNu hlt s6 e6 f6 gw3 BB own3 g3 at3 5
                exact ⟨j + 1, kk3, bb3, _, _, _, by go_num, by omega, NX, O9.put 5 _ _ rfl, (((HF.out.grow gw3 (fun b hb => Or.inl (Option.some.inj hb).symm)).grow (grown_of_below BB none) (fun b hb => by cases hb)).grow g3 (fun b hb => Or.inr (HM.out.at_ b hb).2)).set 5 _, fun h => (by have := HB.out h; cases this), fun h _ => HM.out.stop hlt (by have q := s6; rw [h] at q; exact q)⟩
              case measure => simp [intOf]; omega
            · have fin : ∃ (F : Nat → Prop) (l : List _), Hid (Lst 3 portEl (w.heap.size + 1 + 1 + 1) l u2 F wr) ∧ Hid (Rd1 (list cPort) zs k5 b5 l k6 b6) := by
                have D := HM.out.done gPort heldPort mo.rr.row.small (fun e => by
                  rcases Nat.lt_or_ge j n with h | h
                  · exact absurd ⟨h, e⟩ hc
                  · omega) HN.out HB.out HD.out hkz
                exact ⟨_, _, ⟨D.1.is, D.1.new.keep (by omega) (Nat.le_refl _)⟩, D.2⟩
              clear HB HD HM HN
              go_upto_region 21 with fail
              go_cut [90] from 81 to 90 (fun v wx => v = .bool false ∧ wx = wr)
              case first =>
                rcases Nat.lt_or_ge j n with hlt | hge
                · have hd : decide ((j : Int) < (n : Int)) = true := decide_eq_true (by omega)
                  cases b6 with
                  | false => exact absurd ⟨hlt, rfl⟩ hc
                  | true =>
                    clear hc fin mo
                    go_wp2_with fail
                    go_meet
                    exact ⟨rfl, rfl⟩
                · have hd : decide ((j : Int) < (n : Int)) = false := decide_eq_false (by omega)
                  clear hc fin mo
                  go_wp2_with fail
                  go_meet
                  exact ⟨rfl, rfl⟩
              case rest =>
              obtain ⟨rfl, hwx⟩ := hcut
              rename World => wz2
              subst hwx
              obtain ⟨F2, l2, DL, DR2⟩ := fin
              have hS6 : Ob w (w.heap.size + 1) w.heap.size (w.heap.size + 1 + 1) 57 #[.int .i64 0, .int .i64 0, .bool false, .slice none 0 0, .slice none 0 0, .slice none 0 0, .slice none 0 0, .slice none 0 0, .int .i64 0, .int .i64 0] a cap zs _ #[.int .i64 x0, .int .i64 x1, .bool x2, u0, u1, u2, .slice none 0 0, .slice none 0 0, .int .i64 0, .int .i64 0] k6 b6 := mo
              have hf := HF.out
              have hL2n := DL.out
              have hL0n := hL0.out.fr heldStack hf (by omega) (by omega)
              have hL1n := hL1.out.fr heldRobot hf (by omega) (by omega)
              clear HO HF mo h3 hc DL hf hj hn24 hkz hNu hRu i0 hi0 hz0 hz1 hz2 hL0 hL1
              have hL0 := hL0n
              clear hL0n
              have hL1 := hL1n
              clear hL1n
              have hL2 := hL2n
              clear hL2n
              have cK := count_one _ _ _ _ _ _ _ hS6.rr
              go_wp2_with (go_at_call 49; refine cK.mono ?_; rintro e1 uu ⟨gu, n, k1, b1, rfl, r1, hn⟩)
              have hO := Ob.kept hS6 gu r1
              have hLn0 := hL0.kept heldStack gu (by omega)
              have hLn1 := hL1.kept heldRobot gu (by omega)
              have hLn2 := hL2.kept heldPort gu (by omega)
              have hkz := r1.le
              have hn24 : n ≤ 16777216 := by
                rcases hn with ⟨_, _, _, _, h⟩ | ⟨_, h, _⟩ <;> omega
              have hNu : w.heap.size + 1 + 1 < uu.heap.size := lt_of_heap hO.so
              have hRu : w.heap.size + 1 < uu.heap.size := by omega
              obtain ⟨i0, hi0, hz0, hz1, hz2⟩ := info_parts infOrder
              have HN : Hid (Counted zs k6 b6 n k1 b1) := hn
              have hb10 : b1 = true → b1 = false → getN cOrder n (zs.drop k1) = none := fun h1 h2 => by rw [h1] at h2; cases h2
              clear cK hn gu r1 hS6 hL0 hL1 hL2
              have ST : Hid (Ob w (w.heap.size + 1) w.heap.size (w.heap.size + 1 + 1) 57 #[.int .i64 0, .int .i64 0, .bool false, .slice none 0 0, .slice none 0 0, .slice none 0 0, .slice none 0 0, .slice none 0 0, .int .i64 0, .int .i64 0] a cap zs uu #[.int .i64 x0, .int .i64 x1, .bool x2, u0, u1, u2, .slice none 0 0, .slice none 0 0, .int .i64 0, .int .i64 0] k1 b1) := hO
              clear hO
              have hL0 : Hid _ := hLn0
              clear hLn0
              have hL1 : Hid _ := hLn1
              clear hLn1
              have hL2 : Hid _ := hLn2
              clear hLn2
              go_loopw [14] (fun i wr => ∃ (j ki : Nat) (b : Bool) (v : Value) (ys : List (_ × Array Value)) (F : Nat → Prop), i = .int .i64 j ∧ j ≤ n ∧ Hid (GMid 4 106 cOrder orderEl uu zs k1 n v j wr ki b ys F) ∧ Hid (Ob w (w.heap.size + 1) w.heap.size (w.heap.size + 1 + 1) 57 #[.int .i64 0, .int .i64 0, .bool false, .slice none 0 0, .slice none 0 0, .slice none 0 0, .slice none 0 0, .slice none 0 0, .int .i64 0, .int .i64 0] a cap zs wr #[.int .i64 x0, .int .i64 x1, .bool x2, u0, u1, u2, v, .slice none 0 0, .int .i64 0, .int .i64 0] ki b) ∧ Hid (Fr2 uu wr (w.heap.size + 1) (w.heap.size + 1 + 1)) ∧ Hid (b1 = true → b = true) ∧ Hid (b = true → b1 = false → getN cOrder n (zs.drop k1) = none)) (fun i _ => n - (intOf i).toNat)
              case atStart => exact ⟨0, k1, b1, _, [], fun _ => False, rfl, Nat.zero_le _, GMid.start, ST, Fr2.refl _ _ _, id, hb10⟩
              case round =>
                clear ST hb10
                obtain ⟨j, k7, b7, u3, ys, F, rfl, hj, HM, HO, HF, HB, HD⟩ := hrel
                have mo := HO.out
                have h3 := mo.rr.b
                by_cases hc : j < n ∧ b7 = false
                · obtain ⟨hlt, rfl⟩ := hc
                  have hd : decide ((j : Int) < (n : Int)) = true := decide_eq_true (by omega)
                  go_upto_region 32 with fail
                  have bA : Below wr.heap.size wr ((wr.alloc (.cells #[.int .i64 0, .int .i64 0, .int .i64 0, .int .i64 0] 106)).setRow wr.heap.size #[.int .i64 0, .int .i64 0, .int .i64 0, .int .i64 0]) := below_row ((Below.refl _ _).alloc (Nat.le_refl _) _) (Nat.le_refl _) _
                  have Oa := mo.later bA
                  have hP0 : ((wr.alloc (.cells #[.int .i64 0, .int .i64 0, .int .i64 0, .int .i64 0] 106)).setRow wr.heap.size #[.int .i64 0, .int .i64 0, .int .i64 0, .int .i64 0]).heap[wr.heap.size]? = some (.cells #[.int .i64 0, .int .i64 0, .int .i64 0, .int .i64 0] 106 (0, 0)) := setRow_heap _ _ _ _ _ _ (heap_alloc_new wr _)
                  have gw0 : wr.grownBy ((wr.alloc (.cells #[.int .i64 0, .int .i64 0, .int .i64 0, .int .i64 0] 106)).setRow wr.heap.size #[.int .i64 0, .int .i64 0, .int .i64 0, .int .i64 0]) (some (w.heap.size + 1)) := grown_of_below bA _
                  have hsz := lt_of_heap mo.so
                  have hsw := mo.grow.size
                  have c0 := num_one _ _ _ _ _ _ _ Oa.rr
                  clear mo
                  go_wp2_with (first
                    | (have X' := hReady; refine wpList_load_row rfl 106 (.tmp 15) rfl wr.heap.size rfl 106 #[.int .i64 y0, .int .i64 y1, .int .i64 y2, .int .i64 y3] (0, 0) _ hP4 Try.underlying106 rfl zOrder3 ?_)
                    | (have X' := hReady; at_builtin; have BB := (Below.refl (z3.setCell ⟨wr.heap.size, 3, none⟩ (.int .i64 y3)).heap.size (z3.setCell ⟨wr.heap.size, 3, none⟩ (.int .i64 y3))).alloc (Nat.le_refl _) (.cells #[.int .i64 y0, .int .i64 y1, .int .i64 y2, .int .i64 y3] 106); have HW := news_new (z3.setCell ⟨wr.heap.size, 3, none⟩ (.int .i64 y3)) #[.int .i64 y0, .int .i64 y1, .int .i64 y2, .int .i64 y3] 106; rw [World.size_setCell] at HW; refine wpList_append_own_at _ rfl (.tmp 137) (.tmp 139) 54 rfl 0 106 i0 (.agg #[.int .i64 0, .int .i64 0, .int .i64 0, .int .i64 0]) 4 32 Try.underlying54 hi0 hz0 hz1 hz2 rfl (by decide) u3 j (rowOf ys) rfl (HM.out.own_item gw4 hRu BB) ⟨z3.heap.size, 0, none⟩ 1 1 #[.int .i64 y0, .int .i64 y1, .int .i64 y2, .int .i64 y3].toList rfl (by rw [Array.length_toList, hcs]) HW (one_list hc1) (by unfold maxLen; omega) (by omega) (Nat.zero_le _) ?_; intro v3 w3 own3 g3 n3 at3; have O9 := (Oq4.later BB).apart g3 uu.heap.size (fun b hb => (HM.out.at_ b hb).2) (by omega) (by omega) (by omega) (by omega); have hcl3 := (O9.cell 6 _ rfl).1; have hcl4 := (O9.cell 6 _ rfl).2; obtain ⟨va, vc, rfl⟩ : ∃ va vc, v3 = .slice va (j + 1) vc := (by rcases own3.2 with ⟨hv, h0⟩ | ⟨_, _, _, hv, _⟩; (omega); (exact ⟨_, _, hv⟩)))
                    | (have X' := c3; go_at_call 27; refine c3.mono ?_; rintro e3 z3 ⟨g3, y3, kk4, bb4, rfl, r3, s3⟩; have On3 := Oq3.kept g3 r3; have hn3 := heap_kept g3 (lt_of_heap hP3) (by omega) hP3; have cl3 := (cell_of hn3 3).trans rfl; have fz3 := frozen_of hn3 3; have gs3 := gw3.trans g3; have hP4 : (z3.setCell ⟨wr.heap.size, 3, none⟩ (.int .i64 y3)).heap[wr.heap.size]? = some (.cells #[.int .i64 y0, .int .i64 y1, .int .i64 y2, .int .i64 y3] 106 (0, 0)) := heap_setCell_same _ _ _ _ _ _ hn3; have gw4 := grown_set gs3 wr.heap.size 3 (.int .i64 y3) (Nat.le_refl _); have Oq4 := On3.aside wr.heap.size 3 (.int .i64 y3) (by omega) (by omega) (by omega) (by omega); have hclv := (Oq4.cell 6 _ rfl).1; have e6 : orderEl (fun _ => False) (y0, y1, y2, y3) #[.int .i64 y0, .int .i64 y1, .int .i64 y2, .int .i64 y3] (z3.setCell ⟨wr.heap.size, 3, none⟩ (.int .i64 y3)) := rfl; have f6 : New (fun _ => False) wr.heap.size (z3.setCell ⟨wr.heap.size, 3, none⟩ (.int .i64 y3)) := none_new _ _; have s6 := Rd1.also s0 (Rd1.also s1 (Rd1.also s2 (s3))); have hcs : (#[.int .i64 y0, .int .i64 y1, .int .i64 y2, .int .i64 y3] : Array Value).size = 4 := rfl; have hc1 : ((#[.int .i64 y0, .int .i64 y1, .int .i64 y2, .int .i64 y3] : Array Value).all fun x => x.oneCell') = true := (by simp [Value.oneCell']); have hReady := hP4)
                    | (have X' := c2; go_at_call 27; refine c2.mono ?_; rintro e2 z2 ⟨g2, y2, kk3, bb3, rfl, r2, s2⟩; have On2 := Oq2.kept g2 r2; have hn2 := heap_kept g2 (lt_of_heap hP2) (by omega) hP2; have cl2 := (cell_of hn2 2).trans rfl; have fz2 := frozen_of hn2 2; have gs2 := gw2.trans g2; have hP3 : (z2.setCell ⟨wr.heap.size, 2, none⟩ (.int .i64 y2)).heap[wr.heap.size]? = some (.cells #[.int .i64 y0, .int .i64 y1, .int .i64 y2, .int .i64 0] 106 (0, 0)) := heap_setCell_same _ _ _ _ _ _ hn2; have gw3 := grown_set gs2 wr.heap.size 2 (.int .i64 y2) (Nat.le_refl _); have Oq3 := On2.aside wr.heap.size 2 (.int .i64 y2) (by omega) (by omega) (by omega) (by omega); have c3 := num_one _ _ _ _ _ _ _ Oq3.rr)
                    | (have X' := c1; go_at_call 27; refine c1.mono ?_; rintro e1 z1 ⟨g1, y1, kk2, bb2, rfl, r1, s1⟩; have On1 := Oq1.kept g1 r1; have hn1 := heap_kept g1 (lt_of_heap hP1) (by omega) hP1; have cl1 := (cell_of hn1 1).trans rfl; have fz1 := frozen_of hn1 1; have gs1 := gw1.trans g1; have hP2 : (z1.setCell ⟨wr.heap.size, 1, none⟩ (.int .i64 y1)).heap[wr.heap.size]? = some (.cells #[.int .i64 y0, .int .i64 y1, .int .i64 0, .int .i64 0] 106 (0, 0)) := heap_setCell_same _ _ _ _ _ _ hn1; have gw2 := grown_set gs1 wr.heap.size 1 (.int .i64 y1) (Nat.le_refl _); have Oq2 := On1.aside wr.heap.size 1 (.int .i64 y1) (by omega) (by omega) (by omega) (by omega); have c2 := num_one _ _ _ _ _ _ _ Oq2.rr)
                    | (have X' := c0; go_at_call 27; refine c0.mono ?_; rintro e0 z0 ⟨g0, y0, kk1, bb1, rfl, r0, s0⟩; have On0 := Oa.kept g0 r0; have hn0 := heap_kept g0 (lt_of_heap hP0) (by omega) hP0; have cl0 := (cell_of hn0 0).trans rfl; have fz0 := frozen_of hn0 0; have gs0 := gw0.trans g0; have hP1 : (z0.setCell ⟨wr.heap.size, 0, none⟩ (.int .i64 y0)).heap[wr.heap.size]? = some (.cells #[.int .i64 y0, .int .i64 0, .int .i64 0, .int .i64 0] 106 (0, 0)) := heap_setCell_same _ _ _ _ _ _ hn0; have gw1 := grown_set gs0 wr.heap.size 0 (.int .i64 y0) (Nat.le_refl _); have Oq1 := On0.aside wr.heap.size 0 (.int .i64 y0) (by omega) (by omega) (by omega) (by omega); have c1 := num_one _ _ _ _ _ _ _ Oq1.rr)
                    | (refine wpList_store_row rfl 106 (.tmp 15) (.tmp 123) rfl wr.heap.size #[.int .i64 0, .int .i64 0, .int .i64 0, .int .i64 0] rfl rfl 106 #[.int .i64 0, .int .i64 0, .int .i64 0, .int .i64 0] (heap_alloc_new wr _) zOrder3 rfl (by simp [Value.oneCell']) ?_))
                  go_roundw
                  case rel =>
                    have NX : Hid _ := HM.out.next (F2 := (fun _ => False)) heldOrder hRu hNu hlt s6 e6 f6 gw4 BB own3 g3 at3 6
                    exact ⟨j + 1, kk4, bb4, _, _, _, by go_num, by omega, NX, O9.put 6 _ _ rfl, (((HF.out.grow gw4 (fun b hb => Or.inl (Option.some.inj hb).symm)).grow (grown_of_below BB none) (fun b hb => by cases hb)).grow g3 (fun b hb => Or.inr (HM.out.at_ b hb).2)).set 6 _, fun h => (by have := HB.out h; cases this), fun h _ => HM.out.stop hlt (by have q := s6; rw [h] at q; exact q)⟩
                  case measure => simp [intOf]; omega
                · have fin : ∃ (F : Nat → Prop) (l : List _), Hid (Lst 4 orderEl (w.heap.size + 1 + 1 + 1) l u3 F wr) ∧ Hid (Rd1 (list cOrder) zs k6 b6 l k7 b7) := by
                    have D := HM.out.done gOrder heldOrder mo.rr.row.small (fun e => by
                      rcases Nat.lt_or_ge j n with h | h
                      · exact absurd ⟨h, e⟩ hc
                      · omega) HN.out HB.out HD.out hkz
                    exact ⟨_, _, ⟨D.1.is, D.1.new.keep (by omega) (Nat.le_refl _)⟩, D.2⟩
                  clear HB HD HM HN
                  go_upto_region 30 with fail
                  go_cut [120] from 111 to 120 (fun v wx => v = .bool false ∧ wx = wr)
                  case first =>
                    rcases Nat.lt_or_ge j n with hlt | hge
                    · have hd : decide ((j : Int) < (n : Int)) = true := decide_eq_true (by omega)
                      cases b7 with
                      | false => exact absurd ⟨hlt, rfl⟩ hc
                      | true =>
                        clear hc fin mo
                        go_wp2_with fail
                        go_meet
                        exact ⟨rfl, rfl⟩
                    · have hd : decide ((j : Int) < (n : Int)) = false := decide_eq_false (by omega)
                      clear hc fin mo
                      go_wp2_with fail
                      go_meet
                      exact ⟨rfl, rfl⟩
                  case rest =>
                  obtain ⟨rfl, hwx⟩ := hcut
                  rename World => wz3
                  subst hwx
                  obtain ⟨F3, l3, DL, DR3⟩ := fin
                  have hS7 : Ob w (w.heap.size + 1) w.heap.size (w.heap.size + 1 + 1) 57 #[.int .i64 0, .int .i64 0, .bool false, .slice none 0 0, .slice none 0 0, .slice none 0 0, .slice none 0 0, .slice none 0 0, .int .i64 0, .int .i64 0] a cap zs _ #[.int .i64 x0, .int .i64 x1, .bool x2, u0, u1, u2, u3, .slice none 0 0, .int .i64 0, .int .i64 0] k7 b7 := mo
                  have hf := HF.out
                  have hL3n := DL.out
                  have hL0n := hL0.out.fr heldStack hf (by omega) (by omega)
                  have hL1n := hL1.out.fr heldRobot hf (by omega) (by omega)
                  have hL2n := hL2.out.fr heldPort hf (by omega) (by omega)
                  clear HO HF mo h3 hc DL hf hj hn24 hkz hNu hRu i0 hi0 hz0 hz1 hz2 hL0 hL1 hL2
                  have hL0 := hL0n
                  clear hL0n
                  have hL1 := hL1n
                  clear hL1n
                  have hL2 := hL2n
                  clear hL2n
                  have hL3 := hL3n
                  clear hL3n
                  have cK := count_one _ _ _ _ _ _ _ hS7.rr
                  go_wp2_with (go_at_call 49; refine cK.mono ?_; rintro e1 uu ⟨gu, n, k1, b1, rfl, r1, hn⟩)
                  have hO := Ob.kept hS7 gu r1
                  have hLn0 := hL0.kept heldStack gu (by omega)
                  have hLn1 := hL1.kept heldRobot gu (by omega)
                  have hLn2 := hL2.kept heldPort gu (by omega)
                  have hLn3 := hL3.kept heldOrder gu (by omega)
                  have hkz := r1.le
                  have hn24 : n ≤ 16777216 := by
                    rcases hn with ⟨_, _, _, _, h⟩ | ⟨_, h, _⟩ <;> omega
                  have hNu : w.heap.size + 1 + 1 < uu.heap.size := lt_of_heap hO.so
                  have hRu : w.heap.size + 1 < uu.heap.size := by omega
                  obtain ⟨i0, hi0, hz0, hz1, hz2⟩ := info_parts infJob
                  have HN : Hid (Counted zs k7 b7 n k1 b1) := hn
                  have hb10 : b1 = true → b1 = false → getN cJob n (zs.drop k1) = none := fun h1 h2 => by rw [h1] at h2; cases h2
                  clear cK hn gu r1 hS7 hL0 hL1 hL2 hL3
                  have ST : Hid (Ob w (w.heap.size + 1) w.heap.size (w.heap.size + 1 + 1) 57 #[.int .i64 0, .int .i64 0, .bool false, .slice none 0 0, .slice none 0 0, .slice none 0 0, .slice none 0 0, .slice none 0 0, .int .i64 0, .int .i64 0] a cap zs uu #[.int .i64 x0, .int .i64 x1, .bool x2, u0, u1, u2, u3, .slice none 0 0, .int .i64 0, .int .i64 0] k1 b1) := hO
                  clear hO
                  have hL0 : Hid _ := hLn0
                  clear hLn0
                  have hL1 : Hid _ := hLn1
                  clear hLn1
                  have hL2 : Hid _ := hLn2
                  clear hLn2
                  have hL3 : Hid _ := hLn3
                  clear hLn3
                  go_loopw [16] (fun i wr => ∃ (j ki : Nat) (b : Bool) (v : Value) (ys : List (_ × Array Value)) (F : Nat → Prop), i = .int .i64 j ∧ j ≤ n ∧ Hid (GMid 9 108 cJob jobEl uu zs k1 n v j wr ki b ys F) ∧ Hid (Ob w (w.heap.size + 1) w.heap.size (w.heap.size + 1 + 1) 57 #[.int .i64 0, .int .i64 0, .bool false, .slice none 0 0, .slice none 0 0, .slice none 0 0, .slice none 0 0, .slice none 0 0, .int .i64 0, .int .i64 0] a cap zs wr #[.int .i64 x0, .int .i64 x1, .bool x2, u0, u1, u2, u3, v, .int .i64 0, .int .i64 0] ki b) ∧ Hid (Fr2 uu wr (w.heap.size + 1) (w.heap.size + 1 + 1)) ∧ Hid (b1 = true → b = true) ∧ Hid (b = true → b1 = false → getN cJob n (zs.drop k1) = none)) (fun i _ => n - (intOf i).toNat)
                  case atStart => exact ⟨0, k1, b1, _, [], fun _ => False, rfl, Nat.zero_le _, GMid.start, ST, Fr2.refl _ _ _, id, hb10⟩
                  case round =>
                    clear ST hb10
                    obtain ⟨j, k8, b8, u4, ys, F, rfl, hj, HM, HO, HF, HB, HD⟩ := hrel
                    have mo := HO.out
                    have h3 := mo.rr.b
                    by_cases hc : j < n ∧ b8 = false
                    · obtain ⟨hlt, rfl⟩ := hc
                      have hd : decide ((j : Int) < (n : Int)) = true := decide_eq_true (by omega)
                      go_upto_region 42 with fail
                      have cC := ritemJob M hM24 _ _ _ _ _ _ _ hM mo.rr
                      have mo1 : Hid _ := mo
                      clear mo
                      go_wp2_with (first
                        | (go_at_call 53; refine cC.mono ?_; rintro e2 w2 ⟨g2, x, cs, k2, b2, F2, rfl, e2, f2, r2, s2⟩; have O2 := Ob.kept mo1.out g2 r2; have hcs := heldJob.size e2; have hc1 := heldJob.one e2; have bA : Below w2.heap.size w2 ((w2.alloc (.cells #[.int .i64 0, .int .i64 0, .int .i64 0, .int .i64 0, .int .i64 0, .int .i64 0, .int .i64 0, .int .i64 0, .int .i64 0] 108)).setRow w2.heap.size cs) := below_row ((Below.refl _ _).alloc (Nat.le_refl _) _) (Nat.le_refl _) _; have O3 := O2.later bA; have hclv := (O3.cell 7 _ rfl).1; have hP : ((w2.alloc (.cells #[.int .i64 0, .int .i64 0, .int .i64 0, .int .i64 0, .int .i64 0, .int .i64 0, .int .i64 0, .int .i64 0, .int .i64 0] 108)).setRow w2.heap.size cs).heap[w2.heap.size]? = some (.cells cs 108 (0, 0)) := setRow_heap _ _ _ _ _ _ (heap_alloc_new w2 _); have e6 := heldJob.stable e2 fun g hg => bA.block g (f2 g hg).2; have f6 := f2.keep (Nat.le_refl _) bA.size; have g6 := g2.trans (grown_of_below bA (some (w.heap.size + 1))); have hfold := fold_cells #[.int .i64 0, .int .i64 0, .int .i64 0, .int .i64 0, .int .i64 0, .int .i64 0, .int .i64 0, .int .i64 0, .int .i64 0] cs (by rw [hcs]; rfl); rw [hcs] at hfold; have hCalled := hcs)
                        | (have X' := hCalled; refine wpList_store_row rfl 108 (.tmp 17) (.tmp 157) rfl w2.heap.size cs rfl rfl 108 #[.int .i64 0, .int .i64 0, .int .i64 0, .int .i64 0, .int .i64 0, .int .i64 0, .int .i64 0, .int .i64 0, .int .i64 0] (heap_alloc_new w2 _) (by rw [hcs]; exact zJob3) (by rw [hcs]; rfl) hc1 ?_; generalize hwz : (w2.alloc (.cells #[.int .i64 0, .int .i64 0, .int .i64 0, .int .i64 0, .int .i64 0, .int .i64 0, .int .i64 0, .int .i64 0, .int .i64 0] 108)).setRow w2.heap.size cs = wz at *; clear hwz; have hReady := hP)
                        | (have X' := hReady; refine wpList_load_row rfl 108 (.tmp 17) rfl w2.heap.size rfl 108 cs (0, 0) _ hP Try.underlying108 rfl (by rw [hcs]; exact zJob3) ?_)
                        | (have X' := hReady; at_builtin; have BB := (Below.refl (wz).heap.size (wz)).alloc (Nat.le_refl _) (.cells cs 108); have HW := news_new (wz) cs 108; refine wpList_append_own_at _ rfl (.tmp 159) (.tmp 161) 55 rfl 0 108 i0 (.agg #[.int .i64 0, .int .i64 0, .int .i64 0, .int .i64 0, .int .i64 0, .int .i64 0, .int .i64 0, .int .i64 0, .int .i64 0]) 9 72 Try.underlying55 hi0 hz0 hz1 hz2 rfl (by decide) u4 j (rowOf ys) rfl (HM.out.own_item g6 hRu BB) ⟨wz.heap.size, 0, none⟩ 1 1 cs.toList rfl (by rw [Array.length_toList, hcs]) HW (one_list hc1) (by unfold maxLen; omega) (by omega) (Nat.zero_le _) ?_; intro v3 w3 own3 g3 n3 at3; have O9 := (O3.later BB).apart g3 uu.heap.size (fun b hb => (HM.out.at_ b hb).2) (by omega) (by omega) (by omega) (by omega); have hcl3 := (O9.cell 7 _ rfl).1; have hcl4 := (O9.cell 7 _ rfl).2; obtain ⟨va, vc, rfl⟩ : ∃ va vc, v3 = .slice va (j + 1) vc := (by rcases own3.2 with ⟨hv, h0⟩ | ⟨_, _, _, hv, _⟩; (omega); (exact ⟨_, _, hv⟩))))
                      go_roundw
                      case rel =>
                        have NX : Hid _ := HM.out.next (F2 := F2) heldJob hRu hNu hlt s2 e6 f6 g6 BB own3 g3 at3 7
                        exact ⟨j + 1, k2, b2, _, _, _, by go_num, by omega, NX, O9.put 7 _ _ rfl, (((HF.out.grow g6 (fun b hb => Or.inl (Option.some.inj hb).symm)).grow (grown_of_below BB none) (fun b hb => by cases hb)).grow g3 (fun b hb => Or.inr (HM.out.at_ b hb).2)).set 7 _, fun h => (by have := HB.out h; cases this), fun h _ => HM.out.stop hlt (by have q := s2; rw [h] at q; exact q)⟩
                      case measure => simp [intOf]; omega
                    · have fin : ∃ (F : Nat → Prop) (l : List _), Hid (Lst 9 jobEl (w.heap.size + 1 + 1 + 1) l u4 F wr) ∧ Hid (Rd1 (list cJob) zs k7 b7 l k8 b8) := by
                        have D := HM.out.done gJob heldJob mo.rr.row.small (fun e => by
                          rcases Nat.lt_or_ge j n with h | h
                          · exact absurd ⟨h, e⟩ hc
                          · omega) HN.out HB.out HD.out hkz
                        exact ⟨_, _, ⟨D.1.is, D.1.new.keep (by omega) (Nat.le_refl _)⟩, D.2⟩
                      clear HB HD HM HN
                      go_upto_region 40 with fail
                      go_cut [153] from 144 to 153 (fun v wx => v = .bool false ∧ wx = wr)
                      case first =>
                        rcases Nat.lt_or_ge j n with hlt | hge
                        · have hd : decide ((j : Int) < (n : Int)) = true := decide_eq_true (by omega)
                          cases b8 with
                          | false => exact absurd ⟨hlt, rfl⟩ hc
                          | true =>
                            clear hc fin mo
                            go_wp2_with fail
                            go_meet
                            exact ⟨rfl, rfl⟩
                        · have hd : decide ((j : Int) < (n : Int)) = false := decide_eq_false (by omega)
                          clear hc fin mo
                          go_wp2_with fail
                          go_meet
                          exact ⟨rfl, rfl⟩
                      case rest =>
                      obtain ⟨rfl, hwx⟩ := hcut
                      rename World => wz4
                      subst hwx
                      obtain ⟨F4, l4, DL, DR4⟩ := fin
                      have hS8 : Ob w (w.heap.size + 1) w.heap.size (w.heap.size + 1 + 1) 57 #[.int .i64 0, .int .i64 0, .bool false, .slice none 0 0, .slice none 0 0, .slice none 0 0, .slice none 0 0, .slice none 0 0, .int .i64 0, .int .i64 0] a cap zs _ #[.int .i64 x0, .int .i64 x1, .bool x2, u0, u1, u2, u3, u4, .int .i64 0, .int .i64 0] k8 b8 := mo
                      have hf := HF.out
                      have hL4n := DL.out
                      have hL0n := hL0.out.fr heldStack hf (by omega) (by omega)
                      have hL1n := hL1.out.fr heldRobot hf (by omega) (by omega)
                      have hL2n := hL2.out.fr heldPort hf (by omega) (by omega)
                      have hL3n := hL3.out.fr heldOrder hf (by omega) (by omega)
                      clear HO HF mo h3 hc DL hf hj hn24 hkz hNu hRu i0 hi0 hz0 hz1 hz2 hL0 hL1 hL2 hL3
                      have hL0 := hL0n
                      clear hL0n
                      have hL1 := hL1n
                      clear hL1n
                      have hL2 := hL2n
                      clear hL2n
                      have hL3 := hL3n
                      clear hL3n
                      have hL4 := hL4n
                      clear hL4n
                      obtain ⟨W5, hW5⟩ : ∃ W5, W5 = wz4 := ⟨_, rfl⟩
                      rw [← hW5] at hS8 hL0 hL1 hL2 hL3 hL4 ⊢
                      clear hW5
                      have HL : Hid (∀ w1, Fr2 W5 w1 (w.heap.size + 1) (w.heap.size + 1 + 1) → Lst 3 stackEl (w.heap.size + 1 + 1 + 1) l0 u0 F0 w1 ∧ Lst 9 robotEl (w.heap.size + 1 + 1 + 1) l1 u1 F1 w1 ∧ Lst 3 portEl (w.heap.size + 1 + 1 + 1) l2 u2 F2 w1 ∧ Lst 4 orderEl (w.heap.size + 1 + 1 + 1) l3 u3 F3 w1 ∧ Lst 9 jobEl (w.heap.size + 1 + 1 + 1) l4 u4 F4 w1) := fun w1 f => ⟨hL0.fr heldStack f (by omega) (by omega), hL1.fr heldRobot f (by omega) (by omega), hL2.fr heldPort f (by omega) (by omega), hL3.fr heldOrder f (by omega) (by omega), hL4.fr heldJob f (by omega) (by omega)⟩
                      obtain ⟨a0, c0, hu0, _⟩ := hL0.is.form
                      obtain ⟨a1, c1, hu1, _⟩ := hL1.is.form
                      obtain ⟨a2, c2, hu2, _⟩ := hL2.is.form
                      obtain ⟨a3, c3, hu3, _⟩ := hL3.is.form
                      obtain ⟨a4, c4, hu4, _⟩ := hL4.is.form
                      clear hL0 hL1 hL2 hL3 hL4
                      go_upto_region 44 with fail
                      have cN := num_one _ _ _ _ _ _ _ hS8.rr
                      go_cut [165] from 164 to 166 (fun v wx => ∃ (z8 : Int) (k9 : Nat) (b9 : Bool), Ob w (w.heap.size + 1) w.heap.size (w.heap.size + 1 + 1) 57 #[.int .i64 0, .int .i64 0, .bool false, .slice none 0 0, .slice none 0 0, .slice none 0 0, .slice none 0 0, .slice none 0 0, .int .i64 0, .int .i64 0] a cap zs wx #[.int .i64 x0, .int .i64 x1, .bool x2, u0, u1, u2, u3, u4, .int .i64 z8, .int .i64 0] k9 b9 ∧ Rd1 cNum zs k8 b8 z8 k9 b9 ∧ Fr2 W5 wx (w.heap.size + 1) (w.heap.size + 1 + 1))
                      case first =>
                        go_wp2_with (go_at_call 27; refine cN.mono ?_; rintro e1 w1 ⟨g1, y, k1', b1', rfl, r1, s1⟩; have hs1 := Ob.kept hS8 g1 r1; have hcl := hs1.cell 8 _ rfl; have hcl1 := hcl.1; have hcl2 := hcl.2)
                        go_meet
                        exact ⟨y, k1', b1', hs1.put 8 _ _ rfl, s1, ((Fr2.refl W5 _ _).grow g1 (fun b hb => Or.inl (Option.some.inj hb).symm)).set 8 _⟩
                      case rest =>
                      obtain ⟨z8, k9, b9, hS9, sz8, fr9⟩ := hcut
                      clear cN hS8
                      go_upto_region 45 with fail
                      have cN := num_one _ _ _ _ _ _ _ hS9.rr
                      go_cut [168] from 167 to 169 (fun v wx => ∃ (z9 : Int) (k10 : Nat) (b10 : Bool), Ob w (w.heap.size + 1) w.heap.size (w.heap.size + 1 + 1) 57 #[.int .i64 0, .int .i64 0, .bool false, .slice none 0 0, .slice none 0 0, .slice none 0 0, .slice none 0 0, .slice none 0 0, .int .i64 0, .int .i64 0] a cap zs wx #[.int .i64 x0, .int .i64 x1, .bool x2, u0, u1, u2, u3, u4, .int .i64 z8, .int .i64 z9] k10 b10 ∧ Rd1 cNum zs k9 b9 z9 k10 b10 ∧ Fr2 W5 wx (w.heap.size + 1) (w.heap.size + 1 + 1))
                      case first =>
                        go_wp2_with (go_at_call 27; refine cN.mono ?_; rintro e1 w1 ⟨g1, y, k1', b1', rfl, r1, s1⟩; have hs1 := Ob.kept hS9 g1 r1; have hcl := hs1.cell 9 _ rfl; have hcl1 := hcl.1; have hcl2 := hcl.2)
                        go_meet
                        exact ⟨y, k1', b1', hs1.put 9 _ _ rfl, s1, (fr9.grow g1 (fun b hb => Or.inl (Option.some.inj hb).symm)).set 9 _⟩
                      case rest =>
                      obtain ⟨z9, k10, b10, hS10, sz9, fr10⟩ := hcut
                      clear cN hS9
                      have cWh := rwhole_any _ _ _ _ _ _ _ hS10.rr
                      have hst := Rd1.whole (c := cState) (Rd1.also st0 (Rd1.also st1 (Rd1.also st2 (Rd1.also DR0.out (Rd1.also DR1.out (Rd1.also DR2.out (Rd1.also DR3.out (Rd1.also DR4.out (Rd1.also sz8 sz9))))))))) hS10.rr.le
                      have EE := HL.out _ fr10
                      obtain ⟨E0, E1, E2, E3, E4⟩ := EE
                      subst hu0
                      subst hu1
                      subst hu2
                      subst hu3
                      subst hu4
                      clear HL fr9 fr10
                      rcases hst with ⟨rfl, hend, q⟩ | ⟨rfl, hend, q⟩ | ⟨rfl, q⟩
                      · rw [decide_eq_true hend] at cWh
                        go_wp2_with (first
                          | (go_at_call 30; refine cWh.mono ?_; rintro e2 w2 ⟨rfl, m2, rfl⟩; have hs3 := hS10.drewN m2)
                          | (have X' := hs3; refine wpList_load_row rfl 57 (.tmp 5) rfl (w.heap.size + 1 + 1) rfl 57 #[.int .i64 x0, .int .i64 x1, .bool x2, .slice a0 l0.length c0, .slice a1 l1.length c1, .slice a2 l2.length c2, .slice a3 l3.length c3, .slice a4 l4.length c4, .int .i64 z8, .int .i64 z9] (0, 0) _ hs3.so Try.underlying57 rfl zState3 ?_)
                          | (have X' := hs3; refine wpList_store_row rfl 57 (.tmp 2) (.tmp 174) rfl w.heap.size #[.int .i64 x0, .int .i64 x1, .bool x2, .slice a0 l0.length c0, .slice a1 l1.length c1, .slice a2 l2.length c2, .slice a3 l3.length c3, .slice a4 l4.length c4, .int .i64 z8, .int .i64 z9] rfl rfl 57 #[.int .i64 0, .int .i64 0, .bool false, .slice none 0 0, .slice none 0 0, .slice none 0 0, .slice none 0 0, .slice none 0 0, .int .i64 0, .int .i64 0] hs3.res zState3 rfl (by simp [Value.oneCell']) ?_))
                        refine bodyPost_ret (results_cell_tmp Try.results20 _ _ w.heap.size #[.int .i64 x0, .int .i64 x1, .bool x2, .slice a0 l0.length c0, .slice a1 l1.length c1, .slice a2 l2.length c2, .slice a3 l3.length c3, .slice a4 l4.length c4, .int .i64 z8, .int .i64 z9] rfl (run_loadVar_row _ _ _ _ _ (0, 0) _ (setRow_heap _ _ _ _ _ _ hs3.res) Try.underlying57 rfl zState3)) rfl ?_
                        refine ⟨below_row ((Below.refl _ _).grown hs3.grow (Nat.le_refl _) (fun k hk => by cases hk; omega)) (Nat.le_refl _) _, Or.inl ⟨_, _, fun g => F0 g ∨ F1 g ∨ F2 g ∨ F3 g ∨ F4 g, q, ⟨_, _, _, _, _, rfl, ?_, ?_, ?_, ?_, ?_⟩, fun g hg => ?_, rfl⟩⟩
                        · exact (((E0.drewN heldStack m2).setRow heldStack w.heap.size _ (by omega)).is).mono heldStack fun g h => Or.inl h
                        · exact (((E1.drewN heldRobot m2).setRow heldRobot w.heap.size _ (by omega)).is).mono heldRobot fun g h => Or.inr (Or.inl h)
                        · exact (((E2.drewN heldPort m2).setRow heldPort w.heap.size _ (by omega)).is).mono heldPort fun g h => Or.inr (Or.inr (Or.inl h))
                        · exact (((E3.drewN heldOrder m2).setRow heldOrder w.heap.size _ (by omega)).is).mono heldOrder fun g h => Or.inr (Or.inr (Or.inr (Or.inl h)))
                        · exact (((E4.drewN heldJob m2).setRow heldJob w.heap.size _ (by omega)).is).mono heldJob fun g h => Or.inr (Or.inr (Or.inr (Or.inr h)))
                        · rw [setRow_size]
                          have n0 := E0.new g
                          have n1 := E1.new g
                          have n2 := E2.new g
                          have n3 := E3.new g
                          have n4 := E4.new g
                          rcases hg with h | h | h | h | h
                          · exact ⟨by have := (n0 h).1; omega, (n0 h).2⟩
                          · exact ⟨by have := (n1 h).1; omega, (n1 h).2⟩
                          · exact ⟨by have := (n2 h).1; omega, (n2 h).2⟩
                          · exact ⟨by have := (n3 h).1; omega, (n3 h).2⟩
                          · exact ⟨by have := (n4 h).1; omega, (n4 h).2⟩
                      · rw [decide_eq_false hend] at cWh
                        go_wp2_with (first
                          | (go_at_call 30; refine cWh.mono ?_; rintro e2 w2 ⟨rfl, m2, rfl⟩; have hs3 := hS10.drewN m2)
                          | (have X' := hs3; refine wpList_store_row rfl 57 (.tmp 2) (.tmp 173) rfl w.heap.size #[.int .i64 0, .int .i64 0, .bool false, .slice none 0 0, .slice none 0 0, .slice none 0 0, .slice none 0 0, .slice none 0 0, .int .i64 0, .int .i64 0] rfl rfl 57 #[.int .i64 0, .int .i64 0, .bool false, .slice none 0 0, .slice none 0 0, .slice none 0 0, .slice none 0 0, .slice none 0 0, .int .i64 0, .int .i64 0] hs3.res zState3 rfl (by simp [Value.oneCell']) ?_))
                        refine bodyPost_ret (results_cell_tmp Try.results20 _ _ w.heap.size #[.int .i64 0, .int .i64 0, .bool false, .slice none 0 0, .slice none 0 0, .slice none 0 0, .slice none 0 0, .slice none 0 0, .int .i64 0, .int .i64 0] rfl (run_loadVar_row _ _ _ _ _ (0, 0) _ (setRow_heap _ _ _ _ _ _ hs3.res) Try.underlying57 rfl zState3)) rfl ?_
                        exact ⟨below_row ((Below.refl _ _).grown hs3.grow (Nat.le_refl _) (fun k hk => by cases hk; omega)) (Nat.le_refl _) _, Or.inr ⟨q, rfl⟩⟩
                      · clear E0 E1 E2 E3 E4
                        go_wp2_with (first
                          | (go_at_call 30; refine cWh.mono ?_; rintro e2 w2 ⟨rfl, m2, rfl⟩; have hs3 := hS10.drewN m2)
                          | (have X' := hs3; refine wpList_store_row rfl 57 (.tmp 2) (.tmp 173) rfl w.heap.size #[.int .i64 0, .int .i64 0, .bool false, .slice none 0 0, .slice none 0 0, .slice none 0 0, .slice none 0 0, .slice none 0 0, .int .i64 0, .int .i64 0] rfl rfl 57 #[.int .i64 0, .int .i64 0, .bool false, .slice none 0 0, .slice none 0 0, .slice none 0 0, .slice none 0 0, .slice none 0 0, .int .i64 0, .int .i64 0] hs3.res zState3 rfl (by simp [Value.oneCell']) ?_))
                        refine bodyPost_ret (results_cell_tmp Try.results20 _ _ w.heap.size #[.int .i64 0, .int .i64 0, .bool false, .slice none 0 0, .slice none 0 0, .slice none 0 0, .slice none 0 0, .slice none 0 0, .int .i64 0, .int .i64 0] rfl (run_loadVar_row _ _ _ _ _ (0, 0) _ (setRow_heap _ _ _ _ _ _ hs3.res) Try.underlying57 rfl zState3)) rfl ?_
                        exact ⟨below_row ((Below.refl _ _).grown hs3.grow (Nat.le_refl _) (fun k hk => by cases hk; omega)) (Nat.le_refl _) _, Or.inr ⟨q, rfl⟩⟩
end Go.Proofs.Ythdgpadakmdlkaa.Codec
