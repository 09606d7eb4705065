/-
  WalReads: what goes through a log's own bytes tells what Open tells of it, each record at the end of the one ahead.
-/
import Derived.Test.YtnehkjabhmhijaaWalRoundR
import Derived.Test.YtnehkjabhmhijaaWalFed
import Derived.Test.YtnehkjabhmhijaaWalRecordsWalk
namespace Go.Proofs.Ytnehkjabhmhijaa.Wal
set_option linter.unusedVariables false
set_option linter.unusedSimpArgs false
open Go Go.RowKit Go.Shelf Go.Proofs
open Go.Proofs.Ytnehkjabhmhijaa.Disk (Row getD_in ret_int add_add DiskIs Kept St now setSt owns_row owns_same)

theorem row_front {w : World} {a : Option Addr} {n m : Nat} {xs ys : List Int} (h : Row w a (n + m) (xs ++ ys)) (hx : xs.length = n) : Row w a n xs := by
  refine ⟨hx, fun z hz => h.small z (List.mem_append_left _ hz), fun i hi => ?_⟩
  obtain ⟨x, hx', hc⟩ := h.cell i (by omega)
  refine ⟨x, hx', ?_⟩
  rw [hc, getD_in _ i (by rw [List.length_append]; omega), getD_in xs i (by omega), List.getElem_append_left (by omega)]
set_option maxRecDepth 100000 in
set_option maxHeartbeats 2000000 in
theorem reads_all (a0 a1 : Option Addr) (len0 cap0 len1 cap1 : Nat) (ps0 : List Piece) (zs1 : List Int) (w : World) (h0 : Texts w a0 len0 ps0) (hl0 : len0 ≤ 9223372036854775807) (h1 : Row w a1 len1 zs1) (n1 : a1 = none → len1 = 0 ∧ cap1 = 0) (hl1 : len1 ≤ 9223372036854775807) :
    Calls Try.prog 4 #[.slice a0 len0 cap0, .slice a1 len1 cap1] w fun e w' => e = .returned (.bool true) ∧ Below w.heap.size w w' := by
  have cW := awake_any
  have hnilF := eql_nil
  have gA := sayOf_good ps0
  have lA := sayOf_length ps0
  have s0 := say_any a0 len0 cap0 ps0 w h0 hl0
  obtain ⟨A, hA⟩ : ∃ A, sayOf ps0 = A := ⟨_, rfl⟩
  rw [hA] at gA lA s0
  clear hA
  obtain ⟨nA, hnA⟩ : ∃ n, A.length = n := ⟨_, rfl⟩
  rw [hnA] at s0
  have hO : openSt σ0 0 (stop 0 []) = σ0 := openSt_same σ0 0
  have hlz := h1.len
  by_cases hbig : 3000 < len1
  · have t9 : (3000 : Int) < (len1 : Int) := by omega
    go_enter Try.func4, Try.ntmps4
    go_wp2_with (first
      | (go_at_call 5; refine (cW w4).mono ?_; rintro e w5 ⟨rfl, b5⟩)
      | (go_at_call 7; refine (open_any g3 (by decide) 0 (by decide) [] rfl [] ⟨trivial, rfl⟩).mono ?_; rintro e w4 ⟨own4, L, ta4, tc4, ps4, rfl, h4, f4, lg4, t4, hp4⟩)
      | (go_at_call 6; refine (live_new (w1.alloc (.cells #[.slice aA nA cA] 27)) (w1.alloc (.cells #[.slice aA nA cA] 27)) (Below.refl _ _)).mono ?_; rintro e w3 ⟨rfl, ⟨own3, g3⟩, b3⟩; rw [World.size_alloc] at g3)
      | (go_at_call 13; refine s0.mono ?_; rintro e w1 ⟨aA, cA, rfl, TA, nnA, leA, b1⟩; have b2 : Below w1.heap.size w1 (w1.alloc (.cells #[.slice aA nA cA] 27)) := (Below.refl _ _).alloc (Nat.le_refl _) _))
    go_ret
    exact ⟨rfl, bcat (bcat (bcat b1 b2) h4.below) b5⟩
  · have t9 : ¬ ((3000 : Int) < (len1 : Int)) := by omega
    have hfit : ∀ x ∈ A.map Piece.zs, Fits x := good_fits gA
    obtain ⟨hd, hst, hsy⟩ := done_all (A.map Piece.zs) hfit
    have hRA := recs_len _ (good_len gA)
    rw [List.length_map, hnA] at hRA
    have tA : (A.map Piece.zs).take nA = A.map Piece.zs := List.take_of_length_le (by rw [List.length_map]; omega)
    have hnsl : (lens (A.map Piece.zs)).length = nA := by rw [lens_length, List.length_map, hnA]
    obtain ⟨ns, hns⟩ : ∃ ns, lens (A.map Piece.zs) = ns := ⟨_, rfl⟩
    obtain ⟨R, hRe⟩ : ∃ R, recsOf (A.map Piece.zs) = R := ⟨_, rfl⟩
    rw [hns, hRe] at hd hsy
    rw [hns] at hnsl
    rw [hns, hRe] at hst
    rw [hRe] at hRA
    obtain ⟨N, hN⟩ : ∃ N, R.length = N := ⟨_, rfl⟩
    rw [hN] at hst hRA
    have hN2 : N ≤ 120320 := Nat.le_trans hRA (by have := Nat.mul_le_mul_right 3008 (show nA ≤ 40 by omega); omega)
    have hNi : (N : Int) ≤ 120320 := by omega
    have hd' := hd
    have hl1i : (len1 : Int) ≤ 3000 := by omega
    go_enter Try.func4, Try.ntmps4
    go_wp2_with (first
      | (go_at_call 7; refine (open_any g3 (by decide) 0 (by decide) [] rfl [] ⟨trivial, rfl⟩).mono ?_; rintro e w4 ⟨own4, L, ta4, tc4, ps4, rfl, h4, f4, lg4, t4, hp4⟩; rw [hO, ← logSt_nil 0] at h4)
      | (go_at_call 6; refine (live_new (w1.alloc (.cells #[.slice aA nA cA] 27)) (w1.alloc (.cells #[.slice aA nA cA] 27)) (Below.refl _ _)).mono ?_; rintro e w3 ⟨rfl, ⟨own3, g3⟩, b3⟩; rw [World.size_alloc] at g3)
      | (go_at_call 13; refine s0.mono ?_; rintro e w1 ⟨aA, cA, rfl, TA, nnA, leA, b1⟩; have b2 : Below w1.heap.size w1 (w1.alloc (.cells #[.slice aA nA cA] 27)) := (Below.refl _ _).alloc (Nat.le_refl _) _; have hSB := Boxed.new w1 27 (.slice aA nA cA); have TW := TA.after b2; have bW := bcat b1 b2))
    generalize w1.alloc (.cells #[.slice aA nA cA] 27) = W at *
    have fed0 : Fed W A (w1.heap.size + 1) L 0 [] [] 3 0 w4 := Fed.start h4 lg4
    clear h4 lg4 t4 hp4 f4 g3 b3 b2 b1 TA
    generalize hSBe : w1.heap.size = SB at *
    generalize hD : SB + 1 = D at *
    go_loopw [10] (fun j wr => ∃ k : Nat, k ≤ nA ∧ j = .int .i64 k ∧ Hid (Fed W A D L 0 [] [] 3 k wr)) (fun j _ => nA - (intOf j).toNat)
    case atStart => exact ⟨0, by omega, rfl, fed0⟩
    case round =>
      clear fed0
      obtain ⟨k, hk, rfl, hfed⟩ := hrel
      have hF := hfed.out
      clear hfed
      have hcS := (boxed_after hSB hF.below).cell
      by_cases hlt : k < nA
      · have t0 : (k : Int) < (nA : Int) := by omega
        obtain ⟨x, rfl, hcA, hiA⟩ := (TW.after hF.below).get k (by omega)
        have hgood := gA _ (List.getElem_mem (show k < A.length by omega))
        have cC := Disk.copy_any (A[k]).a (A[k]).zs.length (A[k]).cap (A[k]).zs wr hiA.row (by omega) hiA.nil
        have cN := fed_next hF (by decide) (show k < A.length by omega) (by omega) (by omega) gA (by simp)
        obtain ⟨P, hP⟩ : ∃ P, A[k] = P := ⟨_, rfl⟩
        rw [hP] at cC cN hcA
        clear hgood hiA hP
        generalize hzz : P.zs = zz at *
        generalize hll : zz.length = ll at *
        generalize P.a = pa at *
        generalize P.cap = pc at *
        go_wp2_with (first
          | (go_at_call 14; refine (cN a5 ll c5 zz rfl hll w5 b5 r5 n5).mono ?_; rintro e w6 ⟨rfl, f6⟩)
          | (go_at_call 10; refine cC.mono ?_; rintro e w5 ⟨a5, c5, rfl, r5, o5, b5⟩; have n5 := fun h => ((Disk.owns_form o5).1 h).2))
        go_roundw
        case rel => exact ⟨k + 1, by omega, by go_num, f6⟩
        case measure => simp [intOf]; omega
      · have t0 : ¬ ((k : Int) < (nA : Int)) := by omega
        obtain rfl : k = nA := by omega
        obtain ⟨ownA, hlA, lgA⟩ := hF.live
        rw [List.nil_append, tA, hRe] at hlA
        have bwr := hF.below
        have bww : Below w.heap.size w wr := bcat bW bwr
        have hnow : now (logSt 0 [] R) 0 = R := by rw [logSt_now]; rfl
        have hRs : ∀ z ∈ R, 0 ≤ z ∧ z < 256 := by have := Disk.now_small hlA.disk 0 (by decide); rwa [hnow] at this
        have cSz := size_live hlA 0 (by decide) N (by rw [hnow, hN])
        have cRd := read_live hlA (by omega) 0 (by decide) R N hnow hN
        have kR := fun (a6 : Option Addr) (d6 : Nat) (w6 : World) (o6 : w6.ownsRow 0 5 1 (.slice a6 (N + len1) d6) (N + len1) ((R ++ zs1).map (Value.int .u8))) => logRecords_any (Option.some ⟨L, 0, none⟩) a6 N d6 R w6 (row_front (owns_row o6 (small_append hRs h1.small)).1 hN) (fun h => ((Disk.owns_form o6).1 h).2) (by omega)
        have kO := fun (w7 V8 : World) (b67 : Below wr.heap.size wr w7) (bV : Below w7.heap.size w7 V8) => open_any (hlA.later (bcat b67 bV)) (by omega) 0 (by decide) R hnow ns hd
        rw [hnsl] at kO
        have kF := fun (w7 V8 w9 : World) (own9 : Owns) (b67 : Below wr.heap.size wr w7) (bV : Below w7.heap.size w7 V8) (f9 : Fr ownA own9 V8 w9) (q : Nat) (hq : w7.heap.size ≤ q) (hq2 : q < V8.heap.size) => cell_block (w := V8) (w' := w9) (p := ⟨q, 0, none⟩) (f9.kept.block q hq2 (by
          by_cases hn : ownA q = none
          · exact hn
          · have h1 := hlA.disk.old _ hn
            have h2 := b67.size
            omega))
        clear hF hlt hd lgA
        go_wp2_with (first
          | (go_at_call 5; refine (cW w10).mono ?_; rintro e w11 ⟨rfl, b11⟩)
          | (go_at_call 18; refine (same_any ta9 aA k tc9 k cA ps9 A w9 t9x.toTexts (((FreeTexts.of (hlA.later (bcat b67 bV)) TW).go f9).toTexts) (by omega) (by omega)).mono ?_; rintro e w10 ⟨rfl, b10⟩; rw [decide_eq_true (hp9.trans hsy)])
          | (go_at_call 7; refine (kO w7 V8 b67 bV).mono ?_; rintro e w9 ⟨own9, L9, ta9, tc9, ps9, rfl, h9, f9, lg9, t9x, hp9⟩; have z1 := (kF w7 V8 w9 own9 b67 bV f9 (w7.heap.size + 1 + 1) (by omega) (World.block_lt_of_cell? V8 _ y1)).trans y1; have z2 := (kF w7 V8 w9 own9 b67 bV f9 w7.heap.size (by omega) (World.block_lt_of_cell? V8 _ y2)).trans y2; have z3 := (kF w7 V8 w9 own9 b67 bV f9 (w7.heap.size + 1) (by omega) (World.block_lt_of_cell? V8 _ y3)).trans y3; have z4 := (cell_block (p := ⟨SB, 0, none⟩) (f9.kept.block SB ((hlA.later (bcat b67 bV)).old hSB.lt).1 ((hlA.later (bcat b67 bV)).old hSB.lt).2)).trans (boxed_after hSB ((hlA.later (bcat b67 bV)).below)).cell; rw [hst] at z3)
          | (go_at_call 28; refine (roundR_any w7 B0 SB k cA N c7 aA a7 R ns A hd' hnsl (by omega) hsy hc7 hB0b r7 _ o7 (by omega) (TW.after (bcat bwr b67)) (boxed_after hSB (bcat bwr b67))).mono ?_; rintro e V8 ⟨⟨v8, rfl⟩, bV, y1, y2, y3⟩)
          | (go_at_call 9; refine (kR a6 d6 w6 o6).mono ?_; rintro e w7 ⟨B0, a7, c7, rfl, hc7, hB0a, hB0b, o7, r7, b7⟩; have b67 := bcat b56 b7)
          | (at_builtin; refine Disk.wpList_append_bytes rfl (.tmp 65) (.tmp 66) rfl _ N R rfl (owns_nought o5) a1 len1 cap1 zs1 rfl (h1.after (bcat bww b5)) (fun h => (n1 h).2) (by omega) ?_; intro a6 d6 w6 o6 g6 t6; have b56 := b5.grown g6 b5.size (row_from o5); have hd6 : (N : Int) + len1 ≤ (d6 : Int) := (by have := (Disk.owns_form o6).2.2; omega))
          | (go_at_call 16; refine cRd.mono ?_; rintro e w5 ⟨a5, c5, rfl, o5, r5, n5, b5⟩)
          | (go_at_call 15; refine cSz.mono ?_; rintro e u5 ⟨rfl, hu5⟩; rw [hu5]))
        go_ret
        exact ⟨rfl, bcat (bcat (bcat bW h9.below) b10) b11⟩
end Go.Proofs.Ytnehkjabhmhijaa.Wal
