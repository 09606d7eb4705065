/-
  WalTorn: wherever the power goes, what Open tells is a beginning of what was appended, with all that was certain; what is appended behind that is told too.
-/
import Derived.Test.YteklmgbfinffdaaWalLaw
namespace Go.Proofs.Yteklmgbfinffdaa.Wal
set_option linter.unusedVariables false
set_option linter.unusedSimpArgs false
open Go Go.RowKit Go.Shelf Go.Proofs
open Go.Proofs.Yteklmgbfinffdaa.Disk (Row getD_in ret_int add_add DiskIs Kept St now setSt owns_row owns_same)

theorem crash_file (RA RB : List Int) (u : Nat) : Disk.crashSt (logSt 0 RA RB) u 0 0 = (RA ++ RB.take u, []) := by
  unfold Disk.crashSt
  rw [logSt_at, if_pos rfl, Int.toNat_natCast, Disk.take_map_inl, Disk.run_bytes]
theorem crash_sure (σ : St) (zs : List Int) (h : σ 0 = (zs, [])) : Disk.crashSt σ 0 0 0 = (zs, []) := by
  unfold Disk.crashSt
  rw [h]
  rfl
theorem pendings (RA RB : List Int) : (logSt 0 RA RB 0).2.length = RB.length := by rw [logSt_at]; exact List.length_map ..
theorem place_nat (v : Int) (n : Nat) : ∃ u : Nat, Crc.place v ((n : Int) + 1) = (u : Int) ∧ u ≤ n := by
  have h := Crc.place_bd v ((n : Int) + 1) (by omega)
  obtain ⟨u, hu⟩ := Int.eq_ofNat_of_zero_le h.1
  exact ⟨u, hu, by omega⟩
theorem row_from {w : World} {B : Nat} {e : TypeId} {size n cap : Nat} {a : Option Addr} {xs : List Value} (h : w.ownsRow B e size (.slice a n cap) n xs) : ∀ k, Value.ownBlock (.slice a n cap) = Option.some k → B ≤ k := by
  intro k hk
  rcases h.2 with ⟨e, _⟩ | ⟨g, cap', cur, e, hb, _⟩
  · rw [e] at hk; cases hk
  · rw [e] at hk; cases hk; exact hb
theorem both_in {w : World} {a b : Option Addr} {n m : Nat} {ps qs : List Piece} (hp : Texts w a n ps) (hq : Texts w b m qs) : ∀ p ∈ ps ++ qs, PieceIn w p := by
  intro p h
  rcases List.mem_append.1 h with h | h
  · exact hp.piece p h
  · exact hq.piece p h
theorem bcat {a b c : World} (h : Below a.heap.size a b) (k : Below b.heap.size b c) : Below a.heap.size a c := h.trans (k.mono h.size)
/- A loop that appends texts to the log: behind k of them. -/
structure Fed (W : World) (A : List Piece) (D L : Nat) (i : Nat) (s m : List Int) (c k : Nat) (wr : World) : Prop where
  live : ∃ own, Live W wr own D (logSt i s (m ++ recsOf ((A.map Piece.zs).take k))) (c + k) ∧ LogIs own wr L D i
theorem fed_next {W wr : World} {A : List Piece} {D L i c k : Nat} {s m : List Int} (h : Fed W A D L i s m c k wr) (hi : i < 2) (hk : k < A.length) (hA : A.length ≤ 40) (hc : c ≤ 4000) (hg : ∀ p ∈ A, 0 < p.zs.length ∧ p.zs.length < 3000) (hs : s.length + m.length ≤ 1000000)
    (a : Option Addr) (n cap : Nat) (zs : List Int) (hz : (A[k]).zs = zs) (hn : zs.length = n) (w5 : World) (h5 : Below wr.heap.size wr w5) (hr : Row w5 a n zs) (h0 : a = none → cap = 0) :
    Calls Try.prog 23 #[.pointer (Option.some ⟨L, 0, none⟩), .slice a n cap] w5 fun e w' => e = .returned (.int .i64 0) ∧ Fed W A D L i s m c (k + 1) w' := by
  obtain ⟨own, hl, hg'⟩ := h.live
  have hgood := hg _ (List.getElem_mem hk)
  rw [hz] at hgood
  have hlen := recs_len ((A.map Piece.zs).take k) (fun x hx => good_len hg x (List.mem_of_mem_take hx))
  rw [List.length_take, List.length_map] at hlen
  have hbd : (recsOf ((A.map Piece.zs).take k)).length ≤ 120320 := Nat.le_trans hlen (by have := Nat.mul_le_mul_right 3008 (show min k A.length ≤ 40 by omega); omega)
  refine (append_any (hl.later h5) (by omega) (hg'.go (Fr.below h5)) hi a n cap zs hr h0 (by omega) (by omega) ?_).mono ?_
  · rw [logSt_now, List.length_append, List.length_append]
    omega
  · rintro e w' ⟨rfl, own', hl', f'⟩
    refine ⟨rfl, ⟨own', ?_, (hg'.go (Fr.below h5)).go f'⟩⟩
    rw [logSt_app, List.append_assoc] at hl'
    have e : recsOf ((A.map Piece.zs).take (k + 1)) = recsOf ((A.map Piece.zs).take k) ++ rec zs := by
      rw [recs_take _ _ (by rw [List.length_map]; exact hk), List.getElem_map, hz]
    rw [e]
    exact hl'
theorem Fed.start {W wr : World} {A : List Piece} {D L i c : Nat} {s m : List Int} {own : Owns} (h : Live W wr own D (logSt i s m) c) (hl : LogIs own wr L D i) : Fed W A D L i s m c 0 wr :=
  ⟨own, by rw [List.take_zero, recsOf_nil, List.append_nil]; exact h, hl⟩
theorem Fed.below {W wr : World} {A : List Piece} {D L i c k : Nat} {s m : List Int} (h : Fed W A D L i s m c k wr) : Below W.heap.size W wr := by
  obtain ⟨own, hl, _⟩ := h.live
  exact hl.below

set_option maxRecDepth 100000 in
set_option maxHeartbeats 8000000 in
theorem torn_all (a0 a1 a3 : Option Addr) (len0 cap0 len1 cap1 l3 c3 : Nat) (units : Int) (ps0 ps1 : List Piece) (zs3 : List Int) (w : World) (h0 : Texts w a0 len0 ps0) (h1 : Texts w a1 len1 ps1) (hl0 : len0 ≤ 9223372036854775807) (hl1 : len1 ≤ 9223372036854775807)
    (h3 : Row w a3 l3 zs3) (n3 : a3 = none → l3 = 0 ∧ c3 = 0) (hl3 : l3 ≤ 9223372036854775807) :
    Calls Try.prog 6 #[.slice a0 len0 cap0, .slice a1 len1 cap1, .int .i64 units, .slice a3 l3 c3] w fun e w' => e = .returned (.bool true) ∧ Below w.heap.size w w' := by
  have gA := sayOf_good ps0
  have gB := sayOf_good ps1
  have lA := sayOf_length ps0
  have lB := sayOf_length ps1
  have s0 := say_any a0 len0 cap0 ps0 w h0 hl0
  have s1 := fun (w1 : World) (hb : Below w.heap.size w w1) => say_any a1 len1 cap1 ps1 w1 (h1.after hb) hl1
  obtain ⟨A, hA⟩ : ∃ A, sayOf ps0 = A := ⟨_, rfl⟩
  obtain ⟨B, hB⟩ : ∃ B, sayOf ps1 = B := ⟨_, rfl⟩
  rw [hA] at gA lA s0
  rw [hB] at gB lB
  simp only [hB] at s1
  clear hA hB
  obtain ⟨nA, hnA⟩ : ∃ n, A.length = n := ⟨_, rfl⟩
  obtain ⟨nB, hnB⟩ : ∃ n, B.length = n := ⟨_, rfl⟩
  rw [hnA] at s0
  simp only [hnB] at s1
  have hO : openSt σ0 0 (stop 0 []) = σ0 := openSt_same σ0 0
  have hRA := recs_len _ (good_len gA)
  have hRB := recs_len _ (good_len gB)
  rw [List.length_map, hnA] at hRA
  rw [List.length_map, hnB] at hRB
  have fA := good_fits gA
  have fB := good_fits gB
  have tA : (A.map Piece.zs).take nA = A.map Piece.zs := List.take_of_length_le (by rw [List.length_map]; omega)
  have tB : (B.map Piece.zs).take nB = B.map Piece.zs := List.take_of_length_le (by rw [List.length_map]; omega)
  go_enter Try.func6, Try.ntmps6
  go_wp2_with (first
    | (go_at_call 14; refine (open_any h3' (by decide) 0 (by decide) [] rfl [] ⟨trivial, rfl⟩).mono ?_; rintro e w4 ⟨own4, L, ta4, tc4, ps4, rfl, h4, f4, lg4, t4, hp4⟩; rw [hO, ← logSt_nil 0] at h4)
    | (go_at_call 10; refine (live_new w2 w2 (Below.refl _ _)).mono ?_; rintro e w3 ⟨rfl, ⟨own3, h3'⟩, b3⟩)
    | (go_at_call_of 25 a1; refine (s1 w1 b1).mono ?_; rintro e w2 ⟨aB, cB, rfl, TB, nnB, leB, b2⟩; have TA2 := TA.after b2)
    | (go_at_call_of 25 a0; refine s0.mono ?_; rintro e w1 ⟨aA, cA, rfl, TA, nnA, leA, b1⟩))
  obtain ⟨D, hD⟩ : ∃ D, w2.heap.size = D := ⟨_, rfl⟩
  have bW2 : Below w.heap.size w w2 := b1.trans (b2.mono b1.size)
  have fed0 : Fed w2 A D L 0 [] [] 3 0 w4 := by rw [← hD]; exact Fed.start h4 lg4
  rw [hD]
  clear h4 lg4 t4 hp4 f4 h3' b3 TA
  go_loopw [15] (fun i wr => ∃ k : Nat, k ≤ nA ∧ i = .int .i64 k ∧ Fed w2 A D L 0 [] [] 3 k wr) (fun i _ => nA - (intOf i).toNat)
  case atStart => exact ⟨0, by omega, rfl, fed0⟩
  case round =>
    clear fed0
    obtain ⟨k, hk, rfl, hfed⟩ := hrel
    by_cases hlt : k < nA
    · have t0 : (k : Int) < (nA : Int) := by omega
      obtain ⟨x, rfl, hcA, hiA⟩ := (TA2.after hfed.below).get k (by omega)
      have hgood := gA _ (List.getElem_mem (show k < A.length by omega))
      have cC := Disk.copy_any (A[k]).a (A[k]).zs.length (A[k]).cap (A[k]).zs wr hiA.row (by omega) hiA.nil
      have cN := fed_next hfed (by decide) (show k < A.length by omega) (by omega) (by omega) gA (by simp)
      obtain ⟨P, hP⟩ : ∃ P, A[k] = P := ⟨_, rfl⟩
      rw [hP] at cC cN hcA
      clear hgood hiA hP
      generalize hzz : P.zs = zz at *
      generalize hll : zz.length = ll at *
      generalize P.a = pa at *
      generalize P.cap = pc at *
      go_wp2_with (first
        | (go_at_call 23; refine (cN a5 ll c5 zz rfl hll w5 b5 r5 n5).mono ?_; rintro e w6 ⟨rfl, f6⟩)
        | (go_at_call 12; refine cC.mono ?_; rintro e w5 ⟨a5, c5, rfl, r5, o5, b5⟩; have n5 := fun h => ((Disk.owns_form o5).1 h).2))
      go_roundw
      case rel => exact ⟨k + 1, by omega, by go_num, f6⟩
      case measure => simp [intOf]; omega
    · have t0 : ¬ ((k : Int) < (nA : Int)) := by omega
      obtain rfl : k = nA := by omega
      obtain ⟨ownA, hlA, lgA⟩ := hfed.live
      rw [List.nil_append, tA] at hlA
      obtain ⟨RA, hRAe⟩ : ∃ R, recsOf (A.map Piece.zs) = R := ⟨_, rfl⟩
      rw [hRAe] at hlA hRA
      go_wp2_with (go_at_call 26; refine (sync_any hlA (by omega) lgA (by decide)).mono ?_; rintro e w7 ⟨rfl, own7, h7, f7⟩; rw [logSt_sync, List.nil_append] at h7; have lg7 := lgA.go f7)
      have fed1 : Fed w2 B D L 0 RA [] (3 + k + 1) 0 w7 := Fed.start h7 lg7
      clear hfed hlA lgA h7 lg7 f7
      go_loopw [16] (fun i wr => ∃ q : Nat, q ≤ nB ∧ i = .int .i64 q ∧ Fed w2 B D L 0 RA [] (3 + k + 1) q wr) (fun i _ => nB - (intOf i).toNat)
      case atStart => exact ⟨0, by omega, rfl, fed1⟩
      case round =>
        clear fed1
        obtain ⟨q, hq, rfl, hfed⟩ := hrel
        by_cases hlt : q < nB
        · have t0 : (q : Int) < (nB : Int) := by omega
          obtain ⟨x, rfl, hcA, hiA⟩ := (TB.after hfed.below).get q (by omega)
          have hgood := gB _ (List.getElem_mem (show q < B.length by omega))
          have cC := Disk.copy_any (B[q]).a (B[q]).zs.length (B[q]).cap (B[q]).zs wr hiA.row (by omega) hiA.nil
          have cN := fed_next hfed (by decide) (show q < B.length by omega) (by omega) (by omega) gB (by rw [List.length_nil]; omega)
          obtain ⟨P, hP⟩ : ∃ P, B[q] = P := ⟨_, rfl⟩
          rw [hP] at cC cN hcA
          clear hgood hiA hP
          generalize hzz : P.zs = zz at *
          generalize hll : zz.length = ll at *
          generalize P.a = pa at *
          generalize P.cap = pc at *
          go_wp2_with (first
            | (go_at_call 23; refine (cN a5 ll c5 zz rfl hll w5 b5 r5 n5).mono ?_; rintro e w6 ⟨rfl, f6⟩)
            | (go_at_call 12; refine cC.mono ?_; rintro e w5 ⟨a5, c5, rfl, r5, o5, b5⟩; have n5 := fun h => ((Disk.owns_form o5).1 h).2))
          go_roundw
          case rel => exact ⟨q + 1, by omega, by go_num, f6⟩
          case measure => simp [intOf]; omega
        · have t0 : ¬ ((q : Int) < (nB : Int)) := by omega
          obtain rfl : q = nB := by omega
          obtain ⟨ownB, hlB, lgB⟩ := hfed.live
          rw [List.nil_append, tB] at hlB
          obtain ⟨RB, hRBe⟩ : ∃ R, recsOf (B.map Piece.zs) = R := ⟨_, rfl⟩
          rw [hRBe] at hlB hRB
          have TAr := TA2.after hfed.below
          have TBr := TB.after hfed.below
          have hWr : Below w.heap.size w wr := bW2.trans (hfed.below.mono bW2.size)
          have pB := pendings RA RB
          obtain ⟨u, hu, huB⟩ := place_nat units RB.length
          have hcr := crash_file RA RB u
          have hAB : RA ++ RB.take u = (recsOf ((A ++ B).map Piece.zs)).take (RA.length + u) := by
            rw [List.map_append, recsOf_append, hRAe, hRBe, List.take_append, List.take_of_length_le (l := RA) (by omega), Nat.add_sub_cancel_left]
          have fAB : ∀ x ∈ (A ++ B).map Piece.zs, Fits x := by
            intro x hx
            rw [List.map_append] at hx
            rcases List.mem_append.1 hx with h | h
            · exact fA x h
            · exact fB x h
          obtain ⟨j, rst, hj1, hj2, hj3, hj4⟩ := torn _ fAB (RA.length + u)
          rw [← hAB] at hj2
          have hjA : k ≤ j := hj4 k (by rw [List.length_map, List.length_append]; omega) (by
            rw [List.map_append, List.take_append_of_le_length (by rw [List.length_map]; omega), tA, hRAe]
            omega)
          rw [List.length_map, List.length_append, hnA, hnB] at hj1
          have hcr' := hcr
          rw [hj2] at hcr'
          obtain ⟨T, hT⟩ : ∃ T, ((A ++ B).map Piece.zs).take j = T := ⟨_, rfl⟩
          rw [hT] at hj2 hcr'
          have fT : ∀ x ∈ T, Fits x := fun x hx => fAB x (by rw [← hT] at hx; exact List.mem_of_mem_take hx)
          have hTl : T.length = j := by rw [← hT, List.length_take, List.length_map, List.length_append]; omega
          obtain ⟨hdn, hst, hsy⟩ := done_recs T fT rst hj3
          have hnsl : (lens T).length = j := by rw [lens_length, hTl]
          have hTb : (recsOf T).length ≤ 300000 := by
            have h1 := congrArg List.length hj2
            rw [List.length_append, List.length_append, List.length_take] at h1
            omega
          obtain ⟨σX, hσX⟩ : ∃ σ, Disk.crashSt (logSt 0 RA RB) u 0 = σ := ⟨_, rfl⟩
          rw [hσX] at hcr'
          have hnX : now σX 0 = recsOf T ++ rst := by unfold now; rw [hcr']; rfl
          have cO := fun (w9 w10 : World) (ownX : Owns) (D' : Nat) (hX : Live w9 w10 ownX D' σX 0) => open_any hX (by decide) 0 (by decide) _ hnX (lens T) hdn
          rw [hst, hsy, hnsl] at cO
          obtain ⟨σY, hσY⟩ : ∃ σ, openSt σX 0 (recsOf T).length = σ := ⟨_, rfl⟩
          have hY0 : σY 0 = (recsOf T, []) := by
            rw [← hσY, openSt_form σX 0 _ _ hcr' (by rw [List.length_append]; omega), List.take_left' rfl]
          rw [hσY] at cO
          have hTk : ((A ++ B).take j).map Piece.zs = T := by rw [List.map_take, hT]
          have v0 : ¬ ((j : Int) < (k : Int)) := by omega
          have v1 : ¬ (((k + q : Nat) : Int) < (j : Int)) := by omega
          have v2 : (j : Int) ≤ ((k + q : Nat) : Int) := by omega
          clear hj4 hAB
          have c13 := awake_any
          by_cases hlat : l3 = 0
          · subst hlat
            go_wp2_with (first
              | (go_at_call 9; refine (c13 w12).mono ?_; rintro e w13 ⟨rfl, b13⟩)
              | (go_at_call 15; refine (same_any taY aD j tcY j cD psY ((A ++ B).take j) w11 tY.toTexts ((TAll.after hY.below).part j (by omega)) (by omega) (by omega)).mono ?_; rintro e w12 ⟨rfl, b12⟩; rw [decide_eq_true (hpY.trans hTk.symm)])
              | (go_at_call 14; refine (cO w9 w10 ownX D' hX).mono ?_; rintro e w11 ⟨ownY, LY, taY, tcY, psY, rfl, hY, fY, lgY, tY, hpY⟩)
              | (go_at_call 27; refine (crash_live (hlB.later b9) (by omega) u 0 (by omega) (by decide)).mono ?_; rintro e w10 ⟨D', ownX, rfl, hX⟩; rw [hσX] at hX)
              | (go_at_call 21; refine (Crc.place_any units ((RB.length : Int) + 1) w9 (by omega) (by omega)).mono ?_; rintro e w' ⟨rfl, hw'⟩; rw [hw', hu])
              | (go_at_call 19; refine (pending_live (hlB.later b9) 0 (by decide) RB.length pB).mono ?_; rintro e w' ⟨rfl, hw'⟩; rw [hw'])
              | (at_builtin; refine wpList_append_texts rfl (.tmp 72) (.tmp 73) rfl wr.heap.size _ k _ rfl o8 b8.size aB q cB B rfl (TBr.after b8) nnB (by omega) ?_; intro aD cD w9 o9 g9; have b9 := b8.grown g9 b8.size (row_from o8); rw [← List.map_append] at o9; have hcD : ((k + q : Nat) : Int) ≤ (cD : Int) := Int.ofNat_le.2 (Disk.owns_form o9).2.2; have TAll := texts_owned o9 (both_in (TAr.after b9) (TBr.after b9)))
              | (at_builtin; refine wpList_append_texts rfl (.const (.slice none 0 0)) (.tmp 71) rfl wr.heap.size (.slice none 0 0) 0 [] rfl (World.ownsRow_nil _ _ _ _) (Nat.le_refl _) aA k cA A rfl TAr nnA (by omega) ?_; intro aC cC w8 o8 g8; have b8 : Below wr.heap.size wr w8 := (Below.refl _ _).grown g8 (Nat.le_refl _) (by intro q' hq'; cases hq'); simp only [Nat.zero_add, List.nil_append] at o8 ⊢))
            go_ret
            exact ⟨rfl, bcat (bcat (bcat (bcat hWr b9) hY.below) b12) b13⟩
          · have x0 : ((l3 : Int) == 0) = false := by rw [beq_eq_false_iff_ne]; omega
            by_cases hl2 : 3000 < l3
            · have x1 : (3000 : Int) < (l3 : Int) := by omega
              go_wp2_with (first
                | (go_at_call 9; refine (c13 w12).mono ?_; rintro e w13 ⟨rfl, b13⟩)
                | (go_at_call 15; refine (same_any taY aD j tcY j cD psY ((A ++ B).take j) w11 tY.toTexts ((TAll.after hY.below).part j (by omega)) (by omega) (by omega)).mono ?_; rintro e w12 ⟨rfl, b12⟩; rw [decide_eq_true (hpY.trans hTk.symm)])
                | (go_at_call 14; refine (cO w9 w10 ownX D' hX).mono ?_; rintro e w11 ⟨ownY, LY, taY, tcY, psY, rfl, hY, fY, lgY, tY, hpY⟩)
                | (go_at_call 27; refine (crash_live (hlB.later b9) (by omega) u 0 (by omega) (by decide)).mono ?_; rintro e w10 ⟨D', ownX, rfl, hX⟩; rw [hσX] at hX)
                | (go_at_call 21; refine (Crc.place_any units ((RB.length : Int) + 1) w9 (by omega) (by omega)).mono ?_; rintro e w' ⟨rfl, hw'⟩; rw [hw', hu])
                | (go_at_call 19; refine (pending_live (hlB.later b9) 0 (by decide) RB.length pB).mono ?_; rintro e w' ⟨rfl, hw'⟩; rw [hw'])
                | (at_builtin; refine wpList_append_texts rfl (.tmp 72) (.tmp 73) rfl wr.heap.size _ k _ rfl o8 b8.size aB q cB B rfl (TBr.after b8) nnB (by omega) ?_; intro aD cD w9 o9 g9; have b9 := b8.grown g9 b8.size (row_from o8); rw [← List.map_append] at o9; have hcD : ((k + q : Nat) : Int) ≤ (cD : Int) := Int.ofNat_le.2 (Disk.owns_form o9).2.2; have TAll := texts_owned o9 (both_in (TAr.after b9) (TBr.after b9)))
                | (at_builtin; refine wpList_append_texts rfl (.const (.slice none 0 0)) (.tmp 71) rfl wr.heap.size (.slice none 0 0) 0 [] rfl (World.ownsRow_nil _ _ _ _) (Nat.le_refl _) aA k cA A rfl TAr nnA (by omega) ?_; intro aC cC w8 o8 g8; have b8 : Below wr.heap.size wr w8 := (Below.refl _ _).grown g8 (Nat.le_refl _) (by intro q' hq'; cases hq'); simp only [Nat.zero_add, List.nil_append] at o8 ⊢))
              go_ret
              exact ⟨rfl, bcat (bcat (bcat (bcat hWr b9) hY.below) b12) b13⟩
            · have x1 : ¬ ((3000 : Int) < (l3 : Int)) := by omega
              have hz3 := h3.len
              have fT2 : ∀ x ∈ T ++ [zs3], Fits x := by
                intro x hx
                rcases List.mem_append.1 hx with h | h
                · exact fT x h
                · rw [List.mem_singleton.1 h]; exact ⟨by omega, by omega⟩
              have hnY : now σY 0 = recsOf T := by unfold now; rw [hY0]; rfl
              obtain ⟨σZ, hσZ⟩ : ∃ σ, setSt (appSt σY 0 (rec zs3)) 0 (now (appSt σY 0 (rec zs3)) 0, []) = σ := ⟨_, rfl⟩
              have hZ0 : σZ 0 = (recsOf (T ++ [zs3]), []) := by rw [← hσZ, setSt_at, now_app, hnY, recsOf_snoc]
              have hZc := crash_sure σZ _ hZ0
              obtain ⟨σ2, hσ2⟩ : ∃ σ, Disk.crashSt σZ 0 0 = σ := ⟨_, rfl⟩
              rw [hσ2] at hZc
              have hn2 : now σ2 0 = recsOf (T ++ [zs3]) := by unfold now; rw [hZc]; rfl
              obtain ⟨hdn2, hst2, hsy2⟩ := done_all (T ++ [zs3]) fT2
              have hl2' : (lens (T ++ [zs3])).length = j + 1 := by rw [lens_length, List.length_append, hTl]; rfl
              have cO2 := fun (w15 w16 : World) (own16 : Owns) (D2 : Nat) (h16 : Live w15 w16 own16 D2 σ2 0) => open_cap h16 (by decide) 0 (by decide) _ hn2 (lens (T ++ [zs3])) hdn2
              rw [hst2, hsy2, hl2'] at cO2
              clear hdn2 hst2 hsy2
              go_wp2_with (first
                | (go_at_call 14; refine (cO2 w15 w16 own16 D2 h16).mono ?_; rintro e w17 ⟨own17, L17, ta17, tc17, ps17, rfl, h17, f17, lg17, t17, hp17, hc17⟩)
                | (go_at_call 27; refine (crash_live h15 (by decide) 0 0 (by decide) (by decide)).mono ?_; rintro e w16 ⟨D2, own16, rfl, h16⟩; rw [hσ2] at h16)
                | (go_at_call 26; refine (sync_any h14 (by decide) lg14 (by decide)).mono ?_; rintro e w15 ⟨rfl, own15, h15, f15⟩; rw [hσZ] at h15)
                | (go_at_call 23; refine (append_any ((hY.later b12).later b13) (by decide) ((lgY.go (Fr.below b12)).go (Fr.below b13)) (by decide) a14 l3 c14 zs3 r13 n14 (by omega) (by omega) (by rw [hnY]; omega)).mono ?_; rintro e w14 ⟨rfl, own14, h14, f14⟩; have lg14 := ((lgY.go (Fr.below b12)).go (Fr.below b13)).go f14)
                | (go_at_call 12; refine (Disk.copy_any a3 l3 c3 zs3 w12 (h3.after (bcat (bcat (bcat hWr b9) hY.below) b12)) (by omega) n3).mono ?_; rintro e w13 ⟨a14, c14, rfl, r13, o13, b13⟩; have n14 := fun h => ((Disk.owns_form o13).1 h).2)
                | (go_at_call 15; refine (same_any taY aD j tcY j cD psY ((A ++ B).take j) w11 tY.toTexts ((TAll.after hY.below).part j (by omega)) (by omega) (by omega)).mono ?_; rintro e w12 ⟨rfl, b12⟩; rw [decide_eq_true (hpY.trans hTk.symm)])
                | (go_at_call 14; refine (cO w9 w10 ownX D' hX).mono ?_; rintro e w11 ⟨ownY, LY, taY, tcY, psY, rfl, hY, fY, lgY, tY, hpY⟩)
                | (go_at_call 27; refine (crash_live (hlB.later b9) (by omega) u 0 (by omega) (by decide)).mono ?_; rintro e w10 ⟨D', ownX, rfl, hX⟩; rw [hσX] at hX)
                | (go_at_call 21; refine (Crc.place_any units ((RB.length : Int) + 1) w9 (by omega) (by omega)).mono ?_; rintro e w' ⟨rfl, hw'⟩; rw [hw', hu])
                | (go_at_call 19; refine (pending_live (hlB.later b9) 0 (by decide) RB.length pB).mono ?_; rintro e w' ⟨rfl, hw'⟩; rw [hw'])
                | (at_builtin; refine wpList_append_texts rfl (.tmp 72) (.tmp 73) rfl wr.heap.size _ k _ rfl o8 b8.size aB q cB B rfl (TBr.after b8) nnB (by omega) ?_; intro aD cD w9 o9 g9; have b9 := b8.grown g9 b8.size (row_from o8); rw [← List.map_append] at o9; have hcD : ((k + q : Nat) : Int) ≤ (cD : Int) := Int.ofNat_le.2 (Disk.owns_form o9).2.2; have TAll := texts_owned o9 (both_in (TAr.after b9) (TBr.after b9)))
                | (at_builtin; refine wpList_append_texts rfl (.const (.slice none 0 0)) (.tmp 71) rfl wr.heap.size (.slice none 0 0) 0 [] rfl (World.ownsRow_nil _ _ _ _) (Nat.le_refl _) aA k cA A rfl TAr nnA (by omega) ?_; intro aC cC w8 o8 g8; have b8 : Below wr.heap.size wr w8 := (Below.refl _ _).grown g8 (Nat.le_refl _) (by intro q' hq'; cases hq'); simp only [Nat.zero_add, List.nil_append] at o8 ⊢))
              have t15 := (((tY.go (Fr.below b12)).go (Fr.below b13)).go f14).go f15
              have tYs : Texts w17 taY j psY := t15.toTexts.after h17.below
              have b15 : Below w9.heap.size w9 w15 := h15.below
              have bw17 : Below w.heap.size w w17 := bcat (bcat (bcat hWr b9) b15) h17.below
              have r17 := h3.after bw17
              have hl17 : ps17.length = j + 1 := t17.len
              have hpt : ((ps17.take j).map Piece.zs) = psY.map Piece.zs := by
                rw [List.map_take, hp17, hpY, List.take_left' hTl]
              have hpj : (ps17[j]'(by omega)).zs = zs3 := by
                have e1 := congrArg (fun l => l[j]?) hp17
                simp only [List.getElem?_map] at e1
                rw [List.getElem?_eq_getElem (by omega), List.getElem?_append_right (by omega), hTl, Nat.sub_self] at e1
                simpa using e1
              obtain ⟨x17, rfl, hcell17, hpi⟩ := t17.get j (by omega)
              have kC : ∀ u, Below w17.heap.size w17 u → u.cell? (x17.add j) = _ := fun u hu => (hu.cell (World.block_lt_of_cell? w17 _ hcell17)).trans hcell17
              have sC : ∀ u, Below w17.heap.size w17 u → (convert 22 9 (.slice (ps17[j]).a (ps17[j]).zs.length (ps17[j]).cap)).run Try.prog u = _ := fun u hu => Disk.conv_row (hpi.row.after hu) _
              have sL : ∀ u, Below w17.heap.size w17 u → (convert 22 9 (.slice a3 l3 c3)).run Try.prog u = _ := fun u hu => Disk.conv_row (r17.after hu) _
              rw [hpj, hz3] at kC sC
              generalize (ps17[j]).a = aJ at *
              generalize (ps17[j]).cap = cJ at *
              generalize strOfNums zs3 = sLs at *
              have e7 : IntKind.i64.wrap ((j : Int) + 1) = (j : Int) + 1 := by rw [IntKind.wrap_i64]; omega
              have e8 : (((j + 1 : Nat) : Int) == (j : Int) + 1) = true := by simp
              have c16 := fun (v : World) (hv : Below w17.heap.size w17 v) => same_any (Option.some x17) taY j tc17 j tcY (ps17.take j) psY v ((t17.toTexts.after hv).part j (by omega)) (tYs.after hv) (by omega) (by omega)
              rw [decide_eq_true hpt] at c16
              have tcJ : (j : Int) ≤ (tc17 : Int) := by omega
              have tJ : (j : Int) < (j : Int) + 1 := by omega
              have hS : Below w17.heap.size w17 w17.drew := (Below.refl _ _).drew
              refine start_held (S := fun u => Below w17.heap.size w17 u) 33 rfl (by kernel_rfl) (hS) ?_
              simp only [Array.replicate_succ, Array.replicate_zero, List.push_toArray, List.nil_append, List.cons_append]
              refine take_held 0 (by assumption) rfl (by kernel_rfl) (by kernel_rfl) (by kernel_rfl) (fun _ _ _ h => h) (by kernel_rfl) (v := ?v0) ?y0 ?r0
              case y0 => (intro u hu; go_simp; try rfl)
              simp only [Act.put, List.setIfInBounds_toArray, List.set_cons_zero, List.set_cons_succ]
              refine take_held 1 (by assumption) rfl (by kernel_rfl) (by kernel_rfl) (by kernel_rfl) (fun _ _ _ h => h) (by kernel_rfl) (v := ?v1) ?y1 ?r1
              case y1 => (intro u hu; go_simp; try rfl)
              simp only [Act.put, List.setIfInBounds_toArray, List.set_cons_zero, List.set_cons_succ]
              refine take_held 2 (by assumption) rfl (by kernel_rfl) (by kernel_rfl) (by kernel_rfl) (fun _ _ _ h => h) (by kernel_rfl) (v := ?v2) ?y2 ?r2
              case y2 => (intro u hu; go_simp; try rfl)
              simp only [Act.put, List.setIfInBounds_toArray, List.set_cons_zero, List.set_cons_succ]
              refine take_held 3 (by assumption) rfl (by kernel_rfl) (by kernel_rfl) (by kernel_rfl) (fun _ _ _ h => h) (by kernel_rfl) (v := ?v3) ?y3 ?r3
              case y3 => (intro u hu; go_simp; try rfl)
              simp only [Act.put, List.setIfInBounds_toArray, List.set_cons_zero, List.set_cons_succ]
              refine take_held 4 (by assumption) rfl (by kernel_rfl) (by kernel_rfl) (by kernel_rfl) (fun _ _ _ h => h) (by kernel_rfl) (v := ?v4) ?y4 ?r4
              case y4 => (intro u hu; go_simp; try rfl)
              simp only [Act.put, List.setIfInBounds_toArray, List.set_cons_zero, List.set_cons_succ]
              refine take_held 5 (by assumption) rfl (by kernel_rfl) (by kernel_rfl) (by kernel_rfl) (fun _ _ _ h => h) (by kernel_rfl) (v := ?v5) ?y5 ?r5
              case y5 => (intro u hu; go_simp; try rfl)
              simp only [Act.put, List.setIfInBounds_toArray, List.set_cons_zero, List.set_cons_succ]
              refine take_held 6 (by assumption) rfl (by kernel_rfl) (by kernel_rfl) (by kernel_rfl) (fun _ _ _ h => h) (by kernel_rfl) (v := ?v6) ?y6 ?r6
              case y6 => (intro u hu; go_simp; try rfl)
              simp only [Act.put, List.setIfInBounds_toArray, List.set_cons_zero, List.set_cons_succ]
              refine take_held 7 (by assumption) rfl (by kernel_rfl) (by kernel_rfl) (by kernel_rfl) (fun _ _ _ h => h) (by kernel_rfl) (v := ?v7) ?y7 ?r7
              case y7 => (intro u hu; go_simp; try rfl)
              simp only [Act.put, List.setIfInBounds_toArray, List.set_cons_zero, List.set_cons_succ]
              refine take_held 8 (by assumption) rfl (by kernel_rfl) (by kernel_rfl) (by kernel_rfl) (fun _ _ _ h => h) (by kernel_rfl) (v := ?v8) ?y8 ?r8
              case y8 => (intro u hu; go_simp; try rfl)
              simp only [Act.put, List.setIfInBounds_toArray, List.set_cons_zero, List.set_cons_succ]
              refine take_held 9 (by assumption) rfl (by kernel_rfl) (by kernel_rfl) (by kernel_rfl) (fun _ _ _ h => h) (by kernel_rfl) (v := ?v9) ?y9 ?r9
              case y9 => (intro u hu; go_simp; try rfl)
              simp only [Act.put, List.setIfInBounds_toArray, List.set_cons_zero, List.set_cons_succ]
              refine take_held 10 (by assumption) rfl (by kernel_rfl) (by kernel_rfl) (by kernel_rfl) (fun _ _ _ h => h) (by kernel_rfl) (v := ?v10) ?y10 ?r10
              case y10 => (intro u hu; go_simp; try rfl)
              simp only [Act.put, List.setIfInBounds_toArray, List.set_cons_zero, List.set_cons_succ]
              refine take_held 11 (by assumption) rfl (by kernel_rfl) (by kernel_rfl) (by kernel_rfl) (fun _ _ _ h => h) (by kernel_rfl) (v := ?v11) ?y11 ?r11
              case y11 => (intro u hu; go_simp; try rfl)
              simp only [Act.put, List.setIfInBounds_toArray, List.set_cons_zero, List.set_cons_succ]
              refine take_held 12 (by assumption) rfl (by kernel_rfl) (by kernel_rfl) (by kernel_rfl) (fun _ _ _ h => h) (by kernel_rfl) (v := ?v12) ?y12 ?r12
              case y12 => (intro u hu; go_simp; try rfl)
              simp only [Act.put, List.setIfInBounds_toArray, List.set_cons_zero, List.set_cons_succ]
              refine take_held 13 (by assumption) rfl (by kernel_rfl) (by kernel_rfl) (by kernel_rfl) (fun _ _ _ h => h) (by kernel_rfl) (v := ?v13) ?y13 ?r13
              case y13 => (intro u hu; go_simp; try rfl)
              simp only [Act.put, List.setIfInBounds_toArray, List.set_cons_zero, List.set_cons_succ]
              refine take_held 14 (by assumption) rfl (by kernel_rfl) (by kernel_rfl) (by kernel_rfl) (fun _ _ _ h => h) (by kernel_rfl) (v := ?v14) ?y14 ?r14
              case y14 => (intro u hu; go_simp; try rfl)
              simp only [Act.put, List.setIfInBounds_toArray, List.set_cons_zero, List.set_cons_succ]
              refine take_held 15 (by assumption) rfl (by kernel_rfl) (by kernel_rfl) (by kernel_rfl) (fun _ _ _ h => h) (by kernel_rfl) (v := ?v15) ?y15 ?r15
              case y15 => (intro u hu; go_simp; try rfl)
              simp only [Act.put, List.setIfInBounds_toArray, List.set_cons_zero, List.set_cons_succ]
              refine call_held 16 rfl (by kernel_rfl) (by kernel_rfl) 15 #[.slice (Option.some x17) j tc17, .slice taY j tcY] (by go_simp) _ (call_val (c16 w17.drew hS)) ?_
              rintro v w18 ⟨rfl, b18⟩
              refine ⟨hS.trans (b18.mono hS.size), ?_⟩
              simp only [Act.put, List.setIfInBounds_toArray, List.set_cons_zero, List.set_cons_succ]
              have hS18 : Below w17.heap.size w17 w18 := hS.trans (b18.mono hS.size)
              refine take_held 17 (by assumption) rfl (by kernel_rfl) (by kernel_rfl) (by kernel_rfl) (fun _ _ _ h => h) (by kernel_rfl) (v := ?v16) ?y16 ?r16
              case y16 => (intro u hu; go_simp; try rfl)
              simp only [Act.put, List.setIfInBounds_toArray, List.set_cons_zero, List.set_cons_succ]
              refine take_held 18 (by assumption) rfl (by kernel_rfl) (by kernel_rfl) (by kernel_rfl) (fun _ _ _ h => h) (by kernel_rfl) (v := ?v17) ?y17 ?r17
              case y17 => (intro u hu; go_simp; try rfl)
              simp only [Act.put, List.setIfInBounds_toArray, List.set_cons_zero, List.set_cons_succ]
              refine take_held 19 (by assumption) rfl (by kernel_rfl) (by kernel_rfl) (by kernel_rfl) (fun _ _ _ h => h) (by kernel_rfl) (v := ?v18) ?y18 ?r18
              case y18 => (intro u hu; go_simp; try rfl)
              simp only [Act.put, List.setIfInBounds_toArray, List.set_cons_zero, List.set_cons_succ]
              refine take_held 20 (by assumption) rfl (by kernel_rfl) (by kernel_rfl) (by kernel_rfl) (fun _ _ _ h => h) (by kernel_rfl) (v := ?v19) ?y19 ?r19
              case y19 => (intro u hu; go_simp; try rfl)
              simp only [Act.put, List.setIfInBounds_toArray, List.set_cons_zero, List.set_cons_succ]
              refine take_held 21 (by assumption) rfl (by kernel_rfl) (by kernel_rfl) (by kernel_rfl) (fun _ _ _ h => h) (by kernel_rfl) (v := ?v20) ?y20 ?r20
              case y20 => (intro u hu; go_simp; try rfl)
              simp only [Act.put, List.setIfInBounds_toArray, List.set_cons_zero, List.set_cons_succ]
              refine take_held 22 (by assumption) rfl (by kernel_rfl) (by kernel_rfl) (by kernel_rfl) (fun _ _ _ h => h) (by kernel_rfl) (v := ?v21) ?y21 ?r21
              case y21 => (intro u hu; go_simp; try rfl)
              simp only [Act.put, List.setIfInBounds_toArray, List.set_cons_zero, List.set_cons_succ]
              refine take_held 23 (by assumption) rfl (by kernel_rfl) (by kernel_rfl) (by kernel_rfl) (fun _ _ _ h => h) (by kernel_rfl) (v := ?v22) ?y22 ?r22
              case y22 => (intro u hu; have := kC u hu; go_simp; try rfl)
              simp only [Act.put, List.setIfInBounds_toArray, List.set_cons_zero, List.set_cons_succ]
              refine take_held 24 (by assumption) rfl (by kernel_rfl) (by kernel_rfl) (by kernel_rfl) (fun _ _ _ h => h) (by kernel_rfl) (v := ?v23) ?y23 ?r23
              case y23 => (intro u hu; have := sC u hu; go_simp; try rfl)
              simp only [Act.put, List.setIfInBounds_toArray, List.set_cons_zero, List.set_cons_succ]
              refine take_held 25 (by assumption) rfl (by kernel_rfl) (by kernel_rfl) (by kernel_rfl) (fun _ _ _ h => h) (by kernel_rfl) (v := ?v24) ?y24 ?r24
              case y24 => (intro u hu; go_simp; try rfl)
              simp only [Act.put, List.setIfInBounds_toArray, List.set_cons_zero, List.set_cons_succ]
              refine take_held 26 (by assumption) rfl (by kernel_rfl) (by kernel_rfl) (by kernel_rfl) (fun _ _ _ h => h) (by kernel_rfl) (v := ?v25) ?y25 ?r25
              case y25 => (intro u hu; have := sL u hu; go_simp; try rfl)
              simp only [Act.put, List.setIfInBounds_toArray, List.set_cons_zero, List.set_cons_succ]
              refine take_held 27 (by assumption) rfl (by kernel_rfl) (by kernel_rfl) (by kernel_rfl) (fun _ _ _ h => h) (by kernel_rfl) (v := ?v26) ?y26 ?r26
              case y26 => (intro u hu; go_simp; try rfl)
              simp only [Act.put, List.setIfInBounds_toArray, List.set_cons_zero, List.set_cons_succ]
              refine take_held 28 (by assumption) rfl (by kernel_rfl) (by kernel_rfl) (by kernel_rfl) (fun _ _ _ h => h) (by kernel_rfl) (v := ?v27) ?y27 ?r27
              case y27 => (intro u hu; go_simp; try rfl)
              simp only [Act.put, List.setIfInBounds_toArray, List.set_cons_zero, List.set_cons_succ]
              refine take_held 29 (by assumption) rfl (by kernel_rfl) (by kernel_rfl) (by kernel_rfl) (fun _ _ _ h => h) (by kernel_rfl) (v := ?v28) ?y28 ?r28
              case y28 => (intro u hu; go_simp; try rfl)
              simp only [Act.put, List.setIfInBounds_toArray, List.set_cons_zero, List.set_cons_succ]
              refine call_held 30 rfl (by kernel_rfl) (by kernel_rfl) 9 #[] (by go_simp) _ (call_val (awake_any w18)) ?_
              rintro v w19 ⟨rfl, b19⟩
              refine ⟨hS18.trans (b19.mono hS18.size), ?_⟩
              simp only [Act.put, List.setIfInBounds_toArray, List.set_cons_zero, List.set_cons_succ]
              have hS19 : Below w17.heap.size w17 w19 := hS18.trans (b19.mono hS18.size)
              refine take_held 31 (by assumption) rfl (by kernel_rfl) (by kernel_rfl) (by kernel_rfl) (fun _ _ _ h => h) (by kernel_rfl) (v := ?v29) ?y29 ?r29
              case y29 => (intro u hu; go_simp; try rfl)
              simp only [Act.put, List.setIfInBounds_toArray, List.set_cons_zero, List.set_cons_succ]
              refine take_held 32 (by assumption) rfl (by kernel_rfl) (by kernel_rfl) (by kernel_rfl) (fun _ _ _ h => h) (by kernel_rfl) (v := ?v30) ?y30 ?r30
              case y30 => (intro u hu; go_simp; try rfl)
              simp only [Act.put, List.setIfInBounds_toArray, List.set_cons_zero, List.set_cons_succ]
              refine done_held (by kernel_rfl) ?_ _
              go_wp2
              go_ret
              exact ⟨rfl, bcat bw17 hS19⟩
end Go.Proofs.Yteklmgbfinffdaa.Wal
