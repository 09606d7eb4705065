/-
  WalErases: an erased log has no records, but not for certain; it takes new ones; there is no third file; what is too long is refused.
-/
import Derived.Test.YteklmgbfinffdaaWalTornWalk
namespace Go.Proofs.Yteklmgbfinffdaa.Wal
set_option linter.unusedVariables false
set_option linter.unusedSimpArgs false
open Go Go.RowKit Go.Shelf Go.Proofs
open Go.Proofs.Yteklmgbfinffdaa.Disk (Row getD_in ret_int add_add DiskIs Kept St now setSt owns_row owns_same)

theorem size_other {W w : World} {own : Owns} {D : Nat} {σ : St} {m : Nat} (h : Live W w own D σ m) (i : Nat) (hi : i < 2) (h0 : now σ (1 - i) = []) :
    Calls Try.prog 28 #[.pointer (Option.some ⟨D, 0, none⟩), .int .i64 (1 - (i : Int))] w fun e w' => e = .returned (.int .i64 0) ∧ w' = w := by
  have c := Disk.size_any D w own σ m h.disk (1 - (i : Int))
  have e : Disk.readOf σ (1 - (i : Int)) = [] := by
    rw [Disk.readOf, Disk.isFile_yes (by omega), if_pos rfl, show (1 - (i : Int)).toNat = 1 - i by omega, h0]
  rw [e] at c
  exact c
theorem gone_now (σ : St) (i : Nat) (p : List Int) (us : List Disk.U) : now (setSt σ i (p, us ++ [.inr 0])) i = [] := by
  unfold now
  rw [setSt_at, Disk.run_append, Disk.run_cut]
  rfl
theorem now_other (σ : St) (i j : Nat) (p : List Int × List Disk.U) (h : j ≠ i) : now (setSt σ i p) j = now σ j := by
  unfold now setSt
  rw [if_neg h]
theorem crash_one (σ : St) (i : Nat) (hi : i < 2) (k : Nat) (R : List Int) (us : List Disk.U) (h : σ i = (R, us)) : now (Disk.crashSt σ k k) i = Disk.run R (us.take k) := by
  have e : Disk.crashSt σ k k i = (Disk.run R (us.take k), []) := by
    unfold Disk.crashSt
    rw [h, ite_self, Int.toNat_natCast]
  unfold now
  rw [e]
  rfl
theorem place_two (v : Int) : ∃ i : Nat, Crc.place v 2 = (i : Int) ∧ i < 2 := by
  have h := Crc.place_bd v 2 (by omega)
  obtain ⟨u, hu⟩ := Int.eq_ofNat_of_zero_le h.1
  exact ⟨u, hu, by omega⟩

set_option maxRecDepth 100000 in
set_option maxHeartbeats 8000000 in
theorem erases_all (a0 a2 : Option Addr) (len0 cap0 l2 c2 : Nat) (file : Int) (ps0 : List Piece) (zs2 : List Int) (w : World) (h0 : Texts w a0 len0 ps0) (hl0 : len0 ≤ 9223372036854775807)
    (h2 : Row w a2 l2 zs2) (n2 : a2 = none → l2 = 0 ∧ c2 = 0) (hl2 : l2 ≤ 9223372036854775807) :
    Calls Try.prog 8 #[.slice a0 len0 cap0, .int .i64 file, .slice a2 l2 c2] w fun e w' => e = .returned (.bool true) ∧ Below w.heap.size w w' := by
  obtain ⟨i0, hi0, hz0, hz1, hz2⟩ := info_parts Disk.info5
  have gA := sayOf_good ps0
  have lA := sayOf_length ps0
  have s0 := say_any a0 len0 cap0 ps0 w h0 hl0
  obtain ⟨A, hA⟩ : ∃ A, sayOf ps0 = A := ⟨_, rfl⟩
  rw [hA] at gA lA s0
  clear hA
  obtain ⟨nA, hnA⟩ : ∃ n, A.length = n := ⟨_, rfl⟩
  rw [hnA] at s0
  obtain ⟨i, hpi, hi⟩ := place_two file
  have hO : openSt σ0 i (stop 0 []) = σ0 := openSt_same σ0 i
  have hRA := recs_len _ (good_len gA)
  rw [List.length_map, hnA] at hRA
  have tA : (A.map Piece.zs).take nA = A.map Piece.zs := List.take_of_length_le (by rw [List.length_map]; omega)
  have i0' : (0 : Int) ≤ (i : Int) := by omega
  have i1' : (i : Int) ≤ 1 := by omega
  go_enter Try.func8, Try.ntmps8
  go_wp2_with (first
    | (go_at_call 14; refine (open_any h3' (by decide) i hi [] rfl [] ⟨trivial, rfl⟩).mono ?_; rintro e w4 ⟨own4, L, ta4, tc4, ps4, rfl, h4, f4, lg4, t4, hp4⟩; rw [hO, ← logSt_nil i] at h4)
    | (go_at_call 21; refine (Crc.place_any file 2 w3 (by decide) (by decide)).mono ?_; rintro e w' ⟨rfl, hw'⟩; rw [hw', hpi])
    | (go_at_call 10; refine (live_new w1 w1 (Below.refl _ _)).mono ?_; rintro e w3 ⟨rfl, ⟨own3, h3'⟩, b3⟩)
    | (go_at_call 25; refine s0.mono ?_; rintro e w1 ⟨aA, cA, rfl, TA, nnA, leA, b1⟩))
  obtain ⟨D, hD⟩ : ∃ D, w1.heap.size = D := ⟨_, rfl⟩
  have fed0 : Fed w1 A D L i [] [] 3 0 w4 := by rw [← hD]; exact Fed.start h4 lg4
  rw [hD]
  clear h4 lg4 t4 hp4 f4 h3' b3
  go_loopw [13] (fun j wr => ∃ k : Nat, k ≤ nA ∧ j = .int .i64 k ∧ Fed w1 A D L i [] [] 3 k wr) (fun j _ => nA - (intOf j).toNat)
  case atStart => exact ⟨0, by omega, rfl, fed0⟩
  case round =>
    clear fed0
    obtain ⟨k, hk, rfl, hfed⟩ := hrel
    by_cases hlt : k < nA
    · have t0 : (k : Int) < (nA : Int) := by omega
      obtain ⟨x, rfl, hcA, hiA⟩ := (TA.after hfed.below).get k (by omega)
      have hgood := gA _ (List.getElem_mem (show k < A.length by omega))
      have cC := Disk.copy_any (A[k]).a (A[k]).zs.length (A[k]).cap (A[k]).zs wr hiA.row (by omega) hiA.nil
      have cN := fed_next hfed hi (show k < A.length by omega) (by omega) (by omega) gA (by simp)
      obtain ⟨P, hP⟩ : ∃ P, A[k] = P := ⟨_, rfl⟩
      rw [hP] at cC cN hcA
      clear hgood hiA hP
      generalize hzz : P.zs = zz at *
      generalize hll : zz.length = ll at *
      generalize P.a = pa at *
      generalize P.cap = pc at *
      go_wp2_with (first
        | (go_at_call 23; refine (cN a5 ll c5 zz rfl hll w5 b5 r5 n5).mono ?_; rintro e w6 ⟨rfl, f6⟩)
        | (go_at_call 12; refine cC.mono ?_; rintro e w5 ⟨a5, c5, rfl, r5, o5, b5⟩; have n5 := fun h => ((Disk.owns_form o5).1 h).2))
      go_roundw
      case rel => exact ⟨k + 1, by omega, by go_num, f6⟩
      case measure => simp [intOf]; omega
    · have t0 : ¬ ((k : Int) < (nA : Int)) := by omega
      obtain rfl : k = nA := by omega
      obtain ⟨ownA, hlA, lgA⟩ := hfed.live
      rw [List.nil_append, tA] at hlA
      have bwr : Below w.heap.size w wr := bcat b1 hfed.below
      obtain ⟨R, hRe⟩ : ∃ R, recsOf (A.map Piece.zs) = R := ⟨_, rfl⟩
      rw [hRe] at hlA hRA
      obtain ⟨N, hN⟩ : ∃ N, R.length = N := ⟨_, rfl⟩
      have hnow : now (logSt i [] R) i = R := by rw [logSt_now]; rfl
      obtain ⟨σE, hσE⟩ : ∃ σ, setSt (logSt i R []) i ((logSt i R [] i).1, (logSt i R [] i).2 ++ [.inr 0]) = σ := ⟨_, rfl⟩
      have hE0 : σE i = (R, [.inr 0]) := by rw [← hσE, setSt_at, logSt_at]; rfl
      have hEn : now σE i = [] := by rw [← hσE]; exact gone_now _ _ _ _
      have hEo : ∀ j, j ≠ i → now σE j = [] := by intro j hj; rw [← hσE, now_other _ _ _ _ hj]; unfold now; rw [logSt_other _ _ _ _ hj]; rfl
      have hc0 : now (Disk.crashSt σE (0 : Int) (0 : Int)) i = R := crash_one σE i hi 0 R [.inr 0] hE0
      have hc1 : now (Disk.crashSt σE (1 : Int) (1 : Int)) i = [] := crash_one σE i hi 1 R [.inr 0] hE0
      have hstr0 : strOfNums [] = ⟨#[]⟩ := by decide
      obtain ⟨S, hS0⟩ : ∃ S, strOfNums R = S := ⟨_, rfl⟩
      have cO := fun (w0 : World) (own0 : Owns) (hh : Live w1 w0 own0 D σE (3 + k + 1 + 1)) => open_none hh (by omega) (2 + (i : Int)) (by omega)
      have c13 := awake_any
      obtain ⟨NM, HNM⟩ : ∃ N : Nat, Hid (N = 65537) := ⟨_, rfl⟩
      obtain ⟨CM, hmk⟩ : ∃ CM : Array Value, ∀ u : World, (Instr.makeSlice 22 (.int .i64 65537) (.int .i64 65537)).run Try.prog u = .ok (.slice (Option.some ⟨u.heap.size, 0, none⟩) NM NM) (u.alloc (.cells CM 5)) :=
        ⟨_, fun u => by rw [HNM.out]; exact run_make u 22 5 i0 (.int .u8 0) Try.underlying22 hi0 hz0 .i64 .i64 65537 65537 (by decide) (by decide) (by rw [hz2]; decide) (by decide)⟩
      clear hfed
      by_cases hlat : l2 = 0
      · subst hlat
        go_wp2_with (first
          | (go_at_call 9; refine (c13 w16).mono ?_; rintro e w17 ⟨rfl, b17⟩)
          | (go_at_call 14; refine (cO w15 own8 h15).mono ?_; rintro e w16 ⟨rfl, own16, h16, f16⟩; have l16 := l15.go f16)
          | (go_at_call 17; refine (size_any h14 (by omega) l14 hi).mono ?_; rintro e w15 ⟨rfl, b15⟩; rw [hEn]; have h15 := h14.later b15; have l15 := l14.go (Fr.below b15))
          | (go_at_call 23; refine (append_no (h13.later ((Below.refl _ _).alloc (Nat.le_refl _) (.cells CM 5))) (by omega) (l13.go (Fr.below ((Below.refl _ _).alloc (Nat.le_refl _) (.cells CM 5)))) hi _ NM NM (.inr (by have := HNM.out; omega)) (by have := HNM.out; omega)).mono ?_; rintro e w14 ⟨rfl, hw14⟩; rw [hw14]; clear hw14; have h14 := h13.later ((Below.refl _ _).alloc (Nat.le_refl _) (.cells CM 5)); have l14 := l13.go (Fr.below ((Below.refl _ _).alloc (Nat.le_refl _) (.cells CM 5))))
          | (go_at_call 18; refine (read_live h12 (by decide) i hi [] 0 hc1 rfl).mono ?_; rintro e w13 ⟨a13, c13', rfl, o13, r13, n13, b13⟩; have k13 := Disk.conv_row r13 c13'; rw [hstr0] at k13; have h13 := (h11.later h12.below).later b13; have l13 := (l11.go (Fr.below h12.below)).go (Fr.below b13))
          | (go_at_call 27; refine (crash_live h11 (by omega) 1 1 (by decide) (by decide)).mono ?_; rintro e w12 ⟨D12, own12, rfl, h12⟩)
          | (go_at_call 18; refine (read_live h10 (by decide) i hi R N hc0 hN).mono ?_; rintro e w11 ⟨a11, c11, rfl, o11, r11, n11, b11⟩; have k11 := Disk.conv_row r11 c11; rw [hS0] at k11; have h11 := (h9.later h10.below).later b11; have l11 := (l9.go (Fr.below h10.below)).go (Fr.below b11))
          | (go_at_call 27; refine (crash_live h9 (by omega) 0 0 (by decide) (by decide)).mono ?_; rintro e w10 ⟨D10, own10, rfl, h10⟩)
          | (go_at_call 17; refine (size_any h8 (by omega) l8 hi).mono ?_; rintro e w9 ⟨rfl, b9⟩; rw [hEn]; have h9 := h8.later b9; have l9 := l8.go (Fr.below b9))
          | (go_at_call 29; refine (erase_any h7 (by omega) l7 hi).mono ?_; rintro e w8 ⟨rfl, own8, h8, f8⟩; rw [hσE] at h8; have l8 := l7.go f8)
          | (go_at_call 26; refine (sync_any h6 (by omega) l6 hi).mono ?_; rintro e w7 ⟨rfl, own7, h7, f7⟩; rw [logSt_sync, List.nil_append] at h7; have l7 := l6.go f7)
          | (go_at_call 18; refine (read_live hlA (by omega) i hi R N hnow hN).mono ?_; rintro e w6 ⟨a6, c6, rfl, o6, r6, n6, b6⟩; have k6 := Disk.conv_row r6 c6; rw [hS0] at k6; have h6 := hlA.later b6; have l6 := lgA.go (Fr.below b6)))
        go_ret
        exact ⟨rfl, bcat (bcat b1 h16.below) b17⟩
      · have x0 : ((l2 : Int) == 0) = false := by rw [beq_eq_false_iff_ne]; omega
        by_cases hl3 : 3000 < l2
        · have x1 : (3000 : Int) < (l2 : Int) := by omega
          go_wp2_with (first
            | (go_at_call 9; refine (c13 w16).mono ?_; rintro e w17 ⟨rfl, b17⟩)
            | (go_at_call 14; refine (cO w15 own8 h15).mono ?_; rintro e w16 ⟨rfl, own16, h16, f16⟩; have l16 := l15.go f16)
            | (go_at_call 17; refine (size_any h14 (by omega) l14 hi).mono ?_; rintro e w15 ⟨rfl, b15⟩; rw [hEn]; have h15 := h14.later b15; have l15 := l14.go (Fr.below b15))
            | (go_at_call 23; refine (append_no (h13.later ((Below.refl _ _).alloc (Nat.le_refl _) (.cells CM 5))) (by omega) (l13.go (Fr.below ((Below.refl _ _).alloc (Nat.le_refl _) (.cells CM 5)))) hi _ NM NM (.inr (by have := HNM.out; omega)) (by have := HNM.out; omega)).mono ?_; rintro e w14 ⟨rfl, hw14⟩; rw [hw14]; clear hw14; have h14 := h13.later ((Below.refl _ _).alloc (Nat.le_refl _) (.cells CM 5)); have l14 := l13.go (Fr.below ((Below.refl _ _).alloc (Nat.le_refl _) (.cells CM 5))))
            | (go_at_call 18; refine (read_live h12 (by decide) i hi [] 0 hc1 rfl).mono ?_; rintro e w13 ⟨a13, c13', rfl, o13, r13, n13, b13⟩; have k13 := Disk.conv_row r13 c13'; rw [hstr0] at k13; have h13 := (h11.later h12.below).later b13; have l13 := (l11.go (Fr.below h12.below)).go (Fr.below b13))
            | (go_at_call 27; refine (crash_live h11 (by omega) 1 1 (by decide) (by decide)).mono ?_; rintro e w12 ⟨D12, own12, rfl, h12⟩)
            | (go_at_call 18; refine (read_live h10 (by decide) i hi R N hc0 hN).mono ?_; rintro e w11 ⟨a11, c11, rfl, o11, r11, n11, b11⟩; have k11 := Disk.conv_row r11 c11; rw [hS0] at k11; have h11 := (h9.later h10.below).later b11; have l11 := (l9.go (Fr.below h10.below)).go (Fr.below b11))
            | (go_at_call 27; refine (crash_live h9 (by omega) 0 0 (by decide) (by decide)).mono ?_; rintro e w10 ⟨D10, own10, rfl, h10⟩)
            | (go_at_call 17; refine (size_any h8 (by omega) l8 hi).mono ?_; rintro e w9 ⟨rfl, b9⟩; rw [hEn]; have h9 := h8.later b9; have l9 := l8.go (Fr.below b9))
            | (go_at_call 29; refine (erase_any h7 (by omega) l7 hi).mono ?_; rintro e w8 ⟨rfl, own8, h8, f8⟩; rw [hσE] at h8; have l8 := l7.go f8)
            | (go_at_call 26; refine (sync_any h6 (by omega) l6 hi).mono ?_; rintro e w7 ⟨rfl, own7, h7, f7⟩; rw [logSt_sync, List.nil_append] at h7; have l7 := l6.go f7)
            | (go_at_call 18; refine (read_live hlA (by omega) i hi R N hnow hN).mono ?_; rintro e w6 ⟨a6, c6, rfl, o6, r6, n6, b6⟩; have k6 := Disk.conv_row r6 c6; rw [hS0] at k6; have h6 := hlA.later b6; have l6 := lgA.go (Fr.below b6)))
          go_ret
          exact ⟨rfl, bcat (bcat b1 h16.below) b17⟩
        · have x1 : ¬ ((3000 : Int) < (l2 : Int)) := by omega
          have hz3 := h2.len
          have fF : ∀ x ∈ [zs2], Fits x := fun x hx => by rw [List.mem_singleton.1 hx]; exact ⟨by omega, by omega⟩
          obtain ⟨σF, hσF⟩ : ∃ σ, appSt σE i (rec zs2) = σ := ⟨_, rfl⟩
          have hFn : now σF i = recsOf [zs2] := by rw [← hσF, now_app, hEn]; simp [recsOf]
          have hFo : now σF (1 - i) = [] := by rw [← hσF]; unfold appSt; rw [now_other _ _ _ _ (by omega), hEo _ (by omega)]
          obtain ⟨hdn, hst, hsy⟩ := done_all [zs2] fF
          have hl1 : (lens [zs2]).length = 1 := rfl
          have hOF : openSt σF i (stop 0 (lens [zs2])) = σF := by rw [hst, ← hFn]; exact openSt_same σF i
          have cO2 := fun (w18 : World) (own18 : Owns) (h18 : Live w1 w18 own18 D σF (3 + k + 1 + 1 + 1 + 1)) => open_any h18 (by omega) i hi _ hFn (lens [zs2]) hdn
          rw [hOF, hsy, hl1] at cO2
          clear hdn hst hsy hOF
          go_wp2_with (first
            | (go_at_call 14; refine (cO2 w18 own18 h18).mono ?_; rintro e w19 ⟨own19, L19, ta19, tc19, ps19, rfl, h19, f19, lg19, t19, hp19⟩)
            | (go_at_call 23; refine (append_any (h16.later b17) (by omega) (l16.go (Fr.below b17)) hi a17 l2 c17 zs2 r17 n17 (by omega) (by omega) (by rw [hEn]; simp; omega)).mono ?_; rintro e w18 ⟨rfl, own18, h18, f18⟩; rw [hσF] at h18)
            | (go_at_call 12; refine (Disk.copy_any a2 l2 c2 zs2 w16 (h2.after (bcat b1 h16.below)) (by omega) n2).mono ?_; rintro e w17 ⟨a17, c17, rfl, r17, o17, b17⟩; have n17 := fun h => ((Disk.owns_form o17).1 h).2)
            | (go_at_call 14; refine (cO w15 own8 h15).mono ?_; rintro e w16 ⟨rfl, own16, h16, f16⟩; have l16 := l15.go f16)
            | (go_at_call 17; refine (size_any h14 (by omega) l14 hi).mono ?_; rintro e w15 ⟨rfl, b15⟩; rw [hEn]; have h15 := h14.later b15; have l15 := l14.go (Fr.below b15))
            | (go_at_call 23; refine (append_no (h13.later ((Below.refl _ _).alloc (Nat.le_refl _) (.cells CM 5))) (by omega) (l13.go (Fr.below ((Below.refl _ _).alloc (Nat.le_refl _) (.cells CM 5)))) hi _ NM NM (.inr (by have := HNM.out; omega)) (by have := HNM.out; omega)).mono ?_; rintro e w14 ⟨rfl, hw14⟩; rw [hw14]; clear hw14; have h14 := h13.later ((Below.refl _ _).alloc (Nat.le_refl _) (.cells CM 5)); have l14 := l13.go (Fr.below ((Below.refl _ _).alloc (Nat.le_refl _) (.cells CM 5))))
            | (go_at_call 18; refine (read_live h12 (by decide) i hi [] 0 hc1 rfl).mono ?_; rintro e w13 ⟨a13, c13', rfl, o13, r13, n13, b13⟩; have k13 := Disk.conv_row r13 c13'; rw [hstr0] at k13; have h13 := (h11.later h12.below).later b13; have l13 := (l11.go (Fr.below h12.below)).go (Fr.below b13))
            | (go_at_call 27; refine (crash_live h11 (by omega) 1 1 (by decide) (by decide)).mono ?_; rintro e w12 ⟨D12, own12, rfl, h12⟩)
            | (go_at_call 18; refine (read_live h10 (by decide) i hi R N hc0 hN).mono ?_; rintro e w11 ⟨a11, c11, rfl, o11, r11, n11, b11⟩; have k11 := Disk.conv_row r11 c11; rw [hS0] at k11; have h11 := (h9.later h10.below).later b11; have l11 := (l9.go (Fr.below h10.below)).go (Fr.below b11))
            | (go_at_call 27; refine (crash_live h9 (by omega) 0 0 (by decide) (by decide)).mono ?_; rintro e w10 ⟨D10, own10, rfl, h10⟩)
            | (go_at_call 17; refine (size_any h8 (by omega) l8 hi).mono ?_; rintro e w9 ⟨rfl, b9⟩; rw [hEn]; have h9 := h8.later b9; have l9 := l8.go (Fr.below b9))
            | (go_at_call 29; refine (erase_any h7 (by omega) l7 hi).mono ?_; rintro e w8 ⟨rfl, own8, h8, f8⟩; rw [hσE] at h8; have l8 := l7.go f8)
            | (go_at_call 26; refine (sync_any h6 (by omega) l6 hi).mono ?_; rintro e w7 ⟨rfl, own7, h7, f7⟩; rw [logSt_sync, List.nil_append] at h7; have l7 := l6.go f7)
            | (go_at_call 18; refine (read_live hlA (by omega) i hi R N hnow hN).mono ?_; rintro e w6 ⟨a6, c6, rfl, o6, r6, n6, b6⟩; have k6 := Disk.conv_row r6 c6; rw [hS0] at k6; have h6 := hlA.later b6; have l6 := lgA.go (Fr.below b6)))
          obtain ⟨p19, rfl⟩ : ∃ p, ps19 = [p] := List.length_eq_one_iff.1 t19.len
          have hz19 : p19.zs = zs2 := by simpa using hp19
          have bw19 : Below w.heap.size w w19 := bcat b1 h19.below
          have r19 := h2.after bw19
          obtain ⟨x19, rfl, hcell, hpi19⟩ := t19.get 0 (by simp)
          simp only [List.getElem_cons_zero, add_nought] at hcell hpi19
          have kC : ∀ u, Below w19.heap.size w19 u → u.cell? x19 = _ := fun u hu => (hu.cell (World.block_lt_of_cell? w19 _ hcell)).trans hcell
          have sC : ∀ u, Below w19.heap.size w19 u → (convert 22 9 (.slice p19.a p19.zs.length p19.cap)).run Try.prog u = _ := fun u hu => Disk.conv_row (hpi19.row.after hu) _
          have sL : ∀ u, Below w19.heap.size w19 u → (convert 22 9 (.slice a2 l2 c2)).run Try.prog u = _ := fun u hu => Disk.conv_row (r19.after hu) _
          rw [hz19, hz3] at kC sC
          generalize p19.a = aJ at *
          generalize p19.cap = cJ at *
          generalize strOfNums zs2 = sLs at *
          have e7 : IntKind.i64.wrap (1 - (i : Int)) = 1 - (i : Int) := by rw [IntKind.wrap_i64]; omega
          have hS : Below w19.heap.size w19 w19.drew := (Below.refl _ _).drew
          have cS := size_other (h19.later hS) i hi hFo
          refine start_held (S := fun u => Below w19.heap.size w19 u) 27 rfl (by kernel_rfl) (hS) ?_
          simp only [Array.replicate_succ, Array.replicate_zero, List.push_toArray, List.nil_append, List.cons_append]
          refine take_held 0 (by assumption) rfl (by kernel_rfl) (by kernel_rfl) (by kernel_rfl) (fun _ _ _ h => h) (by kernel_rfl) (v := ?v0) ?y0 ?r0
          case y0 => (intro u hu; go_simp; try rfl)
          simp only [Act.put, List.setIfInBounds_toArray, List.set_cons_zero, List.set_cons_succ]
          refine take_held 1 (by assumption) rfl (by kernel_rfl) (by kernel_rfl) (by kernel_rfl) (fun _ _ _ h => h) (by kernel_rfl) (v := ?v1) ?y1 ?r1
          case y1 => (intro u hu; go_simp; try rfl)
          simp only [Act.put, List.setIfInBounds_toArray, List.set_cons_zero, List.set_cons_succ]
          refine take_held 2 (by assumption) rfl (by kernel_rfl) (by kernel_rfl) (by kernel_rfl) (fun _ _ _ h => h) (by kernel_rfl) (v := ?v2) ?y2 ?r2
          case y2 => (intro u hu; go_simp; try rfl)
          simp only [Act.put, List.setIfInBounds_toArray, List.set_cons_zero, List.set_cons_succ]
          refine take_held 3 (by assumption) rfl (by kernel_rfl) (by kernel_rfl) (by kernel_rfl) (fun _ _ _ h => h) (by kernel_rfl) (v := ?v3) ?y3 ?r3
          case y3 => (intro u hu; go_simp; try rfl)
          simp only [Act.put, List.setIfInBounds_toArray, List.set_cons_zero, List.set_cons_succ]
          refine take_held 4 (by assumption) rfl (by kernel_rfl) (by kernel_rfl) (by kernel_rfl) (fun _ _ _ h => h) (by kernel_rfl) (v := ?v4) ?y4 ?r4
          case y4 => (intro u hu; go_simp; try rfl)
          simp only [Act.put, List.setIfInBounds_toArray, List.set_cons_zero, List.set_cons_succ]
          refine take_held 5 (by assumption) rfl (by kernel_rfl) (by kernel_rfl) (by kernel_rfl) (fun _ _ _ h => h) (by kernel_rfl) (v := ?v5) ?y5 ?r5
          case y5 => (intro u hu; go_simp; try rfl)
          simp only [Act.put, List.setIfInBounds_toArray, List.set_cons_zero, List.set_cons_succ]
          refine take_held 6 (by assumption) rfl (by kernel_rfl) (by kernel_rfl) (by kernel_rfl) (fun _ _ _ h => h) (by kernel_rfl) (v := ?v6) ?y6 ?r6
          case y6 => (intro u hu; go_simp; try rfl)
          simp only [Act.put, List.setIfInBounds_toArray, List.set_cons_zero, List.set_cons_succ]
          refine take_held 7 (by assumption) rfl (by kernel_rfl) (by kernel_rfl) (by kernel_rfl) (fun _ _ _ h => h) (by kernel_rfl) (v := ?v7) ?y7 ?r7
          case y7 => (intro u hu; go_simp; try rfl)
          simp only [Act.put, List.setIfInBounds_toArray, List.set_cons_zero, List.set_cons_succ]
          refine take_held 8 (by assumption) rfl (by kernel_rfl) (by kernel_rfl) (by kernel_rfl) (fun _ _ _ h => h) (by kernel_rfl) (v := ?v8) ?y8 ?r8
          case y8 => (intro u hu; go_simp; try rfl)
          simp only [Act.put, List.setIfInBounds_toArray, List.set_cons_zero, List.set_cons_succ]
          refine take_held 9 (by assumption) rfl (by kernel_rfl) (by kernel_rfl) (by kernel_rfl) (fun _ _ _ h => h) (by kernel_rfl) (v := ?v9) ?y9 ?r9
          case y9 => (intro u hu; go_simp; try rfl)
          simp only [Act.put, List.setIfInBounds_toArray, List.set_cons_zero, List.set_cons_succ]
          refine take_held 10 (by assumption) rfl (by kernel_rfl) (by kernel_rfl) (by kernel_rfl) (fun _ _ _ h => h) (by kernel_rfl) (v := ?v10) ?y10 ?r10
          case y10 => (intro u hu; have := kC u hu; go_simp; try rfl)
          simp only [Act.put, List.setIfInBounds_toArray, List.set_cons_zero, List.set_cons_succ]
          refine take_held 11 (by assumption) rfl (by kernel_rfl) (by kernel_rfl) (by kernel_rfl) (fun _ _ _ h => h) (by kernel_rfl) (v := ?v11) ?y11 ?r11
          case y11 => (intro u hu; have := sC u hu; go_simp; try rfl)
          simp only [Act.put, List.setIfInBounds_toArray, List.set_cons_zero, List.set_cons_succ]
          refine take_held 12 (by assumption) rfl (by kernel_rfl) (by kernel_rfl) (by kernel_rfl) (fun _ _ _ h => h) (by kernel_rfl) (v := ?v12) ?y12 ?r12
          case y12 => (intro u hu; go_simp; try rfl)
          simp only [Act.put, List.setIfInBounds_toArray, List.set_cons_zero, List.set_cons_succ]
          refine take_held 13 (by assumption) rfl (by kernel_rfl) (by kernel_rfl) (by kernel_rfl) (fun _ _ _ h => h) (by kernel_rfl) (v := ?v13) ?y13 ?r13
          case y13 => (intro u hu; have := sL u hu; go_simp; try rfl)
          simp only [Act.put, List.setIfInBounds_toArray, List.set_cons_zero, List.set_cons_succ]
          refine take_held 14 (by assumption) rfl (by kernel_rfl) (by kernel_rfl) (by kernel_rfl) (fun _ _ _ h => h) (by kernel_rfl) (v := ?v14) ?y14 ?r14
          case y14 => (intro u hu; go_simp; try rfl)
          simp only [Act.put, List.setIfInBounds_toArray, List.set_cons_zero, List.set_cons_succ]
          refine take_held 15 (by assumption) rfl (by kernel_rfl) (by kernel_rfl) (by kernel_rfl) (fun _ _ _ h => h) (by kernel_rfl) (v := ?v15) ?y15 ?r15
          case y15 => (intro u hu; go_simp; try rfl)
          simp only [Act.put, List.setIfInBounds_toArray, List.set_cons_zero, List.set_cons_succ]
          refine take_held 16 (by assumption) rfl (by kernel_rfl) (by kernel_rfl) (by kernel_rfl) (fun _ _ _ h => h) (by kernel_rfl) (v := ?v16) ?y16 ?r16
          case y16 => (intro u hu; go_simp; try rfl)
          simp only [Act.put, List.setIfInBounds_toArray, List.set_cons_zero, List.set_cons_succ]
          refine take_held 17 (by assumption) rfl (by kernel_rfl) (by kernel_rfl) (by kernel_rfl) (fun _ _ _ h => h) (by kernel_rfl) (v := ?v17) ?y17 ?r17
          case y17 => (intro u hu; go_simp; try rfl)
          simp only [Act.put, List.setIfInBounds_toArray, List.set_cons_zero, List.set_cons_succ]
          refine take_held 18 (by assumption) rfl (by kernel_rfl) (by kernel_rfl) (by kernel_rfl) (fun _ _ _ h => h) (by kernel_rfl) (v := ?v18) ?y18 ?r18
          case y18 => (intro u hu; go_simp; try rfl)
          simp only [Act.put, List.setIfInBounds_toArray, List.set_cons_zero, List.set_cons_succ]
          refine take_held 19 (by assumption) rfl (by kernel_rfl) (by kernel_rfl) (by kernel_rfl) (fun _ _ _ h => h) (by kernel_rfl) (v := ?v19) ?y19 ?r19
          case y19 => (intro u hu; go_simp; try rfl)
          simp only [Act.put, List.setIfInBounds_toArray, List.set_cons_zero, List.set_cons_succ]
          refine call_held 20 rfl (by kernel_rfl) (by kernel_rfl) 28 #[.pointer (Option.some ⟨D, 0, none⟩), .int .i64 (1 - (i : Int))] (by go_simp) _ (call_val cS) ?_
          rintro v w20 ⟨rfl, rfl⟩
          refine ⟨hS, ?_⟩
          simp only [Act.put, List.setIfInBounds_toArray, List.set_cons_zero, List.set_cons_succ]
          refine take_held 21 (by assumption) rfl (by kernel_rfl) (by kernel_rfl) (by kernel_rfl) (fun _ _ _ h => h) (by kernel_rfl) (v := ?v20) ?y20 ?r20
          case y20 => (intro u hu; go_simp; try rfl)
          simp only [Act.put, List.setIfInBounds_toArray, List.set_cons_zero, List.set_cons_succ]
          refine take_held 22 (by assumption) rfl (by kernel_rfl) (by kernel_rfl) (by kernel_rfl) (fun _ _ _ h => h) (by kernel_rfl) (v := ?v21) ?y21 ?r21
          case y21 => (intro u hu; go_simp; try rfl)
          simp only [Act.put, List.setIfInBounds_toArray, List.set_cons_zero, List.set_cons_succ]
          refine take_held 23 (by assumption) rfl (by kernel_rfl) (by kernel_rfl) (by kernel_rfl) (fun _ _ _ h => h) (by kernel_rfl) (v := ?v22) ?y22 ?r22
          case y22 => (intro u hu; go_simp; try rfl)
          simp only [Act.put, List.setIfInBounds_toArray, List.set_cons_zero, List.set_cons_succ]
          refine call_held 24 rfl (by kernel_rfl) (by kernel_rfl) 9 #[] (by go_simp) _ (call_val (awake_any w19.drew)) ?_
          rintro v w21 ⟨rfl, b21⟩
          refine ⟨hS.trans (b21.mono hS.size), ?_⟩
          simp only [Act.put, List.setIfInBounds_toArray, List.set_cons_zero, List.set_cons_succ]
          have hS21 : Below w19.heap.size w19 w21 := hS.trans (b21.mono hS.size)
          refine take_held 25 (by assumption) rfl (by kernel_rfl) (by kernel_rfl) (by kernel_rfl) (fun _ _ _ h => h) (by kernel_rfl) (v := ?v23) ?y23 ?r23
          case y23 => (intro u hu; go_simp; try rfl)
          simp only [Act.put, List.setIfInBounds_toArray, List.set_cons_zero, List.set_cons_succ]
          refine take_held 26 (by assumption) rfl (by kernel_rfl) (by kernel_rfl) (by kernel_rfl) (fun _ _ _ h => h) (by kernel_rfl) (v := ?v24) ?y24 ?r24
          case y24 => (intro u hu; go_simp; try rfl)
          simp only [Act.put, List.setIfInBounds_toArray, List.set_cons_zero, List.set_cons_succ]
          refine done_held (by kernel_rfl) ?_ _
          go_wp2
          go_ret
          exact ⟨rfl, bcat bw19 hS21⟩
end Go.Proofs.Yteklmgbfinffdaa.Wal
