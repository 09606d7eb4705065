/-
  The law DiskUnits of package skeplaw03.
-/
import Derived.Test.YtdhcoffbobegoaaDiskScript
namespace Go.Proofs.Ytdhcoffbobegoaa.Disk
set_option linter.unusedVariables false
set_option linter.unusedSimpArgs false
open Go Go.RowKit
attribute [local go_sem ↓] Go.wp_at_zero Go.wp_at_succ

theorem place_bd (v n : Int) (h : 0 < n) : 0 ≤ place v n ∧ place v n < n := by
  have h2 := Int.tmod_lt_of_pos v h
  have h3 := tmod_low v n h
  unfold place
  split <;> omega

theorem size_step {W w : World} {D : Nat} {σ : St} {m : Nat} (h : Lone W w D σ m) (f : Int) : Calls Try.prog 21 #[.pointer (some ⟨D, 0, none⟩), .int .i64 f] w fun e w' => ∃ v, e = .returned v ∧ v = .int .i64 (readOf σ f).length ∧ w' = w :=
  (lone_size h f).mono fun e w' ⟨he, hw⟩ => ⟨_, he, rfl, hw⟩
theorem place_step (v n : Int) (w : World) (h0 : 0 < n) (h1 : n ≤ 9223372036854775807) : Calls Try.prog 19 #[.int .i64 v, .int .i64 n] w fun e w' => ∃ u, e = .returned u ∧ u = .int .i64 (place v n) ∧ w' = w :=
  (place_any v n w h0 h1).mono fun e w' ⟨he, hw⟩ => ⟨_, he, rfl, hw⟩
theorem cut_step {W w : World} {D : Nat} {σ : St} {m : Nat} (h : Lone W w D σ m) (hm : m < 4194304) (f s : Int) : Calls Try.prog 20 #[.pointer (some ⟨D, 0, none⟩), .int .i64 f, .int .i64 s] w fun e w' => ∃ v, e = .returned v ∧ v = .int .i64 (cutErr σ f s) ∧ Lone W w' D (cutSt σ f s) (m + 1) :=
  (lone_cut h hm f s).mono fun e w' ⟨he, hw⟩ => ⟨_, he, rfl, hw⟩
theorem cut_len (σ : St) (s : Int) : (now (cutSt σ 0 s) 0).length ≤ (now σ 0).length := by
  unfold cutSt
  by_cases h : cutErr σ 0 s = 0
  · rw [if_pos h]
    show (now (setSt σ 0 ((σ 0).1, (σ 0).2 ++ [.inr s.toNat])) 0).length ≤ _
    rw [now_cut, List.length_take]
    omega
  · rw [if_neg h]
    exact Nat.le_refl _

theorem Lone.okb {W w : World} {D : Nat} {σ : St} {m : Nat} (h : Lone W w D σ m) : okb (σ 0).1 (σ 0).2 ∧ (σ 0).2.length ≤ m * 16777216 := by
  obtain ⟨own, ⟨F, hF, hs⟩, _⟩ := h.disk
  have h1 := (hF.file 0 (by decide)).ok
  have h2 := (hF.file 0 (by decide)).less
  rw [(hs 0 (by decide)).1, (hs 0 (by decide)).2] at h1
  rw [(hs 0 (by decide)).2] at h2
  exact ⟨h1, h2⟩
theorem Lone.full {W w : World} {D : Nat} {σ : St} {m : Nat} (h : Lone W w D σ m) (k : Nat) : (run (σ 0).1 ((σ 0).2.take k)).length ≤ 16777216 := by
  obtain ⟨own, ⟨F, hF, hs⟩, _⟩ := h.disk
  have h1 := (hF.file 0 (by decide)).full k
  rwa [(hs 0 (by decide)).1, (hs 0 (by decide)).2] at h1
theorem read_crash (σ : St) (j b : Int) : readOf (crashSt σ j b) 0 = run (σ 0).1 ((σ 0).2.take j.toNat) := rfl
theorem pend_crash (σ : St) (j b : Int) : pendOf (crashSt σ j b) 0 = 0 := rfl
theorem pend_zero (σ : St) : pendOf σ 0 = (σ 0).2.length := rfl
theorem read_zero (σ : St) : readOf σ 0 = run (σ 0).1 (σ 0).2 := rfl
/- One unit more: a byte more, or a cut. -/
theorem one_more (zs : List Int) (us : List U) (j : Nat) (hj : j < us.length) (ok : okb zs us) : (∃ z, run zs (us.take (j + 1)) = run zs (us.take j) ++ [z]) ∨ ∃ c, c ≤ (run zs (us.take j)).length ∧ run zs (us.take (j + 1)) = (run zs (us.take j)).take c := by
  rw [List.take_succ_eq_append_getElem hj, run_append]
  have h1 := (okb_append (us.take (j + 1)) (us.drop (j + 1)) zs).1 (by rw [List.take_append_drop]; exact ok)
  rw [List.take_succ_eq_append_getElem hj] at h1
  have h2 := ((okb_append _ _ zs).1 h1.1).2
  cases hu : us[j] with
  | inl z => exact Or.inl ⟨z, rfl⟩
  | inr c =>
    rw [hu] at h2
    exact Or.inr ⟨c, h2.1 c rfl, rfl⟩

/- What the string of these bytes is called in the walk. -/
structure Str (A : List Int) (l : Nat) (s : ByteArray) : Prop where
  len : A.length = l
  str : s = strOfNums A
  size : s.size = l
theorem str_of (A : List Int) : Str A A.length (strOfNums A) := ⟨rfl, rfl, strOfNums_size A⟩
theorem str_take {A B : List Int} {la lb : Nat} {sA sB : ByteArray} (hA : Str A la sA) (hB : Str B lb sB) (h : B = A.take lb) : ((sA.extract 0 lb).toList == sB.toList) = true := by
  rw [hA.str, hB.str, h, ByteArray.toList_eq, ByteArray.toList_eq, strOfNums_data]
  simp [strOfNums]

theorem str_cut {A B : List Int} {la lb : Nat} {sA sB : ByteArray} (hA : Str A la sA) (hB : Str B lb sB) (h : B = A.take lb) (hl : lb ≤ la) :
    ∃ sE : ByteArray, (∀ w, (Instr.slice 9 (.string sA) none (some (.int .i64 lb)) none).run Try.prog w = .ok (.string sE) w) ∧ (sE.toList == sB.toList) = true :=
  ⟨sA.extract 0 lb, fun w => by
    have := run_slice_string_h (P := Try.prog) w 9 sA Try.underlying9 .i64 lb (by omega) (by rw [hA.size]; omega)
    rwa [Int.toNat_natCast] at this, str_take hA hB h⟩

set_option maxRecDepth 100000 in
set_option maxHeartbeats 4000000 in
theorem units_any (sa : Option Addr) (sl scap : Nat) (os : Nat → Op1) (w : World) (ho : Ops w sa sl os) (hsl : (sl : Int) ≤ 9223372036854775807) :
    Calls Try.prog 7 #[.slice sa sl scap] w fun e w' => e = .returned (.bool true) ∧ Below w.heap.size w w' := by
  have cA := awake_any w
  go_enter Try.func7, Try.ntmps7
  go_wp2_with (first
    | (go_at_call 9; refine (lone_new w wA bA).mono ?_; rintro e w2 ⟨rfl, h2⟩; replace h2 : Lone w w2 wA.heap.size aw0 0 := h2)
    | (go_at_call 8; refine cA.mono ?_; rintro e wA ⟨rfl, bA⟩))
  go_loopw [4] (fun i wr => ∃ (k : Nat) (σ : St), k ≤ sl ∧ k ≤ 20 ∧ i = .int .i64 k ∧ Lone w wr wA.heap.size σ k ∧ Hid ((now σ 0).length ≤ 40 * k)) (fun i _ => 20 - (intOf i).toNat)
  case atStart => exact ⟨0, aw0, Nat.zero_le _, Nat.zero_le _, rfl, h2, Nat.le_refl 0⟩
  case round =>
    obtain ⟨k, σ, hk1, hk2, rfl, hL, HB⟩ := hrel
    by_cases hlt : k < sl ∧ k < 20
    · obtain ⟨x, rfl, hop⟩ := ho k hlt.1
      have hop' := hop.after hL.below
      obtain ⟨c0, c1, c2, c3, c4⟩ := hop'.fields
      have row := hop'.row
      have nil := hop'.nil
      have le := hop'.le
      clear hop hop'
      generalize os k = o at *
      obtain ⟨kind, file, n, m, ba, bl, bcap, bs⟩ := o
      simp only at c0 c1 c2 c3 c4 row nil le
      have t1 : (k : Int) < (sl : Int) := by omega
      have t2 : (k : Int) < 20 := by omega
      have t0 : (0 : Int) ≤ (k : Int) := by omega
      by_cases hbig : 40 < bl
      · have t3 : (40 : Int) < (bl : Int) := by omega
        go_wp2
        go_ret
        exact ⟨rfl, hL.below.alloc hL.below.size _⟩
      · have t3 : (bl : Int) ≤ 40 := by omega
        obtain ⟨p0, p1⟩ := place_bd kind 5 (by decide)
        have hpl := fun w => place_any kind 5 w (by decide) (by decide)
        generalize place kind 5 = p at *
        rcases (show p = 3 ∨ p = 4 ∨ (p ≠ 3 ∧ p ≠ 4) by omega) with rfl | rfl | ⟨hp3, hp4⟩
        · have hLd := (hL.alloc (.cells #[.int .i64 kind, .int .i64 file, .int .i64 n, .int .i64 m, .slice ba bl bcap] 30)).drew
          have cS := size_step hLd 0
          have hb := hL.bound 0 (by decide)
          have hrl : readOf σ 0 = now σ 0 := by rw [show (0 : Int) = ((0 : Nat) : Int) from rfl, read_len _ 0 (by decide)]
          rw [hrl] at cS
          have cP := place_step n ((now σ 0).length + 1) (wr.alloc (.cells #[.int .i64 kind, .int .i64 file, .int .i64 n, .int .i64 m, .slice ba bl bcap] 30)).drew (by omega) (by omega)
          have cC := cut_step hLd (by omega) 0 (place n ((now σ 0).length + 1))
          have HN : Hid ((now (cutSt σ 0 (place n ((now σ 0).length + 1))) 0).length ≤ (now σ 0).length) := cut_len _ _
          clear hLd
          generalize place n ((now σ 0).length + 1) = s at *
          have hb' : ((now σ 0).length : Int) ≤ 16777216 := by omega
          generalize hq : (now σ 0).length = q at cS cP hb'
          clear hq
          have HW : Hid (IntKind.i64.wrap ((q : Int) + 1) = (q : Int) + 1) := show _ = _ from by rw [IntKind.wrap_i64]; omega
          go_wp2_with (go_at_call 19; refine (hpl _).mono ?_; rintro e w' ⟨rfl, rfl⟩)
          go_region_law (first
            | (refine step_fn 20 rfl rfl #[.pointer (some ⟨wA.heap.size, 0, none⟩), .int .i64 0, .int .i64 s] (by go_simp) _ cC ?_; rintro v w4 ⟨rfl, h4⟩)
            | (refine step_fn 19 rfl rfl #[.int .i64 n, .int .i64 ((q : Int) + 1)] (by go_simp; exact HW.out) _ cP ?_; rintro v w4 ⟨rfl, rfl⟩)
            | (refine step_fn 21 rfl rfl #[.pointer (some ⟨wA.heap.size, 0, none⟩), .int .i64 0] (by go_simp) _ cS ?_; rintro v w4 ⟨rfl, rfl⟩))
          all_goals
            go_wp2
            go_roundw
            case rel => exact ⟨k + 1, _, by omega, by omega, by go_num, h4, show _ ≤ _ from by have := HN.out; have := HB.out; omega⟩
            case measure => simp [intOf]; omega
        · have HN : Hid ((now (setSt σ 0 (now σ 0, [])) 0).length ≤ 40 * (k + 1)) := show _ ≤ _ from by rw [now_sync]; have := HB.out; omega
          go_wp2_with (first
            | (go_at_call 19; refine (hpl _).mono ?_; rintro e w' ⟨rfl, rfl⟩)
            | (go_at_call 15; refine (lone_sync_ok (hL.alloc _) (by omega) 0 (by decide)).mono ?_; rintro e w4 ⟨rfl, h4⟩))
          go_roundw
          case rel => exact ⟨k + 1, _, by omega, by omega, by go_num, h4, HN⟩
          case measure => simp [intOf]; omega
        · have e3 : (p == 3) = false := by simpa using hp3
          have e4 : (p == 4) = false := by simpa using hp4
          have HN : Hid ((now (setSt σ 0 ((σ 0).1, (σ 0).2 ++ bs.map Sum.inl)) 0).length ≤ 40 * (k + 1)) := show _ ≤ _ from by rw [now_put, List.length_append]; have := HB.out; have := row.len; omega
          go_wp2_with (first
            | (go_at_call 19; refine (hpl _).mono ?_; rintro e w' ⟨rfl, rfl⟩)
            | (go_at_call 13; refine (lone_append_ok ((hL.alloc _).later hb5) (by omega) 0 (by decide) _ _ _ _ hr5 hn5 (by have := HB.out; omega)).mono ?_; rintro e w6 ⟨rfl, h6⟩)
            | (go_at_call 14; refine (copy_any ba bl bcap bs _ (row.after ((Below.refl _ _).alloc (Nat.le_refl _) _)) (by omega) nil).mono ?_; rintro e w5 ⟨a5, cap5, rfl, hr5, ho5, hb5⟩; have hn5 := (owns_row ho5 hr5.small).2.1))
          go_roundw
          case rel => exact ⟨k + 1, _, by omega, by omega, by go_num, h6, HN⟩
          case measure => simp [intOf]; omega
    · have hL' := hL
      obtain ⟨hok, hN⟩ := hL.okb
      have hNb : ((σ 0).2.length : Int) ≤ 335544320 := by omega
      have pz := pend_zero σ
      generalize hNN : (σ 0).2.length = N at hNb pz hN
      have HNN : Hid ((σ 0).2.length = N) := hNN
      have HK : Hid (okb (σ 0).1 (σ 0).2) := hok
      clear hNN hok
      obtain ⟨Lf, HLf⟩ : ∃ Lf : Nat → List Int, Hid (∀ j, run (σ 0).1 ((σ 0).2.take j) = Lf j) := ⟨_, fun j => rfl⟩
      obtain ⟨A0, l0, s0, HA0⟩ : ∃ A0 l0 s0, Hid (A0 = Lf 0 ∧ Str A0 l0 s0) := ⟨_, _, _, rfl, str_of _⟩
      have hz0 : Hid (readOf (crashSt σ (-1) 0) 0 = A0) := show _ = _ from by rw [read_crash, HA0.out.1, ← HLf.out]; rfl
      have hcase : (k : Int) < (sl : Int) ∧ ¬ (k : Int) < 20 ∨ ¬ (k : Int) < (sl : Int) := by omega
      rcases hcase with ⟨q1, q2⟩ | q1
      all_goals
        go_wp2_with (first
          | (go_at_call 17; refine (lone_read_of h3 (by decide) 0 A0 l0 hz0.out HA0.out.2.len).mono ?_; rintro e w4 ⟨a4, cap4, rfl, ho4, hr4, hn4, hb4⟩; have k4 := conv_row hr4 cap4; rw [← HA0.out.2.str] at k4)
          | (go_at_call 16; refine (lone_crash hL (by omega) (-1) 0 (by decide) (by decide)).mono ?_; rintro e w3 ⟨X, rfl, h3⟩)
          | (go_at_call 18; refine (lone_pending hL 0).mono ?_; rintro e w' ⟨rfl, hw⟩; rw [hw]))
        have hL4 := (hL.later h3.below).later hb4
        go_loopw [7, 8] (fun last kk wx => ∃ (j : Nat) (A : List Int) (la : Nat) (sA : ByteArray), j ≤ N + 1 ∧ kk = .int .i64 j ∧ last = .string sA ∧ Lone w wx wA.heap.size σ k ∧ Hid (A = Lf (j - 1) ∧ Str A la sA)) (fun _ kk _ => N + 1 - (intOf kk).toNat)
        case atStart => exact ⟨0, A0, l0, s0, by omega, rfl, rfl, hL4, HA0⟩
        case round =>
          obtain ⟨j, A, la, sA, hj, rfl, rfl, hLx, HA⟩ := hrel
          by_cases hjN : j ≤ N
          · obtain ⟨B, lb, sB, HBs⟩ : ∃ B lb sB, Hid (B = Lf j ∧ Str B lb sB) := ⟨_, _, _, rfl, str_of _⟩
            have hzj : Hid (readOf (crashSt σ j 0) 0 = B) := show _ = _ from by rw [read_crash, HBs.out.1, ← HLf.out, Int.toNat_natCast]
            have pzj := pend_crash σ j 0
            have szA := HA.out.2.size
            have szB := HBs.out.2.size
            have bA : la ≤ 16777216 := by have := hLx.full (j - 1); rw [HLf.out, ← HA.out.1, HA.out.2.len] at this; exact this
            have bA' : (la : Int) ≤ 16777216 := by omega
            have hj0 : (j : Int) ≤ (N : Int) := by omega
            have way : (j = 0 ∧ B = A) ∨ (1 ≤ j ∧ ∃ z, B = A ++ [z]) ∨ (1 ≤ j ∧ lb ≤ la ∧ B = A.take lb) := by
              rcases Nat.eq_zero_or_pos j with h | h
              · left; subst h; exact ⟨rfl, by rw [HBs.out.1, HA.out.1]⟩
              · right
                have := one_more (σ 0).1 (σ 0).2 (j - 1) (by have := HNN.out; omega) HK.out
                rw [show j - 1 + 1 = j by omega, HLf.out, HLf.out, ← HA.out.1, ← HBs.out.1] at this
                rcases this with ⟨z, hz⟩ | ⟨c, hc, hz⟩
                · exact Or.inl ⟨h, z, hz⟩
                · right
                  have h1 := HBs.out.2.len
                  have h2 := HA.out.2.len
                  rw [hz, List.length_take] at h1
                  exact ⟨h, by omega, by rw [hz]; congr 1; omega⟩
            rcases way with ⟨hj1, hBA⟩ | ⟨hj1, z, hBA⟩ | ⟨hj1, hle, hBA⟩
            · have hla : lb = la := by have h1 := HBs.out.2.len; have h2 := HA.out.2.len; rw [hBA] at h1; omega
              have hss : sB = sA := by rw [HBs.out.2.str, HA.out.2.str, hBA]
              have hT : B = A.take lb := by rw [hBA, List.take_of_length_le (by have := HA.out.2.len; omega)]
              obtain ⟨sE, hE1, hE2⟩ := str_cut HA.out.2 HBs.out.2 hT (by omega)
              subst hla
              subst hss
              subst hj1
              clear hT hBA
              have hzj : Hid (readOf (crashSt σ 0 0) 0 = B) := hzj
              have pzj := pend_crash σ 0 0
              go_wp2_with (first
                | (go_at_call 18; refine (lone_pending (h5.later hb6) 0).mono ?_; rintro e w' ⟨rfl, hw⟩; rw [hw])
                | (go_at_call 17; refine (lone_read_of h5 (by decide) 0 B lb hzj.out HBs.out.2.len).mono ?_; rintro e w6 ⟨a6, cap6, rfl, ho6, hr6, hn6, hb6⟩; have k6 := conv_row hr6 cap6; rw [← HBs.out.2.str] at k6)
                | (go_at_call 16; refine (lone_crash hLx (by omega) 0 0 (by omega) (by decide)).mono ?_; rintro e w5 ⟨X5, rfl, h5⟩))
              go_roundw
              case rel => exact ⟨1, B, lb, sB, by omega, rfl, rfl, (hLx.later h5.below).later hb6, HBs⟩
              case measure => simp [intOf]
            · have hlb : lb = la + 1 := by have h1 := HBs.out.2.len; have h2 := HA.out.2.len; rw [hBA, List.length_append] at h1; simp at h1; omega
              obtain ⟨sE, hE1, hE2⟩ := str_cut HBs.out.2 HA.out.2 (by rw [hBA, List.take_append, show la - A.length = 0 by have := HA.out.2.len; omega, List.take_of_length_le (by have := HA.out.2.len; omega)]; simp) (by omega)
              have hj2 : (0 : Int) < (j : Int) := by omega
              have hj3 : ((j : Int) == 0) = false := by simp; omega
              have e1 : ((lb : Int) == (la : Int) + 1) = true := by simp; omega
              have e2 : ¬ (lb : Int) ≤ (la : Int) := by omega
              clear hBA hlb
              go_wp2_with (first
                | (go_at_call 18; refine (lone_pending (h5.later hb6) 0).mono ?_; rintro e w' ⟨rfl, hw⟩; rw [hw])
                | (go_at_call 17; refine (lone_read_of h5 (by decide) 0 B lb hzj.out HBs.out.2.len).mono ?_; rintro e w6 ⟨a6, cap6, rfl, ho6, hr6, hn6, hb6⟩; have k6 := conv_row hr6 cap6; rw [← HBs.out.2.str] at k6)
                | (go_at_call 16; refine (lone_crash hLx (by omega) j 0 (by omega) (by decide)).mono ?_; rintro e w5 ⟨X5, rfl, h5⟩))
              go_roundw
              case rel => exact ⟨j + 1, B, lb, sB, by omega, by go_num, rfl, (hLx.later h5.below).later hb6, HBs⟩
              case measure => simp [intOf]; omega
            · obtain ⟨sE, hE1, hE2⟩ := str_cut HA.out.2 HBs.out.2 hBA hle
              have hj2 : (0 : Int) < (j : Int) := by omega
              have hj3 : ((j : Int) == 0) = false := by simp; omega
              have e1 : ((lb : Int) == (la : Int) + 1) = false := by simp; omega
              have e2 : (lb : Int) ≤ (la : Int) := by omega
              clear hBA hle
              go_wp2_with (first
                | (go_at_call 18; refine (lone_pending (h5.later hb6) 0).mono ?_; rintro e w' ⟨rfl, hw⟩; rw [hw])
                | (go_at_call 17; refine (lone_read_of h5 (by decide) 0 B lb hzj.out HBs.out.2.len).mono ?_; rintro e w6 ⟨a6, cap6, rfl, ho6, hr6, hn6, hb6⟩; have k6 := conv_row hr6 cap6; rw [← HBs.out.2.str] at k6)
                | (go_at_call 16; refine (lone_crash hLx (by omega) j 0 (by omega) (by decide)).mono ?_; rintro e w5 ⟨X5, rfl, h5⟩))
              go_roundw
              case rel => exact ⟨j + 1, B, lb, sB, by omega, by go_num, rfl, (hLx.later h5.below).later hb6, HBs⟩
              case measure => simp [intOf]; omega
          · have hjN' : j = N + 1 := by omega
            have hend : Hid (readOf σ 0 = A) := show _ = _ from by
              rw [HA.out.1, ← HLf.out, hjN', show N + 1 - 1 = N from rfl, ← HNN.out, List.take_length]
              exact read_zero σ
            have hj0 : ¬ (j : Int) ≤ (N : Int) := by omega
            clear hjN'
            go_wp2_with (go_at_call 17; refine (lone_read_of hLx (by omega) 0 A la hend.out HA.out.2.len).mono ?_; rintro e w6 ⟨a6, cap6, rfl, ho6, hr6, hn6, hb6⟩; have k6 := conv_row hr6 cap6; rw [← HA.out.2.str] at k6)
            go_ret
            exact ⟨rfl, hLx.below.trans (hb6.mono hLx.below.size)⟩

end Go.Proofs.Ytdhcoffbobegoaa.Disk
