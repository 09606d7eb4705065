/-
  The chapter's own Extend.
-/
import Derived.Test.YtddkgkafgjdheaaResvRefClaim
namespace Go.Proofs.Ytddkgkafgjdheaa.Rs
set_option linter.unusedVariables false
set_option linter.unusedSimpArgs false
open Go Go.RowKit Go.Shelf Go.Proofs Hp
attribute [local go_sem] Oper.semAt_some

theorem ext_fit {s : Sl} (h : Fit s) (by_ : Int) : Fit ⟨s.f, Plain.sum s.t by_, s.r⟩ := by
  have h1 := Plain.sum_bd s.t by_
  have h2 := Plain.cut_bd by_
  have h3 : Plain.cut s.t = s.t := Plain.cut_in (by have := h.1; have := h.2.1; omega) h.2.2.1
  have h4 := Plain.sum_min s.t by_
  rw [h3] at h4
  have h5 := h.2.2.1
  unfold FV at h5
  refine ⟨h.1, ?_, by unfold FV; exact h1.2, h.2.2.2⟩
  have := h.2.1
  simp only
  omega
theorem rowOf_at (ls : List (List Sl)) (i : Nat) (hi : i < ls.length) : rowOf ls (i : Nat) = ls[i] := by
  have h : isThere ls.length ((i : Nat) : Int) = true := by simp only [isThere, Bool.and_eq_true, decide_eq_true_eq]; omega
  obtain ⟨j, hj, e, r⟩ := rowOf_in h
  have : i = j := by omega
  subst this
  exact r
theorem rsum_call (a by_ : Int) {r : Int} (hr : Plain.sum a by_ = r) (w : World) : Calls Try.prog 56 #[.int .i64 a, .int .i64 by_] w fun e w' => e = .returned (.int .i64 r) ∧ w' = w := by
  subst hr; exact Tick.rsum_any a by_ w
set_option maxRecDepth 100000 in
set_option maxHeartbeats 4000000 in
theorem rextend_any (F : Nat → Prop) (b : Nat) (ls : List (List Sl)) (R c ti by_ : Int) (m : Nat) (w : World) (h : TAt F w b ls) (hl : OkT ls) (hs : Small m ls) (hm : m ≤ 999999999) :
    Calls Try.prog 30 #[.pointer (some ⟨b, 0, none⟩), .int .i64 R, .int .i64 c, .int .i64 ti, .int .i64 by_] w (ExtPost F b R c ti by_ ls w) := by
  have HT : Hid (TAt F w b ls) := h
  cases ht : isThere ls.length c with
  | false =>
    have cT := rthere_call h ht
    have HNo : Hid (∀ s, ¬ Mine (rowOf ls c) R ti s) := fun s q => by rw [q.there] at ht; cases ht
    clear ht h
    go_enter Try.func30, Try.ntmps30
    go_wp2_with (go_at_call 55; refine cT.mono ?_; rintro e w2 ⟨v2, rfl, rfl, rfl⟩)
    go_ret
    exact ⟨3, ls, F, rfl, HT.out, Tn.below (Below.refl _ _), fun _ => ⟨rfl, rfl⟩, fun s hs' => absurd hs' (HNo.out s), fun s hs' => absurd hs' (HNo.out s)⟩
  | true =>
    have cT := rthere_call h ht
    obtain ⟨i, hi, ec, erow⟩ := rowOf_in ht
    subst ec
    obtain ⟨v, vals, TI⟩ := h
    obtain ⟨g, cap, ev, _, _, hgl, _, _, _, hcell⟩ := TI.form (by omega)
    have hd := TI.head
    have hbl := TI.low b TI.hb
    have hiv : i < vals.length := by rw [TI.len]; exact hi
    have hc := hcell i hiv
    have RO := TI.each i hi hiv
    obtain ⟨ra, rn, rc, er⟩ := RO.shape
    rw [ev] at hd
    rw [er] at hc RO
    have hok : Ok ls[i] := hl _ (List.getElem_mem _)
    have hsm : (ls[i]).length ≤ 999999999 := by have := hs _ (List.getElem_mem hi); omega
    have HMet : Hid (∀ f t u, TAt F u b ls → ∀ r, metB ls[i] R f t = r → Calls Try.prog 57 #[.pointer (some ⟨b, 0, none⟩), .int .i64 R, .int .i64 (i : Nat), .int .i64 f, .int .i64 t] u fun e w' => ∃ v, e = .returned v ∧ v = .bool r ∧ w' = u) := fun f t u hu r hr => met_call hi hu (by omega) hr
    have HPut : Hid (∀ f t u, TAt F u b ls → Fit ⟨f, t, R⟩ → ¬ Met ls[i] R [⟨f, t, R⟩] → Calls Try.prog 58 #[.pointer (some ⟨b, 0, none⟩), .int .i64 R, .int .i64 (i : Nat), .int .i64 f, .int .i64 t] u fun e w' => ∃ v, e = .returned v ∧ v = .tuple #[] ∧ ∃ F' l', TAt F' w' b (ls.set i l') ∧ Tn F F' u w' ∧ With ls[i] [⟨f, t, R⟩] l') := fun f t u hu hf hn => put_call hi hu hok hf hn hsm
    have HEx : Hid (∀ x ls', ExtR R (i : Nat) ti by_ ls x ls' ↔ ExtR R (i : Nat) ti by_ ls x ls') := fun _ _ => Iff.rfl
    have HRow : Hid (rowOf ls (i : Nat) = ls[i]) := erow
    obtain ⟨l, hlr⟩ : ∃ l, ls[i] = l := ⟨_, rfl⟩
    rw [hlr] at RO hok hsm HMet HPut HRow
    have hlen : rn = l.length := by obtain ⟨y1, y2, y3, _⟩ := RO.form; injection y3
    subst hlen
    have HOK : Hid (Ok l) := hok
    have HRO : Hid (RowAt slL (fun k => F k ∧ k ≠ b ∧ v.ownBlock ≠ some k) w (.slice ra l.length rc) l) := RO
    have hi' : (i : Int) < (ls.length : Int) := by omega
    clear hcell er RO hlr ht hok erow TI ev
    go_enter Try.func30, Try.ntmps30
    go_wp2_with (go_at_call 55; refine cT.mono ?_; rintro e w2 ⟨v2, rfl, rfl, rfl⟩)
    go_loopw [11] (fun s11 wr => ∃ j : Nat, s11 = .int .i64 j ∧ j ≤ l.length ∧ Hid (∀ s ∈ l.take j, ¬ (s.r = R ∧ s.f ≤ ti ∧ ti < s.t)) ∧ Hid (Below w2.heap.size w2 wr)) (fun s11 _ => l.length - (intOf s11).toNat)
    case atStart => exact ⟨0, rfl, Nat.zero_le _, fun s hs' => by simp at hs', Below.refl _ _⟩
    case round =>
      obtain ⟨j, rfl, hj, hA, bw⟩ := hrel
      have hd3 : wr.cell? ⟨b, 0, none⟩ = some (.slice (some ⟨g, 0, none⟩) ls.length cap) := (cell_same (bw.out.block b hbl)).trans hd
      have hc3 : wr.cell? ⟨g, i, none⟩ = some (.slice ra l.length rc) := (cell_same (bw.out.block g hgl)).trans hc
      rcases Nat.lt_or_ge j l.length with hjl | hjg
      · obtain ⟨g2, o2, cap2, e2, c0, c1, c2⟩ := box_item (HRO.out.go slL_len bw.out) j hjl
        cases e2
        have hjl' : (j : Int) < (l.length : Int) := by omega
        have hjs : (j : Int) + 1 ≤ 1000000000 := by omega
        have hTk : Hid (l.take (j + 1) = l.take j ++ [l[j]]) := List.take_succ_eq_append_getElem hjl
        have hMem : Hid (l[j] ∈ l) := List.getElem_mem _
        obtain ⟨s, hs'⟩ : ∃ s, l[j] = s := ⟨_, rfl⟩
        rw [hs'] at c0 c1 c2 hTk hMem
        clear hs'
        have HNx : Hid (¬ (s.r = R ∧ s.f ≤ ti ∧ ti < s.t) → ∀ x ∈ l.take (j + 1), ¬ (x.r = R ∧ x.f ≤ ti ∧ ti < x.t)) := fun q x hx => by
          rw [hTk.out] at hx
          rcases List.mem_append.1 hx with z | z
          · exact hA.out x z
          · rw [List.mem_singleton] at z; subst z; exact q
        obtain ⟨w5, hw5⟩ : ∃ w5, wr.alloc (.cells #[.int .i64 s.f, .int .i64 s.t, .int .i64 s.r] 40) = w5 := ⟨_, rfl⟩
        have b5 : Below wr.heap.size wr w5 := by rw [← hw5]; exact (Below.refl _ _).alloc (Nat.le_refl _) _
        have n5 := cell_new wr (.int .i64 s.f) (.int .i64 s.t) (.int .i64 s.r) 40
        rw [hw5] at n5
        obtain ⟨z0, z1, z2⟩ := n5
        have HW5 : Hid (wr.alloc (.cells #[.int .i64 s.f, .int .i64 s.t, .int .i64 s.r] 40) = w5) := hw5
        have B5 : Hid (Below w2.heap.size w2 w5) := bcat bw.out b5
        clear hw5
        by_cases r1 : s.r = R
        · have d1 : (s.r != R) = false := by simp [r1]
          by_cases r2 : ti < s.f
          · have hN := HNx.out (fun q => by omega)
            have HN : Hid _ := hN
            clear hN r1
            go_wp2_with fail
            go_roundw
            case measure => simp only [intOf]; omega
            case rel => exact ⟨j + 1, rfl, hjl, HN.out, by rw [HW5.out]; exact B5⟩
          · have d2 : decide (ti < s.f) = false := decide_eq_false r2
            by_cases r3 : s.t ≤ ti
            · have hN := HNx.out (fun q => by omega)
              have HN : Hid _ := hN
              have d3 : decide (ti ≥ s.t) = true := decide_eq_true r3
              clear hN r1 r2 r3
              go_wp2_with fail
              go_roundw
              case measure => simp only [intOf]; omega
              case rel => exact ⟨j + 1, rfl, hjl, HN.out, by rw [HW5.out]; exact B5⟩
            · have d3 : decide (ti ≥ s.t) = false := decide_eq_false r3
              have hMn : Mine (rowOf ls (i : Nat)) R ti s := by rw [HRow.out]; exact ⟨hMem.out, r1, by omega, by omega⟩
              have HMn : Hid _ := hMn
              have hft := ext_fit (HOK.out.fit s hMem.out) by_
              rw [r1] at hft
              obtain ⟨sm, hsm'⟩ : ∃ sm, Plain.sum s.t by_ = sm := ⟨_, rfl⟩
              have HSM : Hid (Plain.sum s.t by_ = sm) := hsm'
              have cS := rsum_call s.t by_ hsm'
              rw [hsm'] at hft
              have HFt : Hid _ := hft
              have HOne : Hid (∀ y, Mine (rowOf ls (i : Nat)) R ti y → y = s) := fun y hy => Mine.one (by rw [HRow.out]; exact HOK.out) hy HMn.out
              have T5 : TAt F w5 b ls := HT.out.go B5.out
              clear hft hsm' hMn r1 r2 r3
              cases hmt : metB l R s.f sm with
              | true =>
                have cM := HMet.out s.f sm w5 T5 true hmt
                have HM : Hid _ := metB_iff.1 hmt
                clear hmt
                go_wp2_with (first | (go_at_call 56; (try rw [HW5.out]); refine (cS _).mono ?_; rintro e w6 ⟨rfl, rfl⟩) | (go_at_call 57; refine cM.mono ?_; rintro e w7 ⟨v7, rfl, rfl, rfl⟩))
                go_ret
                refine ⟨18, ls, F, rfl, T5, Tn.below B5.out, fun q => absurd ⟨s, HMn.out⟩ q, fun _ _ _ => ⟨rfl, rfl⟩, fun y hy hn => ?_⟩
                have ey := HOne.out y hy
                subst ey
                rw [HSM.out, HRow.out] at hn
                exact absurd HM.out hn
              | false =>
                have cM := HMet.out s.f sm w5 T5 false hmt
                have cP := HPut.out s.f sm w5 T5 HFt.out (fun q => by rw [metB_iff.2 q] at hmt; cases hmt)
                have HM : Hid (¬ Met l R [⟨s.f, sm, R⟩]) := fun q => by rw [metB_iff.2 q] at hmt; cases hmt
                clear hmt
                go_wp2_with (first | (go_at_call 56; (try rw [HW5.out]); refine (cS _).mono ?_; rintro e w6 ⟨rfl, rfl⟩) | (go_at_call 57; refine cM.mono ?_; rintro e w7 ⟨v7, rfl, rfl, rfl⟩) | (go_at_call 58; refine cP.mono ?_; rintro e w8 ⟨v8, rfl, rfl, F8, l8, T8, t8, W8⟩))
                go_ret
                refine ⟨0, _, F8, rfl, T8, (Tn.below B5.out).trans t8, fun q => absurd ⟨s, HMn.out⟩ q, fun y hy hn => ?_, fun y hy _ => ⟨rfl, l8, ?_, rfl⟩⟩
                · have ey := HOne.out y hy
                  subst ey
                  rw [HSM.out, HRow.out] at hn
                  exact absurd hn HM.out
                · have ey := HOne.out y hy
                  subst ey
                  rw [HSM.out, HRow.out]
                  exact W8
        · have d1 : (s.r != R) = true := by simp [r1]
          have hN := HNx.out (fun q => r1 q.1)
          have HN : Hid _ := hN
          clear hN r1
          go_wp2_with fail
          go_roundw
          case measure => simp only [intOf]; omega
          case rel => exact ⟨j + 1, rfl, hjl, HN.out, by rw [HW5.out]; exact B5⟩
      · obtain rfl : j = l.length := by omega
        have hNo := hA.out
        rw [List.take_length] at hNo
        have HNo : Hid (∀ s, ¬ Mine (rowOf ls (i : Nat)) R ti s) := fun s q => by rw [HRow.out] at q; exact hNo s q.1 q.2
        clear hNo
        go_wp2
        go_ret
        exact ⟨3, ls, F, rfl, HT.out.go bw.out, Tn.below bw.out, fun _ => ⟨rfl, rfl⟩, fun s hs' => absurd hs' (HNo.out s), fun s hs' => absurd hs' (HNo.out s)⟩
end Go.Proofs.Ytddkgkafgjdheaa.Rs
