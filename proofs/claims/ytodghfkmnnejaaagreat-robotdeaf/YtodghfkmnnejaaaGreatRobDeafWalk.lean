/-
  Telegrams for others, and of other kinds, turn nothing.
-/
import Derived.Test.YtodghfkmnnejaaaGreatRobIn
import Derived.Deep.DeepCutAuto
import Derived.Deep.CutRange
namespace Go.Proofs.YtodghfkmnnejaaaGreat.Rob
set_option linter.unusedVariables false
set_option linter.unusedSimpArgs false
open Go Go.RowKit Go.Shelf Go.Proofs Go.Proofs.YtodghfkmnnejaaaGreat.Lk Go.Proofs.YtodghfkmnnejaaaGreat.Plain
attribute [local go_sem] Oper.semAt_some

theorem set_rb {w : World} {g : Nat} {t : Tl} {T : TypeId} (h : w.heap[g]? = some (.cells (tlA t) T (0, 0))) (v : Int) : (w.setCell ⟨g, 1, none⟩ (.int .i64 v)).heap[g]? = some (.cells (tlA { t with rb := v }) T (0, 0)) := by
  have : (w.setCell ⟨g, 1, none⟩ (.int .i64 v)).heap[g]? = some (.cells ((tlA t).setIfInBounds 1 (.int .i64 v)) T (0, 0)) := by
    unfold World.setCell
    simp [Array.getElem?_modify, h]
  rw [this]
  cases t
  rfl
theorem deaf_hear {R : Wh} {t : Tl} (h : t.rb ≠ 0 ∨ (t.kd ≠ 1 ∧ t.kd ≠ 2)) : hearL R (firstR 0 0 0 false) t = none ∧ hearR R (firstR 0 0 0 false) t = firstR 0 0 0 false ∧ hearH R (firstR 0 0 0 false) t = 0 := by
  unfold hearL hearR hearH
  by_cases h1 : t.rb = 0
  · obtain ⟨h2, h3⟩ := h.resolve_left (fun f => f h1)
    have n1 : ¬ t.rb ≠ (firstR 0 0 0 false).nb := fun f => f h1
    have n2 : ¬ (t.kd = 1 ∧ t.ep < (firstR 0 0 0 false).ep) := fun f => h2 f.1
    have n3 : ¬ (t.kd = 1 ∧ begs R (firstR 0 0 0 false) t = true) := fun f => h2 f.1
    have n4 : ¬ (t.kd = 2 ∧ (firstR 0 0 0 false).ep < t.ep) := fun f => h3 f.1
    have n5 : ¬ (lastP (firstR 0 0 0 false) t && !under (firstR 0 0 0 false)) = true := by
      unfold lastP
      rw [if_neg h2, decide_eq_false h3]
      simp
    rw [if_neg n1, if_neg n2, if_neg n3, if_neg n4, if_neg n5, if_neg n1, if_neg n2, if_neg n3, if_neg n4, if_neg n1, if_neg n2, if_neg n3, if_neg n4]
    exact ⟨rfl, rfl, rfl⟩
  · have p1 : t.rb ≠ (firstR 0 0 0 false).nb := h1
    rw [if_pos p1, if_pos p1, if_pos p1]
    exact ⟨rfl, rfl, rfl⟩
set_option maxRecDepth 100000 in
set_option maxHeartbeats 8000000 in
theorem deaf_all (a : Option Addr) (n cap : Nat) (ts : Nat → Tl) (w : World) (hT : InT w a n ts) : Calls Tryz.prog 9 #[.slice a n cap] w fun e w' => e = .returned (.bool true) ∧ Below w.heap.size w w' := by
  have cC := confB_any w
  have HIn : Hid (∀ u, Below w.heap.size w u → InT u a n ts) := fun u hu => hT.go hu
  obtain ⟨B, hB⟩ : ∃ B, w.heap.size = B := ⟨_, rfl⟩
  rw [hB] at cC HIn ⊢
  have HX : Hid (w.heap.size = B) := hB
  clear hB hT
  go_enter Tryz.func9, Tryz.ntmps9
  go_wp2_with (first
    | (go_at_call 26; refine cC.mono ?_; rintro e w1 ⟨b, rfl, hb, hcb, b1⟩)
    | (go_at_call 11; refine (madeB_any b _ hcb).mono ?_; rintro e w2 ⟨R, rfl, hR, hp, hk, b2⟩; have bw : Below B w w2 := b1.trans (b2.mono (by have := b1.size; have := HX.out; omega)); have HPK : Hid (B ≤ R.p ∧ B ≤ R.k) := ⟨by have := b1.size; have := HX.out; omega, by have := b1.size; have := HX.out; omega⟩; clear hp hk b2 hcb hb b1 cC))
  go_loopw [5] (fun c wr => ∃ (i : Nat), c = .int .i64 i ∧ i ≤ 60 ∧ RbAt wr R (firstR 0 0 0 false) ∧ Below B w wr) (fun c _ => 60 - (intOf c).toNat)
  case atStart => exact ⟨0, rfl, by omega, hR, bw⟩
  case round =>
    clear hR bw
    obtain ⟨i, rfl, hi, hR, bw⟩ := hrel
    have hs : B ≤ wr.heap.size := by have := bw.size; have := HX.out; omega
    by_cases hin : i < n
    · have g1 : (i : Int) < (n : Int) := by omega
      by_cases hi60 : i < 60
      · have g2 : (i : Int) < 60 := by omega
        obtain ⟨p, rfl, hld⟩ := (HIn.out wr bw).load hin
        obtain ⟨t, ht⟩ : ∃ t, ts i = t := ⟨_, rfl⟩
        rw [ht] at hld
        obtain ⟨x1, hx1⟩ : ∃ x1, x1 = wr.alloc (.cells (tlA t) 46) := ⟨_, rfl⟩
        have b1 : Below wr.heap.size wr x1 := by rw [hx1]; exact (Below.refl _ _).alloc (Nat.le_refl _) _
        have h1 : x1.heap[wr.heap.size]? = some (.cells (tlA t) 46 (0, 0)) := by rw [hx1]; exact World.alloc_heap_new _ _
        obtain ⟨bz, hbz⟩ : ∃ bz, (decide (t.rb = 0) && (decide (t.kd = 1) || decide (t.kd = 2))) = bz := ⟨_, rfl⟩
        have HZ : Hid ((decide (t.rb = 0) && (decide (t.kd = 1) || decide (t.kd = 2))) = bz) := hbz
        clear hbz hi60 ht
        have HX1 : Hid (x1.heap[wr.heap.size]? = some (.cells (tlA t) 46 (0, 0)) ∧ Below wr.heap.size wr x1) := ⟨h1, b1⟩
        have k0 := tl_kd h1
        have k1 := tl_rb h1
        have HRW : Hid (RbAt wr R (firstR 0 0 0 false) ∧ Below B w wr) := ⟨hR, bw⟩
        clear h1 b1 hR bw
        go_upto_region 8 with (first
          | (refine wpList_load_at rfl 46 (.tmp 34) rfl (p.add (i * 19)) rfl (tlA t) hld ?_)
          | (refine wpList_new rfl rfl 46 6 (.tmp 35) rfl rfl rfl rfl (tlA tl0) (tlA t) (zeroTele _) rfl rfl infoTele rfl (tlA_one _) ?_; rw [← hx1]; clear hx1))
        simp only [Act.put, List.setIfInBounds_toArray, List.set_cons_zero, List.set_cons_succ]
        go_cut [48] from 22 to 75 (fun v wx => v = .bool bz ∧ wx = x1)
        case first =>
          by_cases hz : t.rb = 0
          · have q0 : (t.rb == 0) = true := by rw [beq_iff_eq]; exact hz
            by_cases hk1 : t.kd = 1
            · have q1 : (t.kd == 1) = true := by rw [beq_iff_eq]; exact hk1
              have e : bz = true := by rw [← HZ.out]; simp [hz, hk1]
              clear hz hk1
              subst e
              go_wp2_with fail
              go_meet
              exact ⟨rfl, rfl⟩
            · have q1 : (t.kd == 1) = false := by rw [beq_eq_false_iff_ne]; exact hk1
              by_cases hk2 : t.kd = 2
              · have q2 : (t.kd == 2) = true := by rw [beq_iff_eq]; exact hk2
                have e : bz = true := by rw [← HZ.out]; simp [hz, hk2]
                clear hz hk1 hk2
                subst e
                go_wp2_with fail
                go_meet
                exact ⟨rfl, rfl⟩
              · have q2 : (t.kd == 2) = false := by rw [beq_eq_false_iff_ne]; exact hk2
                have e : bz = false := by rw [← HZ.out]; simp [hz, hk1, hk2]
                clear hz hk1 hk2
                subst e
                go_wp2_with fail
                go_meet
                exact ⟨rfl, rfl⟩
          · have q0 : (t.rb == 0) = false := by rw [beq_eq_false_iff_ne]; exact hz
            have e : bz = false := by rw [← HZ.out]; simp [hz]
            clear hz
            subst e
            go_wp2_with fail
            go_meet
            exact ⟨rfl, rfl⟩
        case rest =>
        obtain ⟨rfl, rfl⟩ := hcut
        have h1 := HX1.out.1
        have b1 := HX1.out.2
        have hR := HRW.out.1
        have bw := HRW.out.2
        clear k0 k1
        cases hbz : bz with
        | false =>
          have hd : t.rb ≠ 0 ∨ (t.kd ≠ 1 ∧ t.kd ≠ 2) := by
            have := HZ.out
            rw [hbz] at this
            by_cases h1 : t.rb = 0
            · by_cases h2 : t.kd = 1
              · simp [h1, h2] at this
              · by_cases h3 : t.kd = 2
                · simp [h1, h3] at this
                · exact Or.inr ⟨h2, h3⟩
            · exact Or.inl h1
          have hq := deaf_hear (R := R) (t := t) (hd)
          have HLW : Hid (wc.heap[wr.heap.size]? = some (.cells (tlA t) 46 (0, 0))) := h1
          have HB2 : Hid (Below wr.heap.size wr wc) := b1
          have HR2 : Hid (RbAt wc R (firstR 0 0 0 false)) := hR.go b1
          have HBW : Hid (Below B w wr) := bw
          clear b1 h1 hR bw hd hbz
          go_wp2_with (first
            | (refine wpList_load_at rfl 46 (.tmp 6) rfl ⟨wr.heap.size, 0, none⟩ rfl (tlA t) (load_tele HLW.out) ?_)
            | (go_at_call 24; refine (hear_at HR2.out (n := 0) (by decide) (OkR.first 0 0 0 false) hq.1 hq.2.1 hq.2.2).mono ?_; rintro e x3 ⟨v, rfl, hv, hR3, T3⟩; have hv : v = .slice none 0 0 := hv; subst hv; have HB3 : Hid (Below B w x3) := bel_tn (HBW.out.trans (HB2.out.mono hs)) T3 HPK.out.1 HPK.out.2 (by have := HB2.out.size; omega); have HR3 : Hid (RbAt x3 R (firstR 0 0 0 false)) := hR3; have cN := now_any hR3; clear hR3 T3)
            | (go_at_call 23; refine cN.mono ?_; rintro e x4 ⟨rfl, d4⟩; clear cN; obtain ⟨x5, hx5⟩ : ∃ x5, x5 = x4.alloc (.cells (mvA mv0) 44) := ⟨_, rfl⟩; have d5 : Below x3.heap.size x3 x5 := (by rw [hx5]; exact d4.alloc d4.size _); have HR5 : Hid (RbAt x5 R (firstR 0 0 0 false)) := HR3.out.go d5; have HB5 : Hid (Below B w x5) := HB3.out.trans (d5.mono (by have := HB3.out.size; have := HX.out; omega)); have cE := epoch_any (HR3.out.go d5); clear d4 d5)
            | (refine wpList_new rfl rfl 44 9 (.tmp 59) rfl rfl rfl rfl (mvA mv0) (mvA mv0) (zeroMove _) rfl rfl infoMove rfl (mvA_one _) ?_; rw [← hx5]; clear hx5)
            | (go_at_call 25; refine cE.mono ?_; rintro e wq ⟨rfl, hwq⟩; rw [hwq]; clear hwq))
          go_roundw
          case rel => exact ⟨i + 1, by go_num, by omega, HR5.out, HB5.out⟩
          case measure => simp [intOf]; omega
        | true =>
          clear hbz
          obtain ⟨x2, hx2⟩ : ∃ x2, wc.setCell ⟨wr.heap.size, 1, none⟩ (.int .i64 1) = x2 := ⟨_, rfl⟩
          have h2 : x2.heap[wr.heap.size]? = some (.cells (tlA { t with rb := 1 }) 46 (0, 0)) := by rw [← hx2]; exact set_rb h1 1
          have b2 : Below wr.heap.size wr x2 := by rw [← hx2]; exact b1.setCell (Nat.le_refl _) _
          have f1 : wc.frozen? ⟨wr.heap.size, 1, none⟩ = false := by simp [World.frozen?, h1]
          have k1 := tl_rb h1
          have hq := deaf_hear (R := R) (t := { t with rb := 1 }) (Or.inl (by show (1 : Int) ≠ 0; decide))
          have HLW : Hid (x2.heap[wr.heap.size]? = some (.cells (tlA { t with rb := 1 }) 46 (0, 0))) := h2
          have HB2 : Hid (Below wr.heap.size wr x2) := b2
          have HR2 : Hid (RbAt x2 R (firstR 0 0 0 false)) := hR.go b2
          have HBW : Hid (Below B w wr) := bw
          clear b1 h1 hR bw b2 h2
          go_wp2_with (first
            | (refine wpList_load_at rfl 46 (.tmp 6) rfl ⟨wr.heap.size, 0, none⟩ rfl (tlA { t with rb := 1 }) (load_tele HLW.out) ?_)
            | (go_at_call 24; refine (hear_at HR2.out (n := 0) (by decide) (OkR.first 0 0 0 false) hq.1 hq.2.1 hq.2.2).mono ?_; rintro e x3 ⟨v, rfl, hv, hR3, T3⟩; have hv : v = .slice none 0 0 := hv; subst hv; have HB3 : Hid (Below B w x3) := bel_tn (HBW.out.trans (HB2.out.mono hs)) T3 HPK.out.1 HPK.out.2 (by have := HB2.out.size; omega); have HR3 : Hid (RbAt x3 R (firstR 0 0 0 false)) := hR3; have cN := now_any hR3; clear hR3 T3)
            | (go_at_call 23; refine cN.mono ?_; rintro e x4 ⟨rfl, d4⟩; clear cN; obtain ⟨x5, hx5⟩ : ∃ x5, x5 = x4.alloc (.cells (mvA mv0) 44) := ⟨_, rfl⟩; have d5 : Below x3.heap.size x3 x5 := (by rw [hx5]; exact d4.alloc d4.size _); have HR5 : Hid (RbAt x5 R (firstR 0 0 0 false)) := HR3.out.go d5; have HB5 : Hid (Below B w x5) := HB3.out.trans (d5.mono (by have := HB3.out.size; have := HX.out; omega)); have cE := epoch_any (HR3.out.go d5); clear d4 d5)
            | (refine wpList_new rfl rfl 44 9 (.tmp 59) rfl rfl rfl rfl (mvA mv0) (mvA mv0) (zeroMove _) rfl rfl infoMove rfl (mvA_one _) ?_; rw [← hx5]; clear hx5)
            | (go_at_call 25; refine cE.mono ?_; rintro e wq ⟨rfl, hwq⟩; rw [hwq]; clear hwq))
          go_roundw
          case rel => exact ⟨i + 1, by go_num, by omega, HR5.out, HB5.out⟩
          case measure => simp [intOf]; omega
      · have g2 : ¬ (i : Int) < 60 := by omega
        go_wp2_with (first | (go_at_call 14; refine (awake18_any _).mono ?_; rintro e w9 ⟨rfl, b9⟩))
        go_ret
        exact ⟨rfl, bw.trans (b9.mono hs)⟩
    · have g1 : ¬ (i : Int) < (n : Int) := by omega
      go_wp2_with (first | (go_at_call 14; refine (awake18_any _).mono ?_; rintro e w9 ⟨rfl, b9⟩))
      go_ret
      exact ⟨rfl, bw.trans (b9.mono hs)⟩
end Go.Proofs.YtodghfkmnnejaaaGreat.Rob
