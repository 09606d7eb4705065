/-
  What is sent to a robot takes the place of what waited there, and of nothing else.
-/
import Derived.Test.YtjladfpfhhnagaaLinkLastPlain
import Derived.Deep.DeepCutAuto
import Derived.Deep.CutRange
namespace Go.Proofs.Ytjladfpfhhnagaa.Lk
set_option linter.unusedVariables false
set_option linter.unusedSimpArgs false
open Go Go.RowKit Go.Shelf Go.Proofs Go.Proofs.Ytjladfpfhhnagaa.Tick Go.Proofs.Ytjladfpfhhnagaa.Plain
attribute [local go_sem] Oper.semAt_some

set_option maxRecDepth 100000 in
set_option maxHeartbeats 8000000 in
theorem last_all (a : Option Addr) (n cap : Nat) (ts : Nat → Tl) (t0 : Tl) (now : Int) (w : World) (hT : InT w a n ts) : Calls Try.prog 8 #[.slice a n cap, .agg (tlA t0), .int .i64 now] w fun e w' => e = .returned (.bool true) ∧ Below w.heap.size w w' := by
  have pN := place_bd now 1000 (by decide)
  obtain ⟨nw, hnw⟩ : ∃ nw, place now 1000 = nw := ⟨_, rfl⟩
  rw [hnw] at pN
  have HIn : Hid (∀ u, Below w.heap.size w u → InT u a n ts) := fun u hu => hT.go hu
  obtain ⟨x0, hx0⟩ : ∃ x0, x0 = w.alloc (.cells (tlA t0) 37) := ⟨_, rfl⟩
  have b0 : Below w.heap.size w x0 := by rw [hx0]; exact (Below.refl _ _).alloc (Nat.le_refl _) _
  have h40 : x0.heap[w.heap.size]? = some (.cells (tlA t0) 37 (0, 0)) := by rw [hx0]; exact World.alloc_heap_new _ _
  have s0 : x0.heap.size = w.heap.size + 1 := by rw [hx0]; simp
  have n1 := new_ok 8 7 x0 (by decide) (by decide) (by decide)
  obtain ⟨B, hB⟩ : ∃ B, w.heap.size = B := ⟨_, rfl⟩
  rw [s0] at n1
  rw [hB] at n1 HIn b0 h40 ⊢
  have HX : Hid (w.heap.size = B) := hB
  have S0 : Hid (x0.heap.size = B + 1) := by rw [← hB]; exact s0
  clear hB hT s0
  go_enter Try.func8, Try.ntmps8
  go_wp2_with (first
    | (refine wpList_boxAt rfl 37 (.tmp 1) rfl (tlA t0) rfl ?_; rw [← hx0]; clear hx0; try rw [HX.out])
    | (go_at_call 12; refine (place_any _ _ _ (by decide) (by decide)).mono ?_; rintro e yp ⟨rfl, hyp⟩; rw [hyp]; clear hyp)
    | (go_at_call 9; refine n1.mono ?_; rintro e x1 ⟨rfl, G1, b1⟩; clear n1))
  have h41 : x1.heap[B]? = some (.cells (tlA t0) 37 (0, 0)) := (b1.block _ (by omega)).trans h40
  have b2 : Below B w x1 := b0.trans (b1.mono (by omega))
  clear b0 b1 h40 hnw
  go_loopw [9] (fun c wr => ∃ (i n' : Nat) (M : Mp), c = .int .i64 i ∧ i ≤ 30 ∧ LkAt wr (B + 1 + 1) (B + 1) n' 8 7 M ∧ n' ≤ i ∧ wr.heap[B]? = some (.cells (tlA t0) 37 (0, 0)) ∧ Below B w wr) (fun c _ => 30 - (intOf c).toNat)
  case atStart => exact ⟨0, 0, _, rfl, by omega, G1, by omega, h41, b2⟩
  case round =>
    clear G1 b2 h41
    obtain ⟨i, n', M, rfl, hi, G, hn', h4, bw⟩ := hrel
    have HG : Hid (LkAt wr (B + 1 + 1) (B + 1) n' 8 7 M) := G
    have lb : B + 1 < wr.heap.size := G.blt
    have H4 : Hid (wr.heap[B]? = some (.cells (tlA t0) 37 (0, 0))) := h4
    clear G h4
    by_cases hgo : i < n ∧ i < 30
    · obtain ⟨hin, hi30⟩ := hgo
      · have g1 : (i : Int) < (n : Int) := by omega
        have g2 : (i : Int) < 30 := by omega
        have HBW : Hid (Below B w wr) := bw
        obtain ⟨p, rfl, hld⟩ := (HIn.out wr bw).load hin
        obtain ⟨t, ht⟩ : ∃ t, ts i = t := ⟨_, rfl⟩
        rw [ht] at hld
        obtain ⟨rn, hrb⟩ : ∃ rn : Nat, place t.rb 8 = (rn : Int) := ⟨(place t.rb 8).toNat, by have := place_bd t.rb 8 (by decide); omega⟩
        have prb := place_bd t.rb 8 (by decide)
        rw [hrb] at prb
        obtain ⟨x1, hx1⟩ : ∃ x1, x1 = wr.alloc (.cells (tlA t) 37) := ⟨_, rfl⟩
        have b1 : Below wr.heap.size wr x1 := by rw [hx1]; exact (Below.refl _ _).alloc (Nat.le_refl _) _
        have h1 : x1.heap[wr.heap.size]? = some (.cells (tlA t) 37 (0, 0)) := by rw [hx1]; exact World.alloc_heap_new _ _
        obtain ⟨x2, hx2⟩ : ∃ x2, x1.setCell ⟨wr.heap.size, 1, none⟩ (.int .i64 (rn : Int)) = x2 := ⟨_, rfl⟩
        have h2 : x2.heap[wr.heap.size]? = some (.cells (tlA { t with rb := (rn : Int) }) 37 (0, 0)) := by rw [← hx2]; exact set_rb h1 (rn : Int)
        have b2 : Below wr.heap.size wr x2 := by rw [← hx2]; exact b1.setCell (Nat.le_refl _) _
        have h1r := tl_rb h1
        have f1r := thaw (j := 1) h1
        have h2k := tl_kd h2
        have f2k := thaw (j := 0) h2
        simp only at h2k
        obtain ⟨kd, hkd⟩ : ∃ kd : Int, kd = 1 := ⟨_, rfl⟩
        obtain ⟨x3, hx3⟩ : ∃ x3, x2.setCell ⟨wr.heap.size, 0, none⟩ (.int .i64 kd) = x3 := ⟨_, rfl⟩
        have h3 : x3.heap[wr.heap.size]? = some (.cells (tlA { t with rb := (rn : Int), kd := kd }) 37 (0, 0)) := by rw [← hx3]; exact set_kd h2 kd
        have b3 : Below wr.heap.size wr x3 := by rw [← hx3]; exact b2.setCell (Nat.le_refl _) _
        have HB3 : Hid (Below wr.heap.size wr x3) := b3
        have HKD : Hid (kd = 1 ∨ kd = 2) := Or.inl hkd
        have HPR : Hid (0 ≤ (rn : Int) ∧ (rn : Int) < 8) := prb
        rw [hkd] at hx3
        have ld3 := load_tele h3
        have G3 := HG.out.go b3
        have h43 := (b3.block _ (by omega)).trans H4.out
        clear b1 b2 b3 h1 h2 h3 bw hkd ht
        go_wp2_with (first
          | (go_at_call 12; refine (place_any _ _ _ (by decide) (by decide)).mono ?_; rintro e yp ⟨rfl, hyp⟩; rw [hyp]; clear hyp)
          | (refine wpList_load_at rfl 37 (.tmp 43) rfl (p.add (i * 19)) rfl (tlA t) hld ?_)
          | (refine wpList_new rfl rfl 37 10 (.tmp 44) rfl rfl rfl rfl (tlA tl0) (tlA t) (zeroTele _) rfl rfl infoTele rfl (tlA_one _) ?_; rw [← hx1]; clear hx1)
          | (refine wpList_load_at rfl 37 (.tmp 10) rfl ⟨wr.heap.size, 0, none⟩ rfl _ ld3 ?_; clear ld3)
          | (go_at_call 13; refine (send_ok G3 { t with rb := (rn : Int), kd := kd } nw HPR.out.1 HPR.out.2 HKD.out (wf64_of (by have := HPR.out; simp only; omega) (by have := HPR.out; simp only; omega)) (by omega)).mono ?_; rintro e x4 ⟨rfl, G4, q4⟩))
        have bw4 : Below B w x4 := (HBW.out.trans (HB3.out.mono (by omega))).grown q4 (by have := HB3.out.size; omega) (fun k hk => by cases hk; omega)
        have h44 := (q4.block _ (by have := HB3.out.size; omega) (fun e => by cases e <;> omega)).trans h43
        go_roundw
        case rel => exact ⟨i + 1, n' + 1, _, by go_num, by omega, G4, by omega, h44, bw4⟩
        case measure => simp [intOf]; omega
    · go_upto_region 6 with fail
      go_cut [38] from 31 to 38 (fun v wx => v = .bool false ∧ wx = wr)
      case first =>
        by_cases hin : i < n
        · have g1 : (i : Int) < (n : Int) := by omega
          have g2 : ¬ (i : Int) < 30 := by omega
          go_wp2_with fail
          go_meet
          exact ⟨rfl, rfl⟩
        · have g1 : ¬ (i : Int) < (n : Int) := by omega
          go_wp2_with fail
          go_meet
          exact ⟨rfl, rfl⟩
      case rest =>
      obtain ⟨rfl, hwx⟩ := hcut
      rename World => wz0
      subst hwx
      have A1 := ar_new wz0 53
      obtain ⟨y1, hy1⟩ : ∃ y1, y1 = wz0.alloc (.cells z152 53) := ⟨_, rfl⟩
      rw [← hy1] at A1
      have d1 : Below wz0.heap.size wz0 y1 := by rw [hy1]; exact (Below.refl _ _).alloc (Nat.le_refl _) _
      have sy1 : y1.heap.size = wz0.heap.size + 1 := by rw [hy1]; simp
      have F1 := fl_new y1 55
      obtain ⟨y2, hy2⟩ : ∃ y2, y2 = y1.alloc (.cells (Array.replicate 8 (.bool false)) 55) := ⟨_, rfl⟩
      rw [← hy2] at F1
      have d2 : Below y1.heap.size y1 y2 := by rw [hy2]; exact (Below.refl _ _).alloc (Nat.le_refl _) _
      have A2 := A1.same (d2.block _ A1.lt)
      have G2 := (HG.out.go d1).go d2
      have h42 : y2.heap[B]? = some (.cells (tlA t0) 37 (0, 0)) := (d2.block _ (by omega)).trans ((d1.block _ (by omega)).trans H4.out)
      have b2 : Below B w y2 := (bw.trans (d1.mono (by omega))).trans (d2.mono (by omega))
      obtain ⟨ga, hga⟩ : ∃ ga, wz0.heap.size = ga := ⟨_, rfl⟩
      rw [sy1] at F1
      rw [hga] at A2 F1
      have HGA : Hid (B + 1 + 1 < ga) := by have := HG.out.lt; show _ < _; omega
      have HY1 : Hid (y1.heap.size = ga + 1) := by rw [← hga]; exact sy1
      clear A1 d1 d2 bw sy1
      go_wp2_with (first
        | (refine wpList_allocArr rfl rfl ?_; rw [← hy1]; clear hy1; try rw [hga])
        | (refine wpList_allocFl rfl rfl ?_; rw [← hy2]; clear hy2; try rw [HY1.out]))
      try rw [hga]
      obtain ⟨gf, hgf⟩ : ∃ gf, ga + 1 = gf := ⟨_, rfl⟩
      have HGF : Hid (ga + 1 = gf) := hgf
      rw [hgf] at F1
      try rw [hgf]
      clear hga hgf
      go_loopw [13] (fun c wz => ∃ (j : Nat) (f : Nat → Tl) (h : Nat → Bool), c = .int .i64 j ∧ j ≤ 8 ∧ LkAt wz (B + 1 + 1) (B + 1) n' 8 7 M ∧ Ar wz ga f ∧ Fl wz gf h ∧ (∀ k, k < j → f k = tlOf (M (k : Int)) ∧ h k = (M (k : Int)).isSome) ∧ wz.heap[B]? = some (.cells (tlA t0) 37 (0, 0)) ∧ Below B w wz) (fun c _ => 8 - (intOf c).toNat)
      case atStart => exact ⟨0, _, _, rfl, by omega, G2, A2, F1, fun k hk => by omega, h42, b2⟩
      case round =>
        clear G2 A2 F1 h42 b2
        obtain ⟨j, f, h, rfl, hj, G, hA, hF, hfh, h4, bw⟩ := hrel
        have HFH : Hid (∀ k, k < j → f k = tlOf (M (k : Int)) ∧ h k = (M (k : Int)).isSome) := hfh
        clear hfh
        by_cases hj8 : j < 8
        · have g8 : (j : Int) < 8 := by omega
          have cW := waits_any G j (wf64_of (by omega) (by omega))
          obtain ⟨tw, htw⟩ : ∃ tw, tlOf (M (j : Int)) = tw := ⟨_, rfl⟩
          obtain ⟨ow, how⟩ : ∃ ow, (M (j : Int)).isSome = ow := ⟨_, rfl⟩
          rw [htw, how] at cW
          have HTW : Hid (tlOf (M (j : Int)) = tw ∧ (M (j : Int)).isSome = ow) := ⟨htw, how⟩
          have lgw : B + 1 + 1 < wr.heap.size := G.lt
          have lbw : B + 1 < wr.heap.size := G.blt
          have HG2 : Hid (LkAt wr (B + 1 + 1) (B + 1) n' 8 7 M) := G
          have HA2 : Hid (Ar wr ga f) := hA
          have HF2 : Hid (Fl wr gf h) := hF
          have HBW : Hid (Below B w wr) := bw
          clear G hA hF bw htw how
          go_wp2_with (first
            | (go_at_call 22; refine cW.mono ?_; rintro e x1 ⟨rfl, e1⟩; clear cW; have Ax := HA2.out.same (e1.block _ HA2.out.lt); have Fx := HF2.out.same (e1.block _ HF2.out.lt))
            | (refine wpList_putArr rfl (.tmp 66) (.tmp 64) rfl ga j hj8 f Ax tw rfl rfl ?_; intro x2 A2 q2; have F2 := Fx.same (q2.block _ Fx.lt (fun e => by have := HGF.out; cases e; omega)))
            | (refine wpList_putFl rfl (.tmp 67) (.tmp 65) rfl gf j hj8 h F2 ow rfl rfl ?_; intro x3 F3 q3))
          have A3 := A2.same (q3.block _ A2.lt (fun e => by have := HGF.out; cases e; omega))
          have bl : ∀ k, k < wr.heap.size → k ≠ ga → k ≠ gf → x3.heap[k]? = wr.heap[k]? := fun k h1 h2 h3 => (q3.block k (by have := e1.size; have := q2.size; omega) (fun e => h3 (by cases e; rfl))).trans ((q2.block k (by have := e1.size; omega) (fun e => h2 (by cases e; rfl))).trans (e1.block k h1))
          have gg := HGA.out
          have gf1 := HGF.out
          have G3 := HG2.out.same (bl _ lgw (by omega) (by omega)) (bl _ lbw (by omega) (by omega))
          have h43 := (bl B (by omega) (by omega) (by omega)).trans h4
          have bw3 : Below B w x3 := ((HBW.out.trans (e1.mono (by omega))).grown q2 (by have := e1.size; omega) (fun k hk => by cases hk; omega)).grown q3 (by have := e1.size; have := q2.size; omega) (fun k hk => by cases hk; omega)
          go_roundw
          case rel =>
            refine ⟨j + 1, _, _, by go_num, by omega, G3, A3, F3, fun k hk => ?_, h43, bw3⟩
            unfold setAt flagAt
            by_cases ek : k = j
            · subst ek
              simp only [if_pos]
              exact ⟨HTW.out.1.symm, HTW.out.2.symm⟩
            · simp only [if_neg ek]
              exact HFH.out k (by omega)
          case measure => simp [intOf]; omega
        · obtain rfl : j = 8 := by omega
          have g8 : ¬ ((8 : Nat) : Int) < 8 := by omega
          have prb := place_bd t0.rb 8 (by decide)
          obtain ⟨rn, hrb⟩ : ∃ rn : Nat, place t0.rb 8 = (rn : Int) := ⟨(place t0.rb 8).toNat, by omega⟩
          rw [hrb] at prb
          obtain ⟨kd, hkd⟩ : ∃ kd : Int, kd = 2 := ⟨_, rfl⟩
          obtain ⟨z1, hz1⟩ : ∃ z1, wr.setCell ⟨B, 1, none⟩ (.int .i64 (rn : Int)) = z1 := ⟨_, rfl⟩
          have k1 : z1.heap[B]? = some (.cells (tlA { t0 with rb := (rn : Int) }) 37 (0, 0)) := by rw [← hz1]; exact set_rb h4 (rn : Int)
          have e1 : ∀ g, g ≠ B → z1.heap[g]? = wr.heap[g]? := fun g hg => by rw [← hz1]; exact RowKit.Below.heap_setCell _ _ _ _ hg
          have c1 : Below B w z1 := by rw [← hz1]; exact bw.setCell (Nat.le_refl _) _
          obtain ⟨z2, hz2⟩ : ∃ z2, z1.setCell ⟨B, 0, none⟩ (.int .i64 kd) = z2 := ⟨_, rfl⟩
          have k2 : z2.heap[B]? = some (.cells (tlA { t0 with rb := (rn : Int), kd := kd }) 37 (0, 0)) := by rw [← hz2]; exact set_kd k1 kd
          have e2 : ∀ g, g ≠ B → z2.heap[g]? = wr.heap[g]? := fun g hg => by rw [← hz2]; exact (RowKit.Below.heap_setCell _ _ _ _ hg).trans (e1 g hg)
          have c2 : Below B w z2 := by rw [← hz2]; exact c1.setCell (Nat.le_refl _) _
          have sz2 : z2.heap.size = wr.heap.size := by rw [← hz2, ← hz1]; simp [World.setCell]
          have lgw : B + 1 + 1 < wr.heap.size := G.lt
          have gg := HGA.out
          have gf1 := HGF.out
          have r0 := tl_rb h4
          have fr0 := thaw (j := 1) h4
          have r1 := tl_kd k1
          have fr1 := thaw (j := 0) k1
          simp only at r1
          have G2 : LkAt z2 (B + 1 + 1) (B + 1) n' 8 7 M := G.same (e2 _ (by omega)) (e2 _ (by omega))
          have A2 : Ar z2 ga f := hA.same (e2 _ (by omega))
          have F2 : Fl z2 gf h := hF.same (e2 _ (by omega))
          have ld2 := load_tele k2
          rw [hkd] at hz2
          have HKD : Hid (kd = 2) := hkd
          have HPR : Hid (0 ≤ (rn : Int) ∧ (rn : Int) < 8) := prb
          have HK2 : Hid (z2.heap[B]? = some (.cells (tlA { t0 with rb := (rn : Int), kd := kd }) 37 (0, 0))) := k2
          have HC2 : Hid (Below B w z2) := c2
          clear k1 k2 e1 e2 c1 c2 hkd G hA hF bw h4
          go_wp2_with (first
            | (go_at_call 12; refine (place_any _ _ _ (by decide) (by decide)).mono ?_; rintro e yp ⟨rfl, hyp⟩; rw [hyp]; clear hyp)
            | (refine wpList_load_at rfl 37 (.tmp 4) rfl ⟨B, 0, none⟩ rfl _ ld2 ?_; clear ld2)
            | (go_at_call 13; refine (send_ok G2 { t0 with rb := (rn : Int), kd := kd } (nw + 3) HPR.out.1 HPR.out.2 (Or.inr HKD.out) (wf64_of (by have := HPR.out; simp only; omega) (by have := HPR.out; simp only; omega)) (by omega)).mono ?_; rintro e z3 ⟨rfl, G3, q3⟩; obtain ⟨z4, hz4⟩ : ∃ z4, z4 = z3.alloc (.cells (tlA { t0 with rb := (rn : Int), kd := kd }) 37) := ⟨_, rfl⟩; have d4 : Below z3.heap.size z3 z4 := (by rw [hz4]; exact (Below.refl _ _).alloc (Nat.le_refl _) _); have k3 : z3.heap[B]? = some (.cells (tlA { t0 with rb := (rn : Int), kd := kd }) 37 (0, 0)) := (q3.block _ (by omega) (fun e => by cases e <;> omega)).trans HK2.out; have k4 : z4.heap[B]? = some (.cells (tlA { t0 with rb := (rn : Int), kd := kd }) 37 (0, 0)) := (d4.block _ (Array.getElem?_eq_some_iff.1 k3).1).trans k3; have u4 : z4.heap[z3.heap.size]? = some (.cells (tlA { t0 with rb := (rn : Int), kd := kd }) 37 (0, 0)) := (by rw [hz4]; exact World.alloc_heap_new _ _); have lu := load_tele u4; have l4 := load_tele k4)
            | (refine wpList_new rfl rfl 37 14 (.tmp 79) rfl rfl rfl rfl (tlA tl0) (tlA { t0 with rb := (rn : Int), kd := kd }) (zeroTele _) rfl rfl infoTele rfl (tlA_one _) ?_; rw [← hz4]; clear hz4)
            | (refine wpList_load_w (by kernel_rfl) 37 (.tmp 14) rfl ⟨z3.heap.size, 0, none⟩ rfl _ lu ?_; clear lu)
            | (refine wpList_load_w (by kernel_rfl) 37 (.tmp 4) rfl ⟨B, 0, none⟩ rfl _ l4 ?_; clear l4)
            | (refine wpList_neq_w (by kernel_rfl) (.tmp 84) (.tmp 85) _ rfl { t0 with rb := (rn : Int), kd := kd } rfl rfl ?_))
          have sq := q3.size
          have G4 := G3.go d4
          have A4 := (A2.same (q3.block _ A2.lt (fun e => by cases e <;> omega))).same (d4.block _ (by have := A2.lt; omega))
          have F4 := (F2.same (q3.block _ F2.lt (fun e => by cases e <;> omega))).same (d4.block _ (by have := F2.lt; omega))
          have c4 : Below B w z4 := (HC2.out.grown q3 (by omega) (fun k hk => by cases hk; omega)).trans (d4.mono (by omega))
          clear k3 u4 d4 q3 G3 A2 F2 G2
          go_loopw [16] (fun c wz => ∃ (j : Nat), c = .int .i64 j ∧ j ≤ 8 ∧ LkAt wz (B + 1 + 1) (B + 1) (n' + 1) 8 7 (upd M (rn : Int) (some ({ t0 with rb := (rn : Int), kd := kd }, nw + 3))) ∧ Ar wz ga f ∧ Fl wz gf h ∧ wz.heap[B]? = some (.cells (tlA { t0 with rb := (rn : Int), kd := kd }) 37 (0, 0)) ∧ Below B w wz) (fun c _ => 8 - (intOf c).toNat)
          case atStart => exact ⟨0, rfl, by omega, G4, A4, F4, k4, c4⟩
          case round =>
            clear G4 A4 F4 k4 c4
            obtain ⟨j, rfl, hj, G, hA, hF, h4, bw⟩ := hrel
            have lw : B + 1 + 1 < wr.heap.size := G.lt
            by_cases hj8 : j < 8
            · have g8 : (j : Int) < 8 := by omega
              have cW := waits_any G j (wf64_of (by omega) (by omega))
              have hfj := HFH.out j hj8
              have HG2 : Hid (LkAt wr (B + 1 + 1) (B + 1) (n' + 1) 8 7 (upd M (rn : Int) (some ({ t0 with rb := (rn : Int), kd := kd }, nw + 3)))) := G
              have HA2 : Hid (Ar wr ga f) := hA
              have HF2 : Hid (Fl wr gf h) := hF
              have HBW : Hid (Below B w wr) := bw
              have H4 : Hid (wr.heap[B]? = some (.cells (tlA { t0 with rb := (rn : Int), kd := kd }) 37 (0, 0))) := h4
              clear G hA hF bw h4
              by_cases ej : j = rn
              · subst ej
                have hu : upd M (j : Int) (some ({ t0 with rb := (j : Int), kd := kd }, nw + 3)) (j : Int) = some ({ t0 with rb := (j : Int), kd := kd }, nw + 3) := by unfold upd; rw [if_pos rfl]
                rw [hu] at cW
                clear hu hfj
                obtain ⟨tw, htw⟩ : ∃ tw, tw = { t0 with rb := (j : Int), kd := kd } := ⟨_, rfl⟩
                simp only [tlOf, Option.getD_some, Option.isSome_some] at cW
                obtain ⟨okv, hokv⟩ : ∃ okv : Bool, okv = true := ⟨_, rfl⟩
                go_wp2_with (first
                  | (go_at_call 22; refine cW.mono ?_; rintro e x1 ⟨rfl, e1⟩; clear cW; obtain ⟨x2, hx2⟩ : ∃ x2, x2 = x1.alloc (.cells (tlA { t0 with rb := (j : Int), kd := kd }) 37) := ⟨_, rfl⟩; have e2 : Below x1.heap.size x1 x2 := (by rw [hx2]; exact (Below.refl _ _).alloc (Nat.le_refl _) _); have h17' : x2.heap[x1.heap.size]? = some (.cells (tlA { t0 with rb := (j : Int), kd := kd }) 37 (0, 0)) := (by rw [hx2]; exact World.alloc_heap_new _ _))
                  | (refine wpList_new rfl rfl 37 17 (.tmp 96) rfl rfl rfl rfl (tlA tl0) (tlA { t0 with rb := (j : Int), kd := kd }) (zeroTele _) rfl rfl infoTele rfl (tlA_one _) ?_; rw [← hx2]; clear hx2))
                have ex : Below wr.heap.size wr x2 := e1.trans (e2.mono e1.size)
                have Ax := HA2.out.same (ex.block _ HA2.out.lt)
                have Fx := HF2.out.same (ex.block _ HF2.out.lt)
                have h4x := (ex.block _ (by omega)).trans H4.out
                have Gx := HG2.out.go ex
                have bx : Below B w x2 := HBW.out.trans (ex.mono (by omega))
                have h17 := h17'
                clear h17' e1 e2
                refine start_any (S := fun u => u.heap[x1.heap.size]? = some (.cells (tlA { t0 with rb := (j : Int), kd := kd }) 37 (0, 0)) ∧ u.heap[B]? = some (.cells (tlA { t0 with rb := (j : Int), kd := kd }) 37 (0, 0)) ∧ Ar u ga f ∧ Fl u gf h) 33 rfl (by kernel_rfl) (fun u su => ⟨by rw [su.heap]; exact h17, by rw [su.heap]; exact h4x, Ax.same (by rw [su.heap]), Fx.same (by rw [su.heap])⟩) ?_
                intro x3 sx
                have HS1 : x3.heap[x1.heap.size]? = some (.cells (tlA { t0 with rb := (j : Int), kd := kd }) 37 (0, 0)) ∧ x3.heap[B]? = some (.cells (tlA { t0 with rb := (j : Int), kd := kd }) 37 (0, 0)) ∧ Ar x3 ga f ∧ Fl x3 gf h := ⟨by rw [sx.heap]; exact h17, by rw [sx.heap]; exact h4x, Ax.same (by rw [sx.heap]), Fx.same (by rw [sx.heap])⟩
                simp only [Array.replicate_succ, Array.replicate_zero, List.push_toArray, List.nil_append, List.cons_append]
                refine take_held 0 HS1 rfl (by kernel_rfl) (by kernel_rfl) (by kernel_rfl) (fun _ _ _ h => h) (by kernel_rfl) (v := ?v329) ?y329 ?r329
                case y329 => (intro u hu; go_simp; try rfl)
                simp only [Act.put, List.setIfInBounds_toArray, List.set_cons_zero, List.set_cons_succ]
                refine take_held 1 HS1 rfl (by kernel_rfl) (by kernel_rfl) (by kernel_rfl) (fun _ _ _ h => h) (by kernel_rfl) (v := ?v330) ?y330 ?r330
                case y330 => (intro u hu; go_simp; try rfl)
                simp only [Act.put, List.setIfInBounds_toArray, List.set_cons_zero, List.set_cons_succ]
                refine take_held 2 HS1 rfl (by kernel_rfl) (by kernel_rfl) (by kernel_rfl) (fun _ _ _ h => h) (by kernel_rfl) (v := .int .i64 (j : Int)) ?y331 ?r331
                case y331 => (intro u hu; have zz := tl_rb hu.2.1; go_simp; try rfl)
                simp only [Act.put, List.setIfInBounds_toArray, List.set_cons_zero, List.set_cons_succ]
                refine take_held 3 HS1 rfl (by kernel_rfl) (by kernel_rfl) (by kernel_rfl) (fun _ _ _ h => h) (by kernel_rfl) (v := .bool true) ?y332 ?r332
                case y332 => (intro u hu; go_simp; try rfl)
                simp only [Act.put, List.setIfInBounds_toArray, List.set_cons_zero, List.set_cons_succ]
                refine take_held 4 HS1 rfl (by kernel_rfl) (by kernel_rfl) (by kernel_rfl) (fun _ _ _ h => h) (by kernel_rfl) (v := .bool true) ?y333 ?r333
                case y333 => (intro u hu; go_simp; try rfl)
                simp only [Act.put, List.setIfInBounds_toArray, List.set_cons_zero, List.set_cons_succ]
                refine take_held 5 HS1 rfl (by kernel_rfl) (by kernel_rfl) (by kernel_rfl) (fun _ _ _ h => h) (by kernel_rfl) (v := .agg (tlA { t0 with rb := (j : Int), kd := kd })) ?y334 ?r334
                case y334 => (intro u hu; exact run_load_at 37 (.tmp 17) rfl ⟨x1.heap.size, 0, none⟩ rfl _ (load_tele hu.1))
                simp only [Act.put, List.setIfInBounds_toArray, List.set_cons_zero, List.set_cons_succ]
                refine take_held 6 HS1 rfl (by kernel_rfl) (by kernel_rfl) (by kernel_rfl) (fun _ _ _ h => h) (by kernel_rfl) (v := .agg (tlA { t0 with rb := (j : Int), kd := kd })) ?y335 ?r335
                case y335 => (intro u hu; exact run_load_at 37 (.tmp 4) rfl ⟨B, 0, none⟩ rfl _ (load_tele hu.2.1))
                simp only [Act.put, List.setIfInBounds_toArray, List.set_cons_zero, List.set_cons_succ]
                refine take_held 7 HS1 rfl (by kernel_rfl) (by kernel_rfl) (by kernel_rfl) (fun _ _ _ h => h) (by kernel_rfl) (v := .bool false) ?y336 ?r336
                case y336 => (intro u hu; exact run_neq_tele _ (.tmp 103) (.tmp 104) rfl { t0 with rb := (j : Int), kd := kd } rfl rfl)
                simp only [Act.put, List.setIfInBounds_toArray, List.set_cons_zero, List.set_cons_succ]
                refine take_held 8 HS1 rfl (by kernel_rfl) (by kernel_rfl) (by kernel_rfl) (fun _ _ _ h => h) (by kernel_rfl) (v := .bool false) ?y337 ?r337
                case y337 => (intro u hu; go_simp; try rfl)
                simp only [Act.put, List.setIfInBounds_toArray, List.set_cons_zero, List.set_cons_succ]
                refine take_held 9 HS1 rfl (by kernel_rfl) (by kernel_rfl) (by kernel_rfl) (fun _ _ _ h => h) (by kernel_rfl) (v := ?v338) ?y338 ?r338
                case y338 => (intro u hu; go_simp; try rfl)
                simp only [Act.put, List.setIfInBounds_toArray, List.set_cons_zero, List.set_cons_succ]
                refine take_held 10 HS1 rfl (by kernel_rfl) (by kernel_rfl) (by kernel_rfl) (fun _ _ _ h => h) (by kernel_rfl) (v := ?v339) ?y339 ?r339
                case y339 => (intro u hu; go_simp; try rfl)
                simp only [Act.put, List.setIfInBounds_toArray, List.set_cons_zero, List.set_cons_succ]
                refine take_held 11 HS1 rfl (by kernel_rfl) (by kernel_rfl) (by kernel_rfl) (fun _ _ _ h => h) (by kernel_rfl) (v := ?v340) ?y340 ?r340
                case y340 => (intro u hu; go_simp; try rfl)
                simp only [Act.put, List.setIfInBounds_toArray, List.set_cons_zero, List.set_cons_succ]
                refine take_held 12 HS1 rfl (by kernel_rfl) (by kernel_rfl) (by kernel_rfl) (fun _ _ _ h => h) (by kernel_rfl) (v := .bool false) ?y341 ?r341
                case y341 => (intro u hu; go_simp; try rfl)
                simp only [Act.put, List.setIfInBounds_toArray, List.set_cons_zero, List.set_cons_succ]
                refine take_held 13 HS1 rfl (by kernel_rfl) (by kernel_rfl) (by kernel_rfl) (fun _ _ _ h => h) (by kernel_rfl) (v := .bool false) ?y342 ?r342
                case y342 => (intro u hu; go_simp; try rfl)
                simp only [Act.put, List.setIfInBounds_toArray, List.set_cons_zero, List.set_cons_succ]
                refine take_held 14 HS1 rfl (by kernel_rfl) (by kernel_rfl) (by kernel_rfl) (fun _ _ _ h => h) (by kernel_rfl) (v := ?v343) ?y343 ?r343
                case y343 => (intro u hu; go_simp; try rfl)
                simp only [Act.put, List.setIfInBounds_toArray, List.set_cons_zero, List.set_cons_succ]
                refine take_held 15 HS1 rfl (by kernel_rfl) (by kernel_rfl) (by kernel_rfl) (fun _ _ _ h => h) (by kernel_rfl) (v := ?v344) ?y344 ?r344
                case y344 => (intro u hu; go_simp; try rfl)
                simp only [Act.put, List.setIfInBounds_toArray, List.set_cons_zero, List.set_cons_succ]
                refine take_held 16 HS1 rfl (by kernel_rfl) (by kernel_rfl) (by kernel_rfl) (fun _ _ _ h => h) (by kernel_rfl) (v := .int .i64 (j : Int)) ?y345 ?r345
                case y345 => (intro u hu; have zz := tl_rb hu.2.1; go_simp; try rfl)
                simp only [Act.put, List.setIfInBounds_toArray, List.set_cons_zero, List.set_cons_succ]
                refine take_held 17 HS1 rfl (by kernel_rfl) (by kernel_rfl) (by kernel_rfl) (fun _ _ _ h => h) (by kernel_rfl) (v := .bool false) ?y346 ?r346
                case y346 => (intro u hu; go_simp; try rfl)
                simp only [Act.put, List.setIfInBounds_toArray, List.set_cons_zero, List.set_cons_succ]
                refine take_held 18 HS1 rfl (by kernel_rfl) (by kernel_rfl) (by kernel_rfl) (fun _ _ _ h => h) (by kernel_rfl) (v := .bool false) ?y347 ?r347
                case y347 => (intro u hu; go_simp; try rfl)
                simp only [Act.put, List.setIfInBounds_toArray, List.set_cons_zero, List.set_cons_succ]
                refine skip_held 19 HS1 rfl (by kernel_rfl) (by kernel_rfl) (by kernel_rfl) (fun _ _ _ h => h) (by kernel_rfl) ?_
                simp only [Act.put, List.setIfInBounds_toArray, List.set_cons_zero, List.set_cons_succ]
                refine skip_held 20 HS1 rfl (by kernel_rfl) (by kernel_rfl) (by kernel_rfl) (fun _ _ _ h => h) (by kernel_rfl) ?_
                simp only [Act.put, List.setIfInBounds_toArray, List.set_cons_zero, List.set_cons_succ]
                refine skip_held 21 HS1 rfl (by kernel_rfl) (by kernel_rfl) (by kernel_rfl) (fun _ _ _ h => h) (by kernel_rfl) ?_
                simp only [Act.put, List.setIfInBounds_toArray, List.set_cons_zero, List.set_cons_succ]
                refine skip_held 22 HS1 rfl (by kernel_rfl) (by kernel_rfl) (by kernel_rfl) (fun _ _ _ h => h) (by kernel_rfl) ?_
                simp only [Act.put, List.setIfInBounds_toArray, List.set_cons_zero, List.set_cons_succ]
                refine skip_held 23 HS1 rfl (by kernel_rfl) (by kernel_rfl) (by kernel_rfl) (fun _ _ _ h => h) (by kernel_rfl) ?_
                simp only [Act.put, List.setIfInBounds_toArray, List.set_cons_zero, List.set_cons_succ]
                refine skip_held 24 HS1 rfl (by kernel_rfl) (by kernel_rfl) (by kernel_rfl) (fun _ _ _ h => h) (by kernel_rfl) ?_
                simp only [Act.put, List.setIfInBounds_toArray, List.set_cons_zero, List.set_cons_succ]
                refine skip_held 25 HS1 rfl (by kernel_rfl) (by kernel_rfl) (by kernel_rfl) (fun _ _ _ h => h) (by kernel_rfl) ?_
                simp only [Act.put, List.setIfInBounds_toArray, List.set_cons_zero, List.set_cons_succ]
                refine skip_held 26 HS1 rfl (by kernel_rfl) (by kernel_rfl) (by kernel_rfl) (fun _ _ _ h => h) (by kernel_rfl) ?_
                simp only [Act.put, List.setIfInBounds_toArray, List.set_cons_zero, List.set_cons_succ]
                refine skip_held 27 HS1 rfl (by kernel_rfl) (by kernel_rfl) (by kernel_rfl) (fun _ _ _ h => h) (by kernel_rfl) ?_
                simp only [Act.put, List.setIfInBounds_toArray, List.set_cons_zero, List.set_cons_succ]
                refine skip_held 28 HS1 rfl (by kernel_rfl) (by kernel_rfl) (by kernel_rfl) (fun _ _ _ h => h) (by kernel_rfl) ?_
                simp only [Act.put, List.setIfInBounds_toArray, List.set_cons_zero, List.set_cons_succ]
                refine skip_held 29 HS1 rfl (by kernel_rfl) (by kernel_rfl) (by kernel_rfl) (fun _ _ _ h => h) (by kernel_rfl) ?_
                simp only [Act.put, List.setIfInBounds_toArray, List.set_cons_zero, List.set_cons_succ]
                refine skip_held 30 HS1 rfl (by kernel_rfl) (by kernel_rfl) (by kernel_rfl) (fun _ _ _ h => h) (by kernel_rfl) ?_
                simp only [Act.put, List.setIfInBounds_toArray, List.set_cons_zero, List.set_cons_succ]
                refine take_held 31 HS1 rfl (by kernel_rfl) (by kernel_rfl) (by kernel_rfl) (fun _ _ _ h => h) (by kernel_rfl) (v := .bool false) ?y348 ?r348
                case y348 => (intro u hu; go_simp; try rfl)
                simp only [Act.put, List.setIfInBounds_toArray, List.set_cons_zero, List.set_cons_succ]
                refine take_held 32 HS1 rfl (by kernel_rfl) (by kernel_rfl) (by kernel_rfl) (fun _ _ _ h => h) (by kernel_rfl) (v := .bool false) ?y349 ?r349
                case y349 => (intro u hu; go_simp; try rfl)
                simp only [Act.put, List.setIfInBounds_toArray, List.set_cons_zero, List.set_cons_succ]
                refine done_held (by kernel_rfl) ?_ _
                go_wp2
                go_roundw
                case rel => exact ⟨j + 1, by go_num, by omega, Gx.same (by rw [sx.heap]) (by rw [sx.heap]), Ax.same (by rw [sx.heap]), Fx.same (by rw [sx.heap]), by rw [sx.heap]; exact h4x, bx.trans (sx.below _)⟩
                case measure => simp [intOf]; omega
              · have hu : upd M (rn : Int) (some ({ t0 with rb := (rn : Int), kd := kd }, nw + 3)) (j : Int) = M (j : Int) := by unfold upd; rw [if_neg (by omega)]
                have en1 : ((j : Int) == (rn : Int)) = false := by simp; omega
                have en2 : ((j : Int) != (rn : Int)) = true := by simp; omega
                obtain ⟨tw, htw⟩ : ∃ tw, tlOf (M (j : Int)) = tw := ⟨_, rfl⟩
                obtain ⟨ow, how'⟩ : ∃ ow, (M (j : Int)).isSome = ow := ⟨_, rfl⟩
                rw [hu, htw, how'] at cW
                have hfw : tw = f j := by rw [← htw]; exact hfj.1.symm
                have how : ow = h j := by rw [← how']; exact hfj.2.symm
                have HFW : Hid (tw = f j) := hfw
                have HOW : Hid (ow = h j) := how
                clear hu htw how' hfj hfw how
                obtain ⟨okv, hokv⟩ : ∃ okv : Bool, okv = ow := ⟨_, rfl⟩
                go_wp2_with (first
                  | (go_at_call 22; refine cW.mono ?_; rintro e x1 ⟨rfl, e1⟩; clear cW; obtain ⟨x2, hx2⟩ : ∃ x2, x2 = x1.alloc (.cells (tlA tw) 37) := ⟨_, rfl⟩; have e2 : Below x1.heap.size x1 x2 := (by rw [hx2]; exact (Below.refl _ _).alloc (Nat.le_refl _) _); have h17' : x2.heap[x1.heap.size]? = some (.cells (tlA tw) 37 (0, 0)) := (by rw [hx2]; exact World.alloc_heap_new _ _))
                  | (refine wpList_new rfl rfl 37 17 (.tmp 96) rfl rfl rfl rfl (tlA tl0) (tlA tw) (zeroTele _) rfl rfl infoTele rfl (tlA_one _) ?_; rw [← hx2]; clear hx2))
                have ex : Below wr.heap.size wr x2 := e1.trans (e2.mono e1.size)
                have Ax := HA2.out.same (ex.block _ HA2.out.lt)
                have Fx := HF2.out.same (ex.block _ HF2.out.lt)
                have h4x := (ex.block _ (by omega)).trans H4.out
                have Gx := HG2.out.go ex
                have bx : Below B w x2 := HBW.out.trans (ex.mono (by omega))
                have h17 := h17'
                clear h17' e1 e2
                refine start_any (S := fun u => u.heap[x1.heap.size]? = some (.cells (tlA tw) 37 (0, 0)) ∧ u.heap[B]? = some (.cells (tlA { t0 with rb := (rn : Int), kd := kd }) 37 (0, 0)) ∧ Ar u ga f ∧ Fl u gf h) 33 rfl (by kernel_rfl) (fun u su => ⟨by rw [su.heap]; exact h17, by rw [su.heap]; exact h4x, Ax.same (by rw [su.heap]), Fx.same (by rw [su.heap])⟩) ?_
                intro x3 sx
                have HS1 : x3.heap[x1.heap.size]? = some (.cells (tlA tw) 37 (0, 0)) ∧ x3.heap[B]? = some (.cells (tlA { t0 with rb := (rn : Int), kd := kd }) 37 (0, 0)) ∧ Ar x3 ga f ∧ Fl x3 gf h := ⟨by rw [sx.heap]; exact h17, by rw [sx.heap]; exact h4x, Ax.same (by rw [sx.heap]), Fx.same (by rw [sx.heap])⟩
                simp only [Array.replicate_succ, Array.replicate_zero, List.push_toArray, List.nil_append, List.cons_append]
                refine take_held 0 HS1 rfl (by kernel_rfl) (by kernel_rfl) (by kernel_rfl) (fun _ _ _ h => h) (by kernel_rfl) (v := ?v350) ?y350 ?r350
                case y350 => (intro u hu; go_simp; try rfl)
                simp only [Act.put, List.setIfInBounds_toArray, List.set_cons_zero, List.set_cons_succ]
                refine take_held 1 HS1 rfl (by kernel_rfl) (by kernel_rfl) (by kernel_rfl) (fun _ _ _ h => h) (by kernel_rfl) (v := ?v351) ?y351 ?r351
                case y351 => (intro u hu; go_simp; try rfl)
                simp only [Act.put, List.setIfInBounds_toArray, List.set_cons_zero, List.set_cons_succ]
                refine take_held 2 HS1 rfl (by kernel_rfl) (by kernel_rfl) (by kernel_rfl) (fun _ _ _ h => h) (by kernel_rfl) (v := .int .i64 (rn : Int)) ?y352 ?r352
                case y352 => (intro u hu; have zz := tl_rb hu.2.1; go_simp; try rfl)
                simp only [Act.put, List.setIfInBounds_toArray, List.set_cons_zero, List.set_cons_succ]
                refine take_held 3 HS1 rfl (by kernel_rfl) (by kernel_rfl) (by kernel_rfl) (fun _ _ _ h => h) (by kernel_rfl) (v := .bool false) ?y353 ?r353
                case y353 => (intro u hu; go_simp; try rfl)
                simp only [Act.put, List.setIfInBounds_toArray, List.set_cons_zero, List.set_cons_succ]
                refine take_held 4 HS1 rfl (by kernel_rfl) (by kernel_rfl) (by kernel_rfl) (fun _ _ _ h => h) (by kernel_rfl) (v := .bool false) ?y354 ?r354
                case y354 => (intro u hu; go_simp; try rfl)
                simp only [Act.put, List.setIfInBounds_toArray, List.set_cons_zero, List.set_cons_succ]
                refine skip_held 5 HS1 rfl (by kernel_rfl) (by kernel_rfl) (by kernel_rfl) (fun _ _ _ h => h) (by kernel_rfl) ?_
                simp only [Act.put, List.setIfInBounds_toArray, List.set_cons_zero, List.set_cons_succ]
                refine skip_held 6 HS1 rfl (by kernel_rfl) (by kernel_rfl) (by kernel_rfl) (fun _ _ _ h => h) (by kernel_rfl) ?_
                simp only [Act.put, List.setIfInBounds_toArray, List.set_cons_zero, List.set_cons_succ]
                refine skip_held 7 HS1 rfl (by kernel_rfl) (by kernel_rfl) (by kernel_rfl) (fun _ _ _ h => h) (by kernel_rfl) ?_
                simp only [Act.put, List.setIfInBounds_toArray, List.set_cons_zero, List.set_cons_succ]
                refine skip_held 8 HS1 rfl (by kernel_rfl) (by kernel_rfl) (by kernel_rfl) (fun _ _ _ h => h) (by kernel_rfl) ?_
                simp only [Act.put, List.setIfInBounds_toArray, List.set_cons_zero, List.set_cons_succ]
                refine skip_held 9 HS1 rfl (by kernel_rfl) (by kernel_rfl) (by kernel_rfl) (fun _ _ _ h => h) (by kernel_rfl) ?_
                simp only [Act.put, List.setIfInBounds_toArray, List.set_cons_zero, List.set_cons_succ]
                refine skip_held 10 HS1 rfl (by kernel_rfl) (by kernel_rfl) (by kernel_rfl) (fun _ _ _ h => h) (by kernel_rfl) ?_
                simp only [Act.put, List.setIfInBounds_toArray, List.set_cons_zero, List.set_cons_succ]
                refine skip_held 11 HS1 rfl (by kernel_rfl) (by kernel_rfl) (by kernel_rfl) (fun _ _ _ h => h) (by kernel_rfl) ?_
                simp only [Act.put, List.setIfInBounds_toArray, List.set_cons_zero, List.set_cons_succ]
                refine take_held 12 HS1 rfl (by kernel_rfl) (by kernel_rfl) (by kernel_rfl) (fun _ _ _ h => h) (by kernel_rfl) (v := .bool false) ?y355 ?r355
                case y355 => (intro u hu; go_simp; try rfl)
                simp only [Act.put, List.setIfInBounds_toArray, List.set_cons_zero, List.set_cons_succ]
                refine take_held 13 HS1 rfl (by kernel_rfl) (by kernel_rfl) (by kernel_rfl) (fun _ _ _ h => h) (by kernel_rfl) (v := .bool false) ?y356 ?r356
                case y356 => (intro u hu; go_simp; try rfl)
                simp only [Act.put, List.setIfInBounds_toArray, List.set_cons_zero, List.set_cons_succ]
                refine take_held 14 HS1 rfl (by kernel_rfl) (by kernel_rfl) (by kernel_rfl) (fun _ _ _ h => h) (by kernel_rfl) (v := ?v357) ?y357 ?r357
                case y357 => (intro u hu; go_simp; try rfl)
                simp only [Act.put, List.setIfInBounds_toArray, List.set_cons_zero, List.set_cons_succ]
                refine take_held 15 HS1 rfl (by kernel_rfl) (by kernel_rfl) (by kernel_rfl) (fun _ _ _ h => h) (by kernel_rfl) (v := ?v358) ?y358 ?r358
                case y358 => (intro u hu; go_simp; try rfl)
                simp only [Act.put, List.setIfInBounds_toArray, List.set_cons_zero, List.set_cons_succ]
                refine take_held 16 HS1 rfl (by kernel_rfl) (by kernel_rfl) (by kernel_rfl) (fun _ _ _ h => h) (by kernel_rfl) (v := .int .i64 (rn : Int)) ?y359 ?r359
                case y359 => (intro u hu; have zz := tl_rb hu.2.1; go_simp; try rfl)
                simp only [Act.put, List.setIfInBounds_toArray, List.set_cons_zero, List.set_cons_succ]
                refine take_held 17 HS1 rfl (by kernel_rfl) (by kernel_rfl) (by kernel_rfl) (fun _ _ _ h => h) (by kernel_rfl) (v := .bool true) ?y360 ?r360
                case y360 => (intro u hu; go_simp; try rfl)
                simp only [Act.put, List.setIfInBounds_toArray, List.set_cons_zero, List.set_cons_succ]
                refine take_held 18 HS1 rfl (by kernel_rfl) (by kernel_rfl) (by kernel_rfl) (fun _ _ _ h => h) (by kernel_rfl) (v := .bool true) ?y361 ?r361
                case y361 => (intro u hu; go_simp; try rfl)
                simp only [Act.put, List.setIfInBounds_toArray, List.set_cons_zero, List.set_cons_succ]
                refine take_held 19 HS1 rfl (by kernel_rfl) (by kernel_rfl) (by kernel_rfl) (fun _ _ _ h => h) (by kernel_rfl) (v := .agg (tlA tw)) ?y362 ?r362
                case y362 => (intro u hu; exact run_load_at 37 (.tmp 17) rfl ⟨x1.heap.size, 0, none⟩ rfl _ (load_tele hu.1))
                simp only [Act.put, List.setIfInBounds_toArray, List.set_cons_zero, List.set_cons_succ]
                refine take_held 20 HS1 rfl (by kernel_rfl) (by kernel_rfl) (by kernel_rfl) (fun _ _ _ h => h) (by kernel_rfl) (v := ?v363) ?y363 ?r363
                case y363 => (intro u hu; go_simp; try rfl)
                simp only [Act.put, List.setIfInBounds_toArray, List.set_cons_zero, List.set_cons_succ]
                refine take_held 21 HS1 rfl (by kernel_rfl) (by kernel_rfl) (by kernel_rfl) (fun _ _ _ h => h) (by kernel_rfl) (v := ?v364) ?y364 ?r364
                case y364 => (intro u hu; go_simp; try rfl)
                simp only [Act.put, List.setIfInBounds_toArray, List.set_cons_zero, List.set_cons_succ]
                refine take_held 22 HS1 rfl (by kernel_rfl) (by kernel_rfl) (by kernel_rfl) (fun _ _ _ h => h) (by kernel_rfl) (v := .agg (tlA tw)) ?y365 ?r365
                case y365 => (intro u hu; rw [HFW.out]; exact run_load_at 37 (.tmp 119) rfl ⟨ga, j * 19, none⟩ (by go_simp; try rfl) _ (hu.2.2.1.load hj8))
                simp only [Act.put, List.setIfInBounds_toArray, List.set_cons_zero, List.set_cons_succ]
                refine take_held 23 HS1 rfl (by kernel_rfl) (by kernel_rfl) (by kernel_rfl) (fun _ _ _ h => h) (by kernel_rfl) (v := .bool false) ?y366 ?r366
                case y366 => (intro u hu; exact run_neq_tele _ (.tmp 117) (.tmp 120) rfl tw rfl rfl)
                simp only [Act.put, List.setIfInBounds_toArray, List.set_cons_zero, List.set_cons_succ]
                refine take_held 24 HS1 rfl (by kernel_rfl) (by kernel_rfl) (by kernel_rfl) (fun _ _ _ h => h) (by kernel_rfl) (v := .bool false) ?y367 ?r367
                case y367 => (intro u hu; go_simp; try rfl)
                simp only [Act.put, List.setIfInBounds_toArray, List.set_cons_zero, List.set_cons_succ]
                refine take_held 25 HS1 rfl (by kernel_rfl) (by kernel_rfl) (by kernel_rfl) (fun _ _ _ h => h) (by kernel_rfl) (v := ?v368) ?y368 ?r368
                case y368 => (intro u hu; go_simp; try rfl)
                simp only [Act.put, List.setIfInBounds_toArray, List.set_cons_zero, List.set_cons_succ]
                refine take_held 26 HS1 rfl (by kernel_rfl) (by kernel_rfl) (by kernel_rfl) (fun _ _ _ h => h) (by kernel_rfl) (v := ?v369) ?y369 ?r369
                case y369 => (intro u hu; go_simp; try rfl)
                simp only [Act.put, List.setIfInBounds_toArray, List.set_cons_zero, List.set_cons_succ]
                refine take_held 27 HS1 rfl (by kernel_rfl) (by kernel_rfl) (by kernel_rfl) (fun _ _ _ h => h) (by kernel_rfl) (v := ?v370) ?y370 ?r370
                case y370 => (intro u hu; go_simp; try rfl)
                simp only [Act.put, List.setIfInBounds_toArray, List.set_cons_zero, List.set_cons_succ]
                refine take_held 28 HS1 rfl (by kernel_rfl) (by kernel_rfl) (by kernel_rfl) (fun _ _ _ h => h) (by kernel_rfl) (v := .bool ow) ?y371 ?r371
                case y371 => (intro u hu; exact run_load_bool (.tmp 125) rfl ⟨gf, j, none⟩ (by go_simp; try rfl) _ (by rw [HOW.out]; exact hu.2.2.2.at_ j hj8))
                simp only [Act.put, List.setIfInBounds_toArray, List.set_cons_zero, List.set_cons_succ]
                refine take_held 29 HS1 rfl (by kernel_rfl) (by kernel_rfl) (by kernel_rfl) (fun _ _ _ h => h) (by kernel_rfl) (v := .bool false) ?y372 ?r372
                case y372 => (intro u hu; cases ow <;> (go_simp; try rfl))
                simp only [Act.put, List.setIfInBounds_toArray, List.set_cons_zero, List.set_cons_succ]
                refine take_held 30 HS1 rfl (by kernel_rfl) (by kernel_rfl) (by kernel_rfl) (fun _ _ _ h => h) (by kernel_rfl) (v := .bool false) ?y373 ?r373
                case y373 => (intro u hu; go_simp; try rfl)
                simp only [Act.put, List.setIfInBounds_toArray, List.set_cons_zero, List.set_cons_succ]
                refine take_held 31 HS1 rfl (by kernel_rfl) (by kernel_rfl) (by kernel_rfl) (fun _ _ _ h => h) (by kernel_rfl) (v := .bool false) ?y374 ?r374
                case y374 => (intro u hu; go_simp; try rfl)
                simp only [Act.put, List.setIfInBounds_toArray, List.set_cons_zero, List.set_cons_succ]
                refine take_held 32 HS1 rfl (by kernel_rfl) (by kernel_rfl) (by kernel_rfl) (fun _ _ _ h => h) (by kernel_rfl) (v := .bool false) ?y375 ?r375
                case y375 => (intro u hu; go_simp; try rfl)
                simp only [Act.put, List.setIfInBounds_toArray, List.set_cons_zero, List.set_cons_succ]
                refine done_held (by kernel_rfl) ?_ _
                go_wp2
                go_roundw
                case rel => exact ⟨j + 1, by go_num, by omega, Gx.same (by rw [sx.heap]) (by rw [sx.heap]), Ax.same (by rw [sx.heap]), Fx.same (by rw [sx.heap]), by rw [sx.heap]; exact h4x, bx.trans (sx.below _)⟩
                case measure => simp [intOf]; omega
            · obtain rfl : j = 8 := by omega
              have g8 : ¬ ((8 : Nat) : Int) < 8 := by omega
              have hwr : wf64 (rn : Int) := wf64_of (by have := HPR.out; omega) (by have := HPR.out; omega)
              have cG1 := got_any G (rn : Int) hwr
              have hu : upd M (rn : Int) (some ({ t0 with rb := (rn : Int), kd := kd }, nw + 3)) (rn : Int) = some ({ t0 with rb := (rn : Int), kd := kd }, nw + 3) := by unfold upd; rw [if_pos rfl]
              rw [hu] at cG1
              simp only [Option.isSome_some] at cG1
              have cG2 : ∀ (u : World) (k : Nat) (M' : Mp), LkAt u (B + 1 + 1) (B + 1) k 8 7 (upd M' (rn : Int) none) → _ := fun u k M' h => got_any h (rn : Int) hwr
              have hv : ∀ M' : Mp, upd M' (rn : Int) none (rn : Int) = none := fun M' => by unfold upd; rw [if_pos rfl]
              simp only [hv, Option.isSome_none] at cG2
              have r4 := tl_rb h4
              simp only at r4
              clear hu hv
              go_wp2_with (first
                | (have X' := G5; go_at_call 15; refine (cG2 _ _ _ G5).mono ?_; rintro e z6 ⟨rfl, G6, q6⟩)
                | (go_at_call 15; refine cG1.mono ?_; rintro e z5 ⟨rfl, G5, q5⟩; have r5 : z5.cell? ⟨B, 1, none⟩ = some (.int .i64 (rn : Int)) := tl_rb ((q5.block _ (by omega) (fun e => by cases e <;> omega)).trans h4); clear cG1)
                | (go_at_call 11; refine (awake17 _).mono ?_; rintro e x9 ⟨rfl, b9⟩))
              go_ret
              have c5 : Below B w z5 := bw.grown q5 (by omega) (fun k hk => by cases hk; omega)
              have c6 : Below B w z6 := c5.grown q6 (by have := q5.size; omega) (fun k hk => by cases hk; omega)
              exact ⟨rfl, c6.trans (b9.mono (by have := c6.size; have := HX.out; omega))⟩
end Go.Proofs.Ytjladfpfhhnagaa.Lk
