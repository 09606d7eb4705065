/-
  For how many robots, and with which numbers of ticks, there is a link.
-/
import Derived.Test.YtjladfpfhhnagaaLinkLaw
namespace Go.Proofs.Ytjladfpfhhnagaa.Lk
set_option linter.unusedVariables false
set_option linter.unusedSimpArgs false
open Go Go.RowKit Go.Shelf Go.Proofs Go.Proofs.Ytjladfpfhhnagaa.Tick Go.Proofs.Ytjladfpfhhnagaa.Plain
attribute [local go_sem] Oper.semAt_some

set_option maxHeartbeats 1000000 in
theorem news_bad0 (rs rsd : Int) (w : World) (g1 : rs < 0) : Calls Try.prog 4 #[.int .i64 rs, .int .i64 rsd] w fun e w' => e = .returned (.bool true) ∧ Below w.heap.size w w' := by
  have h : rs < 0 ∨ 8 < rs ∨ rsd < 1 := by omega
  go_enter Try.func4, Try.ntmps4
  go_wp2_with (first
    | (go_at_call 9; refine (new_no rs rsd _ h).mono ?_; rintro e x1 ⟨rfl, hx⟩; have hx' := hx.symm; subst hx')
    | (go_at_call 11; refine (awake17 _).mono ?_; rintro e x9 ⟨rfl, b9⟩))
  go_ret
  exact ⟨rfl, b9⟩
set_option maxHeartbeats 1000000 in
theorem news_bad1 (rs rsd : Int) (w : World) (g1 : ¬ rs < 0) (g2 : 8 < rs) : Calls Try.prog 4 #[.int .i64 rs, .int .i64 rsd] w fun e w' => e = .returned (.bool true) ∧ Below w.heap.size w w' := by
  have h : rs < 0 ∨ 8 < rs ∨ rsd < 1 := by omega
  go_enter Try.func4, Try.ntmps4
  go_wp2_with (first
    | (go_at_call 9; refine (new_no rs rsd _ h).mono ?_; rintro e x1 ⟨rfl, hx⟩; have hx' := hx.symm; subst hx')
    | (go_at_call 11; refine (awake17 _).mono ?_; rintro e x9 ⟨rfl, b9⟩))
  go_ret
  exact ⟨rfl, b9⟩
set_option maxHeartbeats 1000000 in
theorem news_bad2 (rs rsd : Int) (w : World) (g1 : ¬ rs < 0) (g2 : ¬ 8 < rs) (g3 : rsd < 1) : Calls Try.prog 4 #[.int .i64 rs, .int .i64 rsd] w fun e w' => e = .returned (.bool true) ∧ Below w.heap.size w w' := by
  have h : rs < 0 ∨ 8 < rs ∨ rsd < 1 := by omega
  go_enter Try.func4, Try.ntmps4
  go_wp2_with (first
    | (go_at_call 9; refine (new_no rs rsd _ h).mono ?_; rintro e x1 ⟨rfl, hx⟩; have hx' := hx.symm; subst hx')
    | (go_at_call 11; refine (awake17 _).mono ?_; rintro e x9 ⟨rfl, b9⟩))
  go_ret
  exact ⟨rfl, b9⟩
theorem dueL_none (now rsd : Int) : ∀ k, dueL now rsd (fun _ => none) k = []
  | 0 => rfl
  | k + 1 => by rw [dueL_succ, dueL_none now rsd k]; rfl
theorem dueM_none (now rsd : Int) (k : Nat) : dueM now rsd (fun _ => none) k = fun _ => none := by
  funext x
  unfold dueM
  split <;> rfl
theorem builtStop (i : Int) : Try.prog.built 37 [(0, .int .i64 2), (1, .int .i64 i)] = some (tlA (tlG 2 i 0 0)) := by kernel_rfl
theorem neq_bool (a b : Bool) : (a != b) = false ↔ a = b := by cases a <;> cases b <;> simp
set_option maxRecDepth 100000 in
set_option maxHeartbeats 4000000 in
theorem news_good (N : Nat) (rsd : Int) (w : World) (hN : N ≤ 8) (hr : 1 ≤ rsd) : Calls Try.prog 4 #[.int .i64 (N : Int), .int .i64 rsd] w fun e w' => e = .returned (.bool true) ∧ Below w.heap.size w w' := by
  obtain ⟨rs, hrs⟩ : ∃ rs : Int, rs = (N : Int) := ⟨_, rfl⟩
  have HR : Hid (rs = (N : Int)) := hrs
  have g1 : ¬ rs < 0 := by omega
  have g2 : ¬ 8 < rs := by omega
  have g3 : ¬ rsd < 1 := by omega
  have n1 := new_ok rs rsd w (by omega) (by omega) hr
  rw [← hrs]
  clear hrs
  obtain ⟨B, hB⟩ : ∃ B, w.heap.size = B := ⟨_, rfl⟩
  rw [hB] at n1 ⊢
  have HX : Hid (w.heap.size = B) := hB
  clear hB
  have HDL := dueL_none 1099511627776 rsd N
  have HDL' : Hid ((dueL 1099511627776 rsd (fun _ => none) N).length = 0) := by show _ = _; rw [HDL]; rfl
  clear HDL
  go_enter Try.func4, Try.ntmps4
  go_wp2_with (first
    | (go_at_call 9; refine n1.mono ?_; rintro e x1 ⟨rfl, G1, b1⟩; clear n1)
    | (go_at_call 18; refine (due_any (N := N) (by rw [← HR.out]; exact G1) 1099511627776 hN (by decide)).mono ?_; rintro e x2 ⟨v2, rfl, n2, O2, G2, m2, q2⟩; obtain ⟨a2, k2, rfl⟩ := own_slice O2 HDL'.out; rw [dueM_none, ← HR.out] at G2; have b2 : Below B w x2 := b1.grown q2 (by have := b1.size; have := HX.out; omega) (fun k hk => by cases hk; exact Nat.le_refl _); clear O2 q2 G1 b1))
  go_loopw [7] (fun c wr => ∃ (k n' : Nat) (M : Mp), c = .int .i64 ((k : Int) - 1) ∧ k ≤ N + 2 ∧ LkAt wr (B + 1) B n' rs rsd M ∧ n' ≤ 8 + k ∧ (∀ x, (k : Int) - 1 ≤ x → M x = none) ∧ Below B w wr) (fun c _ => N + 3 - (intOf c + 1).toNat)
  case atStart => exact ⟨0, n2, _, rfl, by omega, G2, by omega, fun _ _ => rfl, b2⟩
  case round =>
    clear G2 b2 m2
    obtain ⟨k, n', M, rfl, hk, G, hn', HM, bw⟩ := hrel
    obtain ⟨i, hi⟩ : ∃ i : Int, i = (k : Int) - 1 := ⟨_, rfl⟩
    rw [← hi] at HM ⊢
    have HI : Hid (i = (k : Int) - 1) := hi
    have hM : M i = none := HM i (Int.le_refl _)
    have HM' : Hid (∀ x, i ≤ x → M x = none) := HM
    have hwf : wf64 i := wf64_of (by omega) (by omega)
    have HW : Hid (wf64 i) := hwf
    have i1 : -1 ≤ i := by omega
    have i2 : i ≤ 9 := by omega
    by_cases hin : i ≤ rs
    · have cW := waits_any G i hwf
      rw [hM] at cW
      simp only [Option.isSome_none] at cW
      have HG : Hid (LkAt wr (B + 1) B n' rs rsd M) := G
      have HBW : Hid (Below B w wr) := bw
      have hs : B ≤ wr.heap.size := by have := bw.size; have := HX.out; omega
      clear hi HM hM G bw hwf
      by_cases hok : 0 ≤ i ∧ i < rs
      · obtain ⟨o1, o2⟩ := hok
        go_wp2_with (first
          | (go_at_call 22; refine cW.mono ?_; rintro e x1 ⟨rfl, b1⟩; clear cW; obtain ⟨x2, hx2⟩ : ∃ x2, x2 = x1.alloc (.cells (tlA (tlOf none)) 37) := ⟨_, rfl⟩; have b2 : Below wr.heap.size wr x2 := b1.trans ((by rw [hx2]; exact (Below.refl _ _).alloc (Nat.le_refl _) _ : Below x1.heap.size x1 x2).mono b1.size); have G2 := HG.out.go b2)
          | (refine wpList_new rfl rfl 37 8 (.tmp 58) rfl rfl rfl rfl (tlA tl0) (tlA (tlOf none)) (zeroTele _) rfl rfl infoTele rfl (tlA_one _) ?_; rw [← hx2]; clear hx2)
          | (refine wpList_buildAs rfl 37 _ rfl (tlA (tlG 2 i 0 0)) _ rfl (builtStop i) ?_)
          | (go_at_call 13; refine (send_ok G2 (tlG 2 i 0 0) 0 o1 o2 (Or.inr rfl) HW.out (by omega)).mono ?_; rintro e x3 ⟨rfl, G3, q3⟩; obtain ⟨x4, hx4⟩ : ∃ x4, x4 = x3.alloc (.cells (tlA (tlG 2 i 0 0)) 37) := ⟨_, rfl⟩; have b4 : Below x3.heap.size x3 x4 := (by rw [hx4]; exact (Below.refl _ _).alloc (Nat.le_refl _) _); have G4 := G3.go b4)
          | (refine wpList_new rfl rfl 37 10 (.tmp 65) rfl rfl rfl rfl (tlA tl0) (tlA (tlG 2 i 0 0)) (zeroTele _) rfl rfl infoTele rfl (tlA_one _) ?_; rw [← hx4]; clear hx4))
        have bw2 : Below B w x2 := HBW.out.trans (b2.mono hs)
        have bw3 : Below B w x3 := bw2.grown q3 (by have := b2.size; omega) (fun k hk => by cases hk; exact Nat.le_refl _)
        have bw4 : Below B w x4 := bw3.trans (b4.mono (by have := bw3.size; have := HX.out; omega))
        go_roundw
        case rel => exact ⟨k + 1, n' + 1, _, by rw [HI.out]; go_num, by have := HI.out; have := HR.out; omega, G4, by omega, fun x hx => by unfold upd; rw [if_neg (by have := HI.out; simp only [tlG]; omega)]; exact HM'.out x (by have := HI.out; omega), bw4⟩
        case measure => have := HI.out; have := HR.out; simp [intOf]; omega
      · have HNO : Hid (¬ (0 ≤ i ∧ i < rs)) := hok
        clear hok
        by_cases o1 : 0 ≤ i
        · have o2 : ¬ i < rs := fun h => HNO.out ⟨o1, h⟩
          go_wp2_with (first
            | (go_at_call 22; refine cW.mono ?_; rintro e x1 ⟨rfl, b1⟩; clear cW; obtain ⟨x2, hx2⟩ : ∃ x2, x2 = x1.alloc (.cells (tlA (tlOf none)) 37) := ⟨_, rfl⟩; have b2 : Below wr.heap.size wr x2 := b1.trans ((by rw [hx2]; exact (Below.refl _ _).alloc (Nat.le_refl _) _ : Below x1.heap.size x1 x2).mono b1.size); have G2 := HG.out.go b2)
            | (refine wpList_new rfl rfl 37 8 (.tmp 58) rfl rfl rfl rfl (tlA tl0) (tlA (tlOf none)) (zeroTele _) rfl rfl infoTele rfl (tlA_one _) ?_; rw [← hx2]; clear hx2)
            | (refine wpList_buildAs rfl 37 _ rfl (tlA (tlG 2 i 0 0)) _ rfl (builtStop i) ?_)
            | (go_at_call 13; refine (send_no G2 (tlG 2 i 0 0) 0 (fun h => HNO.out ⟨h.1, h.2.1⟩)).mono ?_; rintro e x3 ⟨rfl, b3⟩; obtain ⟨x4, hx4⟩ : ∃ x4, x4 = x3.alloc (.cells (tlA tl0) 37) := ⟨_, rfl⟩; have b4 : Below x3.heap.size x3 x4 := (by rw [hx4]; exact (Below.refl _ _).alloc (Nat.le_refl _) _); have G4 := (G2.go b3).go b4)
            | (refine wpList_new rfl rfl 37 10 (.tmp 65) rfl rfl rfl rfl (tlA tl0) (tlA tl0) (zeroTele _) rfl rfl infoTele rfl (tlA_one _) ?_; rw [← hx4]; clear hx4))
          have bw2 : Below B w x2 := HBW.out.trans (b2.mono hs)
          have bw3 : Below B w x3 := bw2.trans (b3.mono (by have := b2.size; omega))
          have bw4 : Below B w x4 := bw3.trans (b4.mono (by have := bw3.size; have := HX.out; omega))
          go_roundw
          case rel => exact ⟨k + 1, n', _, by rw [HI.out]; go_num, by have := HI.out; have := HR.out; omega, G4, by omega, fun x hx => HM'.out x (by have := HI.out; omega), bw4⟩
          case measure => have := HI.out; have := HR.out; simp [intOf]; omega
        · have o2 : i < 0 := by omega
          go_wp2_with (first
            | (go_at_call 22; refine cW.mono ?_; rintro e x1 ⟨rfl, b1⟩; clear cW; obtain ⟨x2, hx2⟩ : ∃ x2, x2 = x1.alloc (.cells (tlA (tlOf none)) 37) := ⟨_, rfl⟩; have b2 : Below wr.heap.size wr x2 := b1.trans ((by rw [hx2]; exact (Below.refl _ _).alloc (Nat.le_refl _) _ : Below x1.heap.size x1 x2).mono b1.size); have G2 := HG.out.go b2)
            | (refine wpList_new rfl rfl 37 8 (.tmp 58) rfl rfl rfl rfl (tlA tl0) (tlA (tlOf none)) (zeroTele _) rfl rfl infoTele rfl (tlA_one _) ?_; rw [← hx2]; clear hx2)
            | (refine wpList_buildAs rfl 37 _ rfl (tlA (tlG 2 i 0 0)) _ rfl (builtStop i) ?_)
            | (go_at_call 13; refine (send_no G2 (tlG 2 i 0 0) 0 (fun h => HNO.out ⟨h.1, h.2.1⟩)).mono ?_; rintro e x3 ⟨rfl, b3⟩; obtain ⟨x4, hx4⟩ : ∃ x4, x4 = x3.alloc (.cells (tlA tl0) 37) := ⟨_, rfl⟩; have b4 : Below x3.heap.size x3 x4 := (by rw [hx4]; exact (Below.refl _ _).alloc (Nat.le_refl _) _); have G4 := (G2.go b3).go b4)
            | (refine wpList_new rfl rfl 37 10 (.tmp 65) rfl rfl rfl rfl (tlA tl0) (tlA tl0) (zeroTele _) rfl rfl infoTele rfl (tlA_one _) ?_; rw [← hx4]; clear hx4))
          have bw2 : Below B w x2 := HBW.out.trans (b2.mono hs)
          have bw3 : Below B w x3 := bw2.trans (b3.mono (by have := b2.size; omega))
          have bw4 : Below B w x4 := bw3.trans (b4.mono (by have := bw3.size; have := HX.out; omega))
          go_roundw
          case rel => exact ⟨k + 1, n', _, by rw [HI.out]; go_num, by have := HI.out; have := HR.out; omega, G4, by omega, fun x hx => HM'.out x (by have := HI.out; omega), bw4⟩
          case measure => have := HI.out; have := HR.out; simp [intOf]; omega
    · clear hi
      have hin' : ¬ i ≤ rs := hin
      go_wp2_with (go_at_call 11; refine (awake17 _).mono ?_; rintro e x9 ⟨rfl, b9⟩)
      go_ret
      exact ⟨rfl, bw.trans (b9.mono (by have := bw.size; have := HX.out; omega))⟩
theorem news_all (rs rsd : Int) (w : World) : Calls Try.prog 4 #[.int .i64 rs, .int .i64 rsd] w fun e w' => e = .returned (.bool true) ∧ Below w.heap.size w w' := by
  by_cases g1 : rs < 0
  · exact news_bad0 rs rsd w g1
  · by_cases g2 : 8 < rs
    · exact news_bad1 rs rsd w g1 g2
    · by_cases g3 : rsd < 1
      · exact news_bad2 rs rsd w g1 g2 g3
      · obtain ⟨N, rfl⟩ : ∃ N : Nat, rs = (N : Int) := ⟨rs.toNat, by omega⟩
        exact news_good N rsd w (by omega) (by omega)
end Go.Proofs.Ytjladfpfhhnagaa.Lk
