/-
  A run that is stopped later ends no earlier on its way.
-/
import Derived.Test.YtjblplaaogbkiaaKinFacts
namespace Go.Proofs.Ytjblplaaogbkiaa.Kin
set_option linter.unusedVariables false
set_option linter.unusedSimpArgs false
open Go Go.RowKit Go.Shelf Go.Proofs
attribute [local go_sem] Oper.semAt_some

set_option maxRecDepth 100000 in
set_option maxHeartbeats 4000000 in
theorem later_all (u a v n t : Int) (w : World) : Calls Try.prog 12 #[.int .i64 u, .int .i64 a, .int .i64 v, .int .i64 n, .int .i64 t] w fun e w' => e = .returned (.bool true) ∧ Below w.heap.size w w' := by
  have ok := few_ok u a v
  have u60 := few_bd u 60 (by omega)
  have a20 := few_bd a 20 (by omega)
  have v40 := few_bd v 40 (by omega)
  have cF := few_any u a v w
  generalize few u 60 = U at *
  generalize few a 20 = A at *
  generalize few v 40 = V at *
  have cM := fun w1 => made_yes U A V ok w1
  have hnot : ∀ (x : Bool) (w : World), (Op.unary .not (.bool x)).run Try.prog w = .ok (.bool (!x)) w := fun _ _ => rfl
  obtain ⟨N, hN⟩ : ∃ N, few n 16 = N := ⟨_, rfl⟩
  have n16 := few_bd n 16 (by omega)
  rw [hN] at n16
  have p16 := place_bd n 16 (by omega)
  have eN : 1 + place n 16 = (N : Int) := by have : (few n 16 : Int) = 1 + place n 16 := by unfold few; omega
                                             omega
  have cN := place_any n 16 w (by omega) (by omega)
  clear hN
  obtain ⟨K, hK⟩ : ∃ K, (profI U A V N).length = K := ⟨_, rfl⟩
  have hKl : (spd U A V N).length = K := by rw [← hK, timeI (by omega) (by omega)]
  have hKb := spd_bd ok (n := N) (by omega) (by omega)
  rw [hKl] at hKb
  obtain ⟨T, hT⟩ : ∃ T, few t K = T := ⟨_, rfl⟩
  have tK := few_bd t K (by omega)
  rw [hT] at tK
  have pK := place_bd t K (by omega)
  have eT : 1 + place t (K : Int) = (T : Int) := by have : (few t K : Int) = 1 + place t K := by unfold few; omega
                                                    omega
  have cP := fun w1 => place_any t K w1 (by omega) (by omega)
  clear hT
  have s1 := stopC_le ok (n := N) (t := T + 1) (by omega) (by omega) (by omega)
  have s2 := stopC_later ok (n := N) (t := T) (by omega) (by omega) (by omega)
  have s3 := brk_later (u := U) (n := N) ok.a1 ok.v1 T
  have i1 := (atI_le ok N T).2
  have i2 := (atI_le ok N (T + 1 : Nat)).2
  have hv1 := vel_bd (u := U) (n := N) ok (t := T) (by omega) (by omega)
  have hv2 : vel U A V N (T + 1) ≤ V := by
    by_cases hl : T + 1 ≤ (spd U A V N).length
    · exact (vel_bd (u := U) (n := N) ok (t := T + 1) (by omega) hl).2
    · rw [vel_end ok.a1 ok.v1 (by omega)]; omega
  have B1 := brk_bound (m := 40) ok.a1 (show vel U A V N T ≤ 40 by omega)
  have B2 := brk_bound (m := 40) ok.a1 (show vel U A V N (T + 1) ≤ 40 by omega)
  have cT := fun (g : Nat) (w1 : World) (h1 : KinAt w1 g U A V) => time_any g U A V N w1 h1 ok
  rw [hK] at cT
  have cS1 := fun (g : Nat) (w1 : World) (h1 : KinAt w1 g U A V) => stop_any g U A V N T w1 h1 ok (by omega)
  have cS2 := fun (g : Nat) (w1 : World) (h1 : KinAt w1 g U A V) => stop_any g U A V N (T + 1 : Nat) w1 h1 ok (by omega)
  have cA1 := fun (g : Nat) (w1 : World) (h1 : KinAt w1 g U A V) => at_any g U A V N T w1 h1 ok
  have cA2 := fun (g : Nat) (w1 : World) (h1 : KinAt w1 g U A V) => at_any g U A V N (T + 1 : Nat) w1 h1 ok
  have cV1 := fun (g : Nat) (w1 : World) (h1 : KinAt w1 g U A V) => speed_any g U A V N T w1 h1 ok (by omega)
  have cV2 := fun (g : Nat) (w1 : World) (h1 : KinAt w1 g U A V) => speed_any g U A V N (T + 1 : Nat) w1 h1 ok (by omega)
  rw [velI_in ok (by omega) (by omega)] at cV1 cV2
  rw [atI_in ok (by omega) (by omega)] at cA1 cA2 i1 i2
  have cB1 := fun (g : Nat) (w1 : World) (h1 : KinAt w1 g U A V) => (brake_any g U A V (vel U A V N T : Nat) w1 h1.nums ok.a1 ok.a2 ok.v2).mono (fun e w' q => (⟨q.1, KGo.below h1 q.2⟩ : _ ∧ KGo g U A V w1 w'))
  have cB2 := fun (g : Nat) (w1 : World) (h1 : KinAt w1 g U A V) => (brake_any g U A V (vel U A V N (T + 1) : Nat) w1 h1.nums ok.a1 ok.a2 ok.v2).mono (fun e w' q => (⟨q.1, KGo.below h1 q.2⟩ : _ ∧ KGo g U A V w1 w'))
  rw [cutS_nat hv1.2] at cB1
  rw [cutS_nat hv2] at cB2
  clear ok hv1 hv2 hKl
  generalize brk A (vel U A V N T) = x1 at *
  generalize brk A (vel U A V N (T + 1)) = x2 at *
  generalize vel U A V N (T + 1) = y2 at *
  generalize vel U A V N T = y1 at *
  generalize pos U A V N (T + 1) = z2 at *
  generalize pos U A V N T = z1 at *
  generalize stopC U A V N (T + 1 : Nat) = c2 at *
  generalize stopC U A V N T = c1 at *
  generalize stopT U A V N (T + 1 : Nat) = d2 at *
  generalize stopT U A V N T = d1 at *
  have f1 : ¬ ((c2 : Int) < c1) := by omega
  have f2 : ¬ ((N : Int) < c2) := by omega
  have f3 : (z1 : Int) + x1 ≤ z2 + x2 := by omega
  rw [Int.natCast_add] at cS2 cA2 cV2
  clear hK
  go_enter Try.func12, Try.ntmps12
  go_wp2_with (first
    | (go_at_call 17; refine cF.mono ?_; rintro e wf ⟨rfl, rfl⟩)
    | (go_at_call_of 27 n; refine cN.mono ?_; rintro e wf ⟨rfl, rfl⟩)
    | (go_at_call 13; refine (cM _).mono ?_; rintro e w1 ⟨g, rfl, hg, k1, b1⟩; have G : KGo g U A V w1 (w1.alloc (.cells #[.int .i64 U, .int .i64 A, .int .i64 V] 24)) := KGo.below k1 ((Below.refl _ _).alloc (Nat.le_refl _) _))
    | (go_at_call 21; refine (cT g _ G.kin).mono ?_; rintro e wx ⟨rfl, gq⟩; replace G := G.trans gq; clear gq)
    | (go_at_call 27; refine (cP _).mono ?_; rintro e wf ⟨rfl, rfl⟩)
    | (have X' := G2; (go_at_call 28; refine (cS2 g _ G.kin).mono ?_; rintro e wx ⟨rfl, gq⟩; replace G := G.trans gq; clear gq))
    | ((go_at_call 28; refine (cS1 g _ G.kin).mono ?_; rintro e wx ⟨rfl, gq⟩; replace G := G.trans gq; clear gq); have G2 := G)
    | (have X' := G4; (go_at_call 23; refine (cA2 g _ G.kin).mono ?_; rintro e wx ⟨rfl, gq⟩; replace G := G.trans gq; clear gq))
    | ((go_at_call 23; refine (cA1 g _ G.kin).mono ?_; rintro e wx ⟨rfl, gq⟩; replace G := G.trans gq; clear gq); have G4 := G)
    | (have X' := G5; (go_at_call 25; refine (cV2 g _ G.kin).mono ?_; rintro e wx ⟨rfl, gq⟩; replace G := G.trans gq; clear gq))
    | ((go_at_call 25; refine (cV1 g _ G.kin).mono ?_; rintro e wx ⟨rfl, gq⟩; replace G := G.trans gq; clear gq); have G5 := G)
    | (have X' := G6; (go_at_call 15; refine (cB2 g _ G.kin).mono ?_; rintro e wx ⟨rfl, gq⟩; replace G := G.trans gq; clear gq))
    | ((go_at_call 15; refine (cB1 g _ G.kin).mono ?_; rintro e wx ⟨rfl, gq⟩; replace G := G.trans gq; clear gq); have G6 := G)
    | (go_at_call 14; refine (awake_any _).mono ?_; rintro e wz ⟨rfl, bz⟩; replace G := G.then bz; clear bz))
  go_ret
  exact ⟨rfl, b1.trans (G.since hg b1.size)⟩
end Go.Proofs.Ytjblplaaogbkiaa.Kin
