/-
  A stopped run ends at a whole cell on its way, not ahead of where it could stand, less than a cell behind that.
-/
import Derived.Test.YtjblplaaogbkiaaKinFacts
namespace Go.Proofs.Ytjblplaaogbkiaa.Kin
set_option linter.unusedVariables false
set_option linter.unusedSimpArgs false
open Go Go.RowKit Go.Shelf Go.Proofs
attribute [local go_sem] Oper.semAt_some

set_option maxRecDepth 100000 in
set_option maxHeartbeats 4000000 in
theorem stands_all (u a v n t : Int) (w : World) : Calls Try.prog 9 #[.int .i64 u, .int .i64 a, .int .i64 v, .int .i64 n, .int .i64 t] w fun e w' => e = .returned (.bool true) ∧ Below w.heap.size w w' := by
  have ok := few_ok u a v
  have u60 := few_bd u 60 (by omega)
  have a20 := few_bd a 20 (by omega)
  have v40 := few_bd v 40 (by omega)
  have cF := few_any u a v w
  generalize few u 60 = U at *
  generalize few a 20 = A at *
  generalize few v 40 = V at *
  have cM := fun w1 => made_yes U A V ok w1
  have hnot : ∀ (x : Bool) (w : World), (Op.unary .not (.bool x)).run Try.prog w = .ok (.bool (!x)) w := fun _ _ => rfl
  obtain ⟨N, hN⟩ : ∃ N, few n 16 = N := ⟨_, rfl⟩
  have n16 := few_bd n 16 (by omega)
  rw [hN] at n16
  have p16 := place_bd n 16 (by omega)
  have eN : 1 + place n 16 = (N : Int) := by have : (few n 16 : Int) = 1 + place n 16 := by unfold few; omega
                                             omega
  have cN := place_any n 16 w (by omega) (by omega)
  clear hN
  obtain ⟨K, hK⟩ : ∃ K, (profI U A V N).length = K := ⟨_, rfl⟩
  have hKl : (spd U A V N).length = K := by rw [← hK, timeI (by omega) (by omega)]
  have hKb := spd_bd ok (n := N) (by omega) (by omega)
  rw [hKl] at hKb
  obtain ⟨T, hT⟩ : ∃ T, few t K = T := ⟨_, rfl⟩
  have tK := few_bd t K (by omega)
  rw [hT] at tK
  have pK := place_bd t K (by omega)
  have eT : 1 + place t (K : Int) = (T : Int) := by have : (few t K : Int) = 1 + place t K := by unfold few; omega
                                                    omega
  have cP := fun w1 => place_any t K w1 (by omega) (by omega)
  clear hT
  have i1 := (atI_le ok N T).2
  have hv1 := vel_bd (u := U) (n := N) ok (t := T) (by omega) (by omega)
  have B1 := brk_bound (m := 40) ok.a1 (show vel U A V N T ≤ 40 by omega)
  have cT := fun (g : Nat) (w1 : World) (h1 : KinAt w1 g U A V) => time_any g U A V N w1 h1 ok
  rw [hK] at cT
  have cS1 := fun (g : Nat) (w1 : World) (h1 : KinAt w1 g U A V) => stop_any g U A V N T w1 h1 ok (by omega)
  have cA1 := fun (g : Nat) (w1 : World) (h1 : KinAt w1 g U A V) => at_any g U A V N T w1 h1 ok
  have cV1 := fun (g : Nat) (w1 : World) (h1 : KinAt w1 g U A V) => speed_any g U A V N T w1 h1 ok (by omega)
  rw [velI_in ok (by omega) (by omega)] at cV1
  rw [atI_in ok (by omega) (by omega)] at cA1 i1
  have cB1 := fun (g : Nat) (w1 : World) (h1 : KinAt w1 g U A V) => (brake_any g U A V (vel U A V N T : Nat) w1 h1.nums ok.a1 ok.a2 ok.v2).mono (fun e w' q => (⟨q.1, KGo.below h1 q.2⟩ : _ ∧ KGo g U A V w1 w'))
  rw [cutS_nat hv1.2] at cB1
  by_cases hTK : T = K
  · have e1 : stopC U A V N T = N := stopC_end ok (by omega) (by omega) (by omega) (by omega)
    have e2 : stopT U A V N T = 0 := stopT_end ok (by omega) (by omega) (by omega) (by omega)
    have e3 : pos U A V N T = N * U := pos_end ok.a1 ok.v1 (by omega)
    rw [e1, e2] at cS1
    rw [e3] at cA1
    subst hTK
    have mb : N * U ≤ 16 * 60 := Nat.mul_le_mul (by omega) (by omega)
    obtain ⟨X, hX⟩ : ∃ X, N * U = X := ⟨_, rfl⟩
    rw [hX] at cA1 mb
    have eX : (N : Int) * (U : Int) = (X : Int) := by rw [← Int.natCast_mul, hX]
    clear e1 e2 e3 ok hv1 hKl i1 hK hX
    generalize brk A (vel U A V N T) = x1 at *
    generalize vel U A V N T = y1 at *
    go_enter Try.func9, Try.ntmps9
    go_wp2_with (first
      | (go_at_call 17; refine cF.mono ?_; rintro e wf ⟨rfl, rfl⟩)
      | (go_at_call_of 27 n; refine cN.mono ?_; rintro e wf ⟨rfl, rfl⟩)
      | (go_at_call 13; refine (cM _).mono ?_; rintro e w1 ⟨g, rfl, hg, k1, b1⟩; have G : KGo g U A V w1 (w1.alloc (.cells #[.int .i64 U, .int .i64 A, .int .i64 V] 24)) := KGo.below k1 ((Below.refl _ _).alloc (Nat.le_refl _) _))
      | (go_at_call 21; refine (cT g _ G.kin).mono ?_; rintro e wx ⟨rfl, gq⟩; replace G := G.trans gq; clear gq)
      | (go_at_call 27; refine (cP _).mono ?_; rintro e wf ⟨rfl, rfl⟩)
      | (go_at_call 28; refine (cS1 g _ G.kin).mono ?_; rintro e wx ⟨rfl, gq⟩; replace G := G.trans gq; clear gq)
      | (go_at_call 23; refine (cA1 g _ G.kin).mono ?_; rintro e wx ⟨rfl, gq⟩; replace G := G.trans gq; clear gq)
      | (go_at_call 25; refine (cV1 g _ G.kin).mono ?_; rintro e wx ⟨rfl, gq⟩; replace G := G.trans gq; clear gq)
      | (go_at_call 15; refine (cB1 g _ G.kin).mono ?_; rintro e wx ⟨rfl, gq⟩; replace G := G.trans gq; clear gq)
      | (go_at_call 14; refine (awake_any _).mono ?_; rintro e wz ⟨rfl, bz⟩; replace G := G.then bz; clear bz))
    go_ret
    exact ⟨rfl, b1.trans (G.since hg b1.size)⟩
  · have st := stands_mid ok (n := N) (t := T) (by omega) (by omega) (by omega) (by omega)
    obtain ⟨q1, q2, q3, q4, q5, q6⟩ := st
    have hM : stopT U A V N T ≤ 2000000 := by
      rw [stopT_mid ok (by omega) (by omega) (by omega) (by omega)]
      have := (runs_len (a := A) (v := V) (rise := 0) (left := cellsS U A (pos U A V N T) (vel U A V N T) * U - pos U A V N T) (s := vel U A V N T) ok.a1 ok.v1 (by omega)).1
      have := (cells_bd (u := U) (a := A) (p := pos U A V N T) (s := vel U A V N T) ok.u1).2
      unfold ticksS
      omega
    clear ok hKl hK
    generalize brk A (vel U A V N T) = x1 at *
    generalize stopC U A V N T = C at *
    generalize stopT U A V N T = M at *
    have hMS : M * vel U A V N T ≤ 2000000 * 40 := Nat.mul_le_mul hM (by omega)
    generalize vel U A V N T = y1 at *
    generalize pos U A V N T = z1 at *
    obtain ⟨X, hX⟩ : ∃ X, C * U = X := ⟨_, rfl⟩
    obtain ⟨Y, hY⟩ : ∃ Y, M * y1 = Y := ⟨_, rfl⟩
    have eX : (C : Int) * (U : Int) = (X : Int) := by rw [← Int.natCast_mul, hX]
    have eY : (M : Int) * (y1 : Int) = (Y : Int) := by rw [← Int.natCast_mul, hY]
    rw [hX] at q3 q4 q5 q6
    rw [hY] at q5 hMS
    have f1 : ¬ ((C : Int) < 1) := by omega
    have f2 : ¬ ((N : Int) < C) := by omega
    have f3 : ¬ ((X : Int) < z1) := by omega
    have f4 : ((T : Int) == K) = false := by rw [beq_eq_false_iff_ne]; omega
    have f5 : (z1 : Int) + x1 ≤ X := by omega
    have f6 : (X : Int) < z1 + x1 + U := by omega
    have f7 : (X : Int) - z1 ≤ Y := by omega
    have f8 : (((M : Int) == 0) == ((X : Int) == (z1 : Int))) = true := by
      by_cases hm : M = 0
      · have := q6.1 hm
        subst hm
        rw [this]
        simp
      · have h2 : ¬ X = z1 := fun e => hm (q6.2 e)
        have g1 : ((M : Int) == 0) = false := by rw [beq_eq_false_iff_ne]; omega
        have g2 : ((X : Int) == (z1 : Int)) = false := by rw [beq_eq_false_iff_ne]; omega
        rw [g1, g2]
        rfl
    clear hX hY q6
    go_enter Try.func9, Try.ntmps9
    go_wp2_with (first
      | (go_at_call 17; refine cF.mono ?_; rintro e wf ⟨rfl, rfl⟩)
      | (go_at_call_of 27 n; refine cN.mono ?_; rintro e wf ⟨rfl, rfl⟩)
      | (go_at_call 13; refine (cM _).mono ?_; rintro e w1 ⟨g, rfl, hg, k1, b1⟩; have G : KGo g U A V w1 (w1.alloc (.cells #[.int .i64 U, .int .i64 A, .int .i64 V] 24)) := KGo.below k1 ((Below.refl _ _).alloc (Nat.le_refl _) _))
      | (go_at_call 21; refine (cT g _ G.kin).mono ?_; rintro e wx ⟨rfl, gq⟩; replace G := G.trans gq; clear gq)
      | (go_at_call 27; refine (cP _).mono ?_; rintro e wf ⟨rfl, rfl⟩)
      | (go_at_call 28; refine (cS1 g _ G.kin).mono ?_; rintro e wx ⟨rfl, gq⟩; replace G := G.trans gq; clear gq)
      | (go_at_call 23; refine (cA1 g _ G.kin).mono ?_; rintro e wx ⟨rfl, gq⟩; replace G := G.trans gq; clear gq)
      | (go_at_call 25; refine (cV1 g _ G.kin).mono ?_; rintro e wx ⟨rfl, gq⟩; replace G := G.trans gq; clear gq)
      | (go_at_call 15; refine (cB1 g _ G.kin).mono ?_; rintro e wx ⟨rfl, gq⟩; replace G := G.trans gq; clear gq)
      | (go_at_call 14; refine (awake_any _).mono ?_; rintro e wz ⟨rfl, bz⟩; replace G := G.then bz; clear bz))
    go_ret
    exact ⟨rfl, b1.trans (G.since hg b1.size)⟩
end Go.Proofs.Ytjblplaaogbkiaa.Kin
