/-
  How many ticks a run takes; it is between its ends, and never goes back; there are no runs but of 1 to 16 cells.
-/
import Derived.Test.YtjblplaaogbkiaaKinWin
namespace Go.Proofs.Ytjblplaaogbkiaa.Kin
set_option linter.unusedVariables false
set_option linter.unusedSimpArgs false
open Go Go.RowKit Go.Shelf Go.Proofs
attribute [local go_sem] Oper.semAt_some

set_option maxRecDepth 100000 in
set_option maxHeartbeats 4000000 in
theorem takes_all (u a v n t : Int) (w : World) (ht2 : t ≤ 9223372036854775807) : Calls Try.prog 10 #[.int .i64 u, .int .i64 a, .int .i64 v, .int .i64 n, .int .i64 t] w fun e w' => e = .returned (.bool true) ∧ Below w.heap.size w w' := by
  have ok := few_ok u a v
  have u60 := few_bd u 60 (by omega)
  have a20 := few_bd a 20 (by omega)
  have v40 := few_bd v 40 (by omega)
  have cF := few_any u a v w
  generalize few u 60 = U at *
  generalize few a 20 = A at *
  generalize few v 40 = V at *
  have cM := fun w1 => made_yes U A V ok w1
  have hnot : ∀ (x : Bool) (w : World), (Op.unary .not (.bool x)).run Try.prog w = .ok (.bool (!x)) w := fun _ _ => rfl
  by_cases hn : 1 ≤ n ∧ n ≤ 16
  · obtain ⟨N, rfl⟩ := Int.eq_ofNat_of_zero_le (show 0 ≤ n by omega)
    obtain ⟨K, hK⟩ : ∃ K, (profI U A V N).length = K := ⟨_, rfl⟩
    have hKl : (spd U A V N).length = K := by rw [← hK, timeI (by omega) (by omega)]
    have hKb := spd_bd ok (n := N) (by omega) (by omega)
    have hKm := spd_len (u := U) (n := N) ok.a1 ok.v1
    rw [hKl] at hKb hKm
    have cT := fun (g : Nat) (w1 : World) (h1 : KinAt w1 g U A V) => time_any g U A V N w1 h1 ok
    rw [hK] at cT
    have mb : N * U ≤ 16 * 60 := Nat.mul_le_mul (by omega) (by omega)
    have mk : K * V ≤ 16000 * 40 := Nat.mul_le_mul (by omega) (by omega)
    obtain ⟨X, hX⟩ : ∃ X, N * U = X := ⟨_, rfl⟩
    obtain ⟨Y, hY⟩ : ∃ Y, K * V = Y := ⟨_, rfl⟩
    have eX : (N : Int) * (U : Int) = (X : Int) := by rw [← Int.natCast_mul, hX]
    have eY : (K : Int) * (V : Int) = (Y : Int) := by rw [← Int.natCast_mul, hY]
    rw [hX] at mb hKm
    rw [hY] at mk hKm
    have pK := place_bd t (K + 9) (by omega)
    have cP := fun w1 => place_any t (K + 9) w1 (by omega) (by omega)
    obtain ⟨x, hx⟩ : ∃ x, place t ((K : Int) + 9) - 4 = x := ⟨_, rfl⟩
    have hxb : x ≤ 20000 := by omega
    have hxb2 : -5 ≤ x := by omega
    have a1 := (atI_le ok N x).1
    have a2 := (atI_le ok N t).1
    have a3 := atI_mono ok N (show x ≤ x + 1 by omega)
    rw [Int.toNat_natCast, hX] at a1 a2
    have cA1 := fun (g : Nat) (w1 : World) (h1 : KinAt w1 g U A V) => at_any g U A V N x w1 h1 ok
    have cA2 := fun (g : Nat) (w1 : World) (h1 : KinAt w1 g U A V) => at_any g U A V N (x + 1) w1 h1 ok
    have cA3 := fun (g : Nat) (w1 : World) (h1 : KinAt w1 g U A V) => at_any g U A V N t w1 h1 ok
    generalize atI U A V N x = z1 at *
    generalize atI U A V N (x + 1) = z2 at *
    generalize atI U A V N t = z3 at *
    obtain ⟨y, hy⟩ : ∃ y, x + 1 = y := ⟨_, rfl⟩
    rw [hy] at cA2
    have f1 : (X : Int) ≤ Y := by omega
    have f2 : (K : Int) ≤ X := by omega
    have f3 : (z1 : Int) ≤ X := by omega
    have f4 : (z1 : Int) ≤ z2 := by omega
    have f5 : (z3 : Int) ≤ X := by omega
    have h1 : ¬ ((N : Int) < 1) := by omega
    have h2 : ¬ ((16 : Int) < N) := by omega
    clear hX hY hK hKl ok
    go_enter Try.func10, Try.ntmps10
    go_wp2_with (first
      | (go_at_call 17; refine cF.mono ?_; rintro e wf ⟨rfl, rfl⟩)
      | (go_at_call 13; refine (cM _).mono ?_; rintro e w1 ⟨g, rfl, hg, k1, b1⟩; have G : KGo g U A V w1 (w1.alloc (.cells #[.int .i64 U, .int .i64 A, .int .i64 V] 24)) := KGo.below k1 ((Below.refl _ _).alloc (Nat.le_refl _) _))
      | (go_at_call 21; refine (cT g _ G.kin).mono ?_; rintro e wx ⟨rfl, gq⟩; replace G := G.trans gq; clear gq)
      | (go_at_call 27; refine (cP _).mono ?_; rintro e wf ⟨rfl, rfl⟩)
      | (go_at_call_of 23 t; refine (cA3 g _ G.kin).mono ?_; rintro e wx ⟨rfl, gq⟩; replace G := G.trans gq; clear gq)
      | (go_at_call_of 23 y; refine (cA2 g _ G.kin).mono ?_; rintro e wx ⟨rfl, gq⟩; replace G := G.trans gq; clear gq)
      | (go_at_call_of 23 x; refine (cA1 g _ G.kin).mono ?_; rintro e wx ⟨rfl, gq⟩; replace G := G.trans gq; clear gq)
      | (go_at_call 14; refine (awake_any _).mono ?_; rintro e wz ⟨rfl, bz⟩; replace G := G.then bz; clear bz))
    go_ret
    exact ⟨rfl, b1.trans (G.since hg b1.size)⟩
  · have h0 : (profI U A V n).length = 0 := (prof_zero ok).2 (by omega)
    have hp : profI U A V n = [] := List.eq_nil_of_length_eq_zero h0
    have e1 : stopC U A V n t = 0 := by unfold stopC; rw [if_pos (Or.inr h0)]
    have e2 : stopT U A V n t = 0 := by unfold stopT; rw [if_pos (Or.inr h0)]
    have e3 : atI U A V n t = 0 := atI_out (by omega)
    have e4 : velI U A V n t = 0 := by unfold velI; rw [e3]; split <;> simp
    have cT := fun (g : Nat) (w1 : World) (h1 : KinAt w1 g U A V) => time_any g U A V n w1 h1 ok
    have cS := fun (g : Nat) (w1 : World) (h1 : KinAt w1 g U A V) => stop_any g U A V n t w1 h1 ok ht2
    have cA := fun (g : Nat) (w1 : World) (h1 : KinAt w1 g U A V) => at_any g U A V n t w1 h1 ok
    have cV := fun (g : Nat) (w1 : World) (h1 : KinAt w1 g U A V) => speed_any g U A V n t w1 h1 ok ht2
    have cPr := fun (g : Nat) (w1 : World) (h1 : KinAt w1 g U A V) => profile_any g U A V n w1 h1 ok
    have cW := fun (g : Nat) (w1 : World) (h1 : KinAt w1 g U A V) => windows_out g U A V n 1 w1 h1 ok (Or.inl (by omega))
    rw [h0] at cT cPr
    rw [e1, e2] at cS
    rw [e3] at cA
    rw [e4] at cV
    have hk : n < 1 ∨ (¬ n < 1 ∧ 16 < n) := by omega
    clear h0 hp e1 e2 e3 e4 hn ok
    rcases hk with hk | ⟨hk1, hk2⟩
    all_goals
      go_enter Try.func10, Try.ntmps10
      go_wp2_with (first
        | (go_at_call 17; refine cF.mono ?_; rintro e wf ⟨rfl, rfl⟩)
        | (go_at_call 13; refine (cM _).mono ?_; rintro e w1 ⟨g, rfl, hg, k1, b1⟩; have G : KGo g U A V w1 (w1.alloc (.cells #[.int .i64 U, .int .i64 A, .int .i64 V] 24)) := KGo.below k1 ((Below.refl _ _).alloc (Nat.le_refl _) _))
        | (go_at_call 21; refine (cT g _ G.kin).mono ?_; rintro e wx ⟨rfl, gq⟩; replace G := G.trans gq; clear gq)
        | (go_at_call 28; refine (cS g _ G.kin).mono ?_; rintro e wx ⟨rfl, gq⟩; replace G := G.trans gq; clear gq)
        | (go_at_call 23; refine (cA g _ G.kin).mono ?_; rintro e wx ⟨rfl, gq⟩; replace G := G.trans gq; clear gq)
        | (go_at_call 25; refine (cV g _ G.kin).mono ?_; rintro e wx ⟨rfl, gq⟩; replace G := G.trans gq; clear gq)
        | (go_at_call 19; refine (cPr g _ G.kin).mono ?_; rintro e wx ⟨x, rfl, r, gq⟩; replace G := G.trans gq; clear gq; obtain ⟨xa, xc, rfl, _⟩ := own_form r)
        | (go_at_call 30; refine (cW g _ G.kin).mono ?_; rintro e wx ⟨rfl, gq⟩; replace G := G.trans gq; clear gq)
        | (go_at_call 14; refine (awake_any _).mono ?_; rintro e wz ⟨rfl, bz⟩; replace G := G.then bz; clear bz))
      go_ret
      exact ⟨rfl, b1.trans (G.since hg b1.size)⟩
end Go.Proofs.Ytjblplaaogbkiaa.Kin
