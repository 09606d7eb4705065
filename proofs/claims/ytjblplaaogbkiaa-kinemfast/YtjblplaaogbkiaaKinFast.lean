/-
  Each tick goes as fast as it may.
-/
import Derived.Test.YtjblplaaogbkiaaKinFacts
import Derived.Laws.Cover1
namespace Go.Proofs.Ytjblplaaogbkiaa.Kin
set_option linter.unusedVariables false
set_option linter.unusedSimpArgs false
open Go Go.RowKit Go.Shelf Go.Proofs
attribute [local go_sem] Oper.semAt_some

set_option maxRecDepth 100000 in
set_option maxHeartbeats 4000000 in
theorem fast_all (u a v n : Int) (w : World) : Calls Try.prog 8 #[.int .i64 u, .int .i64 a, .int .i64 v, .int .i64 n] w fun e w' => e = .returned (.bool true) ∧ Below w.heap.size w w' := by
  have ok := few_ok u a v
  have u60 := few_bd u 60 (by omega)
  have a20 := few_bd a 20 (by omega)
  have v40 := few_bd v 40 (by omega)
  have cF := few_any u a v w
  generalize few u 60 = U at *
  generalize few a 20 = A at *
  generalize few v 40 = V at *
  have cM := fun w1 => made_yes U A V ok w1
  have hnot : ∀ (x : Bool) (w : World), (Op.unary .not (.bool x)).run Try.prog w = .ok (.bool (!x)) w := fun _ _ => rfl
  obtain ⟨N, hN⟩ : ∃ N, few n 16 = N := ⟨_, rfl⟩
  have n16 := few_bd n 16 (by omega)
  rw [hN] at n16
  have p16 := place_bd n 16 (by omega)
  have eN : 1 + place n 16 = (N : Int) := by have : (few n 16 : Int) = 1 + place n 16 := by unfold few; omega
                                             omega
  have cN := place_any n 16 w (by omega) (by omega)
  clear hN
  obtain ⟨K, hK⟩ : ∃ K, (profI U A V N).length = K := ⟨_, rfl⟩
  have hKl : (spd U A V N).length = K := by rw [← hK, timeI (by omega) (by omega)]
  have hKb := spd_bd ok (n := N) (by omega) (by omega)
  rw [hKl] at hKb
  have cT := fun (g : Nat) (w1 : World) (h1 : KinAt w1 g U A V) => time_any g U A V N w1 h1 ok
  rw [hK] at cT
  have mb : N * U ≤ 16 * 60 := Nat.mul_le_mul (by omega) (by omega)
  obtain ⟨X, hX⟩ : ∃ X, N * U = X := ⟨_, rfl⟩
  have eX : (N : Int) * (U : Int) = (X : Int) := by rw [← Int.natCast_mul, hX]
  rw [hX] at mb
  have cPr := fun (g : Nat) (w1 : World) (h1 : KinAt w1 g U A V) => (profile_any g U A V N w1 h1 ok).mono (R' := fun e w' => ∃ gl c, e = .returned (.slice (some ⟨gl, 0, none⟩) K c) ∧ w1.heap.size ≤ gl ∧ (∀ j, j < K → w'.cell? ⟨gl, j, none⟩ = some (.int .i64 (pos U A V N (j + 1) : Nat))) ∧ KGo g U A V w1 w') (by
    rintro e w' ⟨x, rfl, r, gq⟩
    rw [hK] at r
    rcases r.2 with ⟨_, q⟩ | ⟨gl, c, cur, rfl, hb, _⟩
    · omega
    · refine ⟨gl, c, rfl, hb, fun j hj => ?_, gq⟩
      rw [r.cellAt j (by omega)]
      unfold ints
      rw [List.getElem?_map, profI_in (by omega) (by omega), prof_get (by omega)]
      rfl)
  go_enter Try.func8, Try.ntmps8
  go_wp2_with (first
    | (go_at_call 17; refine cF.mono ?_; rintro e wf ⟨rfl, rfl⟩)
    | (go_at_call_of 27 n; refine cN.mono ?_; rintro e wf ⟨rfl, rfl⟩)
    | (go_at_call 13; refine (cM _).mono ?_; rintro e w1 ⟨g, rfl, hg, k1, b1⟩; have G : KGo g U A V w1 (w1.alloc (.cells #[.int .i64 U, .int .i64 A, .int .i64 V] 24)) := KGo.below k1 ((Below.refl _ _).alloc (Nat.le_refl _) _))
    | (go_at_call 19; refine (cPr g _ G.kin).mono ?_; rintro e w2 ⟨gl, c, rfl, hgl, CL, gq⟩; have lg := G.kin.nums.lt; replace G := G.trans gq; clear gq; have HL : Hid (∀ j, j < K → w2.cell? ⟨gl, j, none⟩ = some (.int .i64 (pos U A V N (j + 1) : Nat))) := CL; clear CL))
  have b12 := b1.trans (G.since hg b1.size)
  have k2 := G.kin
  have hne : g ≠ gl := by omega
  have hlt2 : ∀ j, j < K → gl < w2.heap.size := fun j hj => World.block_lt_of_cell? w2 _ (HL.out j hj)
  clear G cT
  go_loopw [13, 14, 15] (fun p s i wr => ∃ j : Nat, j ≤ K ∧ i = .int .i64 j ∧ p = .int .i64 (pos U A V N j : Nat) ∧ s = .int .i64 (vel U A V N j : Nat) ∧ KGo g U A V w2 wr) (fun p s i wr => K - (intOf i).toNat)
  case atStart => exact ⟨0, Nat.zero_le _, rfl, by rw [pos_zero]; rfl, by rw [show vel U A V N 0 = 0 by simp [vel]]; rfl, KGo.refl k2⟩
  case round =>
    obtain ⟨j, hj, rfl, rfl, rfl, G⟩ := hrel
    obtain ⟨wo, rfl⟩ : ∃ wo, wo = wr := ⟨_, rfl⟩
    by_cases hlt : j < K
    · have st := spd_step (u := U) (n := N) ok.a1 ok.v1 (i := j) (by omega)
      rw [ahead_vel (by omega), hX] at st
      have q1 := st.pos
      have q3 := st.top
      have e1 := pos_succ (u := U) (a := A) (v := V) (n := N) (t := j) (by omega)
      have e2 := vel_succ (u := U) (a := A) (v := V) (n := N) (t := j) (by omega)
      have p1 := pos_le (u := U) (n := N) ok.a1 ok.v1 j
      have p2 := pos_le (u := U) (n := N) ok.a1 ok.v1 (j + 1)
      rw [hX] at p1 p2
      have cl : wo.cell? ⟨gl, j, none⟩ = some (.int .i64 (pos U A V N (j + 1) : Nat)) := (cell_same (G.grow.block gl (hlt2 j hlt) (fun e => hne (by cases e; rfl)))).trans (HL.out j hlt)
      have gz : gl < wo.heap.size := Nat.lt_of_lt_of_le (hlt2 j hlt) G.grow.size
      rw [← e2] at q1 q3 e1 st
      have hS0 : vel U A V N j ≤ 40 := by
        by_cases h0 : j = 0
        · rw [h0, show vel U A V N 0 = 0 by simp [vel]]; omega
        · have := (vel_bd (u := U) (n := N) ok (t := j) (by omega) (by omega)).2
          omega
      have hP1 : pos U A V N (j + 1) ≤ 960 := by omega
      have hA20 : A ≤ 20 := by omega
      have hV40 : V ≤ 40 := by omega
      have cB := fun (m : Nat) (hm : m ≤ V) (z : World) (hz : KinAt z g U A V) => (brake_any g U A V (m : Nat) z hz.nums ok.a1 ok.a2 ok.v2).mono (R' := fun e w' => e = .returned (.int .i64 (brk A m : Nat)) ∧ KGo g U A V z w') (fun e w' q => ⟨by rw [q.1, cutS_nat hm], KGo.below hz q.2⟩)
      have HM : Hid (∀ m, m ≤ V → brk A m ≤ 1600) := fun m hm => by have := brk_bound (m := 40) ok.a1 (show m ≤ 40 by omega); omega
      obtain ⟨P1, hP⟩ : ∃ P1, pos U A V N (j + 1) = P1 := ⟨_, rfl⟩
      obtain ⟨S1, hS⟩ : ∃ S1, vel U A V N (j + 1) = S1 := ⟨_, rfl⟩
      have E1 : Hid (pos U A V N (j + 1) = P1) := hP
      have E2 : Hid (vel U A V N (j + 1) = S1) := hS
      rw [hP] at e1 hP1 cl p2
      rw [hS] at q1 q3 e1 st
      clear hP hS
      have HS : Hid (Step A V A (X - pos U A V N j) (vel U A V N j) S1) := st
      generalize pos U A V N j = P0 at *
      generalize vel U A V N j = S0 at *
      have d0 : (P1 : Int) - P0 = S1 := by omega
      have hS1 : S1 ≤ 40 := by omega
      have hP0 : P0 ≤ 960 := by omega
      clear st e2 HL hlt2 e1
      go_wp2
      go_loopw [17] (fun m wq => ∃ k : Nat, S1 < k ∧ k ≤ 1000 + S1 ∧ m = .int .i64 k ∧ KGo g U A V wo wq) (fun m wq => 2000 - (intOf m).toNat)
      case atStart => exact ⟨S1 + 1, by omega, by omega, by go_num, KGo.refl G.kin⟩
      case round =>
        obtain ⟨k, k1, k2', rfl, GQ⟩ := hrel
        by_cases hc : k ≤ S0 + A ∧ k ≤ V ∧ k ≤ X - P0
        · obtain ⟨c1, c2, c3⟩ := hc
          have hx := HS.out.max k k1 c1 c2 c3
          have hm := HM.out k c2
          have cB1 := cB k c2 _ GQ.kin
          obtain ⟨x, hxx⟩ : ∃ x, brk A k = x := ⟨_, rfl⟩
          rw [hxx] at hx hm cB1
          have f1 : ¬ ((P0 : Int) + k + x ≤ X) := by omega
          have f2 : (k : Int) ≤ (S0 : Int) + A := by omega
          have f3 : (k : Int) ≤ V := by omega
          have f4 : (k : Int) ≤ (X : Int) - P0 := by omega
          clear hxx cB HM HS
          go_wp2_with (go_at_call 15; refine cB1.mono ?_; rintro e wx ⟨rfl, gq⟩; replace GQ := GQ.trans gq; clear gq)
          all_goals
            first
            | (exfalso; omega)
            | (go_roundw
               case rel => exact ⟨k + 1, by omega, by omega, by go_num, GQ⟩
               case measure => simp [intOf]; omega)
        · have cl2 : wr.cell? ⟨gl, j, none⟩ = some (.int .i64 P1) := (cell_same (GQ.grow.block gl gz (fun e => hne (by cases e; rfl)))).trans cl
          clear cB HM HS cl
          go_wp2
          all_goals
            first
            | (exfalso; omega)
            | (go_roundw
               case rel => exact ⟨j + 1, by omega, by go_num, by rw [E1.out], by rw [E2.out], G.trans GQ⟩
               case measure => simp [intOf]; omega)
    · have b0 := b12
      go_wp2_with (first | (go_at_call 14; refine (awake_any _).mono ?_; rintro e wz ⟨rfl, bz⟩; replace G := G.then bz; clear bz))
      go_ret
      exact ⟨rfl, b0.trans (G.since (by have := b1.size; omega) b0.size)⟩
end Go.Proofs.Ytjblplaaogbkiaa.Kin
