/-
  At each tick of a run the robot's stretch lies on cells whose windows have that tick; windows come one behind the other.
-/
import Derived.Test.YtjblplaaogbkiaaKinWinFacts
namespace Go.Proofs.Ytjblplaaogbkiaa.Kin
set_option linter.unusedVariables false
set_option linter.unusedSimpArgs false
open Go Go.RowKit Go.Shelf Go.Proofs
attribute [local go_sem] Oper.semAt_some

set_option maxRecDepth 100000 in
set_option maxHeartbeats 4000000 in
theorem covers_all (u a v n len : Int) (w : World) : Calls Try.prog 11 #[.int .i64 u, .int .i64 a, .int .i64 v, .int .i64 n, .int .i64 len] w fun e w' => e = .returned (.bool true) ∧ Below w.heap.size w w' := by
  have ok := few_ok u a v
  have u60 := few_bd u 60 (by omega)
  have a20 := few_bd a 20 (by omega)
  have v40 := few_bd v 40 (by omega)
  have cF := few_any u a v w
  generalize few u 60 = U at *
  generalize few a 20 = A at *
  generalize few v 40 = V at *
  have cM := fun w1 => made_yes U A V ok w1
  have hnot : ∀ (x : Bool) (w : World), (Op.unary .not (.bool x)).run Try.prog w = .ok (.bool (!x)) w := fun _ _ => rfl
  obtain ⟨N, hN⟩ : ∃ N, few n 16 = N := ⟨_, rfl⟩
  have n16 := few_bd n 16 (by omega)
  rw [hN] at n16
  have p16 := place_bd n 16 (by omega)
  have eN : 1 + place n 16 = (N : Int) := by have : (few n 16 : Int) = 1 + place n 16 := by unfold few; omega
                                             omega
  have cN := place_any n 16 w (by omega) (by omega)
  clear hN
  obtain ⟨D, hD⟩ : ∃ D, few len 2 = D := ⟨_, rfl⟩
  have d2 := few_bd len 2 (by omega)
  rw [hD] at d2
  have pd2 := place_bd len 2 (by omega)
  have eD : 1 + place len 2 = (D : Int) := by have : (few len 2 : Int) = 1 + place len 2 := by unfold few; omega
                                              omega
  have cD := place_any len 2 w (by omega) (by omega)
  clear hD
  have hDD : D = 1 ∨ D = 2 := by omega
  have n1 : 1 ≤ N := by omega
  have n2 : N ≤ 16 := by omega
  obtain ⟨Q, hQ⟩ : ∃ Q, N + D = Q + 1 := ⟨N + D - 1, by omega⟩
  have eQ : (N : Int) + (D : Int) = (Q : Int) + 1 := by omega
  have hQ2 : Q ≤ 17 := by omega
  have cW := fun (g : Nat) (w1 : World) (h1 : KinAt w1 g U A V) => windows_in g U A V N D w1 h1 ok n1 n2 hDD
  rw [hQ] at cW
  obtain ⟨K, hK⟩ : ∃ K, (profI U A V N).length = K := ⟨_, rfl⟩
  have hKl : (spd U A V N).length = K := by rw [← hK, timeI n1 n2]
  have hKb := spd_bd ok (n := N) n1 n2
  rw [hKl] at hKb
  have cT := fun (g : Nat) (w1 : World) (h1 : KinAt w1 g U A V) => time_any g U A V N w1 h1 ok
  rw [hK] at cT
  have HWI : Hid (∀ i, i < Q + 1 → win (onB U A V N D i) (spd U A V N).length = (loW U A V N D i, hiW U A V N i)) := fun i hi => win_is ok n1 n2 (by omega) (by omega)
  have HLH : Hid (∀ i, i < Q + 1 → loW U A V N D i < hiW U A V N i ∧ hiW U A V N i ≤ K) := fun i hi => ⟨lo_lt_hi ok n1 n2 (by omega) (by omega), by rw [← hKl]; exact fst_le _ _⟩
  have H0 : Hid (loW U A V N D 0 = 0) := lo_zero ok n1 n2 (by omega)
  have HQ : Hid (hiW U A V N Q = K) := by unfold Hid; rw [← hKl]; exact hi_last ok (len := D) (by omega) (by omega)
  have HM : Hid (∀ i, i + 1 < Q + 1 → loW U A V N D i ≤ loW U A V N D (i + 1) ∧ hiW U A V N i ≤ hiW U A V N (i + 1) ∧ loW U A V N D (i + 1) ≤ hiW U A V N i) := fun i hi => ⟨lo_mono ok n1 n2 (by omega) (by omega), hi_mono _ _ _ _ _, lo_hi ok n1 n2 (by omega) (by omega)⟩
  have HON : Hid (∀ t j, t < K → ((pos U A V N t < (j + 1) * U ∧ j * U < pos U A V N (t + 1) + D * U) ↔ (loW U A V N D j ≤ t ∧ t < hiW U A V N j))) := fun t j ht => by
    have := on_iff (u := U) (a := A) (v := V) (n := N) (len := D) (j := j) (t := t) (by omega)
    unfold onB at this
    rw [decide_eq_decide] at this
    exact this
  have HP : Hid (∀ t, pos U A V N t ≤ 960) := fun t => by
    have := pos_le (u := U) (n := N) ok.a1 ok.v1 t
    have : N * U ≤ 16 * 60 := Nat.mul_le_mul (by omega) (by omega)
    omega
  have cA := fun (t : Nat) (g : Nat) (w1 : World) (h1 : KinAt w1 g U A V) => at_any g U A V N (t : Nat) w1 h1 ok
  have HA : Hid (∀ t : Nat, atI U A V N (t : Nat) = pos U A V N t) := fun t => atI_in ok n1 n2 t
  obtain ⟨DU, hDU⟩ : ∃ DU, D * U = DU := ⟨_, rfl⟩
  have eDU : (D : Int) * (U : Int) = (DU : Int) := by rw [← Int.natCast_mul, hDU]
  have hDU2 : DU ≤ 120 := by rw [← hDU]; exact Nat.le_trans (Nat.mul_le_mul (show D ≤ 2 by omega) (show U ≤ 60 by omega)) (by omega)
  rw [hDU] at HON
  clear hDU hK hKl hQ hDD
  go_enter Try.func11, Try.ntmps11
  go_wp2_with (first
    | (go_at_call 17; refine cF.mono ?_; rintro e wf ⟨rfl, rfl⟩)
    | (go_at_call_of 27 n; refine cN.mono ?_; rintro e wf ⟨rfl, rfl⟩)
    | (go_at_call_of 27 len; refine cD.mono ?_; rintro e wf ⟨rfl, rfl⟩)
    | (go_at_call 13; refine (cM _).mono ?_; rintro e w1 ⟨g, rfl, hg, k1, b1⟩; have G : KGo g U A V w1 (w1.alloc (.cells #[.int .i64 U, .int .i64 A, .int .i64 V] 24)) := KGo.below k1 ((Below.refl _ _).alloc (Nat.le_refl _) _))
    | (go_at_call 30; refine (cW g _ G.kin).mono ?_; rintro e w3 ⟨g3, rfl, hg3, r3, gq⟩; have lg := G.kin.nums.lt; replace G := G.trans gq; clear gq; have HR3 : Hid (WR w3 g3 (Q + 1) (fun i => win (onB U A V N D i) (spd U A V N).length)) := r3; clear r3))
  have hne : g ≠ g3 := by omega
  have b13 := b1.trans (G.since hg b1.size)
  have k3 := G.kin
  have HC : Hid (∀ j, j < Q + 1 → w3.cell? ⟨g3, j * 2, none⟩ = some (.int .i64 (loW U A V N D j : Nat)) ∧ w3.cell? ⟨g3, j * 2 + 1, none⟩ = some (.int .i64 (hiW U A V N j : Nat))) := by
    intro j hj
    have a1 := HR3.out.lo j hj
    have a2 := HR3.out.hi j hj
    rw [HWI.out j hj] at a1 a2
    exact ⟨a1, a2⟩
  have l3 : g3 < w3.heap.size := World.block_lt_of_cell? w3 _ (HC.out 0 (by omega)).1
  have HY : Hid (∀ z, KGo g U A V w3 z → ∀ j, j < Q + 1 → z.cell? ⟨g3, j * 2, none⟩ = some (.int .i64 (loW U A V N D j : Nat)) ∧ z.cell? ⟨g3, j * 2 + 1, none⟩ = some (.int .i64 (hiW U A V N j : Nat))) := fun z hz j hj => by
    have e : z.heap[g3]? = w3.heap[g3]? := hz.grow.block _ l3 (fun e => hne (by cases e; rfl))
    exact ⟨(cell_same e).trans (HC.out j hj).1, (cell_same e).trans (HC.out j hj).2⟩
  clear HR3 HWI G cW HC
  have ne : Nonempty (Cls (KGo g U A V w3)) := ⟨⟨w3, KGo.refl k3⟩⟩
  have z1 : ∀ z : Cls (KGo g U A V w3), z.w.cell? ⟨g3, 0, none⟩ = some (.int .i64 0) := fun z => by have := (HY.out _ z.h 0 (by omega)).1; rw [H0.out] at this; exact this
  have z2 : ∀ z : Cls (KGo g U A V w3), z.w.cell? ⟨g3, Q * 2 + 1, none⟩ = some (.int .i64 K) := fun z => by have := (HY.out _ z.h Q (by omega)).2; rw [HQ.out] at this; exact this
  refine wp_region_cls (KGo g U A V w3) (by kernel_rfl) (by kernel_rfl) (KGo.refl k3).drew ?_
  repeat (go_big_quiet_step ((go_at_call 21; exact cls_call (cT g _ (KGo.kin (Cls.h _))) (fun w' hw => KGo.trans (Cls.h _) hw))))
  refine wpQuiet_nil ?_
  rintro w4 ⟨⟨_, g4⟩, rfl⟩
  clear z1 z2 ne
  go_wp2
  go_loopw [15] (fun i wr => ∃ j : Nat, j ≤ Q + 1 ∧ i = .int .i64 j ∧ KGo g U A V w3 wr) (fun i wr => Q + 1 - (intOf i).toNat)
  case atStart => exact ⟨0, Nat.zero_le _, rfl, g4⟩
  case round =>
    obtain ⟨j, hj, rfl, G⟩ := hrel
    by_cases hlt : j < Q + 1
    · obtain ⟨c0, c1⟩ := HY.out _ G j hlt
      obtain ⟨h1, h2⟩ := HLH.out j hlt
      by_cases hj0 : j = 0
      · subst hj0
        rw [Nat.zero_mul] at c0 c1
        generalize loW U A V N D 0 = lo at *
        generalize hiW U A V N 0 = hi at *
        have e1 : decide ((hi : Int) ≤ lo) = false := decide_eq_false (by omega)
        have e2 : decide (hi ≤ lo) = false := decide_eq_false (by omega)
        clear h1 h2
        go_wp2
        go_quiet (fail)
        go_wp2
        go_roundw
        case rel => exact ⟨1, by omega, by go_num, G.then (below_drewN (Below.refl _ _) _)⟩
        case measure => simp [intOf]
      · obtain ⟨m, rfl⟩ : ∃ m, j = m + 1 := ⟨j - 1, by omega⟩
        obtain ⟨c2, c3⟩ := HY.out _ G m (by omega)
        obtain ⟨h3, h4, h5⟩ := HM.out m (by omega)
        generalize loW U A V N D (m + 1) = lo at *
        generalize hiW U A V N (m + 1) = hi at *
        generalize loW U A V N D m = lo' at *
        generalize hiW U A V N m = hi' at *
        have e1 : decide ((hi : Int) ≤ lo) = false := decide_eq_false (by omega)
        have e2 : decide (hi ≤ lo) = false := decide_eq_false (by omega)
        have e3 : decide ((lo : Int) < lo') = false := decide_eq_false (by omega)
        have e4 : decide (lo < lo') = false := decide_eq_false (by omega)
        have e5 : decide ((hi : Int) < hi') = false := decide_eq_false (by omega)
        have e6 : decide (hi < hi') = false := decide_eq_false (by omega)
        have e7 : decide ((hi' : Int) < lo) = false := decide_eq_false (by omega)
        have e8 : decide (hi' < lo) = false := decide_eq_false (by omega)
        have e9 : decide ((0 : Int) < (m : Int) + 1) = true := decide_eq_true (by omega)
        clear h1 h2 h3 h4 h5
        go_wp2
        go_quiet (fail)
        go_wp2
        go_roundw
        case rel => exact ⟨m + 1 + 1, by omega, by go_num, G.then (below_drewN (Below.refl _ _) _)⟩
        case measure => simp [intOf]; omega
    · clear HM HLH
      go_wp2
      go_loopw [16] (fun i wr => ∃ t : Nat, t ≤ K ∧ i = .int .i64 t ∧ KGo g U A V w3 wr) (fun i wr => K - (intOf i).toNat)
      case atStart => exact ⟨0, Nat.zero_le _, rfl, G⟩
      case round =>
        clear G
        obtain ⟨t, ht, rfl, G⟩ := hrel
        by_cases hlt2 : t < K
        · have p0 := HP.out t
          have p1 := HP.out (t + 1)
          have cA1 := cA t
          have cA2 := cA (t + 1)
          rw [HA.out] at cA1 cA2
          rw [Int.natCast_add] at cA2
          have HO : Hid (∀ j, (pos U A V N t < (j + 1) * U ∧ j * U < pos U A V N (t + 1) + DU) ↔ (loW U A V N D j ≤ t ∧ t < hiW U A V N j)) := fun j => HON.out t j hlt2
          generalize pos U A V N t = P0 at *
          generalize pos U A V N (t + 1) = P1 at *
          go_wp2_with (go_at_call 21; refine (cT g _ G.kin).mono ?_; rintro e wx ⟨rfl, gq⟩; replace G := G.trans gq; clear gq)
          go_loopw [17] (fun i wr => ∃ j : Nat, j ≤ Q + 1 ∧ i = .int .i64 j ∧ KGo g U A V w3 wr) (fun i wr => Q + 1 - (intOf i).toNat)
          case atStart => exact ⟨0, Nat.zero_le _, rfl, G⟩
          case round =>
            clear G
            obtain ⟨j, hj2, rfl, G⟩ := hrel
            by_cases hjl : j < Q + 1
            · obtain ⟨X, hX⟩ : ∃ X, j * U = X := ⟨_, rfl⟩
              have eX : (j : Int) * (U : Int) = (X : Int) := by rw [← Int.natCast_mul, hX]
              have eX2 : ((j : Int) + 1) * (U : Int) = (X : Int) + (U : Int) := by rw [Int.add_mul, Int.one_mul, eX]
              have hX2 : X ≤ 1080 := by rw [← hX]; exact Nat.le_trans (Nat.mul_le_mul (show j ≤ 18 by omega) (show U ≤ 60 by omega)) (by omega)
              have hO := HO.out j
              rw [Nat.succ_mul, hX] at hO
              have HXX : Hid (j * U = X) := hX
              have HYj : Hid (∀ z, KGo g U A V w3 z → z.cell? ⟨g3, j * 2, none⟩ = some (.int .i64 (loW U A V N D j : Nat)) ∧ z.cell? ⟨g3, j * 2 + 1, none⟩ = some (.int .i64 (hiW U A V N j : Nat))) := fun z hz => HY.out z hz j hjl
              obtain ⟨lo, hlo⟩ : ∃ lo, loW U A V N D j = lo := ⟨_, rfl⟩
              obtain ⟨hi, hhi⟩ : ∃ hi, hiW U A V N j = hi := ⟨_, rfl⟩
              rw [hlo, hhi] at hO HYj
              clear hX HO hlo hhi
              by_cases c1 : P0 < X + U
              · by_cases c2 : X < P1 + DU
                · obtain ⟨b1', b2'⟩ := hO.1 ⟨c1, c2⟩
                  have f1 : (P0 : Int) < (X : Int) + U := by omega
                  have f2 : (X : Int) < (P1 : Int) + DU := by omega
                  have f3 : (lo : Int) ≤ t := by omega
                  have f4 : (t : Int) < hi := by omega
                  clear hO
                  go_wp2_with (first
                    | (have X' := G9; go_at_call 23; refine (cA2 g _ G.kin).mono ?_; rintro e wx ⟨rfl, gq⟩; replace G := G.trans gq; clear gq; obtain ⟨y0, y1⟩ := HYj.out _ G)
                    | (go_at_call 23; refine (cA1 g _ G.kin).mono ?_; rintro e wx ⟨rfl, gq⟩; replace G := G.trans gq; clear gq; have G9 := G; obtain ⟨x0, x1⟩ := HYj.out _ G))
                  go_roundw
                  case rel => exact ⟨j + 1, by omega, by go_num, G⟩
                  case measure => simp [intOf]; omega
                · have hno : ¬ (lo ≤ t ∧ t < hi) := fun q => c2 (hO.2 q).2
                  by_cases b1' : lo ≤ t
                  · have b2' : ¬ t < hi := fun q => hno ⟨b1', q⟩
                    have f1 : (P0 : Int) < (X : Int) + U := by omega
                    have f2 : ¬ ((X : Int) < (P1 : Int) + DU) := by omega
                    have f3 : (lo : Int) ≤ t := by omega
                    have f4 : ¬ ((t : Int) < hi) := by omega
                    clear hO
                    go_wp2_with (first
                      | (have X' := G9; go_at_call 23; refine (cA2 g _ G.kin).mono ?_; rintro e wx ⟨rfl, gq⟩; replace G := G.trans gq; clear gq; obtain ⟨y0, y1⟩ := HYj.out _ G)
                      | (go_at_call 23; refine (cA1 g _ G.kin).mono ?_; rintro e wx ⟨rfl, gq⟩; replace G := G.trans gq; clear gq; have G9 := G; obtain ⟨x0, x1⟩ := HYj.out _ G))
                    go_roundw
                    case rel => exact ⟨j + 1, by omega, by go_num, G⟩
                    case measure => simp [intOf]; omega
                  · skip
                    have f1 : (P0 : Int) < (X : Int) + U := by omega
                    have f2 : ¬ ((X : Int) < (P1 : Int) + DU) := by omega
                    have f3 : ¬ ((lo : Int) ≤ t) := by omega
                    clear hO
                    go_wp2_with (first
                      | (have X' := G9; go_at_call 23; refine (cA2 g _ G.kin).mono ?_; rintro e wx ⟨rfl, gq⟩; replace G := G.trans gq; clear gq; obtain ⟨y0, y1⟩ := HYj.out _ G)
                      | (go_at_call 23; refine (cA1 g _ G.kin).mono ?_; rintro e wx ⟨rfl, gq⟩; replace G := G.trans gq; clear gq; have G9 := G; obtain ⟨x0, x1⟩ := HYj.out _ G))
                    go_roundw
                    case rel => exact ⟨j + 1, by omega, by go_num, G⟩
                    case measure => simp [intOf]; omega
              · have hno : ¬ (lo ≤ t ∧ t < hi) := fun q => c1 (hO.2 q).1
                by_cases b1' : lo ≤ t
                · have b2' : ¬ t < hi := fun q => hno ⟨b1', q⟩
                  have f1 : ¬ ((P0 : Int) < (X : Int) + U) := by omega
                  have f3 : (lo : Int) ≤ t := by omega
                  have f4 : ¬ ((t : Int) < hi) := by omega
                  clear hO
                  go_wp2_with (first
                    | (have X' := G9; go_at_call 23; refine (cA2 g _ G.kin).mono ?_; rintro e wx ⟨rfl, gq⟩; replace G := G.trans gq; clear gq; obtain ⟨y0, y1⟩ := HYj.out _ G)
                    | (go_at_call 23; refine (cA1 g _ G.kin).mono ?_; rintro e wx ⟨rfl, gq⟩; replace G := G.trans gq; clear gq; have G9 := G; obtain ⟨x0, x1⟩ := HYj.out _ G))
                  go_roundw
                  case rel => exact ⟨j + 1, by omega, by go_num, G⟩
                  case measure => simp [intOf]; omega
                · skip
                  have f1 : ¬ ((P0 : Int) < (X : Int) + U) := by omega
                  have f3 : ¬ ((lo : Int) ≤ t) := by omega
                  clear hO
                  go_wp2_with (first
                    | (have X' := G9; go_at_call 23; refine (cA2 g _ G.kin).mono ?_; rintro e wx ⟨rfl, gq⟩; replace G := G.trans gq; clear gq; obtain ⟨y0, y1⟩ := HYj.out _ G)
                    | (go_at_call 23; refine (cA1 g _ G.kin).mono ?_; rintro e wx ⟨rfl, gq⟩; replace G := G.trans gq; clear gq; have G9 := G; obtain ⟨x0, x1⟩ := HYj.out _ G))
                  go_roundw
                  case rel => exact ⟨j + 1, by omega, by go_num, G⟩
                  case measure => simp [intOf]; omega
            · go_wp2
              go_roundw
              case rel => exact ⟨t + 1, by omega, by go_num, G⟩
              case measure => simp [intOf]; omega
        · go_wp2_with (first | (go_at_call 21; refine (cT g _ G.kin).mono ?_; rintro e wx ⟨rfl, gq⟩; replace G := G.trans gq; clear gq) | (go_at_call 14; refine (awake_any _).mono ?_; rintro e wz ⟨rfl, bz⟩; replace G := G.then bz; clear bz))
          go_ret
          exact ⟨rfl, b13.trans (G.since (by have := b1.size; omega) b13.size)⟩
end Go.Proofs.Ytjblplaaogbkiaa.Kin
