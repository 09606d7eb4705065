/-
  The law GridLegal: any move: whether it is legal, which cells it sweeps.
-/
import Derived.Test.YtmaeofkbkpplnaaGridLaw
import Derived.Test.YtmaeofkbkpplnaaGridRSM
namespace Go.Proofs.Ytmaeofkbkpplnaa.Grid
set_option linter.unusedVariables false
set_option linter.unusedSimpArgs false
open Go Go.RowKit Go.Shelf Go.Proofs
attribute [local go_sem] Oper.semAt_some

theorem awake_call (w : World) : Calls Try.prog 10 #[] w fun e w' => ∃ v, e = .returned v ∧ v = .bool true ∧ Below w.heap.size w w' := (awake_any w).mono fun e w' ⟨h, b⟩ => ⟨_, h, rfl, b⟩
theorem same_lists (Ls : List Cell) (K : Nat) (hK : Ls.length = K) (hs : K ≤ 1000000) (b1 b2 : Nat) (v1 v2 : Value) (w : World) (h1 : w.ownsRow b1 28 2 v1 K (rowL cellL Ls)) (h2 : w.ownsRow b2 28 2 v2 K (rowL cellL Ls)) :
    Calls Try.prog 13 #[v1, v2] w fun e w' => ∃ r, e = .returned r ∧ (r = .bool true ∧ Below w.heap.size w w') := by
  subst hK
  have := sameCells_any _ _ Ls Ls v1 v2 w (list_of_own kindCell.len h1) (list_of_own kindCell.len h2) (fun b h => h.2) (fun b h => h.2) (by omega) (by omega)
  rwa [decide_eq_true (rfl : Ls = Ls)] at this
theorem own_slice {w : World} {b : Nat} {e : TypeId} {sz n : Nat} {v : Value} {xs : List Value} (h : w.ownsRow b e sz v n xs) : ∃ a cap, v = .slice a n cap := by
  rcases h.2 with ⟨hv, h0⟩ | ⟨g, cap, cur, hv, _⟩
  · exact ⟨none, 0, by rw [hv, h0]⟩
  · exact ⟨_, _, hv⟩
theorem aggCf (w : World) : (isAgg 26).run Try.prog w = .ok true w := by unfold isAgg; rw [Sem.run_bind, run_underlying Try.underlying26 w]; rfl
set_option maxRecDepth 100000 in
set_option maxHeartbeats 4000000 in
theorem legal_all_law (c : Conf) (vb vp vr vs : Value) (w : World) (hA : ConfAt (Old w) c vb vp vr vs w) (l1 : c.blocked.length ≤ 8796093022208) (l2 : c.ports.length ≤ 8796093022208) (l3 : c.robots.length ≤ 5864062014805) (l4 : c.stacks.length ≤ 3518437208880) (l5 : ∀ s ∈ c.stacks, s.2.length ≤ 17592186044416) (m : Move) : Calls Try.prog 3 #[.agg #[.int .i64 c.W, .int .i64 c.H, .int .i64 c.height, vb, vp, vr, vs, .int .i64 c.unit, .int .i64 c.accel, .int .i64 c.speed, .int .i64 c.turn, .int .i64 c.hoist, .int .i64 c.queue, .int .i64 c.resend, .int .i64 c.budget, .bool c.back], .agg (moveCs m)] w fun e w' => e = .returned (.bool true) ∧ Below w.heap.size w w' := by
  have L := fun (u : World) (b : Below w.heap.size w u) g (hg : Old w g) => Nat.lt_of_lt_of_le hg b.size
  have hAu := fun u (b : Below w.heap.size w u) => hA.go (fun _ h => h) b
  have cC := fun u (b : Below w.heap.size w u) => copyConf_any (Old w) c vb vp vr vs u (hAu u b) (L u b) l1 l2 l3 l4 l5
  have cM := fun u (b : Below w.heap.size w u) => mayR_call (F := Old w) (hAu u b) (L u b) l1 l2 l3 l4 l5
  have Q0 := two_new w #[.int .i64 c.W, .int .i64 c.H, .int .i64 c.height, vb, vp, vr, vs, .int .i64 c.unit, .int .i64 c.accel, .int .i64 c.speed, .int .i64 c.turn, .int .i64 c.hoist, .int .i64 c.queue, .int .i64 c.resend, .int .i64 c.budget, .bool c.back] (moveCs m) 32
  cases hN : newP c with
  | none =>
    have cN := fun {n : Nat} {u : World} {v1 v2 v3 v4 : Value} (a : ConfAt (Since n u) c v1 v2 v3 v4 u) => new_no a since_lt l1 l2 l3 l4 hN
    rw [hN] at cM
    simp only [Option.isSome_none, Option.isSome_some] at cM
    generalize moveCs m = cs at *
    clear hA L hN hAu
    go_enter Try.func3, Try.ntmps3
    go_wp2_with (first
      | (have X' := Q2; refine wpList_load_row rfl 26 (.tmp 2) rfl w.heap.size rfl 26 #[.int .i64 c.W, .int .i64 c.H, .int .i64 c.height, vb, vp, vr, vs, .int .i64 c.unit, .int .i64 c.accel, .int .i64 c.speed, .int .i64 c.turn, .int .i64 c.hoist, .int .i64 c.queue, .int .i64 c.resend, .int .i64 c.budget, .bool c.back] (0, 0) _ Q2.a Try.underlying26 rfl info_conf ?_)
      | (refine wpList_load_row rfl 26 (.tmp 2) rfl w.heap.size rfl 26 #[.int .i64 c.W, .int .i64 c.H, .int .i64 c.height, vb, vp, vr, vs, .int .i64 c.unit, .int .i64 c.accel, .int .i64 c.speed, .int .i64 c.turn, .int .i64 c.hoist, .int .i64 c.queue, .int .i64 c.resend, .int .i64 c.budget, .bool c.back] (0, 0) _ Q0.a Try.underlying26 rfl info_conf ?_)
      | (go_at_call 8; refine (cC _ Q0.below).mono ?_; rintro e w1 ⟨r1, rfl, ⟨v1, v2, v3, v4, rfl, A1⟩, b1⟩; have Q1 := Q0.go b1)
      | (go_at_call 7; refine (cN A1).mono ?_; rintro e w2 ⟨rfl, b2⟩; have Q2 := Q1.go b2)
      | (go_at_call 9; refine (cM _ Q2.below).mono ?_; rintro e w3 ⟨r3, rfl, rfl, b3⟩; have Q3 := Q2.go b3)
      | (go_at_call 10; refine (awake_any _).mono ?_; rintro e w9 ⟨rfl, b9⟩))
    go_ret
    exact ⟨rfl, bcat Q3.below b9 (Nat.le_refl _)⟩
  | some G =>
    have cN := fun {n : Nat} {u : World} {v1 v2 v3 v4 : Value} (a : ConfAt (Since n u) c v1 v2 v3 v4 u) => new_yes a since_lt l1 l2 l3 l4 hN
    rw [hN] at cM
    simp only [Option.isSome_none, Option.isSome_some] at cM
    have hsd := limited_sides (new_some hN).1.1
    have cL := fun (g u0 : Nat) (v' : Value) u (q : GridAt u g u0 c.W c.H G.uses v') => ret_of (legal_any g u0 c.W c.H G.uses v' m u q)
    have cLR := fun u (b : Below w.heap.size w u) => rlegal_old c vb vp vr vs w hA l1 l2 l3 l4 l5 hN m u b
    have cS := fun (g u0 : Nat) (v' : Value) u (q : GridAt u g u0 c.W c.H G.uses v') => swept_both g u0 c.W c.H G.uses v' m (by omega) (by omega) u q
    have cSR := fun u (b : Below w.heap.size w u) => rswept_both c vb vp vr vs u (old_go hA b) l1 l2 l3 l4 l5 hN m (by omega) (by omega)
    have hLs := sweptL_len (W := c.W) (H := c.H) (us := G.uses) (m := m) (by omega) (by omega)
    have hi : (Try.prog.info? 32).map (·.size) = some (moveCs m).size := info_move
    generalize legalU c.W c.H G.uses m = LB at *
    generalize sweptL c.W c.H G.uses m = Ls at *
    generalize moveCs m = cs at *
    obtain ⟨K, hLK⟩ : ∃ K, Ls.length = K := ⟨_, rfl⟩
    rw [hLK] at cS cSR hLs
    have hKs : K ≤ 1000000 := by omega
    clear hA hN hAu hsd
    go_enter Try.func3, Try.ntmps3
    go_wp2_with (first
      | (have X' := Q2; refine wpList_load_row rfl 26 (.tmp 2) rfl w.heap.size rfl 26 #[.int .i64 c.W, .int .i64 c.H, .int .i64 c.height, vb, vp, vr, vs, .int .i64 c.unit, .int .i64 c.accel, .int .i64 c.speed, .int .i64 c.turn, .int .i64 c.hoist, .int .i64 c.queue, .int .i64 c.resend, .int .i64 c.budget, .bool c.back] (0, 0) _ Q2.a Try.underlying26 rfl info_conf ?_)
      | (refine wpList_load_row rfl 26 (.tmp 2) rfl w.heap.size rfl 26 #[.int .i64 c.W, .int .i64 c.H, .int .i64 c.height, vb, vp, vr, vs, .int .i64 c.unit, .int .i64 c.accel, .int .i64 c.speed, .int .i64 c.turn, .int .i64 c.hoist, .int .i64 c.queue, .int .i64 c.resend, .int .i64 c.budget, .bool c.back] (0, 0) _ Q0.a Try.underlying26 rfl info_conf ?_)
      | (go_at_call 8; refine (cC _ Q0.below).mono ?_; rintro e w1 ⟨r1, rfl, ⟨v1, v2, v3, v4, rfl, A1⟩, b1⟩; have Q1 := Q0.go b1)
      | (go_at_call 7; refine (cN A1).mono ?_; rintro e w2 ⟨g, u0, v', rfl, G2, _, _, own2, b2⟩; have Q2 := Q1.go b2)
      | (go_at_call 9; refine (cM _ Q2.below).mono ?_; rintro e w3 ⟨r3, rfl, rfl, b3⟩; have Q3 := Q2.go b3)
      | (go_at_call 10; refine (awake_any _).mono ?_; rintro e w9 ⟨rfl, b9⟩))
    have G3 := G2.go b3
    have eA := Q3.a
    have eB := Q3.b
    have B := Q3.below
    have HF : Hid (∀ u, Below w3.heap.size w3 u → ∀ j z, #[Value.int .i64 c.W, .int .i64 c.H, .int .i64 c.height, vb, vp, vr, vs, .int .i64 c.unit, .int .i64 c.accel, .int .i64 c.speed, .int .i64 c.turn, .int .i64 c.hoist, .int .i64 c.queue, .int .i64 c.resend, .int .i64 c.budget, .bool c.back][j]? = some z → u.cell? ((⟨w.heap.size, 0, none⟩ : Addr).add j) = some z) := fun u hu => row_below eA hu
    have HM : Hid (∀ u, Below w3.heap.size w3 u → ∀ j z, cs[j]? = some z → u.cell? ((⟨w.heap.size + 1, 0, none⟩ : Addr).add j) = some z) := fun u hu => row_below eB hu
    have kL : Hid (∀ u, Below w3.heap.size w3 u → _) := fun u hu => cL g u0 v' u (G3.go hu)
    have kLR : Hid (∀ u, Below w3.heap.size w3 u → _) := fun u hu => cLR u (bcat B hu (Nat.le_refl _))
    have kS : Hid (∀ u, Below w3.heap.size w3 u → _) := fun u hu => cS g u0 v' u (G3.go hu)
    have kSR : Hid (∀ u, Below w3.heap.size w3 u → _) := fun u hu => cSR u (bcat B hu (Nat.le_refl _))
    clear cL cLR cS cSR eA eB G2 G3 Q0 Q1 Q2 Q3 cC cM cN
    have S0 : Below w3.heap.size w3 w3.drew := (Below.refl _ _).drew
    refine start_held (S := fun u => Below w3.heap.size w3 u) 20 rfl (by kernel_rfl) (S0) ?_
    simp only [Array.replicate_succ, Array.replicate_zero, List.push_toArray, List.nil_append, List.cons_append]
    refine take_held 0 S0 rfl (by kernel_rfl) (by kernel_rfl) (by kernel_rfl) (fun _ _ _ h => h) (by kernel_rfl) (v := ?v0) ?y0 ?r0
    case y0 => (intro u hu; go_simp; try rfl)
    simp only [Act.put, List.setIfInBounds_toArray, List.set_cons_zero, List.set_cons_succ]
    refine take_held 1 S0 rfl (by kernel_rfl) (by kernel_rfl) (by kernel_rfl) (fun _ _ _ h => h) (by kernel_rfl) (v := .agg cs) ?y1 ?r1
    case y1 => (intro u hu; exact run_load_op 32 _ rfl ⟨w.heap.size + 1, 0, none⟩ _ rfl (HM.out u hu) (aggMv u) hi)
    simp only [Act.put, List.setIfInBounds_toArray, List.set_cons_zero, List.set_cons_succ]
    refine take_held 3 S0 rfl (by kernel_rfl) (by kernel_rfl) (by kernel_rfl) (fun _ _ _ h => h) (by kernel_rfl) (v := .agg #[.int .i64 c.W, .int .i64 c.H, .int .i64 c.height, vb, vp, vr, vs, .int .i64 c.unit, .int .i64 c.accel, .int .i64 c.speed, .int .i64 c.turn, .int .i64 c.hoist, .int .i64 c.queue, .int .i64 c.resend, .int .i64 c.budget, .bool c.back]) ?y2 ?r2
    case y2 => (intro u hu; exact run_load_op 26 _ rfl ⟨w.heap.size, 0, none⟩ _ rfl (HF.out u hu) (aggCf u) info_conf)
    simp only [Act.put, List.setIfInBounds_toArray, List.set_cons_zero, List.set_cons_succ]
    refine take_held 4 S0 rfl (by kernel_rfl) (by kernel_rfl) (by kernel_rfl) (fun _ _ _ h => h) (by kernel_rfl) (v := .agg cs) ?y3 ?r3
    case y3 => (intro u hu; exact run_load_op 32 _ rfl ⟨w.heap.size + 1, 0, none⟩ _ rfl (HM.out u hu) (aggMv u) hi)
    simp only [Act.put, List.setIfInBounds_toArray, List.set_cons_zero, List.set_cons_succ]
    refine wpAnyH_ready (rs := [2]) (by kernel_rfl) (by simp) (AllReadyH.cons ((nth_eq _ 2).trans rfl) ?_ AllReadyH.nil)
    intro K' hK
    refine call_in hK (by kernel_rfl) 11 #[.pointer (some ⟨g, 0, none⟩), .agg cs] (by go_simp) _ (kL.out _ S0) ?_
    rintro v1 x1 ⟨rfl, b1⟩
    have S1 : Below w3.heap.size w3 x1 := bcat S0 b1 (Nat.le_refl _)
    refine ⟨S1, ?_⟩
    simp only [Act.put, List.setIfInBounds_toArray, List.set_cons_zero, List.set_cons_succ]
    refine wpAnyH_ready (rs := [5]) (by kernel_rfl) (by simp) (AllReadyH.cons ((nth_eq _ 5).trans rfl) ?_ AllReadyH.nil)
    intro K' hK
    refine call_in hK (by kernel_rfl) 12 #[.agg #[.int .i64 c.W, .int .i64 c.H, .int .i64 c.height, vb, vp, vr, vs, .int .i64 c.unit, .int .i64 c.accel, .int .i64 c.speed, .int .i64 c.turn, .int .i64 c.hoist, .int .i64 c.queue, .int .i64 c.resend, .int .i64 c.budget, .bool c.back], .agg cs] (by go_simp) _ (kLR.out _ S1) ?_
    rintro v2 x2 ⟨rfl, b2⟩
    have S2 : Below w3.heap.size w3 x2 := bcat S1 b2 (Nat.le_refl _)
    refine ⟨S2, ?_⟩
    simp only [Act.put, List.setIfInBounds_toArray, List.set_cons_zero, List.set_cons_succ]
    refine take_held 6 S2 rfl (by kernel_rfl) (by kernel_rfl) (by kernel_rfl) (fun _ _ _ h => h) (by kernel_rfl) (v := ?v4) ?y4 ?r4
    case y4 => (intro u hu; go_simp; try rfl)
    simp only [Act.put, List.setIfInBounds_toArray, List.set_cons_zero, List.set_cons_succ]
    refine take_held 7 S2 rfl (by kernel_rfl) (by kernel_rfl) (by kernel_rfl) (fun _ _ _ h => h) (by kernel_rfl) (v := ?v5) ?y5 ?r5
    case y5 => (intro u hu; go_simp; try rfl)
    simp only [Act.put, List.setIfInBounds_toArray, List.set_cons_zero, List.set_cons_succ]
    refine take_held 8 S2 rfl (by kernel_rfl) (by kernel_rfl) (by kernel_rfl) (fun _ _ _ h => h) (by kernel_rfl) (v := ?v6) ?y6 ?r6
    case y6 => (intro u hu; go_simp; try rfl)
    simp only [Act.put, List.setIfInBounds_toArray, List.set_cons_zero, List.set_cons_succ]
    refine take_held 9 S2 rfl (by kernel_rfl) (by kernel_rfl) (by kernel_rfl) (fun _ _ _ h => h) (by kernel_rfl) (v := .agg cs) ?y7 ?r7
    case y7 => (intro u hu; exact run_load_op 32 _ rfl ⟨w.heap.size + 1, 0, none⟩ _ rfl (HM.out u hu) (aggMv u) hi)
    simp only [Act.put, List.setIfInBounds_toArray, List.set_cons_zero, List.set_cons_succ]
    refine take_held 11 S2 rfl (by kernel_rfl) (by kernel_rfl) (by kernel_rfl) (fun _ _ _ h => h) (by kernel_rfl) (v := .agg #[.int .i64 c.W, .int .i64 c.H, .int .i64 c.height, vb, vp, vr, vs, .int .i64 c.unit, .int .i64 c.accel, .int .i64 c.speed, .int .i64 c.turn, .int .i64 c.hoist, .int .i64 c.queue, .int .i64 c.resend, .int .i64 c.budget, .bool c.back]) ?y8 ?r8
    case y8 => (intro u hu; exact run_load_op 26 _ rfl ⟨w.heap.size, 0, none⟩ _ rfl (HF.out u hu) (aggCf u) info_conf)
    simp only [Act.put, List.setIfInBounds_toArray, List.set_cons_zero, List.set_cons_succ]
    refine take_held 12 S2 rfl (by kernel_rfl) (by kernel_rfl) (by kernel_rfl) (fun _ _ _ h => h) (by kernel_rfl) (v := .agg cs) ?y9 ?r9
    case y9 => (intro u hu; exact run_load_op 32 _ rfl ⟨w.heap.size + 1, 0, none⟩ _ rfl (HM.out u hu) (aggMv u) hi)
    simp only [Act.put, List.setIfInBounds_toArray, List.set_cons_zero, List.set_cons_succ]
    refine wpAnyH_ready (rs := [10]) (by kernel_rfl) (by simp) (AllReadyH.cons ((nth_eq _ 10).trans rfl) ?_ AllReadyH.nil)
    intro K' hK
    refine call_in hK (by kernel_rfl) 14 #[.pointer (some ⟨g, 0, none⟩), .agg cs] (by go_simp) _ (kS.out _ S2) ?_
    rintro v3 x3 ⟨own3, b3⟩
    have S3 : Below w3.heap.size w3 x3 := bcat S2 b3 (Nat.le_refl _)
    obtain ⟨a3, cap3, hv3⟩ := own_slice own3
    subst hv3
    refine ⟨S3, ?_⟩
    simp only [Act.put, List.setIfInBounds_toArray, List.set_cons_zero, List.set_cons_succ]
    refine wpAnyH_ready (rs := [13]) (by kernel_rfl) (by simp) (AllReadyH.cons ((nth_eq _ 13).trans rfl) ?_ AllReadyH.nil)
    intro K' hK
    refine call_in hK (by kernel_rfl) 15 #[.agg #[.int .i64 c.W, .int .i64 c.H, .int .i64 c.height, vb, vp, vr, vs, .int .i64 c.unit, .int .i64 c.accel, .int .i64 c.speed, .int .i64 c.turn, .int .i64 c.hoist, .int .i64 c.queue, .int .i64 c.resend, .int .i64 c.budget, .bool c.back], .agg cs] (by go_simp) _ (kSR.out _ S3) ?_
    rintro v4 x4 ⟨own4, b4⟩
    have S4 : Below w3.heap.size w3 x4 := bcat S3 b4 (Nat.le_refl _)
    have own3 := own_go own3 b4
    obtain ⟨a4, cap4, hv4⟩ := own_slice own4
    subst hv4
    refine ⟨S4, ?_⟩
    simp only [Act.put, List.setIfInBounds_toArray, List.set_cons_zero, List.set_cons_succ]
    refine wpAnyH_ready (rs := [14]) (by kernel_rfl) (by simp) (AllReadyH.cons ((nth_eq _ 14).trans rfl) ?_ AllReadyH.nil)
    intro K' hK
    refine call_in hK (by kernel_rfl) 13 #[.slice a3 K cap3, .slice a4 K cap4] (by go_simp) _ (same_lists Ls K hLK hKs _ _ _ _ _ own3 own4) ?_
    rintro v5 x5 ⟨rfl, b5⟩
    have S5 : Below w3.heap.size w3 x5 := bcat S4 b5 (Nat.le_refl _)
    refine ⟨S5, ?_⟩
    simp only [Act.put, List.setIfInBounds_toArray, List.set_cons_zero, List.set_cons_succ]
    refine take_held 15 S5 rfl (by kernel_rfl) (by kernel_rfl) (by kernel_rfl) (fun _ _ _ h => h) (by kernel_rfl) (v := ?v10) ?y10 ?r10
    case y10 => (intro u hu; go_simp; try rfl)
    simp only [Act.put, List.setIfInBounds_toArray, List.set_cons_zero, List.set_cons_succ]
    refine take_held 16 S5 rfl (by kernel_rfl) (by kernel_rfl) (by kernel_rfl) (fun _ _ _ h => h) (by kernel_rfl) (v := ?v11) ?y11 ?r11
    case y11 => (intro u hu; go_simp; try rfl)
    simp only [Act.put, List.setIfInBounds_toArray, List.set_cons_zero, List.set_cons_succ]
    refine wpAnyH_ready (rs := [17]) (by kernel_rfl) (by simp) (AllReadyH.cons ((nth_eq _ 17).trans rfl) ?_ AllReadyH.nil)
    intro K' hK
    refine call_in hK (by kernel_rfl) 10 #[] (by go_simp) _ (awake_call _) ?_
    rintro v6 x6 ⟨rfl, b6⟩
    have S6 : Below w3.heap.size w3 x6 := bcat S5 b6 (Nat.le_refl _)
    refine ⟨S6, ?_⟩
    simp only [Act.put, List.setIfInBounds_toArray, List.set_cons_zero, List.set_cons_succ]
    refine take_held 18 S6 rfl (by kernel_rfl) (by kernel_rfl) (by kernel_rfl) (fun _ _ _ h => h) (by kernel_rfl) (v := ?v12) ?y12 ?r12
    case y12 => (intro u hu; go_simp; try rfl)
    simp only [Act.put, List.setIfInBounds_toArray, List.set_cons_zero, List.set_cons_succ]
    refine take_held 19 S6 rfl (by kernel_rfl) (by kernel_rfl) (by kernel_rfl) (fun _ _ _ h => h) (by kernel_rfl) (v := ?v13) ?y13 ?r13
    case y13 => (intro u hu; go_simp; try rfl)
    simp only [Act.put, List.setIfInBounds_toArray, List.set_cons_zero, List.set_cons_succ]
    refine done_held (by kernel_rfl) ?_ _
    go_wp2_with fail
    go_ret
    exact ⟨rfl, bcat B S6 (Nat.le_refl _)⟩
end Go.Proofs.Ytmaeofkbkpplnaa.Grid
