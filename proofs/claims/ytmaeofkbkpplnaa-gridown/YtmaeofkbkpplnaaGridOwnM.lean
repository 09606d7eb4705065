/-
  The law GridLegal: any move: whether it is legal, which cells it sweeps.
  A config's copy in new memory: its cells' lists are of one's own.
  The law GridOwn: what is handed in stays, and what is told is new memory.
-/
import Derived.Test.YtmaeofkbkpplnaaGridLaw
import Derived.Test.YtmaeofkbkpplnaaGridRSM
import Derived.Test.YtmaeofkbkpplnaaGridCopy2
import Derived.Deep.MidRow
namespace Go.Proofs.Ytmaeofkbkpplnaa.Grid
set_option linter.unusedVariables false
set_option linter.unusedSimpArgs false
open Go Go.RowKit Go.Shelf Go.Proofs
attribute [local go_sem] Oper.semAt_some

theorem awake_call (w : World) : Calls Try.prog 10 #[] w fun e w' => ∃ v, e = .returned v ∧ v = .bool true ∧ Below w.heap.size w w' := (awake_any w).mono fun e w' ⟨h, b⟩ => ⟨_, h, rfl, b⟩
theorem same_lists (Ls : List Cell) (K : Nat) (hK : Ls.length = K) (hs : K ≤ 1000000) (b1 b2 : Nat) (v1 v2 : Value) (w : World) (h1 : w.ownsRow b1 28 2 v1 K (rowL cellL Ls)) (h2 : w.ownsRow b2 28 2 v2 K (rowL cellL Ls)) :
    Calls Try.prog 13 #[v1, v2] w fun e w' => ∃ r, e = .returned r ∧ (r = .bool true ∧ Below w.heap.size w w') := by
  subst hK
  have := sameCells_any _ _ Ls Ls v1 v2 w (list_of_own kindCell.len h1) (list_of_own kindCell.len h2) (fun b h => h.2) (fun b h => h.2) (by omega) (by omega)
  rwa [decide_eq_true (rfl : Ls = Ls)] at this
theorem own_slice {w : World} {b : Nat} {e : TypeId} {sz n : Nat} {v : Value} {xs : List Value} (h : w.ownsRow b e sz v n xs) : ∃ a cap, v = .slice a n cap := by
  rcases h.2 with ⟨hv, h0⟩ | ⟨g, cap, cur, hv, _⟩
  · exact ⟨none, 0, by rw [hv, h0]⟩
  · exact ⟨_, _, hv⟩
theorem aggCf (w : World) : (isAgg 26).run Try.prog w = .ok true w := by unfold isAgg; rw [Sem.run_bind, run_underlying Try.underlying26 w]; rfl
set_option maxRecDepth 100000 in
set_option maxHeartbeats 4000000 in
theorem legal_all_law (c : Conf) (vb vp vr vs : Value) (w : World) (hA : ConfAt (Old w) c vb vp vr vs w) (l1 : c.blocked.length ≤ 8796093022208) (l2 : c.ports.length ≤ 8796093022208) (l3 : c.robots.length ≤ 5864062014805) (l4 : c.stacks.length ≤ 3518437208880) (l5 : ∀ s ∈ c.stacks, s.2.length ≤ 17592186044416) (m : Move) : Calls Try.prog 3 #[.agg #[.int .i64 c.W, .int .i64 c.H, .int .i64 c.height, vb, vp, vr, vs, .int .i64 c.unit, .int .i64 c.accel, .int .i64 c.speed, .int .i64 c.turn, .int .i64 c.hoist, .int .i64 c.queue, .int .i64 c.resend, .int .i64 c.budget, .bool c.back], .agg (moveCs m)] w fun e w' => e = .returned (.bool true) ∧ Below w.heap.size w w' := by
  have L := fun (u : World) (b : Below w.heap.size w u) g (hg : Old w g) => Nat.lt_of_lt_of_le hg b.size
  have hAu := fun u (b : Below w.heap.size w u) => hA.go (fun _ h => h) b
  have cC := fun u (b : Below w.heap.size w u) => copyConf_any (Old w) c vb vp vr vs u (hAu u b) (L u b) l1 l2 l3 l4 l5
  have cM := fun u (b : Below w.heap.size w u) => mayR_call (F := Old w) (hAu u b) (L u b) l1 l2 l3 l4 l5
  have Q0 := two_new w #[.int .i64 c.W, .int .i64 c.H, .int .i64 c.height, vb, vp, vr, vs, .int .i64 c.unit, .int .i64 c.accel, .int .i64 c.speed, .int .i64 c.turn, .int .i64 c.hoist, .int .i64 c.queue, .int .i64 c.resend, .int .i64 c.budget, .bool c.back] (moveCs m) 32
  cases hN : newP c with
  | none =>
    have cN := fun {n : Nat} {u : World} {v1 v2 v3 v4 : Value} (a : ConfAt (Since n u) c v1 v2 v3 v4 u) => new_no a since_lt l1 l2 l3 l4 hN
    rw [hN] at cM
    simp only [Option.isSome_none, Option.isSome_some] at cM
    generalize moveCs m = cs at *
    clear hA L hN hAu
    go_enter Try.func3, Try.ntmps3
    go_wp2_with (first
      | (have X' := Q2; refine wpList_load_row rfl 26 (.tmp 2) rfl w.heap.size rfl 26 #[.int .i64 c.W, .int .i64 c.H, .int .i64 c.height, vb, vp, vr, vs, .int .i64 c.unit, .int .i64 c.accel, .int .i64 c.speed, .int .i64 c.turn, .int .i64 c.hoist, .int .i64 c.queue, .int .i64 c.resend, .int .i64 c.budget, .bool c.back] (0, 0) _ Q2.a Try.underlying26 rfl info_conf ?_)
      | (refine wpList_load_row rfl 26 (.tmp 2) rfl w.heap.size rfl 26 #[.int .i64 c.W, .int .i64 c.H, .int .i64 c.height, vb, vp, vr, vs, .int .i64 c.unit, .int .i64 c.accel, .int .i64 c.speed, .int .i64 c.turn, .int .i64 c.hoist, .int .i64 c.queue, .int .i64 c.resend, .int .i64 c.budget, .bool c.back] (0, 0) _ Q0.a Try.underlying26 rfl info_conf ?_)
      | (go_at_call 8; refine (cC _ Q0.below).mono ?_; rintro e w1 ⟨r1, rfl, ⟨v1, v2, v3, v4, rfl, A1⟩, b1⟩; have Q1 := Q0.go b1)
      | (go_at_call 7; refine (cN A1).mono ?_; rintro e w2 ⟨rfl, b2⟩; have Q2 := Q1.go b2)
      | (go_at_call 9; refine (cM _ Q2.below).mono ?_; rintro e w3 ⟨r3, rfl, rfl, b3⟩; have Q3 := Q2.go b3)
      | (go_at_call 10; refine (awake_any _).mono ?_; rintro e w9 ⟨rfl, b9⟩))
    go_ret
    exact ⟨rfl, bcat Q3.below b9 (Nat.le_refl _)⟩
  | some G =>
    have cN := fun {n : Nat} {u : World} {v1 v2 v3 v4 : Value} (a : ConfAt (Since n u) c v1 v2 v3 v4 u) => new_yes a since_lt l1 l2 l3 l4 hN
    rw [hN] at cM
    simp only [Option.isSome_none, Option.isSome_some] at cM
    have hsd := limited_sides (new_some hN).1.1
    have cL := fun (g u0 : Nat) (v' : Value) u (q : GridAt u g u0 c.W c.H G.uses v') => ret_of (legal_any g u0 c.W c.H G.uses v' m u q)
    have cLR := fun u (b : Below w.heap.size w u) => rlegal_old c vb vp vr vs w hA l1 l2 l3 l4 l5 hN m u b
    have cS := fun (g u0 : Nat) (v' : Value) u (q : GridAt u g u0 c.W c.H G.uses v') => swept_both g u0 c.W c.H G.uses v' m (by omega) (by omega) u q
    have cSR := fun u (b : Below w.heap.size w u) => rswept_both c vb vp vr vs u (old_go hA b) l1 l2 l3 l4 l5 hN m (by omega) (by omega)
    have hLs := sweptL_len (W := c.W) (H := c.H) (us := G.uses) (m := m) (by omega) (by omega)
    have hi : (Try.prog.info? 32).map (·.size) = some (moveCs m).size := info_move
    generalize legalU c.W c.H G.uses m = LB at *
    generalize sweptL c.W c.H G.uses m = Ls at *
    generalize moveCs m = cs at *
    obtain ⟨K, hLK⟩ : ∃ K, Ls.length = K := ⟨_, rfl⟩
    rw [hLK] at cS cSR hLs
    have hKs : K ≤ 1000000 := by omega
    clear hA hN hAu hsd
    go_enter Try.func3, Try.ntmps3
    go_wp2_with (first
      | (have X' := Q2; refine wpList_load_row rfl 26 (.tmp 2) rfl w.heap.size rfl 26 #[.int .i64 c.W, .int .i64 c.H, .int .i64 c.height, vb, vp, vr, vs, .int .i64 c.unit, .int .i64 c.accel, .int .i64 c.speed, .int .i64 c.turn, .int .i64 c.hoist, .int .i64 c.queue, .int .i64 c.resend, .int .i64 c.budget, .bool c.back] (0, 0) _ Q2.a Try.underlying26 rfl info_conf ?_)
      | (refine wpList_load_row rfl 26 (.tmp 2) rfl w.heap.size rfl 26 #[.int .i64 c.W, .int .i64 c.H, .int .i64 c.height, vb, vp, vr, vs, .int .i64 c.unit, .int .i64 c.accel, .int .i64 c.speed, .int .i64 c.turn, .int .i64 c.hoist, .int .i64 c.queue, .int .i64 c.resend, .int .i64 c.budget, .bool c.back] (0, 0) _ Q0.a Try.underlying26 rfl info_conf ?_)
      | (go_at_call 8; refine (cC _ Q0.below).mono ?_; rintro e w1 ⟨r1, rfl, ⟨v1, v2, v3, v4, rfl, A1⟩, b1⟩; have Q1 := Q0.go b1)
      | (go_at_call 7; refine (cN A1).mono ?_; rintro e w2 ⟨g, u0, v', rfl, G2, _, _, own2, b2⟩; have Q2 := Q1.go b2)
      | (go_at_call 9; refine (cM _ Q2.below).mono ?_; rintro e w3 ⟨r3, rfl, rfl, b3⟩; have Q3 := Q2.go b3)
      | (go_at_call 10; refine (awake_any _).mono ?_; rintro e w9 ⟨rfl, b9⟩))
    have G3 := G2.go b3
    have eA := Q3.a
    have eB := Q3.b
    have B := Q3.below
    have HF : Hid (∀ u, Below w3.heap.size w3 u → ∀ j z, #[Value.int .i64 c.W, .int .i64 c.H, .int .i64 c.height, vb, vp, vr, vs, .int .i64 c.unit, .int .i64 c.accel, .int .i64 c.speed, .int .i64 c.turn, .int .i64 c.hoist, .int .i64 c.queue, .int .i64 c.resend, .int .i64 c.budget, .bool c.back][j]? = some z → u.cell? ((⟨w.heap.size, 0, none⟩ : Addr).add j) = some z) := fun u hu => row_below eA hu
    have HM : Hid (∀ u, Below w3.heap.size w3 u → ∀ j z, cs[j]? = some z → u.cell? ((⟨w.heap.size + 1, 0, none⟩ : Addr).add j) = some z) := fun u hu => row_below eB hu
    have kL : Hid (∀ u, Below w3.heap.size w3 u → _) := fun u hu => cL g u0 v' u (G3.go hu)
    have kLR : Hid (∀ u, Below w3.heap.size w3 u → _) := fun u hu => cLR u (bcat B hu (Nat.le_refl _))
    have kS : Hid (∀ u, Below w3.heap.size w3 u → _) := fun u hu => cS g u0 v' u (G3.go hu)
    have kSR : Hid (∀ u, Below w3.heap.size w3 u → _) := fun u hu => cSR u (bcat B hu (Nat.le_refl _))
    clear cL cLR cS cSR eA eB G2 G3 Q0 Q1 Q2 Q3 cC cM cN
    have S0 : Below w3.heap.size w3 w3.drew := (Below.refl _ _).drew
    refine start_held (S := fun u => Below w3.heap.size w3 u) 20 rfl (by kernel_rfl) (S0) ?_
    simp only [Array.replicate_succ, Array.replicate_zero, List.push_toArray, List.nil_append, List.cons_append]
    refine take_held 0 S0 rfl (by kernel_rfl) (by kernel_rfl) (by kernel_rfl) (fun _ _ _ h => h) (by kernel_rfl) (v := ?v0) ?y0 ?r0
    case y0 => (intro u hu; go_simp; try rfl)
    simp only [Act.put, List.setIfInBounds_toArray, List.set_cons_zero, List.set_cons_succ]
    refine take_held 1 S0 rfl (by kernel_rfl) (by kernel_rfl) (by kernel_rfl) (fun _ _ _ h => h) (by kernel_rfl) (v := .agg cs) ?y1 ?r1
    case y1 => (intro u hu; exact run_load_op 32 _ rfl ⟨w.heap.size + 1, 0, none⟩ _ rfl (HM.out u hu) (aggMv u) hi)
    simp only [Act.put, List.setIfInBounds_toArray, List.set_cons_zero, List.set_cons_succ]
    refine take_held 3 S0 rfl (by kernel_rfl) (by kernel_rfl) (by kernel_rfl) (fun _ _ _ h => h) (by kernel_rfl) (v := .agg #[.int .i64 c.W, .int .i64 c.H, .int .i64 c.height, vb, vp, vr, vs, .int .i64 c.unit, .int .i64 c.accel, .int .i64 c.speed, .int .i64 c.turn, .int .i64 c.hoist, .int .i64 c.queue, .int .i64 c.resend, .int .i64 c.budget, .bool c.back]) ?y2 ?r2
    case y2 => (intro u hu; exact run_load_op 26 _ rfl ⟨w.heap.size, 0, none⟩ _ rfl (HF.out u hu) (aggCf u) info_conf)
    simp only [Act.put, List.setIfInBounds_toArray, List.set_cons_zero, List.set_cons_succ]
    refine take_held 4 S0 rfl (by kernel_rfl) (by kernel_rfl) (by kernel_rfl) (fun _ _ _ h => h) (by kernel_rfl) (v := .agg cs) ?y3 ?r3
    case y3 => (intro u hu; exact run_load_op 32 _ rfl ⟨w.heap.size + 1, 0, none⟩ _ rfl (HM.out u hu) (aggMv u) hi)
    simp only [Act.put, List.setIfInBounds_toArray, List.set_cons_zero, List.set_cons_succ]
    refine wpAnyH_ready (rs := [2]) (by kernel_rfl) (by simp) (AllReadyH.cons ((nth_eq _ 2).trans rfl) ?_ AllReadyH.nil)
    intro K' hK
    refine call_in hK (by kernel_rfl) 11 #[.pointer (some ⟨g, 0, none⟩), .agg cs] (by go_simp) _ (kL.out _ S0) ?_
    rintro v1 x1 ⟨rfl, b1⟩
    have S1 : Below w3.heap.size w3 x1 := bcat S0 b1 (Nat.le_refl _)
    refine ⟨S1, ?_⟩
    simp only [Act.put, List.setIfInBounds_toArray, List.set_cons_zero, List.set_cons_succ]
    refine wpAnyH_ready (rs := [5]) (by kernel_rfl) (by simp) (AllReadyH.cons ((nth_eq _ 5).trans rfl) ?_ AllReadyH.nil)
    intro K' hK
    refine call_in hK (by kernel_rfl) 12 #[.agg #[.int .i64 c.W, .int .i64 c.H, .int .i64 c.height, vb, vp, vr, vs, .int .i64 c.unit, .int .i64 c.accel, .int .i64 c.speed, .int .i64 c.turn, .int .i64 c.hoist, .int .i64 c.queue, .int .i64 c.resend, .int .i64 c.budget, .bool c.back], .agg cs] (by go_simp) _ (kLR.out _ S1) ?_
    rintro v2 x2 ⟨rfl, b2⟩
    have S2 : Below w3.heap.size w3 x2 := bcat S1 b2 (Nat.le_refl _)
    refine ⟨S2, ?_⟩
    simp only [Act.put, List.setIfInBounds_toArray, List.set_cons_zero, List.set_cons_succ]
    refine take_held 6 S2 rfl (by kernel_rfl) (by kernel_rfl) (by kernel_rfl) (fun _ _ _ h => h) (by kernel_rfl) (v := ?v4) ?y4 ?r4
    case y4 => (intro u hu; go_simp; try rfl)
    simp only [Act.put, List.setIfInBounds_toArray, List.set_cons_zero, List.set_cons_succ]
    refine take_held 7 S2 rfl (by kernel_rfl) (by kernel_rfl) (by kernel_rfl) (fun _ _ _ h => h) (by kernel_rfl) (v := ?v5) ?y5 ?r5
    case y5 => (intro u hu; go_simp; try rfl)
    simp only [Act.put, List.setIfInBounds_toArray, List.set_cons_zero, List.set_cons_succ]
    refine take_held 8 S2 rfl (by kernel_rfl) (by kernel_rfl) (by kernel_rfl) (fun _ _ _ h => h) (by kernel_rfl) (v := ?v6) ?y6 ?r6
    case y6 => (intro u hu; go_simp; try rfl)
    simp only [Act.put, List.setIfInBounds_toArray, List.set_cons_zero, List.set_cons_succ]
    refine take_held 9 S2 rfl (by kernel_rfl) (by kernel_rfl) (by kernel_rfl) (fun _ _ _ h => h) (by kernel_rfl) (v := .agg cs) ?y7 ?r7
    case y7 => (intro u hu; exact run_load_op 32 _ rfl ⟨w.heap.size + 1, 0, none⟩ _ rfl (HM.out u hu) (aggMv u) hi)
    simp only [Act.put, List.setIfInBounds_toArray, List.set_cons_zero, List.set_cons_succ]
    refine take_held 11 S2 rfl (by kernel_rfl) (by kernel_rfl) (by kernel_rfl) (fun _ _ _ h => h) (by kernel_rfl) (v := .agg #[.int .i64 c.W, .int .i64 c.H, .int .i64 c.height, vb, vp, vr, vs, .int .i64 c.unit, .int .i64 c.accel, .int .i64 c.speed, .int .i64 c.turn, .int .i64 c.hoist, .int .i64 c.queue, .int .i64 c.resend, .int .i64 c.budget, .bool c.back]) ?y8 ?r8
    case y8 => (intro u hu; exact run_load_op 26 _ rfl ⟨w.heap.size, 0, none⟩ _ rfl (HF.out u hu) (aggCf u) info_conf)
    simp only [Act.put, List.setIfInBounds_toArray, List.set_cons_zero, List.set_cons_succ]
    refine take_held 12 S2 rfl (by kernel_rfl) (by kernel_rfl) (by kernel_rfl) (fun _ _ _ h => h) (by kernel_rfl) (v := .agg cs) ?y9 ?r9
    case y9 => (intro u hu; exact run_load_op 32 _ rfl ⟨w.heap.size + 1, 0, none⟩ _ rfl (HM.out u hu) (aggMv u) hi)
    simp only [Act.put, List.setIfInBounds_toArray, List.set_cons_zero, List.set_cons_succ]
    refine wpAnyH_ready (rs := [10]) (by kernel_rfl) (by simp) (AllReadyH.cons ((nth_eq _ 10).trans rfl) ?_ AllReadyH.nil)
    intro K' hK
    refine call_in hK (by kernel_rfl) 14 #[.pointer (some ⟨g, 0, none⟩), .agg cs] (by go_simp) _ (kS.out _ S2) ?_
    rintro v3 x3 ⟨own3, b3⟩
    have S3 : Below w3.heap.size w3 x3 := bcat S2 b3 (Nat.le_refl _)
    obtain ⟨a3, cap3, hv3⟩ := own_slice own3
    subst hv3
    refine ⟨S3, ?_⟩
    simp only [Act.put, List.setIfInBounds_toArray, List.set_cons_zero, List.set_cons_succ]
    refine wpAnyH_ready (rs := [13]) (by kernel_rfl) (by simp) (AllReadyH.cons ((nth_eq _ 13).trans rfl) ?_ AllReadyH.nil)
    intro K' hK
    refine call_in hK (by kernel_rfl) 15 #[.agg #[.int .i64 c.W, .int .i64 c.H, .int .i64 c.height, vb, vp, vr, vs, .int .i64 c.unit, .int .i64 c.accel, .int .i64 c.speed, .int .i64 c.turn, .int .i64 c.hoist, .int .i64 c.queue, .int .i64 c.resend, .int .i64 c.budget, .bool c.back], .agg cs] (by go_simp) _ (kSR.out _ S3) ?_
    rintro v4 x4 ⟨own4, b4⟩
    have S4 : Below w3.heap.size w3 x4 := bcat S3 b4 (Nat.le_refl _)
    have own3 := own_go own3 b4
    obtain ⟨a4, cap4, hv4⟩ := own_slice own4
    subst hv4
    refine ⟨S4, ?_⟩
    simp only [Act.put, List.setIfInBounds_toArray, List.set_cons_zero, List.set_cons_succ]
    refine wpAnyH_ready (rs := [14]) (by kernel_rfl) (by simp) (AllReadyH.cons ((nth_eq _ 14).trans rfl) ?_ AllReadyH.nil)
    intro K' hK
    refine call_in hK (by kernel_rfl) 13 #[.slice a3 K cap3, .slice a4 K cap4] (by go_simp) _ (same_lists Ls K hLK hKs _ _ _ _ _ own3 own4) ?_
    rintro v5 x5 ⟨rfl, b5⟩
    have S5 : Below w3.heap.size w3 x5 := bcat S4 b5 (Nat.le_refl _)
    refine ⟨S5, ?_⟩
    simp only [Act.put, List.setIfInBounds_toArray, List.set_cons_zero, List.set_cons_succ]
    refine take_held 15 S5 rfl (by kernel_rfl) (by kernel_rfl) (by kernel_rfl) (fun _ _ _ h => h) (by kernel_rfl) (v := ?v10) ?y10 ?r10
    case y10 => (intro u hu; go_simp; try rfl)
    simp only [Act.put, List.setIfInBounds_toArray, List.set_cons_zero, List.set_cons_succ]
    refine take_held 16 S5 rfl (by kernel_rfl) (by kernel_rfl) (by kernel_rfl) (fun _ _ _ h => h) (by kernel_rfl) (v := ?v11) ?y11 ?r11
    case y11 => (intro u hu; go_simp; try rfl)
    simp only [Act.put, List.setIfInBounds_toArray, List.set_cons_zero, List.set_cons_succ]
    refine wpAnyH_ready (rs := [17]) (by kernel_rfl) (by simp) (AllReadyH.cons ((nth_eq _ 17).trans rfl) ?_ AllReadyH.nil)
    intro K' hK
    refine call_in hK (by kernel_rfl) 10 #[] (by go_simp) _ (awake_call _) ?_
    rintro v6 x6 ⟨rfl, b6⟩
    have S6 : Below w3.heap.size w3 x6 := bcat S5 b6 (Nat.le_refl _)
    refine ⟨S6, ?_⟩
    simp only [Act.put, List.setIfInBounds_toArray, List.set_cons_zero, List.set_cons_succ]
    refine take_held 18 S6 rfl (by kernel_rfl) (by kernel_rfl) (by kernel_rfl) (fun _ _ _ h => h) (by kernel_rfl) (v := ?v12) ?y12 ?r12
    case y12 => (intro u hu; go_simp; try rfl)
    simp only [Act.put, List.setIfInBounds_toArray, List.set_cons_zero, List.set_cons_succ]
    refine take_held 19 S6 rfl (by kernel_rfl) (by kernel_rfl) (by kernel_rfl) (fun _ _ _ h => h) (by kernel_rfl) (v := ?v13) ?y13 ?r13
    case y13 => (intro u hu; go_simp; try rfl)
    simp only [Act.put, List.setIfInBounds_toArray, List.set_cons_zero, List.set_cons_succ]
    refine done_held (by kernel_rfl) ?_ _
    go_wp2_with fail
    go_ret
    exact ⟨rfl, bcat B S6 (Nat.le_refl _)⟩
end Go.Proofs.Ytmaeofkbkpplnaa.Grid
namespace Go.Proofs.Ytmaeofkbkpplnaa.Grid
set_option linter.unusedVariables false
set_option linter.unusedSimpArgs false
open Go Go.RowKit Go.Shelf Go.Proofs

set_option maxRecDepth 100000 in
set_option maxHeartbeats 4000000 in
theorem copyConf_own (F : Nat → Prop) (c : Conf) (vb vp vr vs : Value) (w : World) (hA : ConfAt F c vb vp vr vs w) (hF : ∀ b, F b → b < w.heap.size)
    (hmb : c.blocked.length ≤ 8796093022208) (hmp : c.ports.length ≤ 8796093022208) (hmr : c.robots.length ≤ 5864062014805) (hms : c.stacks.length ≤ 3518437208880) (hbs : ∀ s ∈ c.stacks, s.2.length ≤ 17592186044416) :
    Calls Try.prog 8 #[.agg #[.int .i64 c.W, .int .i64 c.H, .int .i64 c.height, vb, vp, vr, vs, .int .i64 c.unit, .int .i64 c.accel, .int .i64 c.speed, .int .i64 c.turn, .int .i64 c.hoist, .int .i64 c.queue, .int .i64 c.resend, .int .i64 c.budget, .bool c.back]] w fun e w' => ∃ r, e = .returned r ∧ (∃ v1 v2 v3 v4, r = .agg #[.int .i64 c.W, .int .i64 c.H, .int .i64 c.height, v1, v2, v3, v4, .int .i64 c.unit, .int .i64 c.accel, .int .i64 c.speed, .int .i64 c.turn, .int .i64 c.hoist, .int .i64 c.queue, .int .i64 c.resend, .int .i64 c.budget, .bool c.back] ∧ ConfAt (Since w.heap.size w') c v1 v2 v3 v4 w' ∧ w'.ownsRow (w.heap.size + 2) 28 2 v1 c.blocked.length (rowL cellL c.blocked) ∧ w'.ownsRow (w.heap.size + 2) 28 2 v2 c.ports.length (rowL cellL c.ports)) ∧ Below w.heap.size w w' := by
  have Q0 : Two w #[.int .i64 c.W, .int .i64 c.H, .int .i64 c.height, vb, vp, vr, vs, .int .i64 c.unit, .int .i64 c.accel, .int .i64 c.speed, .int .i64 c.turn, .int .i64 c.hoist, .int .i64 c.queue, .int .i64 c.resend, .int .i64 c.budget, .bool c.back] #[.int .i64 0, .int .i64 0, .int .i64 0, .slice none 0 0, .slice none 0 0, .slice none 0 0, .slice none 0 0, .int .i64 0, .int .i64 0, .int .i64 0, .int .i64 0, .int .i64 0, .int .i64 0, .int .i64 0, .int .i64 0, .bool false] 26 ((w.alloc (.cells #[.int .i64 c.W, .int .i64 c.H, .int .i64 c.height, vb, vp, vr, vs, .int .i64 c.unit, .int .i64 c.accel, .int .i64 c.speed, .int .i64 c.turn, .int .i64 c.hoist, .int .i64 c.queue, .int .i64 c.resend, .int .i64 c.budget, .bool c.back] 26)).alloc (.cells #[.int .i64 0, .int .i64 0, .int .i64 0, .slice none 0 0, .slice none 0 0, .slice none 0 0, .slice none 0 0, .int .i64 0, .int .i64 0, .int .i64 0, .int .i64 0, .int .i64 0, .int .i64 0, .int .i64 0, .int .i64 0, .bool false] 26)) := two_new w #[.int .i64 c.W, .int .i64 c.H, .int .i64 c.height, vb, vp, vr, vs, .int .i64 c.unit, .int .i64 c.accel, .int .i64 c.speed, .int .i64 c.turn, .int .i64 c.hoist, .int .i64 c.queue, .int .i64 c.resend, .int .i64 c.budget, .bool c.back] #[.int .i64 0, .int .i64 0, .int .i64 0, .slice none 0 0, .slice none 0 0, .slice none 0 0, .slice none 0 0, .int .i64 0, .int .i64 0, .int .i64 0, .int .i64 0, .int .i64 0, .int .i64 0, .int .i64 0, .int .i64 0, .bool false] 26
  have m0 := cell_of Q0.a 3
  have HBS : Hid (∀ s ∈ c.stacks, s.2.length ≤ 17592186044416) := hbs
  clear hbs
  go_enter Try.func8, Try.ntmps8
  go_wp2_with (first
    | (have X' := R3; go_at_call 34; refine (copyStacks_any F c.stacks vs _ (hA.s.go heldStack hF R3.below) (fun g hg => Nat.lt_of_lt_of_le (hF g hg) R3.below.size) hms HBS.out).mono ?_; rintro e w4 ⟨v4, rfl, own4, b4⟩; have A4 := ap_below (w := w) b4; have P4 := R3.go b4; obtain ⟨a4, k4, hv4, _⟩ := own4.form; subst hv4; have f4 := frozen_of P4.a 6; have d4 := cell_of P4.a 6; have E4 := ap_set (w := w) w4 6 (.slice a4 c.stacks.length k4); have R4 : Two w #[.int .i64 c.W, .int .i64 c.H, .int .i64 c.height, .slice a1 c.blocked.length k1, .slice a2 c.ports.length k2, .slice a3 c.robots.length k3, .slice a4 c.stacks.length k4, .int .i64 c.unit, .int .i64 c.accel, .int .i64 c.speed, .int .i64 c.turn, .int .i64 c.hoist, .int .i64 c.queue, .int .i64 c.resend, .int .i64 c.budget, .bool c.back] #[.int .i64 0, .int .i64 0, .int .i64 0, .slice none 0 0, .slice none 0 0, .slice none 0 0, .slice none 0 0, .int .i64 0, .int .i64 0, .int .i64 0, .int .i64 0, .int .i64 0, .int .i64 0, .int .i64 0, .int .i64 0, .bool false] 26 (w4.setCell ⟨w.heap.size, 6, none⟩ (.slice a4 c.stacks.length k4)) := P4.set 6 _)
    | (have X' := R2; at_builtin; refine wpList_app kindPose rfl _ _ rfl (w.heap.size + 2) (.slice none 0 0) [] rfl (World.ownsRow_nil _ _ _ _) F _ c.robots rfl (hA.r.go heldPose hF R2.below) (by simp; omega) (by unfold maxLen; simp; omega) R2.big ?_; intro v3 w3 own3 g3 at3; rw [List.nil_append] at own3; have A3 := ap_grown (w := w) g3; have P3 := R2.go (below_none g3); obtain ⟨a3, k3, hv3, _⟩ := own_form own3; subst hv3; have f3 := frozen_of P3.a 5; have d3 := cell_of P3.a 5; have E3 := ap_set (w := w) w3 5 (.slice a3 c.robots.length k3); have R3 : Two w #[.int .i64 c.W, .int .i64 c.H, .int .i64 c.height, .slice a1 c.blocked.length k1, .slice a2 c.ports.length k2, .slice a3 c.robots.length k3, vs, .int .i64 c.unit, .int .i64 c.accel, .int .i64 c.speed, .int .i64 c.turn, .int .i64 c.hoist, .int .i64 c.queue, .int .i64 c.resend, .int .i64 c.budget, .bool c.back] #[.int .i64 0, .int .i64 0, .int .i64 0, .slice none 0 0, .slice none 0 0, .slice none 0 0, .slice none 0 0, .int .i64 0, .int .i64 0, .int .i64 0, .int .i64 0, .int .i64 0, .int .i64 0, .int .i64 0, .int .i64 0, .bool false] 26 (w3.setCell ⟨w.heap.size, 5, none⟩ (.slice a3 c.robots.length k3)) := P3.set 5 _; have m3 := cell_of R3.a 6)
    | (have X' := R1; at_builtin; refine wpList_app kindCell rfl _ _ rfl (w.heap.size + 2) (.slice none 0 0) [] rfl (World.ownsRow_nil _ _ _ _) F _ c.ports rfl (hA.p.go heldCell hF R1.below) (by simp; omega) (by unfold maxLen; simp; omega) R1.big ?_; intro v2 w2 own2 g2 at2; rw [List.nil_append] at own2; have A2 := ap_grown (w := w) g2; have P2 := R1.go (below_none g2); obtain ⟨a2, k2, hv2, _⟩ := own_form own2; subst hv2; have f2 := frozen_of P2.a 4; have d2 := cell_of P2.a 4; have E2 := ap_set (w := w) w2 4 (.slice a2 c.ports.length k2); have R2 : Two w #[.int .i64 c.W, .int .i64 c.H, .int .i64 c.height, .slice a1 c.blocked.length k1, .slice a2 c.ports.length k2, vr, vs, .int .i64 c.unit, .int .i64 c.accel, .int .i64 c.speed, .int .i64 c.turn, .int .i64 c.hoist, .int .i64 c.queue, .int .i64 c.resend, .int .i64 c.budget, .bool c.back] #[.int .i64 0, .int .i64 0, .int .i64 0, .slice none 0 0, .slice none 0 0, .slice none 0 0, .slice none 0 0, .int .i64 0, .int .i64 0, .int .i64 0, .int .i64 0, .int .i64 0, .int .i64 0, .int .i64 0, .int .i64 0, .bool false] 26 (w2.setCell ⟨w.heap.size, 4, none⟩ (.slice a2 c.ports.length k2)) := P2.set 4 _; have m2 := cell_of R2.a 5)
    | (have X' := Q0; at_builtin; refine wpList_app kindCell rfl _ _ rfl (w.heap.size + 2) (.slice none 0 0) [] rfl (World.ownsRow_nil _ _ _ _) F _ c.blocked rfl (hA.b.go heldCell hF Q0.below) (by simp; omega) (by unfold maxLen; simp; omega) Q0.big ?_; intro v1 w1 own1 g1 at1; rw [List.nil_append] at own1; have A1 := ap_grown (w := w) g1; have P1 := Q0.go (below_none g1); obtain ⟨a1, k1, hv1, _⟩ := own_form own1; subst hv1; have f1 := frozen_of P1.a 3; have d1 := cell_of P1.a 3; have E1 := ap_set (w := w) w1 3 (.slice a1 c.blocked.length k1); have R1 : Two w #[.int .i64 c.W, .int .i64 c.H, .int .i64 c.height, .slice a1 c.blocked.length k1, vp, vr, vs, .int .i64 c.unit, .int .i64 c.accel, .int .i64 c.speed, .int .i64 c.turn, .int .i64 c.hoist, .int .i64 c.queue, .int .i64 c.resend, .int .i64 c.budget, .bool c.back] #[.int .i64 0, .int .i64 0, .int .i64 0, .slice none 0 0, .slice none 0 0, .slice none 0 0, .slice none 0 0, .int .i64 0, .int .i64 0, .int .i64 0, .int .i64 0, .int .i64 0, .int .i64 0, .int .i64 0, .int .i64 0, .bool false] 26 (w1.setCell ⟨w.heap.size, 3, none⟩ (.slice a1 c.blocked.length k1)) := P1.set 3 _; have m1 := cell_of R1.a 4)
    | (have X' := R4; refine wpList_load_row rfl 26 (.tmp 1) rfl w.heap.size rfl 26 #[.int .i64 c.W, .int .i64 c.H, .int .i64 c.height, .slice a1 c.blocked.length k1, .slice a2 c.ports.length k2, .slice a3 c.robots.length k3, .slice a4 c.stacks.length k4, .int .i64 c.unit, .int .i64 c.accel, .int .i64 c.speed, .int .i64 c.turn, .int .i64 c.hoist, .int .i64 c.queue, .int .i64 c.resend, .int .i64 c.budget, .bool c.back] (0, 0) _ R4.a Try.underlying26 rfl info_conf ?_)
    | (have X' := R4; refine wpList_store_row rfl 26 (.tmp 2) (.tmp 19) rfl (w.heap.size + 1) #[.int .i64 c.W, .int .i64 c.H, .int .i64 c.height, .slice a1 c.blocked.length k1, .slice a2 c.ports.length k2, .slice a3 c.robots.length k3, .slice a4 c.stacks.length k4, .int .i64 c.unit, .int .i64 c.accel, .int .i64 c.speed, .int .i64 c.turn, .int .i64 c.hoist, .int .i64 c.queue, .int .i64 c.resend, .int .i64 c.budget, .bool c.back] rfl rfl 26 #[.int .i64 0, .int .i64 0, .int .i64 0, .slice none 0 0, .slice none 0 0, .slice none 0 0, .slice none 0 0, .int .i64 0, .int .i64 0, .int .i64 0, .int .i64 0, .int .i64 0, .int .i64 0, .int .i64 0, .int .i64 0, .bool false] R4.b info_conf rfl (by simp [Value.oneCell']) ?_))
  have Z1 := E4.trans (ap_row (w := w) (w4.setCell ⟨w.heap.size, 6, none⟩ (.slice a4 c.stacks.length k4)) #[.int .i64 c.W, .int .i64 c.H, .int .i64 c.height, .slice a1 c.blocked.length k1, .slice a2 c.ports.length k2, .slice a3 c.robots.length k3, .slice a4 c.stacks.length k4, .int .i64 c.unit, .int .i64 c.accel, .int .i64 c.speed, .int .i64 c.turn, .int .i64 c.hoist, .int .i64 c.queue, .int .i64 c.resend, .int .i64 c.budget, .bool c.back])
  have Z2 := A4.trans Z1
  have Z3 := A3.trans (E3.trans Z2)
  have Z4 := A2.trans (E2.trans Z3)
  have sz := R3.big
  exact bodyPost_ret (results_cell_row rfl _ _ (w.heap.size + 1) 26 _ (0, 0) _ rfl (setRow_heap _ _ _ _ _ _ R4.b) Try.underlying26 rfl info_conf) rfl ⟨_, rfl, ⟨_, _, _, _, rfl,
    ⟨(list_of_own kindCell.len (owns_ap own1 (E1.trans Z4))).mono heldCell since_less, (list_of_own kindCell.len (owns_ap own2 (E2.trans Z3))).mono heldCell since_less, (list_of_own kindPose.len (owns_ap own3 (E3.trans Z2))).mono heldPose since_less,
    (own4.stable heldStack fun g hg => Z1.2 g (by have := hg.1; omega) hg.2).mono heldStack fun g hg => ⟨by have := hg.1; omega, by have := hg.2; have := Z1.1; omega⟩⟩, owns_ap own1 (E1.trans Z4), owns_ap own2 (E2.trans Z3)⟩, below_row R4.below (by omega) _⟩
end Go.Proofs.Ytmaeofkbkpplnaa.Grid
namespace Go.Proofs.Ytmaeofkbkpplnaa.Grid
set_option linter.unusedVariables false
set_option linter.unusedSimpArgs false
open Go Go.RowKit Go.Shelf Go.Proofs
attribute [local go_sem] Oper.semAt_some

/- A list of cells that may be written, in a block apart from the others. -/
def Rw (w : World) (D g u0 : Nat) (a : Option Addr) (n : Nat) (u : World) : Prop := n = 0 ∨ ∃ gb cur, a = some ⟨gb, 0, none⟩ ∧ w.heap.size + 2 ≤ gb ∧ gb ≠ D ∧ gb ≠ g ∧ gb ≠ u0 ∧ u.heap[gb]? = some (.cells cur 28 (0, 0)) ∧ n * 2 ≤ cur.size
theorem Rw.set {w : World} {D g u0 : Nat} {a : Option Addr} {n : Nat} {u : World} (h : Rw w D g u0 a n u) (B j : Nat) (x : Value) : Rw w D g u0 a n (u.setCell ⟨B, j, none⟩ x) := by
  rcases h with h | ⟨gb, cur, h1, h2, h3, h4, h5, h6, h7⟩
  · exact Or.inl h
  · by_cases e : gb = B
    · subst e
      exact Or.inr ⟨gb, _, h1, h2, h3, h4, h5, heap_setCell_same _ _ _ _ _ _ h6, by simpa using h7⟩
    · exact Or.inr ⟨gb, cur, h1, h2, h3, h4, h5, (heap_setCell_other _ _ _ _ (by simp only; exact e)).trans h6, h7⟩
theorem Rw.later {w : World} {D g u0 : Nat} {a : Option Addr} {n : Nat} {u u' : World} (h : Rw w D g u0 a n u) (b : Below u.heap.size u u') : Rw w D g u0 a n u' := by
  rcases h with h | ⟨gb, cur, h1, h2, h3, h4, h5, h6, h7⟩
  · exact Or.inl h
  · exact Or.inr ⟨gb, cur, h1, h2, h3, h4, h5, (b.block _ (lt_of_heap h6)).trans h6, h7⟩
structure Gs (w : World) (cf ms : Array Value) (D : Nat) (ds : Array Value) (g u0 : Nat) (W H : Int) (us : List Int) (vp : Value) (a1 : Option Addr) (n1 : Nat) (a2 : Option Addr) (n2 : Nat) (u : World) : Prop where
  below : Below w.heap.size w u
  a : u.heap[w.heap.size]? = some (.cells cf 26 (0, 0))
  b : u.heap[w.heap.size + 1]? = some (.cells ms 32 (0, 0))
  d : u.heap[D]? = some (.cells ds 26 (0, 0))
  gr : GridAt u g u0 W H us vp
  r1 : Rw w D g u0 a1 n1 u
  r2 : Rw w D g u0 a2 n2 u
section
variable {w : World} {cf ms : Array Value} {D : Nat} {ds : Array Value} {g u0 : Nat} {W H : Int} {us : List Int} {vp : Value} {a1 : Option Addr} {n1 : Nat} {a2 : Option Addr} {n2 : Nat} {u u' : World}
theorem Gs.later (h : Gs w cf ms D ds g u0 W H us vp a1 n1 a2 n2 u) (b : Below u.heap.size u u') : Gs w cf ms D ds g u0 W H us vp a1 n1 a2 n2 u' :=
  ⟨bcat h.below b (Nat.le_refl _), (b.block _ (lt_of_heap h.a)).trans h.a, (b.block _ (lt_of_heap h.b)).trans h.b, (b.block _ (lt_of_heap h.d)).trans h.d, h.gr.go b, h.r1.later b, h.r2.later b⟩
theorem Gs.set (h : Gs w cf ms D ds g u0 W H us vp a1 n1 a2 n2 u) (gb : Nat) (h2 : w.heap.size + 2 ≤ gb) (h3 : gb ≠ D) (h4 : gb ≠ g) (h5 : gb ≠ u0) (j : Nat) (x : Value) : Gs w cf ms D ds g u0 W H us vp a1 n1 a2 n2 (u.setCell ⟨gb, j, none⟩ x) := by
  have ne : ∀ k, k ≠ gb → (u.setCell ⟨gb, j, none⟩ x).heap[k]? = u.heap[k]? := fun k hk => heap_setCell_other _ _ _ _ (by simp only; exact hk)
  exact ⟨below_set h.below (by omega) _ _, (ne _ (by omega)).trans h.a, (ne _ (by omega)).trans h.b, (ne _ (by omega)).trans h.d, h.gr.same (ne _ (by omega)) (ne _ (by omega)), h.r1.set _ _ _, h.r2.set _ _ _⟩
theorem there_of {gb : Nat} {cur : Array Value} {t : TypeId} (h : u.heap[gb]? = some (.cells cur t (0, 0))) (o n : Nat) (ho : o + n ≤ cur.size) : u.there gb o n := fun j hj => ⟨by rw [cell_of h, Array.getElem?_eq_getElem (by omega)]; rfl, frozen_of h _⟩
theorem Gs.o1 (h : Gs w cf ms D ds g u0 W H us vp a1 n1 a2 n2 u) (k : Nat) (hk : k < n1) : ∃ gb, a1 = some ⟨gb, 0, none⟩ ∧ u.there gb (k * 2) 2 ∧ ∀ x y, Gs w cf ms D ds g u0 W H us vp a1 n1 a2 n2 (u.setCells gb (k * 2) [x, y]) := by
  rcases h.r1 with e | ⟨gb, cur, h1, h2, h3, h4, h5, h6, h7⟩
  · omega
  · exact ⟨gb, h1, there_of h6 _ _ (by omega), fun x y => (h.set gb h2 h3 h4 h5 _ x).set gb h2 h3 h4 h5 _ y⟩
theorem Gs.o2 (h : Gs w cf ms D ds g u0 W H us vp a1 n1 a2 n2 u) (k : Nat) (hk : k < n2) : ∃ gb, a2 = some ⟨gb, 0, none⟩ ∧ u.there gb (k * 2) 2 ∧ ∀ x y, Gs w cf ms D ds g u0 W H us vp a1 n1 a2 n2 (u.setCells gb (k * 2) [x, y]) := by
  rcases h.r2 with e | ⟨gb, cur, h1, h2, h3, h4, h5, h6, h7⟩
  · omega
  · exact ⟨gb, h1, there_of h6 _ _ (by omega), fun x y => (h.set gb h2 h3 h4 h5 _ x).set gb h2 h3 h4 h5 _ y⟩
theorem rw_of {a : Option Addr} {n cap B : Nat} {xs : List Value} (h : u.ownsRow B 28 2 (.slice a n cap) n xs) (h2 : w.heap.size + 2 ≤ B) (h3 : ∀ k, B ≤ k → k < u'.heap.size → k ≠ D ∧ k ≠ g ∧ k ≠ u0) (hu : ∀ k, B ≤ k → k < u.heap.size → k < u'.heap.size) : Rw w D g u0 a n u := by
  rcases h.2 with ⟨hv, h0⟩ | ⟨gb, cap', cur, hv, hb, hg, hn, _, hs, _⟩
  · exact Or.inl h0
  · cases hv
    have := h3 gb hb (hu gb hb (lt_of_heap hg))
    exact Or.inr ⟨gb, cur, rfl, by omega, this.1, this.2.1, this.2.2, hg, by rw [hs]; omega⟩
theorem Gs.told {K B gq cap : Nat} {a3 : Option Addr} {xs : List Value} {row : Array Value} (h : Gs w cf ms D ds g u0 W H us vp a1 n1 a2 n2 u) (own : u.ownsRow B 28 2 (.slice a3 K cap) K xs) (hq : u.heap[gq]? = some (.cells row 28 (0, 0))) (hgq : B ≤ gq) (hB : w.heap.size + 2 ≤ B) (hg : g < B) (hu : u0 < B) (hD : D < B) (hr : 4 ≤ row.size) : Gs w cf ms D ds g u0 W H us vp a3 K (some ⟨gq, 0, none⟩) 2 u := by
  refine ⟨h.below, h.a, h.b, h.d, h.gr, ?_, Or.inr ⟨gq, row, rfl, by omega, by omega, by omega, by omega, hq, by omega⟩⟩
  rcases own.2 with ⟨hv, h0⟩ | ⟨gb, cap', cur, hv, hb, hg', hn, _, hs, _⟩
  · exact Or.inl h0
  · cases hv
    exact Or.inr ⟨gb, cur, rfl, by omega, by omega, by omega, by omega, hg', by rw [hs]; omega⟩
end
theorem same_two {u : World} {g6 g7 : Nat} {x y x2 y2 : Int} (h6 : u.heap[g6]? = some (.cells #[.int .i64 x, .int .i64 y, .int .i64 x2, .int .i64 y2] 28 (0, 0))) (h7 : u.heap[g7]? = some (.cells #[.int .i64 x, .int .i64 y, .int .i64 x2, .int .i64 y2] 28 (0, 0))) :
    Calls Try.prog 13 #[.slice (some ⟨g6, 0, none⟩) 2 2, .slice (some ⟨g7, 0, none⟩) 2 2] u fun e w' => ∃ r, e = .returned r ∧ (r = .bool true ∧ Below u.heap.size u w') := by
  have := sameCells_any _ _ [(x, y), (x2, y2)] [(x, y), (x2, y2)] _ _ u (list_two h6) (list_two h7) (fun b e => by rw [e]; exact lt_of_heap h6) (fun b e => by rw [e]; exact lt_of_heap h7) (by simp) (by simp)
  rwa [decide_eq_true rfl] at this
theorem conf_one {F : Nat → Prop} {c : Conf} {v1 v2 v3 v4 : Value} {u : World} (h : ConfAt F c v1 v2 v3 v4 u) : ((#[.int .i64 c.W, .int .i64 c.H, .int .i64 c.height, v1, v2, v3, v4, .int .i64 c.unit, .int .i64 c.accel, .int .i64 c.speed, .int .i64 c.turn, .int .i64 c.hoist, .int .i64 c.queue, .int .i64 c.resend, .int .i64 c.budget, .bool c.back] : Array Value).all fun x => x.oneCell') = true := by
  obtain ⟨_, _, e1, _⟩ := h.b.form
  obtain ⟨_, _, e2, _⟩ := h.p.form
  obtain ⟨_, _, e3, _⟩ := h.r.form
  obtain ⟨_, _, e4, _⟩ := h.s.form
  subst e1 e2 e3 e4
  simp [Value.oneCell']
set_option maxRecDepth 100000 in
set_option maxHeartbeats 8000000 in
theorem own_all_law (c : Conf) (vb vp vr vs : Value) (w : World) (hA : ConfAt (Old w) c vb vp vr vs w) (l1 : c.blocked.length ≤ 8796093022208) (l2 : c.ports.length ≤ 8796093022208) (l3 : c.robots.length ≤ 5864062014805) (l4 : c.stacks.length ≤ 3518437208880) (l5 : ∀ s ∈ c.stacks, s.2.length ≤ 17592186044416) (m : Move) : Calls Try.prog 5 #[.agg #[.int .i64 c.W, .int .i64 c.H, .int .i64 c.height, vb, vp, vr, vs, .int .i64 c.unit, .int .i64 c.accel, .int .i64 c.speed, .int .i64 c.turn, .int .i64 c.hoist, .int .i64 c.queue, .int .i64 c.resend, .int .i64 c.budget, .bool c.back], .agg (moveCs m)] w fun e w' => e = .returned (.bool true) ∧ Below w.heap.size w w' := by
  have L := fun (u : World) (b : Below w.heap.size w u) g (hg : Old w g) => Nat.lt_of_lt_of_le hg b.size
  have hAu := fun u (b : Below w.heap.size w u) => hA.go (fun _ h => h) b
  have cC := fun u (b : Below w.heap.size w u) => copyConf_own (Old w) c vb vp vr vs u (hAu u b) (L u b) l1 l2 l3 l4 l5
  have cM := fun u (b : Below w.heap.size w u) => mayR_call (F := Old w) (hAu u b) (L u b) l1 l2 l3 l4 l5
  have Q0 := two_new w #[.int .i64 c.W, .int .i64 c.H, .int .i64 c.height, vb, vp, vr, vs, .int .i64 c.unit, .int .i64 c.accel, .int .i64 c.speed, .int .i64 c.turn, .int .i64 c.hoist, .int .i64 c.queue, .int .i64 c.resend, .int .i64 c.budget, .bool c.back] (moveCs m) 32
  cases hN : newP c with
  | none =>
    have cN := fun {n : Nat} {u1 u : World} {v1 v2 v3 v4 : Value} (a : ConfAt (Since n u1) c v1 v2 v3 v4 u) (hle : u1.heap.size ≤ u.heap.size) => new_no a (fun b h => Nat.lt_of_lt_of_le h.2 hle) l1 l2 l3 l4 hN
    rw [hN] at cM
    simp only [Option.isSome_none, Option.isSome_some] at cM
    generalize moveCs m = cs at *
    clear hA L hN hAu
    go_enter Try.func5, Try.ntmps5
    go_wp2_with (first
      | (have X' := Q2; refine wpList_load_row rfl 26 (.tmp 2) rfl w.heap.size rfl 26 #[.int .i64 c.W, .int .i64 c.H, .int .i64 c.height, vb, vp, vr, vs, .int .i64 c.unit, .int .i64 c.accel, .int .i64 c.speed, .int .i64 c.turn, .int .i64 c.hoist, .int .i64 c.queue, .int .i64 c.resend, .int .i64 c.budget, .bool c.back] (0, 0) _ Q2.a Try.underlying26 rfl info_conf ?_)
      | (have X' := hD; refine wpList_load_row rfl 26 (.tmp 5) rfl w1.heap.size rfl 26 #[.int .i64 c.W, .int .i64 c.H, .int .i64 c.height, v1, v2, v3, v4, .int .i64 c.unit, .int .i64 c.accel, .int .i64 c.speed, .int .i64 c.turn, .int .i64 c.hoist, .int .i64 c.queue, .int .i64 c.resend, .int .i64 c.budget, .bool c.back] (0, 0) _ hD Try.underlying26 rfl info_conf ?_)
      | (refine wpList_load_row rfl 26 (.tmp 2) rfl w.heap.size rfl 26 #[.int .i64 c.W, .int .i64 c.H, .int .i64 c.height, vb, vp, vr, vs, .int .i64 c.unit, .int .i64 c.accel, .int .i64 c.speed, .int .i64 c.turn, .int .i64 c.hoist, .int .i64 c.queue, .int .i64 c.resend, .int .i64 c.budget, .bool c.back] (0, 0) _ Q0.a Try.underlying26 rfl info_conf ?_)
      | (go_at_call 8; refine (cC _ Q0.below).mono ?_; rintro e w1 ⟨r1, rfl, ⟨v1, v2, v3, v4, rfl, A1, P1, P2⟩, b1⟩; have Q1 := Q0.go b1; have bA : Below w1.heap.size w1 ((w1.alloc (.cells #[.int .i64 0, .int .i64 0, .int .i64 0, .slice none 0 0, .slice none 0 0, .slice none 0 0, .slice none 0 0, .int .i64 0, .int .i64 0, .int .i64 0, .int .i64 0, .int .i64 0, .int .i64 0, .int .i64 0, .int .i64 0, .bool false] 26)).setRow w1.heap.size #[.int .i64 c.W, .int .i64 c.H, .int .i64 c.height, v1, v2, v3, v4, .int .i64 c.unit, .int .i64 c.accel, .int .i64 c.speed, .int .i64 c.turn, .int .i64 c.hoist, .int .i64 c.queue, .int .i64 c.resend, .int .i64 c.budget, .bool c.back]) := below_row ((Below.refl _ _).alloc (Nat.le_refl _) _) (Nat.le_refl _) _; have hone : (#[.int .i64 c.W, .int .i64 c.H, .int .i64 c.height, v1, v2, v3, v4, .int .i64 c.unit, .int .i64 c.accel, .int .i64 c.speed, .int .i64 c.turn, .int .i64 c.hoist, .int .i64 c.queue, .int .i64 c.resend, .int .i64 c.budget, .bool c.back].all fun x => x.oneCell') = true := conf_one A1; have hCopied := bA)
      | (have X' := hCopied; refine wpList_store_row rfl 26 (.tmp 5) (.tmp 15) rfl w1.heap.size #[.int .i64 c.W, .int .i64 c.H, .int .i64 c.height, v1, v2, v3, v4, .int .i64 c.unit, .int .i64 c.accel, .int .i64 c.speed, .int .i64 c.turn, .int .i64 c.hoist, .int .i64 c.queue, .int .i64 c.resend, .int .i64 c.budget, .bool c.back] rfl rfl 26 #[.int .i64 0, .int .i64 0, .int .i64 0, .slice none 0 0, .slice none 0 0, .slice none 0 0, .slice none 0 0, .int .i64 0, .int .i64 0, .int .i64 0, .int .i64 0, .int .i64 0, .int .i64 0, .int .i64 0, .int .i64 0, .bool false] (heap_alloc_new w1 _) info_conf rfl hone ?_; have hD : ((w1.alloc (.cells #[.int .i64 0, .int .i64 0, .int .i64 0, .slice none 0 0, .slice none 0 0, .slice none 0 0, .slice none 0 0, .int .i64 0, .int .i64 0, .int .i64 0, .int .i64 0, .int .i64 0, .int .i64 0, .int .i64 0, .int .i64 0, .bool false] 26)).setRow w1.heap.size #[.int .i64 c.W, .int .i64 c.H, .int .i64 c.height, v1, v2, v3, v4, .int .i64 c.unit, .int .i64 c.accel, .int .i64 c.speed, .int .i64 c.turn, .int .i64 c.hoist, .int .i64 c.queue, .int .i64 c.resend, .int .i64 c.budget, .bool c.back]).heap[w1.heap.size]? = some (.cells #[.int .i64 c.W, .int .i64 c.H, .int .i64 c.height, v1, v2, v3, v4, .int .i64 c.unit, .int .i64 c.accel, .int .i64 c.speed, .int .i64 c.turn, .int .i64 c.hoist, .int .i64 c.queue, .int .i64 c.resend, .int .i64 c.budget, .bool c.back] 26 (0, 0)) := setRow_heap _ _ _ _ _ _ (heap_alloc_new w1 _); have A2 := A1.go since_lt bA; have R1 := Q1.go bA)
      | (have X' := A2; go_at_call 7; refine (cN A2 bA.size).mono ?_; rintro e w2 ⟨rfl, b2⟩; have Q2 := R1.go b2)
      | (go_at_call 9; refine (cM _ Q2.below).mono ?_; rintro e w3 ⟨r3, rfl, rfl, b3⟩; have Q3 := Q2.go b3)
      | (go_at_call 10; refine (awake_any _).mono ?_; rintro e w9 ⟨rfl, b9⟩))
    go_ret
    exact ⟨rfl, bcat Q3.below b9 (Nat.le_refl _)⟩
  | some G =>
    have cN := fun {n : Nat} {u1 u : World} {v1 v2 v3 v4 : Value} (a : ConfAt (Since n u1) c v1 v2 v3 v4 u) (hle : u1.heap.size ≤ u.heap.size) => new_yes a (fun b h => Nat.lt_of_lt_of_le h.2 hle) l1 l2 l3 l4 hN
    rw [hN] at cM
    simp only [Option.isSome_none, Option.isSome_some] at cM
    have hsd := limited_sides (new_some hN).1.1
    have cL : Hid _ := fun (g u0 : Nat) (v' : Value) u (q : GridAt u g u0 c.W c.H G.uses v') => ret_of (legal_any g u0 c.W c.H G.uses v' m u q)
    have cLR : Hid _ := fun u (b : Below w.heap.size w u) => rlegal_old c vb vp vr vs w hA l1 l2 l3 l4 l5 hN m u b
    have cS : Hid _ := fun (g u0 : Nat) (v' : Value) u (q : GridAt u g u0 c.W c.H G.uses v') => swept_both g u0 c.W c.H G.uses v' m (by omega) (by omega) u q
    have cSR : Hid _ := fun u (b : Below w.heap.size w u) => rswept_both c vb vp vr vs u (old_go hA b) l1 l2 l3 l4 l5 hN m (by omega) (by omega)
    have hLs := sweptL_len (W := c.W) (H := c.H) (us := G.uses) (m := m) (by omega) (by omega)
    have hi : (Try.prog.info? 32).map (·.size) = some (moveCs m).size := info_move
    obtain ⟨kd, dir, n, ⟨⟨fx, fy⟩, fd⟩, to, ma, me⟩ := m
    have k3 : Hid ((moveCs (kd, dir, n, ((fx, fy), fd), to, ma, me))[3]? = some (.int .i64 fx)) := rfl
    have k4 : Hid ((moveCs (kd, dir, n, ((fx, fy), fd), to, ma, me))[4]? = some (.int .i64 fy)) := rfl
    have k5 : Hid ((moveCs (kd, dir, n, ((fx, fy), fd), to, ma, me))[5]? = some (.bool fd)) := rfl
    have cG : Hid _ := fun {gp : Value} u => cellsG_any gp fx fy fd u
    have cR : Hid _ := fun u => cellsR_any fx fy fd u
    generalize legalU c.W c.H G.uses (kd, dir, n, ((fx, fy), fd), to, ma, me) = LB at *
    generalize sweptL c.W c.H G.uses (kd, dir, n, ((fx, fy), fd), to, ma, me) = Ls at *
    generalize moveCs (kd, dir, n, ((fx, fy), fd), to, ma, me) = cs at *
    generalize G.uses = US at *
    generalize second ((fx, fy), fd) = s2 at *
    obtain ⟨x2, y2⟩ := s2
    obtain ⟨K, hLK⟩ : ∃ K, Ls.length = K := ⟨_, rfl⟩
    rw [hLK] at cS cSR hLs
    have hKs : K ≤ 1000000 := by omega
    clear hA hN hAu hsd
    go_enter Try.func5, Try.ntmps5
    go_upto_region 5 with (first
      | (have X' := Q2; refine wpList_load_row rfl 26 (.tmp 2) rfl w.heap.size rfl 26 #[.int .i64 c.W, .int .i64 c.H, .int .i64 c.height, vb, vp, vr, vs, .int .i64 c.unit, .int .i64 c.accel, .int .i64 c.speed, .int .i64 c.turn, .int .i64 c.hoist, .int .i64 c.queue, .int .i64 c.resend, .int .i64 c.budget, .bool c.back] (0, 0) _ Q2.a Try.underlying26 rfl info_conf ?_)
      | (have X' := hD; refine wpList_load_row rfl 26 (.tmp 5) rfl w1.heap.size rfl 26 #[.int .i64 c.W, .int .i64 c.H, .int .i64 c.height, v1, v2, v3, v4, .int .i64 c.unit, .int .i64 c.accel, .int .i64 c.speed, .int .i64 c.turn, .int .i64 c.hoist, .int .i64 c.queue, .int .i64 c.resend, .int .i64 c.budget, .bool c.back] (0, 0) _ hD Try.underlying26 rfl info_conf ?_)
      | (refine wpList_load_row rfl 26 (.tmp 2) rfl w.heap.size rfl 26 #[.int .i64 c.W, .int .i64 c.H, .int .i64 c.height, vb, vp, vr, vs, .int .i64 c.unit, .int .i64 c.accel, .int .i64 c.speed, .int .i64 c.turn, .int .i64 c.hoist, .int .i64 c.queue, .int .i64 c.resend, .int .i64 c.budget, .bool c.back] (0, 0) _ Q0.a Try.underlying26 rfl info_conf ?_)
      | (go_at_call 8; refine (cC _ Q0.below).mono ?_; rintro e w1 ⟨r1, rfl, ⟨v1, v2, v3, v4, rfl, A1, P1, P2⟩, b1⟩; have Q1 := Q0.go b1; have bA : Below w1.heap.size w1 ((w1.alloc (.cells #[.int .i64 0, .int .i64 0, .int .i64 0, .slice none 0 0, .slice none 0 0, .slice none 0 0, .slice none 0 0, .int .i64 0, .int .i64 0, .int .i64 0, .int .i64 0, .int .i64 0, .int .i64 0, .int .i64 0, .int .i64 0, .bool false] 26)).setRow w1.heap.size #[.int .i64 c.W, .int .i64 c.H, .int .i64 c.height, v1, v2, v3, v4, .int .i64 c.unit, .int .i64 c.accel, .int .i64 c.speed, .int .i64 c.turn, .int .i64 c.hoist, .int .i64 c.queue, .int .i64 c.resend, .int .i64 c.budget, .bool c.back]) := below_row ((Below.refl _ _).alloc (Nat.le_refl _) _) (Nat.le_refl _) _; have hone : (#[.int .i64 c.W, .int .i64 c.H, .int .i64 c.height, v1, v2, v3, v4, .int .i64 c.unit, .int .i64 c.accel, .int .i64 c.speed, .int .i64 c.turn, .int .i64 c.hoist, .int .i64 c.queue, .int .i64 c.resend, .int .i64 c.budget, .bool c.back].all fun x => x.oneCell') = true := conf_one A1; have hCopied := bA)
      | (have X' := hCopied; refine wpList_store_row rfl 26 (.tmp 5) (.tmp 15) rfl w1.heap.size #[.int .i64 c.W, .int .i64 c.H, .int .i64 c.height, v1, v2, v3, v4, .int .i64 c.unit, .int .i64 c.accel, .int .i64 c.speed, .int .i64 c.turn, .int .i64 c.hoist, .int .i64 c.queue, .int .i64 c.resend, .int .i64 c.budget, .bool c.back] rfl rfl 26 #[.int .i64 0, .int .i64 0, .int .i64 0, .slice none 0 0, .slice none 0 0, .slice none 0 0, .slice none 0 0, .int .i64 0, .int .i64 0, .int .i64 0, .int .i64 0, .int .i64 0, .int .i64 0, .int .i64 0, .int .i64 0, .bool false] (heap_alloc_new w1 _) info_conf rfl hone ?_; have hD : ((w1.alloc (.cells #[.int .i64 0, .int .i64 0, .int .i64 0, .slice none 0 0, .slice none 0 0, .slice none 0 0, .slice none 0 0, .int .i64 0, .int .i64 0, .int .i64 0, .int .i64 0, .int .i64 0, .int .i64 0, .int .i64 0, .int .i64 0, .bool false] 26)).setRow w1.heap.size #[.int .i64 c.W, .int .i64 c.H, .int .i64 c.height, v1, v2, v3, v4, .int .i64 c.unit, .int .i64 c.accel, .int .i64 c.speed, .int .i64 c.turn, .int .i64 c.hoist, .int .i64 c.queue, .int .i64 c.resend, .int .i64 c.budget, .bool c.back]).heap[w1.heap.size]? = some (.cells #[.int .i64 c.W, .int .i64 c.H, .int .i64 c.height, v1, v2, v3, v4, .int .i64 c.unit, .int .i64 c.accel, .int .i64 c.speed, .int .i64 c.turn, .int .i64 c.hoist, .int .i64 c.queue, .int .i64 c.resend, .int .i64 c.budget, .bool c.back] 26 (0, 0)) := setRow_heap _ _ _ _ _ _ (heap_alloc_new w1 _); have A2 := A1.go since_lt bA; have R1 := Q1.go bA)
      | (have X' := A2; go_at_call 7; refine (cN A2 bA.size).mono ?_; rintro e w2 ⟨g, u0, v', rfl, G2, hg0, hu0, own2, b2⟩; have Q2 := R1.go b2)
      | (go_at_call 9; refine (cM _ Q2.below).mono ?_; rintro e w3 ⟨r3, rfl, rfl, b3⟩; have Q3 := Q2.go b3)
      | (go_at_call 10; refine (awake_any _).mono ?_; rintro e w9 ⟨rfl, b9⟩))
    obtain ⟨a1, c1, hv1⟩ := own_slice P1
    obtain ⟨a2, c2, hv2⟩ := own_slice P2
    subst hv1 hv2
    have hw1 := bA.size
    have hszA : ((w1.alloc (.cells #[.int .i64 0, .int .i64 0, .int .i64 0, .slice none 0 0, .slice none 0 0, .slice none 0 0, .slice none 0 0, .int .i64 0, .int .i64 0, .int .i64 0, .int .i64 0, .int .i64 0, .int .i64 0, .int .i64 0, .int .i64 0, .bool false] 26)).setRow w1.heap.size #[.int .i64 c.W, .int .i64 c.H, .int .i64 c.height, .slice a1 c.blocked.length c1, .slice a2 c.ports.length c2, v3, v4, .int .i64 c.unit, .int .i64 c.accel, .int .i64 c.speed, .int .i64 c.turn, .int .i64 c.hoist, .int .i64 c.queue, .int .i64 c.resend, .int .i64 c.budget, .bool c.back]).heap.size = w1.heap.size + 1 := by rw [setRow_size]; simp
    have hgD : w1.heap.size < g ∧ w1.heap.size < u0 := by omega
    have hbig := lt_of_heap Q1.b
    have HG0 : Gs w #[.int .i64 c.W, .int .i64 c.H, .int .i64 c.height, vb, vp, vr, vs, .int .i64 c.unit, .int .i64 c.accel, .int .i64 c.speed, .int .i64 c.turn, .int .i64 c.hoist, .int .i64 c.queue, .int .i64 c.resend, .int .i64 c.budget, .bool c.back] cs w1.heap.size #[.int .i64 c.W, .int .i64 c.H, .int .i64 c.height, .slice a1 c.blocked.length c1, .slice a2 c.ports.length c2, v3, v4, .int .i64 c.unit, .int .i64 c.accel, .int .i64 c.speed, .int .i64 c.turn, .int .i64 c.hoist, .int .i64 c.queue, .int .i64 c.resend, .int .i64 c.budget, .bool c.back] g u0 c.W c.H US v' a1 c.blocked.length a2 c.ports.length w2 := by
      refine ⟨Q2.below, Q2.a, Q2.b, (b2.block _ (lt_of_heap hD)).trans hD, G2, ?_, ?_⟩
      · exact (rw_of (u' := w1) (B := w.heap.size + 2) (own_lower P1 (by simp only [World.size_alloc]; omega)) (Nat.le_refl _) (fun k h1 h2 => by omega) (fun k _ h => h)).later (bcat bA b2 (Nat.le_refl _))
      · exact (rw_of (u' := w1) (B := w.heap.size + 2) (own_lower P2 (by simp only [World.size_alloc]; omega)) (Nat.le_refl _) (fun k h1 h2 => by omega) (fun k _ h => h)).later (bcat bA b2 (Nat.le_refl _))
    generalize hnb : c.blocked.length = nb at *
    generalize hnp : c.ports.length = np at *
    clear hnb hnp cC cM cN Q0 Q1 Q2 R1 A1 A2 P1 P2 hone hCopied bA b2 hD G2 own2 hszA hw1
    have HG : Hid (Gs w #[.int .i64 c.W, .int .i64 c.H, .int .i64 c.height, vb, vp, vr, vs, .int .i64 c.unit, .int .i64 c.accel, .int .i64 c.speed, .int .i64 c.turn, .int .i64 c.hoist, .int .i64 c.queue, .int .i64 c.resend, .int .i64 c.budget, .bool c.back] cs w1.heap.size #[.int .i64 c.W, .int .i64 c.H, .int .i64 c.height, .slice a1 nb c1, .slice a2 np c2, v3, v4, .int .i64 c.unit, .int .i64 c.accel, .int .i64 c.speed, .int .i64 c.turn, .int .i64 c.hoist, .int .i64 c.queue, .int .i64 c.resend, .int .i64 c.budget, .bool c.back] g u0 c.W c.H US v' a1 nb a2 np w2) := HG0
    clear HG0
    have y1 := (cell_of HG.out.d 3).trans (show _ = some (Value.slice a1 nb c1) from rfl)
    go_wp2_with fail
    go_loopw [8] (fun i wr => ∃ k : Nat, k ≤ nb ∧ i = .int .i64 k ∧ Hid (Gs w #[.int .i64 c.W, .int .i64 c.H, .int .i64 c.height, vb, vp, vr, vs, .int .i64 c.unit, .int .i64 c.accel, .int .i64 c.speed, .int .i64 c.turn, .int .i64 c.hoist, .int .i64 c.queue, .int .i64 c.resend, .int .i64 c.budget, .bool c.back] cs w1.heap.size #[.int .i64 c.W, .int .i64 c.H, .int .i64 c.height, .slice a1 nb c1, .slice a2 np c2, v3, v4, .int .i64 c.unit, .int .i64 c.accel, .int .i64 c.speed, .int .i64 c.turn, .int .i64 c.hoist, .int .i64 c.queue, .int .i64 c.resend, .int .i64 c.budget, .bool c.back] g u0 c.W c.H US v' a1 nb a2 np wr)) (fun i _ => nb - (intOf i).toNat)
    case atStart => exact ⟨0, Nat.zero_le _, rfl, HG⟩
    case round =>
      clear HG
      obtain ⟨k, hk, rfl, HG⟩ := hrel
      have y1 := (cell_of HG.out.d 3).trans (show _ = some (Value.slice a1 nb c1) from rfl)
      by_cases hlt : k < nb
      · have hd : decide ((k : Int) < (nb : Int)) = true := decide_eq_true (by omega)
        have i1 : (k : Int) < (nb : Int) := by omega
        obtain ⟨gb, hab, hth, hGs⟩ := HG.out.o1 k hlt
        subst hab
        go_wp2_with (refine wpList_store_mid rfl 28 (.tmp 44) (.tmp 43) rfl gb (k * 2) #[.int .i64 (-1), .int .i64 0] (by first | rfl | simp [Addr.add_mid]) rfl hth infoCell2 (by simp [Value.oneCell']) ?_)
        go_roundw
        case rel => exact ⟨k + 1, by omega, by go_num, hGs _ _⟩
        case measure => simp [intOf]; omega
      · obtain rfl : nb = k := by omega
        have hd : decide ((nb : Int) < (nb : Int)) = false := decide_eq_false (by omega)
        have y2 := (cell_of HG.out.d 4).trans (show _ = some (Value.slice a2 np c2) from rfl)
        go_wp2_with fail
        go_loopw [9] (fun i wr => ∃ k : Nat, k ≤ np ∧ i = .int .i64 k ∧ Hid (Gs w #[.int .i64 c.W, .int .i64 c.H, .int .i64 c.height, vb, vp, vr, vs, .int .i64 c.unit, .int .i64 c.accel, .int .i64 c.speed, .int .i64 c.turn, .int .i64 c.hoist, .int .i64 c.queue, .int .i64 c.resend, .int .i64 c.budget, .bool c.back] cs w1.heap.size #[.int .i64 c.W, .int .i64 c.H, .int .i64 c.height, .slice a1 nb c1, .slice a2 np c2, v3, v4, .int .i64 c.unit, .int .i64 c.accel, .int .i64 c.speed, .int .i64 c.turn, .int .i64 c.hoist, .int .i64 c.queue, .int .i64 c.resend, .int .i64 c.budget, .bool c.back] g u0 c.W c.H US v' a1 nb a2 np wr)) (fun i _ => np - (intOf i).toNat)
        case atStart => exact ⟨0, Nat.zero_le _, rfl, HG⟩
        case round =>
          clear HG
          obtain ⟨k, hk, rfl, HG⟩ := hrel
          have y1 := (cell_of HG.out.d 4).trans (show _ = some (Value.slice a2 np c2) from rfl)
          by_cases hlt : k < np
          · have hd : decide ((k : Int) < (np : Int)) = true := decide_eq_true (by omega)
            have i1 : (k : Int) < (np : Int) := by omega
            obtain ⟨gb, hab, hth, hGs⟩ := HG.out.o2 k hlt
            subst hab
            go_wp2_with (refine wpList_store_mid rfl 28 (.tmp 56) (.tmp 55) rfl gb (k * 2) #[.int .i64 (-1), .int .i64 0] (by first | rfl | simp [Addr.add_mid]) rfl hth infoCell2 (by simp [Value.oneCell']) ?_)
            go_roundw
            case rel => exact ⟨k + 1, by omega, by go_num, hGs _ _⟩
            case measure => simp [intOf]; omega
          · obtain rfl : np = k := by omega
            have hd : decide ((np : Int) < (np : Int)) = false := decide_eq_false (by omega)
            have HP1 := pose_at HG.out.b 3 k3.out k4.out k5.out
            have HM1 := row_below HG.out.b (Below.refl _ _)
            have cS1 := cS.out g u0 v' _ HG.out.gr
            have hsz := lt_of_heap HG.out.b
            have hlg := HG.out.gr.ltg
            have hlu := HG.out.gr.ltu
            have hlD := lt_of_heap HG.out.d
            go_wp2_with (first
              | (refine wpList_load_at rfl 32 (.tmp 3) rfl ⟨w.heap.size + 1, 0, none⟩ rfl cs HM1 (aggMv _) hi ?_)
              | (go_at_call 14; refine cS1.mono ?_; rintro e5 w5 ⟨v5, rfl, own5, b5⟩; obtain ⟨a3, cap3, hv5⟩ := own_slice own5; subst hv5; have G5 := HG.out.later b5; have HP5 := pose_at G5.b 3 k3.out k4.out k5.out)
              | (have X' := HP5; refine wpList_load_at rfl 30 (.tmp 61) rfl ⟨w.heap.size + 1, 3, none⟩ rfl #[.int .i64 fx, .int .i64 fy, .bool fd] HP5 (aggPose _) info_pose ?_)
              | (have X' := HP5; go_at_call 24; refine (cG.out _).mono ?_; rintro e6 w6 ⟨r6, rfl, ⟨gq, rfl, hgq, hq⟩, b6⟩; have G6 := G5.later b6; have own6 := own_go own5 b6))
            have HG : Hid (Gs w #[.int .i64 c.W, .int .i64 c.H, .int .i64 c.height, vb, vp, vr, vs, .int .i64 c.unit, .int .i64 c.accel, .int .i64 c.speed, .int .i64 c.turn, .int .i64 c.hoist, .int .i64 c.queue, .int .i64 c.resend, .int .i64 c.budget, .bool c.back] cs w1.heap.size #[.int .i64 c.W, .int .i64 c.H, .int .i64 c.height, .slice a1 nb c1, .slice a2 np c2, v3, v4, .int .i64 c.unit, .int .i64 c.accel, .int .i64 c.speed, .int .i64 c.turn, .int .i64 c.hoist, .int .i64 c.queue, .int .i64 c.resend, .int .i64 c.budget, .bool c.back] g u0 c.W c.H US v' a3 K (some ⟨gq, 0, none⟩) 2 w6) := G6.told own6 hq (by have := b5.size; omega) (by omega) hlg hlu hlD (by simp)
            clear G5 G6 own5 own6 hq HP1 HM1 HP5 cS1
            go_loopw [12] (fun i wr => ∃ k : Nat, k ≤ K ∧ i = .int .i64 k ∧ Hid (Gs w #[.int .i64 c.W, .int .i64 c.H, .int .i64 c.height, vb, vp, vr, vs, .int .i64 c.unit, .int .i64 c.accel, .int .i64 c.speed, .int .i64 c.turn, .int .i64 c.hoist, .int .i64 c.queue, .int .i64 c.resend, .int .i64 c.budget, .bool c.back] cs w1.heap.size #[.int .i64 c.W, .int .i64 c.H, .int .i64 c.height, .slice a1 nb c1, .slice a2 np c2, v3, v4, .int .i64 c.unit, .int .i64 c.accel, .int .i64 c.speed, .int .i64 c.turn, .int .i64 c.hoist, .int .i64 c.queue, .int .i64 c.resend, .int .i64 c.budget, .bool c.back] g u0 c.W c.H US v' a3 K (some ⟨gq, 0, none⟩) 2 wr)) (fun i _ => K - (intOf i).toNat)
            case atStart => exact ⟨0, Nat.zero_le _, rfl, HG⟩
            case round =>
              clear HG
              obtain ⟨k, hk, rfl, HG⟩ := hrel
              by_cases hlt : k < K
              · have hd : decide ((k : Int) < (K : Int)) = true := decide_eq_true (by omega)
                have i1 : (k : Int) < (K : Int) := by omega
                obtain ⟨gb, hab, hth, hGs⟩ := HG.out.o1 k hlt
                subst hab
                go_wp2_with (refine wpList_store_mid rfl 28 (.tmp 73) (.tmp 72) rfl gb (k * 2) #[.int .i64 77, .int .i64 0] (by first | rfl | simp [Addr.add_mid]) rfl hth infoCell2 (by simp [Value.oneCell']) ?_)
                go_roundw
                case rel => exact ⟨k + 1, by omega, by go_num, hGs _ _⟩
                case measure => simp [intOf]; omega
              · obtain rfl : K = k := by omega
                have hd : decide ((K : Int) < (K : Int)) = false := decide_eq_false (by omega)
                go_wp2_with fail
                go_loopw [13] (fun i wr => ∃ k : Nat, k ≤ 2 ∧ i = .int .i64 k ∧ Hid (Gs w #[.int .i64 c.W, .int .i64 c.H, .int .i64 c.height, vb, vp, vr, vs, .int .i64 c.unit, .int .i64 c.accel, .int .i64 c.speed, .int .i64 c.turn, .int .i64 c.hoist, .int .i64 c.queue, .int .i64 c.resend, .int .i64 c.budget, .bool c.back] cs w1.heap.size #[.int .i64 c.W, .int .i64 c.H, .int .i64 c.height, .slice a1 nb c1, .slice a2 np c2, v3, v4, .int .i64 c.unit, .int .i64 c.accel, .int .i64 c.speed, .int .i64 c.turn, .int .i64 c.hoist, .int .i64 c.queue, .int .i64 c.resend, .int .i64 c.budget, .bool c.back] g u0 c.W c.H US v' a3 K (some ⟨gq, 0, none⟩) 2 wr)) (fun i _ => 2 - (intOf i).toNat)
                case atStart => exact ⟨0, Nat.zero_le _, rfl, HG⟩
                case round =>
                  clear HG
                  obtain ⟨k, hk, rfl, HG⟩ := hrel
                  by_cases hlt : k < 2
                  · have hd : decide ((k : Int) < (2 : Int)) = true := decide_eq_true (by omega)
                    have i1 : (k : Int) < (2 : Int) := by omega
                    obtain ⟨gb, hab, hth, hGs⟩ := HG.out.o2 k hlt
                    have hgb : gb = gq := by cases hab; rfl
                    clear hab
                    subst hgb
                    go_wp2_with (refine wpList_store_mid rfl 28 (.tmp 83) (.tmp 82) rfl gb (k * 2) #[.int .i64 77, .int .i64 0] (by first | rfl | simp [Addr.add_mid]) rfl hth infoCell2 (by simp [Value.oneCell']) ?_)
                    go_roundw
                    case rel => exact ⟨k + 1, by omega, by go_num, hGs _ _⟩
                    case measure => simp [intOf]; omega
                  · obtain rfl : 2 = k := by omega
                    have hd : decide ((2 : Int) < (2 : Int)) = false := decide_eq_false (by omega)
                    obtain ⟨wz, hwz⟩ : ∃ wz, wz = wr := ⟨_, rfl⟩
                    subst hwz
                    have QG := HG.out
                    have eA := QG.a
                    have eB := QG.b
                    have B := QG.below
                    have G3 := QG.gr
                    have HF : Hid (∀ u, Below wz.heap.size wz u → ∀ j z, #[Value.int .i64 c.W, .int .i64 c.H, .int .i64 c.height, vb, vp, vr, vs, .int .i64 c.unit, .int .i64 c.accel, .int .i64 c.speed, .int .i64 c.turn, .int .i64 c.hoist, .int .i64 c.queue, .int .i64 c.resend, .int .i64 c.budget, .bool c.back][j]? = some z → u.cell? ((⟨w.heap.size, 0, none⟩ : Addr).add j) = some z) := fun u hu => row_below eA hu
                    have HM : Hid (∀ u, Below wz.heap.size wz u → ∀ j z, cs[j]? = some z → u.cell? ((⟨w.heap.size + 1, 0, none⟩ : Addr).add j) = some z) := fun u hu => row_below eB hu
                    have HP : Hid (∀ u, Below wz.heap.size wz u → ∀ j z, #[Value.int .i64 fx, .int .i64 fy, .bool fd][j]? = some z → u.cell? ((⟨w.heap.size + 1, 3, none⟩ : Addr).add j) = some z) := fun u hu => pose_at ((hu.block _ (lt_of_heap eB)).trans eB) 3 k3.out k4.out k5.out
                    have kL : Hid (∀ u, Below wz.heap.size wz u → _) := fun u hu => cL.out g u0 v' u (G3.go hu)
                    have kLR : Hid (∀ u, Below wz.heap.size wz u → _) := fun u hu => cLR.out u (bcat B hu (Nat.le_refl _))
                    have kS : Hid (∀ u, Below wz.heap.size wz u → _) := fun u hu => cS.out g u0 v' u (G3.go hu)
                    have kSR : Hid (∀ u, Below wz.heap.size wz u → _) := fun u hu => cSR.out u (bcat B hu (Nat.le_refl _))
                    clear cL cLR cS cSR eA eB G3 QG HG
                    go_upto_region 23 with fail
                    have S0 : Below wz.heap.size wz wz.drew := (Below.refl _ _).drew
                    refine start_held (S := fun u => Below wz.heap.size wz u) 30 rfl (by kernel_rfl) (S0) ?_
                    simp only [Array.replicate_succ, Array.replicate_zero, List.push_toArray, List.nil_append, List.cons_append]
                    refine take_held 0 S0 rfl (by kernel_rfl) (by kernel_rfl) (by kernel_rfl) (fun _ _ _ h => h) (by kernel_rfl) (v := ?v14) ?y14 ?r14
                    case y14 => (intro u hu; go_simp; try rfl)
                    simp only [Act.put, List.setIfInBounds_toArray, List.set_cons_zero, List.set_cons_succ]
                    refine take_held 1 S0 rfl (by kernel_rfl) (by kernel_rfl) (by kernel_rfl) (fun _ _ _ h => h) (by kernel_rfl) (v := .agg cs) ?y15 ?r15
                    case y15 => (intro u hu; exact run_load_op 32 _ rfl ⟨w.heap.size + 1, 0, none⟩ _ rfl (HM.out u hu) (aggMv u) hi)
                    simp only [Act.put, List.setIfInBounds_toArray, List.set_cons_zero, List.set_cons_succ]
                    refine take_held 3 S0 rfl (by kernel_rfl) (by kernel_rfl) (by kernel_rfl) (fun _ _ _ h => h) (by kernel_rfl) (v := .agg #[.int .i64 c.W, .int .i64 c.H, .int .i64 c.height, vb, vp, vr, vs, .int .i64 c.unit, .int .i64 c.accel, .int .i64 c.speed, .int .i64 c.turn, .int .i64 c.hoist, .int .i64 c.queue, .int .i64 c.resend, .int .i64 c.budget, .bool c.back]) ?y16 ?r16
                    case y16 => (intro u hu; exact run_load_op 26 _ rfl ⟨w.heap.size, 0, none⟩ _ rfl (HF.out u hu) (aggCf u) info_conf)
                    simp only [Act.put, List.setIfInBounds_toArray, List.set_cons_zero, List.set_cons_succ]
                    refine take_held 4 S0 rfl (by kernel_rfl) (by kernel_rfl) (by kernel_rfl) (fun _ _ _ h => h) (by kernel_rfl) (v := .agg cs) ?y17 ?r17
                    case y17 => (intro u hu; exact run_load_op 32 _ rfl ⟨w.heap.size + 1, 0, none⟩ _ rfl (HM.out u hu) (aggMv u) hi)
                    simp only [Act.put, List.setIfInBounds_toArray, List.set_cons_zero, List.set_cons_succ]
                    refine wpAnyH_ready (rs := [2]) (by kernel_rfl) (by simp) (AllReadyH.cons ((nth_eq _ 2).trans rfl) ?_ AllReadyH.nil)
                    intro K' hK
                    refine call_in hK (by kernel_rfl) 14 #[.pointer (some ⟨g, 0, none⟩), .agg cs] (by go_simp) _ (kS.out _ S0) ?_
                    rintro v3 x3 ⟨own3, b3⟩
                    have S3 : Below wz.heap.size wz x3 := bcat S0 b3 (Nat.le_refl _)
                    obtain ⟨a3, cap3, hv3⟩ := own_slice own3
                    subst hv3
                    refine ⟨S3, ?_⟩
                    simp only [Act.put, List.setIfInBounds_toArray, List.set_cons_zero, List.set_cons_succ]
                    refine wpAnyH_ready (rs := [5]) (by kernel_rfl) (by simp) (AllReadyH.cons ((nth_eq _ 5).trans rfl) ?_ AllReadyH.nil)
                    intro K' hK
                    refine call_in hK (by kernel_rfl) 15 #[.agg #[.int .i64 c.W, .int .i64 c.H, .int .i64 c.height, vb, vp, vr, vs, .int .i64 c.unit, .int .i64 c.accel, .int .i64 c.speed, .int .i64 c.turn, .int .i64 c.hoist, .int .i64 c.queue, .int .i64 c.resend, .int .i64 c.budget, .bool c.back], .agg cs] (by go_simp) _ (kSR.out _ S3) ?_
                    rintro v4 x4 ⟨own4, b4⟩
                    have S4 : Below wz.heap.size wz x4 := bcat S3 b4 (Nat.le_refl _)
                    have own3 := own_go own3 b4
                    obtain ⟨a4, cap4, hv4⟩ := own_slice own4
                    subst hv4
                    refine ⟨S4, ?_⟩
                    simp only [Act.put, List.setIfInBounds_toArray, List.set_cons_zero, List.set_cons_succ]
                    refine wpAnyH_ready (rs := [6]) (by kernel_rfl) (by simp) (AllReadyH.cons ((nth_eq _ 6).trans rfl) ?_ AllReadyH.nil)
                    intro K' hK
                    refine call_in hK (by kernel_rfl) 13 #[.slice a3 K cap3, .slice a4 K cap4] (by go_simp) _ (same_lists Ls K hLK hKs _ _ _ _ _ own3 own4) ?_
                    rintro v5 x5 ⟨rfl, b5⟩
                    have S5 : Below wz.heap.size wz x5 := bcat S4 b5 (Nat.le_refl _)
                    refine ⟨S5, ?_⟩
                    simp only [Act.put, List.setIfInBounds_toArray, List.set_cons_zero, List.set_cons_succ]
                    refine take_held 7 S5 rfl (by kernel_rfl) (by kernel_rfl) (by kernel_rfl) (fun _ _ _ h => h) (by kernel_rfl) (v := ?v18) ?y18 ?r18
                    case y18 => (intro u hu; go_simp; try rfl)
                    simp only [Act.put, List.setIfInBounds_toArray, List.set_cons_zero, List.set_cons_succ]
                    refine take_held 8 S5 rfl (by kernel_rfl) (by kernel_rfl) (by kernel_rfl) (fun _ _ _ h => h) (by kernel_rfl) (v := ?v19) ?y19 ?r19
                    case y19 => (intro u hu; go_simp; try rfl)
                    simp only [Act.put, List.setIfInBounds_toArray, List.set_cons_zero, List.set_cons_succ]
                    refine take_held 9 S5 rfl (by kernel_rfl) (by kernel_rfl) (by kernel_rfl) (fun _ _ _ h => h) (by kernel_rfl) (v := ?v20) ?y20 ?r20
                    case y20 => (intro u hu; go_simp; try rfl)
                    simp only [Act.put, List.setIfInBounds_toArray, List.set_cons_zero, List.set_cons_succ]
                    refine take_held 10 S5 rfl (by kernel_rfl) (by kernel_rfl) (by kernel_rfl) (fun _ _ _ h => h) (by kernel_rfl) (v := .agg #[.int .i64 fx, .int .i64 fy, .bool fd]) ?y21 ?r21
                    case y21 => (intro u hu; exact run_load_op 30 _ rfl ⟨w.heap.size + 1, 3, none⟩ _ rfl (HP.out u hu) (aggPose u) info_pose)
                    simp only [Act.put, List.setIfInBounds_toArray, List.set_cons_zero, List.set_cons_succ]
                    refine take_held 12 S5 rfl (by kernel_rfl) (by kernel_rfl) (by kernel_rfl) (fun _ _ _ h => h) (by kernel_rfl) (v := ?v22) ?y22 ?r22
                    case y22 => (intro u hu; go_simp; try rfl)
                    simp only [Act.put, List.setIfInBounds_toArray, List.set_cons_zero, List.set_cons_succ]
                    refine take_held 13 S5 rfl (by kernel_rfl) (by kernel_rfl) (by kernel_rfl) (fun _ _ _ h => h) (by kernel_rfl) (v := .agg #[.int .i64 fx, .int .i64 fy, .bool fd]) ?y23 ?r23
                    case y23 => (intro u hu; exact run_load_op 30 _ rfl ⟨w.heap.size + 1, 3, none⟩ _ rfl (HP.out u hu) (aggPose u) info_pose)
                    simp only [Act.put, List.setIfInBounds_toArray, List.set_cons_zero, List.set_cons_succ]
                    refine wpAnyH_ready (rs := [11]) (by kernel_rfl) (by simp) (AllReadyH.cons ((nth_eq _ 11).trans rfl) ?_ AllReadyH.nil)
                    intro K' hK
                    refine call_in hK (by kernel_rfl) 24 #[.pointer (some ⟨g, 0, none⟩), .agg #[.int .i64 fx, .int .i64 fy, .bool fd]] (by go_simp) _ (cG.out _) ?_
                    rintro v6 x6 ⟨⟨g6, hv6, hg6, hq6⟩, b6⟩
                    subst hv6
                    have S6 : Below wz.heap.size wz x6 := bcat S5 b6 (Nat.le_refl _)
                    refine ⟨S6, ?_⟩
                    simp only [Act.put, List.setIfInBounds_toArray, List.set_cons_zero, List.set_cons_succ]
                    refine wpAnyH_ready (rs := [14]) (by kernel_rfl) (by simp) (AllReadyH.cons ((nth_eq _ 14).trans rfl) ?_ AllReadyH.nil)
                    intro K' hK
                    refine call_in hK (by kernel_rfl) 25 #[.agg #[.int .i64 fx, .int .i64 fy, .bool fd]] (by go_simp) _ (cR.out _) ?_
                    rintro v7 x7 ⟨⟨g7, hv7, hg7, hq7⟩, b7⟩
                    subst hv7
                    have S7 : Below wz.heap.size wz x7 := bcat S6 b7 (Nat.le_refl _)
                    have hq6 := (b7.block _ (lt_of_heap hq6)).trans hq6
                    refine ⟨S7, ?_⟩
                    simp only [Act.put, List.setIfInBounds_toArray, List.set_cons_zero, List.set_cons_succ]
                    refine wpAnyH_ready (rs := [15]) (by kernel_rfl) (by simp) (AllReadyH.cons ((nth_eq _ 15).trans rfl) ?_ AllReadyH.nil)
                    intro K' hK
                    refine call_in hK (by kernel_rfl) 13 #[.slice (some ⟨g6, 0, none⟩) 2 2, .slice (some ⟨g7, 0, none⟩) 2 2] (by go_simp) _ (same_two hq6 hq7) ?_
                    rintro v8 x8 ⟨rfl, b8⟩
                    have S8 : Below wz.heap.size wz x8 := bcat S7 b8 (Nat.le_refl _)
                    refine ⟨S8, ?_⟩
                    simp only [Act.put, List.setIfInBounds_toArray, List.set_cons_zero, List.set_cons_succ]
                    refine take_held 16 S8 rfl (by kernel_rfl) (by kernel_rfl) (by kernel_rfl) (fun _ _ _ h => h) (by kernel_rfl) (v := ?v24) ?y24 ?r24
                    case y24 => (intro u hu; go_simp; try rfl)
                    simp only [Act.put, List.setIfInBounds_toArray, List.set_cons_zero, List.set_cons_succ]
                    refine take_held 17 S8 rfl (by kernel_rfl) (by kernel_rfl) (by kernel_rfl) (fun _ _ _ h => h) (by kernel_rfl) (v := ?v25) ?y25 ?r25
                    case y25 => (intro u hu; go_simp; try rfl)
                    simp only [Act.put, List.setIfInBounds_toArray, List.set_cons_zero, List.set_cons_succ]
                    refine take_held 18 S8 rfl (by kernel_rfl) (by kernel_rfl) (by kernel_rfl) (fun _ _ _ h => h) (by kernel_rfl) (v := ?v26) ?y26 ?r26
                    case y26 => (intro u hu; go_simp; try rfl)
                    simp only [Act.put, List.setIfInBounds_toArray, List.set_cons_zero, List.set_cons_succ]
                    refine take_held 19 S8 rfl (by kernel_rfl) (by kernel_rfl) (by kernel_rfl) (fun _ _ _ h => h) (by kernel_rfl) (v := .agg cs) ?y27 ?r27
                    case y27 => (intro u hu; exact run_load_op 32 _ rfl ⟨w.heap.size + 1, 0, none⟩ _ rfl (HM.out u hu) (aggMv u) hi)
                    simp only [Act.put, List.setIfInBounds_toArray, List.set_cons_zero, List.set_cons_succ]
                    refine take_held 21 S8 rfl (by kernel_rfl) (by kernel_rfl) (by kernel_rfl) (fun _ _ _ h => h) (by kernel_rfl) (v := .agg #[.int .i64 c.W, .int .i64 c.H, .int .i64 c.height, vb, vp, vr, vs, .int .i64 c.unit, .int .i64 c.accel, .int .i64 c.speed, .int .i64 c.turn, .int .i64 c.hoist, .int .i64 c.queue, .int .i64 c.resend, .int .i64 c.budget, .bool c.back]) ?y28 ?r28
                    case y28 => (intro u hu; exact run_load_op 26 _ rfl ⟨w.heap.size, 0, none⟩ _ rfl (HF.out u hu) (aggCf u) info_conf)
                    simp only [Act.put, List.setIfInBounds_toArray, List.set_cons_zero, List.set_cons_succ]
                    refine take_held 22 S8 rfl (by kernel_rfl) (by kernel_rfl) (by kernel_rfl) (fun _ _ _ h => h) (by kernel_rfl) (v := .agg cs) ?y29 ?r29
                    case y29 => (intro u hu; exact run_load_op 32 _ rfl ⟨w.heap.size + 1, 0, none⟩ _ rfl (HM.out u hu) (aggMv u) hi)
                    simp only [Act.put, List.setIfInBounds_toArray, List.set_cons_zero, List.set_cons_succ]
                    refine wpAnyH_ready (rs := [20]) (by kernel_rfl) (by simp) (AllReadyH.cons ((nth_eq _ 20).trans rfl) ?_ AllReadyH.nil)
                    intro K' hK
                    refine call_in hK (by kernel_rfl) 11 #[.pointer (some ⟨g, 0, none⟩), .agg cs] (by go_simp) _ (kL.out _ S8) ?_
                    rintro v9 x9 ⟨rfl, b9⟩
                    have S9 : Below wz.heap.size wz x9 := bcat S8 b9 (Nat.le_refl _)
                    refine ⟨S9, ?_⟩
                    simp only [Act.put, List.setIfInBounds_toArray, List.set_cons_zero, List.set_cons_succ]
                    refine wpAnyH_ready (rs := [23]) (by kernel_rfl) (by simp) (AllReadyH.cons ((nth_eq _ 23).trans rfl) ?_ AllReadyH.nil)
                    intro K' hK
                    refine call_in hK (by kernel_rfl) 12 #[.agg #[.int .i64 c.W, .int .i64 c.H, .int .i64 c.height, vb, vp, vr, vs, .int .i64 c.unit, .int .i64 c.accel, .int .i64 c.speed, .int .i64 c.turn, .int .i64 c.hoist, .int .i64 c.queue, .int .i64 c.resend, .int .i64 c.budget, .bool c.back], .agg cs] (by go_simp) _ (kLR.out _ S9) ?_
                    rintro v10 x10 ⟨rfl, b10⟩
                    have S10 : Below wz.heap.size wz x10 := bcat S9 b10 (Nat.le_refl _)
                    refine ⟨S10, ?_⟩
                    simp only [Act.put, List.setIfInBounds_toArray, List.set_cons_zero, List.set_cons_succ]
                    refine take_held 24 S10 rfl (by kernel_rfl) (by kernel_rfl) (by kernel_rfl) (fun _ _ _ h => h) (by kernel_rfl) (v := ?v30) ?y30 ?r30
                    case y30 => (intro u hu; go_simp; try rfl)
                    simp only [Act.put, List.setIfInBounds_toArray, List.set_cons_zero, List.set_cons_succ]
                    refine take_held 25 S10 rfl (by kernel_rfl) (by kernel_rfl) (by kernel_rfl) (fun _ _ _ h => h) (by kernel_rfl) (v := ?v31) ?y31 ?r31
                    case y31 => (intro u hu; go_simp; try rfl)
                    simp only [Act.put, List.setIfInBounds_toArray, List.set_cons_zero, List.set_cons_succ]
                    refine take_held 26 S10 rfl (by kernel_rfl) (by kernel_rfl) (by kernel_rfl) (fun _ _ _ h => h) (by kernel_rfl) (v := ?v32) ?y32 ?r32
                    case y32 => (intro u hu; go_simp; try rfl)
                    simp only [Act.put, List.setIfInBounds_toArray, List.set_cons_zero, List.set_cons_succ]
                    refine wpAnyH_ready (rs := [27]) (by kernel_rfl) (by simp) (AllReadyH.cons ((nth_eq _ 27).trans rfl) ?_ AllReadyH.nil)
                    intro K' hK
                    refine call_in hK (by kernel_rfl) 10 #[] (by go_simp) _ (awake_call _) ?_
                    rintro v11 x11 ⟨rfl, b11⟩
                    have S11 : Below wz.heap.size wz x11 := bcat S10 b11 (Nat.le_refl _)
                    refine ⟨S11, ?_⟩
                    simp only [Act.put, List.setIfInBounds_toArray, List.set_cons_zero, List.set_cons_succ]
                    refine take_held 28 S11 rfl (by kernel_rfl) (by kernel_rfl) (by kernel_rfl) (fun _ _ _ h => h) (by kernel_rfl) (v := ?v33) ?y33 ?r33
                    case y33 => (intro u hu; go_simp; try rfl)
                    simp only [Act.put, List.setIfInBounds_toArray, List.set_cons_zero, List.set_cons_succ]
                    refine take_held 29 S11 rfl (by kernel_rfl) (by kernel_rfl) (by kernel_rfl) (fun _ _ _ h => h) (by kernel_rfl) (v := ?v34) ?y34 ?r34
                    case y34 => (intro u hu; go_simp; try rfl)
                    simp only [Act.put, List.setIfInBounds_toArray, List.set_cons_zero, List.set_cons_succ]
                    refine done_held (by kernel_rfl) ?_ _
                    go_wp2_with fail
                    go_ret
                    exact ⟨rfl, bcat B S11 (Nat.le_refl _)⟩
end Go.Proofs.Ytmaeofkbkpplnaa.Grid
