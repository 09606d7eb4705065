/-
  Any telegrams, ticks and delays: a robot does and tells what the chapter's own does.
-/
import Derived.Test.YtedhoghleelhfaaGreatPRobXg
namespace Go.Proofs.YtedhoghleelhfaaGreat.Rob
set_option linter.unusedVariables false
set_option linter.unusedSimpArgs false
open Go Go.RowKit Go.Shelf Go.Proofs Go.Proofs.YtedhoghleelhfaaGreat.Lk Go.Proofs.YtedhoghleelhfaaGreat.Plain
attribute [local go_sem] Oper.semAt_some

set_option maxRecDepth 100000 in
set_option maxHeartbeats 8000000 in
theorem plays_all (c : Grid.Conf) (va vb vc vd : Value) (w : World) (hA : Grid.ConfAt (Grid.Old w) c va vb vc vd w) (l1 : c.blocked.length ≤ 8796093022208) (l2 : c.ports.length ≤ 8796093022208) (l3 : c.robots.length ≤ 5864062014805) (l4 : c.stacks.length ≤ 3518437208880) (l5 : ∀ s ∈ c.stacks, s.2.length ≤ 17592186044416) (i0 : Int) (a : Option Addr) (n cap : Nat) (ts : Nat → Cl) (hT : InS w a n ts) :
    Calls Tryz.prog 3 #[.agg #[.int .i64 c.W, .int .i64 c.H, .int .i64 c.height, va, vb, vc, vd, .int .i64 c.unit, .int .i64 c.accel, .int .i64 c.speed, .int .i64 c.turn, .int .i64 c.hoist, .int .i64 c.queue, .int .i64 c.resend, .int .i64 c.budget, .bool c.back], .int .i64 i0, .slice a n cap] w fun e w' => e = .returned (.bool true) ∧ Below w.heap.size w w' := by
  have hO : ∀ b, Grid.Old w b → b < w.heap.size := fun b h => h
  obtain ⟨a3, cap3, hv3, _⟩ := hA.r.form
  subst hv3
  have HIn : Hid (∀ u, Below w.heap.size w u → InS u a n ts) := fun u hu => hT.go hu
  have HAH : Hid (Grid.ConfAt (Grid.Old w) c va vb (.slice a3 c.robots.length cap3) vd w) := hA
  obtain ⟨w1, hw1⟩ : ∃ w1, w1 = w.alloc (.cells #[.int .i64 c.W, .int .i64 c.H, .int .i64 c.height, va, vb, (.slice a3 c.robots.length cap3), vd, .int .i64 c.unit, .int .i64 c.accel, .int .i64 c.speed, .int .i64 c.turn, .int .i64 c.hoist, .int .i64 c.queue, .int .i64 c.resend, .int .i64 c.budget, .bool c.back] 26) := ⟨_, rfl⟩
  have b1 : Below w.heap.size w w1 := by rw [hw1]; exact (Below.refl _ _).alloc (Nat.le_refl _) _
  have hc1 : w1.heap[w.heap.size]? = some (.cells #[.int .i64 c.W, .int .i64 c.H, .int .i64 c.height, va, vb, (.slice a3 c.robots.length cap3), vd, .int .i64 c.unit, .int .i64 c.accel, .int .i64 c.speed, .int .i64 c.turn, .int .i64 c.hoist, .int .i64 c.queue, .int .i64 c.resend, .int .i64 c.budget, .bool c.back] 26 (0, 0)) := by rw [hw1]; exact World.alloc_heap_new _ _
  have HW1 : Hid (w1 = w.alloc (.cells #[.int .i64 c.W, .int .i64 c.H, .int .i64 c.height, va, vb, (.slice a3 c.robots.length cap3), vd, .int .i64 c.unit, .int .i64 c.accel, .int .i64 c.speed, .int .i64 c.turn, .int .i64 c.hoist, .int .i64 c.queue, .int .i64 c.resend, .int .i64 c.budget, .bool c.back] 26)) := hw1
  have HB1 : Hid (Below w.heap.size w w1) := b1
  have HC1 : Hid (∀ u, Below w1.heap.size w1 u → u.heap[w.heap.size]? = some (.cells #[.int .i64 c.W, .int .i64 c.H, .int .i64 c.height, va, vb, (.slice a3 c.robots.length cap3), vd, .int .i64 c.unit, .int .i64 c.accel, .int .i64 c.speed, .int .i64 c.turn, .int .i64 c.hoist, .int .i64 c.queue, .int .i64 c.resend, .int .i64 c.budget, .bool c.back] 26 (0, 0))) := fun u b => (b.block _ (Array.getElem?_eq_some_iff.1 hc1).1).trans hc1
  have HC5 : Hid (∀ u, Below w1.heap.size w1 u → u.cell? ⟨w.heap.size, 5, none⟩ = some (.slice a3 c.robots.length cap3)) := fun u b => (cell_of' (HC1.out u b) 5).trans rfl
  have HLDu : Hid (∀ u, Below w1.heap.size w1 u → (loadVar 26 ⟨w.heap.size, 0, none⟩).run Tryz.prog u = .ok (.agg #[.int .i64 c.W, .int .i64 c.H, .int .i64 c.height, va, vb, (.slice a3 c.robots.length cap3), vd, .int .i64 c.unit, .int .i64 c.accel, .int .i64 c.speed, .int .i64 c.turn, .int .i64 c.hoist, .int .i64 c.queue, .int .i64 c.resend, .int .i64 c.budget, .bool c.back]) u) := fun u b => load_row_of (HC1.out u b) (Grid.aggConf _) Grid.info_conf
  have cC := fun u (b : Below w.heap.size w u) => Grid.copyConf_any (Grid.Old w) c va vb _ vd u (hA.go hO b) (fun q hq => Nat.lt_of_lt_of_le (hO q hq) b.size) l1 l2 l3 l4 l5
  have HM : Hid (∀ u, Below w.heap.size w u → Calls Tryz.prog 7 #[.agg #[.int .i64 c.W, .int .i64 c.H, .int .i64 c.height, va, vb, (.slice a3 c.robots.length cap3), vd, .int .i64 c.unit, .int .i64 c.accel, .int .i64 c.speed, .int .i64 c.turn, .int .i64 c.hoist, .int .i64 c.queue, .int .i64 c.resend, .int .i64 c.budget, .bool c.back]] u fun e w' => ∃ r, e = .returned r ∧ r = .bool (Grid.newP c).isSome ∧ Below u.heap.size u w') := fun u b => Grid.mayR_any (Grid.Old w) c va vb _ vd u (hA.go hO b) (fun q hq => Nat.lt_of_lt_of_le (hO q hq) b.size) (by omega) (by omega) (by omega) l4 l5
  have HN1 : Hid (∀ {u : World} {k1 k2 k3 k4 : Value} {m : Nat}, Grid.ConfAt (Grid.Since m u) c k1 k2 k3 k4 u → Grid.newP c = none → Calls Tryz.prog 5 #[.agg #[.int .i64 c.W, .int .i64 c.H, .int .i64 c.height, k1, k2, k3, k4, .int .i64 c.unit, .int .i64 c.accel, .int .i64 c.speed, .int .i64 c.turn, .int .i64 c.hoist, .int .i64 c.queue, .int .i64 c.resend, .int .i64 c.budget, .bool c.back], .int .i64 i0] u fun e w' => e = .returned (.tuple #[.pointer none, .int .i64 5]) ∧ Below u.heap.size u w') := fun hC hn => new_conf hC Grid.since_lt l1 l2 l3 l4 i0 hn
  have HN2 : Hid (∀ {u : World} {k1 k2 k3 k4 : Value} {m : Nat} {G : Grid.GS}, Grid.ConfAt (Grid.Since m u) c k1 k2 k3 k4 u → Grid.newP c = some G → (i0 < 0 ∨ (c.robots.length : Int) ≤ i0) → Calls Tryz.prog 5 #[.agg #[.int .i64 c.W, .int .i64 c.H, .int .i64 c.height, k1, k2, k3, k4, .int .i64 c.unit, .int .i64 c.accel, .int .i64 c.speed, .int .i64 c.turn, .int .i64 c.hoist, .int .i64 c.queue, .int .i64 c.resend, .int .i64 c.budget, .bool c.back], .int .i64 i0] u fun e w' => e = .returned (.tuple #[.pointer none, .int .i64 1]) ∧ Below u.heap.size u w') := fun hC hn hi => new_arg hC Grid.since_lt l1 l2 l3 l4 i0 hn hi
  clear hA hT b1 hc1 hw1
  cases hN : Grid.newP c with
  | none =>
    have HN : Hid (Grid.newP c = none) := hN
    rw [hN] at HM
    clear hN
    go_enter Tryz.func3, Tryz.ntmps3
    go_wp2_with (first
      | (have X' := HW1; refine wpList_boxAt rfl 26 (.tmp 0) rfl #[.int .i64 c.W, .int .i64 c.H, .int .i64 c.height, va, vb, (.slice a3 c.robots.length cap3), vd, .int .i64 c.unit, .int .i64 c.accel, .int .i64 c.speed, .int .i64 c.turn, .int .i64 c.hoist, .int .i64 c.queue, .int .i64 c.resend, .int .i64 c.budget, .bool c.back] rfl ?_; rw [← HW1.out]; clear HW1)
      | (first | (have X3 := HB16; refine wpList_load_at rfl 26 (.tmp 3) rfl ⟨w.heap.size, 0, none⟩ rfl #[.int .i64 c.W, .int .i64 c.H, .int .i64 c.height, va, vb, (.slice a3 c.robots.length cap3), vd, .int .i64 c.unit, .int .i64 c.accel, .int .i64 c.speed, .int .i64 c.turn, .int .i64 c.hoist, .int .i64 c.queue, .int .i64 c.resend, .int .i64 c.budget, .bool c.back] (HLDu.out _ HB16.out) ?_) | (have X2 := HB15; refine wpList_load_at rfl 26 (.tmp 3) rfl ⟨w.heap.size, 0, none⟩ rfl #[.int .i64 c.W, .int .i64 c.H, .int .i64 c.height, va, vb, (.slice a3 c.robots.length cap3), vd, .int .i64 c.unit, .int .i64 c.accel, .int .i64 c.speed, .int .i64 c.turn, .int .i64 c.hoist, .int .i64 c.queue, .int .i64 c.resend, .int .i64 c.budget, .bool c.back] (HLDu.out _ HB15.out) ?_) | (refine wpList_load_at rfl 26 (.tmp 3) rfl ⟨w.heap.size, 0, none⟩ rfl #[.int .i64 c.W, .int .i64 c.H, .int .i64 c.height, va, vb, (.slice a3 c.robots.length cap3), vd, .int .i64 c.unit, .int .i64 c.accel, .int .i64 c.speed, .int .i64 c.turn, .int .i64 c.hoist, .int .i64 c.queue, .int .i64 c.resend, .int .i64 c.budget, .bool c.back] (HLDu.out _ (Below.refl _ _)) ?_))
      | (have X' := cC; go_at_call 6; refine (cC _ HB1.out).mono ?_; clear cC; rintro e w4 ⟨rc, rfl, ⟨k1, k2, k3, k4, rfl, hC4⟩, b4⟩; have HB4 : Hid (Below w.heap.size w w4) := bcat HB1.out b4; have HB14 : Hid (Below w1.heap.size w1 w4) := b4; have HC4 : Hid (Grid.ConfAt (Grid.Since w1.heap.size w4) c k1 k2 k3 k4 w4) := hC4; clear hC4 b4)
      | (go_at_call 5; refine (HN1.out HC4.out HN.out).mono ?_; rintro e w5 ⟨rfl, b5⟩; have HB5 : Hid (Below w.heap.size w w5) := bcat HB4.out b5; have HB15 : Hid (Below w1.heap.size w1 w5) := bcat HB14.out b5; clear b5)
      | (have X' := HM; go_at_call 7; refine (HM.out _ HB5.out).mono ?_; rintro e w6 ⟨rm, rfl, rfl, b6⟩; have HB6 : Hid (Below w.heap.size w w6) := bcat HB5.out b6; have HB16 : Hid (Below w1.heap.size w1 w6) := bcat HB15.out b6; have k5 := HC5.out _ HB16.out; clear b6 HM)
      | (go_at_call 8; refine (awake18_any _).mono ?_; rintro e w9 ⟨rfl, b9⟩))
    go_ret
    exact ⟨rfl, bcat HB6.out b9⟩
  | some G =>
    have HN : Hid (Grid.newP c = some G) := hN
    rw [hN] at HM
    clear hN
    by_cases hneg : i0 < 0
    · have HI : Hid (i0 < 0 ∨ (c.robots.length : Int) ≤ i0) := Or.inl hneg
      go_enter Tryz.func3, Tryz.ntmps3
      go_wp2_with (first
        | (have X' := HW1; refine wpList_boxAt rfl 26 (.tmp 0) rfl #[.int .i64 c.W, .int .i64 c.H, .int .i64 c.height, va, vb, (.slice a3 c.robots.length cap3), vd, .int .i64 c.unit, .int .i64 c.accel, .int .i64 c.speed, .int .i64 c.turn, .int .i64 c.hoist, .int .i64 c.queue, .int .i64 c.resend, .int .i64 c.budget, .bool c.back] rfl ?_; rw [← HW1.out]; clear HW1)
        | (first | (have X3 := HB16; refine wpList_load_at rfl 26 (.tmp 3) rfl ⟨w.heap.size, 0, none⟩ rfl #[.int .i64 c.W, .int .i64 c.H, .int .i64 c.height, va, vb, (.slice a3 c.robots.length cap3), vd, .int .i64 c.unit, .int .i64 c.accel, .int .i64 c.speed, .int .i64 c.turn, .int .i64 c.hoist, .int .i64 c.queue, .int .i64 c.resend, .int .i64 c.budget, .bool c.back] (HLDu.out _ HB16.out) ?_) | (have X2 := HB15; refine wpList_load_at rfl 26 (.tmp 3) rfl ⟨w.heap.size, 0, none⟩ rfl #[.int .i64 c.W, .int .i64 c.H, .int .i64 c.height, va, vb, (.slice a3 c.robots.length cap3), vd, .int .i64 c.unit, .int .i64 c.accel, .int .i64 c.speed, .int .i64 c.turn, .int .i64 c.hoist, .int .i64 c.queue, .int .i64 c.resend, .int .i64 c.budget, .bool c.back] (HLDu.out _ HB15.out) ?_) | (refine wpList_load_at rfl 26 (.tmp 3) rfl ⟨w.heap.size, 0, none⟩ rfl #[.int .i64 c.W, .int .i64 c.H, .int .i64 c.height, va, vb, (.slice a3 c.robots.length cap3), vd, .int .i64 c.unit, .int .i64 c.accel, .int .i64 c.speed, .int .i64 c.turn, .int .i64 c.hoist, .int .i64 c.queue, .int .i64 c.resend, .int .i64 c.budget, .bool c.back] (HLDu.out _ (Below.refl _ _)) ?_))
        | (have X' := cC; go_at_call 6; refine (cC _ HB1.out).mono ?_; clear cC; rintro e w4 ⟨rc, rfl, ⟨k1, k2, k3, k4, rfl, hC4⟩, b4⟩; have HB4 : Hid (Below w.heap.size w w4) := bcat HB1.out b4; have HB14 : Hid (Below w1.heap.size w1 w4) := b4; have HC4 : Hid (Grid.ConfAt (Grid.Since w1.heap.size w4) c k1 k2 k3 k4 w4) := hC4; clear hC4 b4)
        | (go_at_call 5; refine (HN2.out HC4.out HN.out HI.out).mono ?_; rintro e w5 ⟨rfl, b5⟩; have HB5 : Hid (Below w.heap.size w w5) := bcat HB4.out b5; have HB15 : Hid (Below w1.heap.size w1 w5) := bcat HB14.out b5; clear b5)
        | (have X' := HM; go_at_call 7; refine (HM.out _ HB5.out).mono ?_; rintro e w6 ⟨rm, rfl, rfl, b6⟩; have HB6 : Hid (Below w.heap.size w w6) := bcat HB5.out b6; have HB16 : Hid (Below w1.heap.size w1 w6) := bcat HB15.out b6; have k5 := HC5.out _ HB16.out; clear b6 HM)
        | (go_at_call 8; refine (awake18_any _).mono ?_; rintro e w9 ⟨rfl, b9⟩))
      go_ret
      exact ⟨rfl, bcat HB6.out b9⟩
    · by_cases hbig : (c.robots.length : Int) ≤ i0
      · have HI : Hid (i0 < 0 ∨ (c.robots.length : Int) ≤ i0) := Or.inr hbig
        go_enter Tryz.func3, Tryz.ntmps3
        go_wp2_with (first
          | (have X' := HW1; refine wpList_boxAt rfl 26 (.tmp 0) rfl #[.int .i64 c.W, .int .i64 c.H, .int .i64 c.height, va, vb, (.slice a3 c.robots.length cap3), vd, .int .i64 c.unit, .int .i64 c.accel, .int .i64 c.speed, .int .i64 c.turn, .int .i64 c.hoist, .int .i64 c.queue, .int .i64 c.resend, .int .i64 c.budget, .bool c.back] rfl ?_; rw [← HW1.out]; clear HW1)
          | (first | (have X3 := HB16; refine wpList_load_at rfl 26 (.tmp 3) rfl ⟨w.heap.size, 0, none⟩ rfl #[.int .i64 c.W, .int .i64 c.H, .int .i64 c.height, va, vb, (.slice a3 c.robots.length cap3), vd, .int .i64 c.unit, .int .i64 c.accel, .int .i64 c.speed, .int .i64 c.turn, .int .i64 c.hoist, .int .i64 c.queue, .int .i64 c.resend, .int .i64 c.budget, .bool c.back] (HLDu.out _ HB16.out) ?_) | (have X2 := HB15; refine wpList_load_at rfl 26 (.tmp 3) rfl ⟨w.heap.size, 0, none⟩ rfl #[.int .i64 c.W, .int .i64 c.H, .int .i64 c.height, va, vb, (.slice a3 c.robots.length cap3), vd, .int .i64 c.unit, .int .i64 c.accel, .int .i64 c.speed, .int .i64 c.turn, .int .i64 c.hoist, .int .i64 c.queue, .int .i64 c.resend, .int .i64 c.budget, .bool c.back] (HLDu.out _ HB15.out) ?_) | (refine wpList_load_at rfl 26 (.tmp 3) rfl ⟨w.heap.size, 0, none⟩ rfl #[.int .i64 c.W, .int .i64 c.H, .int .i64 c.height, va, vb, (.slice a3 c.robots.length cap3), vd, .int .i64 c.unit, .int .i64 c.accel, .int .i64 c.speed, .int .i64 c.turn, .int .i64 c.hoist, .int .i64 c.queue, .int .i64 c.resend, .int .i64 c.budget, .bool c.back] (HLDu.out _ (Below.refl _ _)) ?_))
          | (have X' := cC; go_at_call 6; refine (cC _ HB1.out).mono ?_; clear cC; rintro e w4 ⟨rc, rfl, ⟨k1, k2, k3, k4, rfl, hC4⟩, b4⟩; have HB4 : Hid (Below w.heap.size w w4) := bcat HB1.out b4; have HB14 : Hid (Below w1.heap.size w1 w4) := b4; have HC4 : Hid (Grid.ConfAt (Grid.Since w1.heap.size w4) c k1 k2 k3 k4 w4) := hC4; clear hC4 b4)
          | (go_at_call 5; refine (HN2.out HC4.out HN.out HI.out).mono ?_; rintro e w5 ⟨rfl, b5⟩; have HB5 : Hid (Below w.heap.size w w5) := bcat HB4.out b5; have HB15 : Hid (Below w1.heap.size w1 w5) := bcat HB14.out b5; clear b5)
          | (have X' := HM; go_at_call 7; refine (HM.out _ HB5.out).mono ?_; rintro e w6 ⟨rm, rfl, rfl, b6⟩; have HB6 : Hid (Below w.heap.size w w6) := bcat HB5.out b6; have HB16 : Hid (Below w1.heap.size w1 w6) := bcat HB15.out b6; have k5 := HC5.out _ HB16.out; clear b6 HM)
          | (go_at_call 8; refine (awake18_any _).mono ?_; rintro e w9 ⟨rfl, b9⟩))
        go_ret
        exact ⟨rfl, bcat HB6.out b9⟩
      · obtain ⟨i, hi⟩ : ∃ i : Nat, i0 = (i : Int) := ⟨i0.toNat, by omega⟩
        subst hi
        have hil : i < c.robots.length := by omega
        have HIL : Hid (i < c.robots.length) := hil
        obtain ⟨r, hr⟩ : ∃ r, firstR i (c.robots[i]'hil).1.1 (c.robots[i]'hil).1.2 (c.robots[i]'hil).2 = r := ⟨_, rfl⟩
        have HOK0 : Hid (OkR 0 r) := by rw [← hr]; exact OkR.first _ _ _ _
        have HNW : Hid (∀ {u : World} {k1 k2 k3 k4 : Value} {m : Nat}, Grid.ConfAt (Grid.Since m u) c k1 k2 k3 k4 u → Calls Tryz.prog 5 #[.agg #[.int .i64 c.W, .int .i64 c.H, .int .i64 c.height, k1, k2, k3, k4, .int .i64 c.unit, .int .i64 c.accel, .int .i64 c.speed, .int .i64 c.turn, .int .i64 c.hoist, .int .i64 c.queue, .int .i64 c.resend, .int .i64 c.budget, .bool c.back], .int .i64 (i : Int)] u fun e w' => ∃ R : Wh, e = .returned (.tuple #[.pointer (some ⟨R.p, 0, none⟩), .int .i64 0]) ∧ RbAt w' R r ∧ u.heap.size ≤ R.p ∧ u.heap.size ≤ R.k ∧ (R.W = c.W ∧ R.H = c.H ∧ R.us = G.uses ∧ (R.ku : Int) = c.unit ∧ (R.ka : Int) = c.accel ∧ (R.kv : Int) = c.speed) ∧ Below u.heap.size u w') := fun hC => by
          rw [← hr]
          exact new_ok hC Grid.since_lt l1 l2 l3 l4 i HN.out hil
        have HRN : Hid (∀ u, Below w.heap.size w u → Calls Tryz.prog 9 #[.agg #[.int .i64 c.W, .int .i64 c.H, .int .i64 c.height, va, vb, (.slice a3 c.robots.length cap3), vd, .int .i64 c.unit, .int .i64 c.accel, .int .i64 c.speed, .int .i64 c.turn, .int .i64 c.hoist, .int .i64 c.queue, .int .i64 c.resend, .int .i64 c.budget, .bool c.back], .int .i64 (i : Int)] u fun e w' => ∃ q, e = .returned (.pointer (some ⟨q, 0, none⟩)) ∧ RcAt w' q #[.int .i64 c.W, .int .i64 c.H, .int .i64 c.height, va, vb, (.slice a3 c.robots.length cap3), vd, .int .i64 c.unit, .int .i64 c.accel, .int .i64 c.speed, .int .i64 c.turn, .int .i64 c.hoist, .int .i64 c.queue, .int .i64 c.resend, .int .i64 c.budget, .bool c.back] r 0 false ∧ u.heap.size ≤ q ∧ Below u.heap.size u w') := fun u b => by
          rw [← hr]
          exact rcnew_any (HAH.out.go hO b) (fun q hq => Nat.lt_of_lt_of_le (hO q hq) b.size) i hil
        have HCH : Hid (∀ R : Wh, Kin.Ok R.ku R.ka R.kv → (R.W = c.W ∧ R.H = c.H ∧ R.us = G.uses ∧ (R.ku : Int) = c.unit ∧ (R.ka : Int) = c.accel ∧ (R.kv : Int) = c.speed) → Ch w #[.int .i64 c.W, .int .i64 c.H, .int .i64 c.height, va, vb, (.slice a3 c.robots.length cap3), vd, .int .i64 c.unit, .int .i64 c.accel, .int .i64 c.speed, .int .i64 c.turn, .int .i64 c.hoist, .int .i64 c.queue, .int .i64 c.resend, .int .i64 c.budget, .bool c.back] R) := fun R ok ⟨e1, e2, e3, e4, e5, e6⟩ => by
          refine ⟨fun u b m => ?_, fun u => ?_, ok⟩
          · have h := Grid.rlegal_old c va vb (.slice a3 c.robots.length cap3) vd w HAH.out l1 l2 l3 l4 l5 HN.out (gm m) u b
            rw [e1, e2, e3]
            exact h
          · have h := kinR_any c va vb (.slice a3 c.robots.length cap3) vd R.ku R.ka R.kv u
            rw [e4, e5, e6] at h
            rw [e4, e5, e6]
            exact h
        clear hr
        go_enter Tryz.func3, Tryz.ntmps3
        go_wp2_with (first
          | (have X' := HW1; refine wpList_boxAt rfl 26 (.tmp 0) rfl #[.int .i64 c.W, .int .i64 c.H, .int .i64 c.height, va, vb, (.slice a3 c.robots.length cap3), vd, .int .i64 c.unit, .int .i64 c.accel, .int .i64 c.speed, .int .i64 c.turn, .int .i64 c.hoist, .int .i64 c.queue, .int .i64 c.resend, .int .i64 c.budget, .bool c.back] rfl ?_; rw [← HW1.out]; clear HW1)
                  | (first | (have X3 := HB16; refine wpList_load_at rfl 26 (.tmp 3) rfl ⟨w.heap.size, 0, none⟩ rfl #[.int .i64 c.W, .int .i64 c.H, .int .i64 c.height, va, vb, (.slice a3 c.robots.length cap3), vd, .int .i64 c.unit, .int .i64 c.accel, .int .i64 c.speed, .int .i64 c.turn, .int .i64 c.hoist, .int .i64 c.queue, .int .i64 c.resend, .int .i64 c.budget, .bool c.back] (HLDu.out _ HB16.out) ?_) | (have X2 := HB15; refine wpList_load_at rfl 26 (.tmp 3) rfl ⟨w.heap.size, 0, none⟩ rfl #[.int .i64 c.W, .int .i64 c.H, .int .i64 c.height, va, vb, (.slice a3 c.robots.length cap3), vd, .int .i64 c.unit, .int .i64 c.accel, .int .i64 c.speed, .int .i64 c.turn, .int .i64 c.hoist, .int .i64 c.queue, .int .i64 c.resend, .int .i64 c.budget, .bool c.back] (HLDu.out _ HB15.out) ?_) | (refine wpList_load_at rfl 26 (.tmp 3) rfl ⟨w.heap.size, 0, none⟩ rfl #[.int .i64 c.W, .int .i64 c.H, .int .i64 c.height, va, vb, (.slice a3 c.robots.length cap3), vd, .int .i64 c.unit, .int .i64 c.accel, .int .i64 c.speed, .int .i64 c.turn, .int .i64 c.hoist, .int .i64 c.queue, .int .i64 c.resend, .int .i64 c.budget, .bool c.back] (HLDu.out _ (Below.refl _ _)) ?_))
          | (have X' := cC; go_at_call 6; refine (cC _ HB1.out).mono ?_; clear cC; rintro e w4 ⟨rc, rfl, ⟨k1, k2, k3, k4, rfl, hC4⟩, b4⟩; have HB4 : Hid (Below w.heap.size w w4) := bcat HB1.out b4; have HB14 : Hid (Below w1.heap.size w1 w4) := b4; have HC4 : Hid (Grid.ConfAt (Grid.Since w1.heap.size w4) c k1 k2 k3 k4 w4) := hC4; clear hC4 b4)
          | (go_at_call 5; refine (HNW.out HC4.out).mono ?_; rintro e w5 ⟨R, rfl, hR, hp, hk, hRW, b5⟩; have HPK : Hid (w.heap.size ≤ R.p ∧ w.heap.size ≤ R.k) := ⟨Nat.le_trans HB4.out.size hp, Nat.le_trans HB4.out.size hk⟩; have HR5 : Hid (RbAt w5 R r) := hR; have HRW : Hid (R.W = c.W ∧ R.H = c.H ∧ R.us = G.uses ∧ (R.ku : Int) = c.unit ∧ (R.ka : Int) = c.accel ∧ (R.kv : Int) = c.speed) := hRW; have HB5 : Hid (Below w.heap.size w w5) := bcat HB4.out b5; have HB15 : Hid (Below w1.heap.size w1 w5) := bcat HB14.out b5; clear b5 hp hk HC4 hR hRW)
          | (have X' := HM; go_at_call 7; refine (HM.out _ HB5.out).mono ?_; rintro e w6 ⟨rm, rfl, rfl, b6⟩; have HR6 : Hid (RbAt w6 R r) := HR5.out.go b6; have HB6 : Hid (Below w.heap.size w w6) := bcat HB5.out b6; have HB16 : Hid (Below w1.heap.size w1 w6) := bcat HB15.out b6; have k5 := HC5.out _ HB16.out; clear b6 HM)
          | (go_at_call 9; refine (HRN.out _ HB6.out).mono ?_; rintro e w8 ⟨q, rfl, hq, lq, b8⟩; have HA8 : Hid (Al w w w8 R q #[.int .i64 c.W, .int .i64 c.H, .int .i64 c.height, va, vb, (.slice a3 c.robots.length cap3), vd, .int .i64 c.unit, .int .i64 c.accel, .int .i64 c.speed, .int .i64 c.turn, .int .i64 c.hoist, .int .i64 c.queue, .int .i64 c.resend, .int .i64 c.budget, .bool c.back] r r) := ⟨HR6.out.go b8, ⟨0, false, hq⟩, HR6.out.off lq, bcat HB6.out b8, HPK.out.1, HPK.out.2, Nat.le_trans HB6.out.size lq, (Fr.refl _ _ _).right (Xn.below (bcat HB6.out b8))⟩; have cS := alike18 HA8.out; have HCC : Hid (Ch w #[.int .i64 c.W, .int .i64 c.H, .int .i64 c.height, va, vb, (.slice a3 c.robots.length cap3), vd, .int .i64 c.unit, .int .i64 c.accel, .int .i64 c.speed, .int .i64 c.turn, .int .i64 c.hoist, .int .i64 c.queue, .int .i64 c.resend, .int .i64 c.budget, .bool c.back] R) := HCH.out R HR6.out.ok HRW.out; clear hq lq b8 k5)
          | (have X' := cS; go_at_call 10; refine cS.mono ?_; clear cS; rintro e w9 ⟨z9, rfl, rfl, b9⟩; have HA9 : Hid (Al w w w9 R q #[.int .i64 c.W, .int .i64 c.H, .int .i64 c.height, va, vb, (.slice a3 c.robots.length cap3), vd, .int .i64 c.unit, .int .i64 c.accel, .int .i64 c.speed, .int .i64 c.turn, .int .i64 c.hoist, .int .i64 c.queue, .int .i64 c.resend, .int .i64 c.budget, .bool c.back] r r) := HA8.out.go b9; clear b9))
        clear hneg hbig hil
        go_loopw [10] (fun ci wr => ∃ (k : Nat) (r1 : Rb), ci = .int .i64 k ∧ k ≤ 60 ∧ Al w w wr R q #[.int .i64 c.W, .int .i64 c.H, .int .i64 c.height, va, vb, (.slice a3 c.robots.length cap3), vd, .int .i64 c.unit, .int .i64 c.accel, .int .i64 c.speed, .int .i64 c.turn, .int .i64 c.hoist, .int .i64 c.queue, .int .i64 c.resend, .int .i64 c.budget, .bool c.back] r1 r1 ∧ OkR ((k : Int) * 9) r1) (fun ci _ => 60 - (intOf ci).toNat)
        case atStart => exact ⟨0, r, rfl, Nat.zero_le _, HA9.out, by simpa using HOK0.out⟩
        case round =>
          obtain ⟨k, r1, rfl, hk, hal, hok⟩ := hrel
          by_cases hmore : k < n ∧ k < 60
          · obtain ⟨hc1, hc2⟩ := hmore
            have g1 : (k : Int) < (n : Int) := by omega
            have g2 : (k : Int) < 60 := by omega
            obtain ⟨xs, rfl, hld⟩ := (HIn.out _ hal.bel).load hc1
            have cD := do_any hal (n := (k : Int) * 9) (by omega) (by omega) hok (ts k) HCC.out
            have HO1 : Hid (OkR (((k + 1 : Nat) : Int) * 9) (doR R r1 (ts k))) := by
              have q := hok.doR (by omega) hal.rb.hT (ts k)
              rw [show (((k + 1 : Nat) : Int) * 9) = (k : Int) * 9 + 9 by omega]
              exact q
            clear hal hok
            go_wp2_with (first
              | (have X' := hld; refine wpList_load_at rfl 48 (.tmp 75) rfl (xs.add (k * 21)) rfl (clA (ts k)) hld ?_; clear hld)
              | (have X' := cD; go_at_call 11; refine cD.mono ?_; clear cD; rintro e u1 ⟨z1, rfl, rfl, a1⟩; have HAN : Hid (Al w w u1 R q #[.int .i64 c.W, .int .i64 c.H, .int .i64 c.height, va, vb, (.slice a3 c.robots.length cap3), vd, .int .i64 c.unit, .int .i64 c.accel, .int .i64 c.speed, .int .i64 c.turn, .int .i64 c.hoist, .int .i64 c.queue, .int .i64 c.resend, .int .i64 c.budget, .bool c.back] (doR R r1 (ts k)) (doR R r1 (ts k))) := a1; clear a1))
            go_roundw
            case rel => exact ⟨k + 1, _, by go_num, by omega, HAN.out, HO1.out⟩
            case measure => simp [intOf]; omega
          · have HE : Hid (Below w.heap.size w wr) := hal.bel
            have g3 : ¬ ((k : Int) < (n : Int) ∧ (k : Int) < 60) := fun hh => hmore (by omega)
            clear hal hok hmore
            by_cases hc1 : (k : Int) < (n : Int)
            · have hc2 : ¬ (k : Int) < 60 := fun hh => g3 ⟨hc1, hh⟩
              clear g3
              go_wp2_with (go_at_call 8; refine (awake18_any _).mono ?_; rintro e w9 ⟨rfl, b9⟩)
              go_ret
              exact ⟨rfl, bcat HE.out b9⟩
            · clear g3
              go_wp2_with (go_at_call 8; refine (awake18_any _).mono ?_; rintro e w9 ⟨rfl, b9⟩)
              go_ret
              exact ⟨rfl, bcat HE.out b9⟩
end Go.Proofs.YtedhoghleelhfaaGreat.Rob
