/-
  The chapter's example: what the statements call 'awake' answers true.
-/
import Derived.Test.YtjblplaaogbkiaaKinNew
namespace Go.Proofs.Ytjblplaaogbkiaa.Kin
set_option linter.unusedVariables false
set_option linter.unusedSimpArgs false
open Go Go.RowKit Go.Shelf Go.Proofs
attribute [local go_sem] Oper.semAt_some

set_option maxHeartbeats 2000000 in
theorem same_any (b1 b2 : Nat) (x y : Value) (ps : List Nat) (w : World) (hx : w.ownsRow b1 3 1 x ps.length (ints ps)) (hy : w.ownsRow b2 3 1 y ps.length (ints ps)) (hl : ps.length ≤ 1000000) :
    Calls Try.prog 18 #[x, y] w fun e w' => e = .returned (.bool true) ∧ Below w.heap.size w w' := by
  by_cases h0 : ps.length = 0
  · obtain ⟨xa, xc, rfl, _⟩ := own_form hx
    obtain ⟨ya, yc, rfl, _⟩ := own_form hy
    rw [h0]
    clear hx hy hl h0
    go_enter Try.func18, Try.ntmps18
    go_wp2
    go_loop [5] (fun i => i = .int .i64 0) (fun _ => 0)
    case atStart => rfl
    case round =>
      subst hrel
      go_wp2
      go_ret
      exact ⟨rfl, Below.refl _ _⟩
  · rcases hx.2 with ⟨_, q⟩ | ⟨g, c, cur, rfl, _⟩
    · omega
    · rcases hy.2 with ⟨_, q⟩ | ⟨g', c', cur', rfl, _⟩
      · omega
      · have HX : Hid (∀ i, i < ps.length → ∃ z : Nat, w.cell? ⟨g, i, none⟩ = some (.int .i64 z) ∧ w.cell? ⟨g', i, none⟩ = some (.int .i64 z)) := by
          intro i hi
          have e : (ints ps)[i]? = some (.int .i64 (ps[i] : Nat)) := by unfold ints; rw [List.getElem?_map, List.getElem?_eq_getElem hi]; rfl
          exact ⟨ps[i], (hx.cellAt i (by omega)).trans e, (hy.cellAt i (by omega)).trans e⟩
        clear hx hy
        generalize ps.length = k at *
        go_enter Try.func18, Try.ntmps18
        go_wp2
        go_loopw [5] (fun i wr => ∃ j : Nat, j ≤ k ∧ i = .int .i64 j ∧ Below w.heap.size w wr ∧ Hid (∃ q, wr = w.drewN q)) (fun i wr => k - (intOf i).toNat)
        case atStart => exact ⟨0, Nat.zero_le _, rfl, Below.refl _ _, 0, rfl⟩
        case round =>
          obtain ⟨j, hj, rfl, hb, hq⟩ := hrel
          by_cases hlt : j < k
          · obtain ⟨z, z1, z2⟩ := HX.out j hlt
            have y1 : wr.cell? ⟨g, j, none⟩ = some (.int .i64 z) := by obtain ⟨q, rfl⟩ := hq.out; rw [World.cell?_drewN]; exact z1
            have y2 : wr.cell? ⟨g', j, none⟩ = some (.int .i64 z) := by obtain ⟨q, rfl⟩ := hq.out; rw [World.cell?_drewN]; exact z2
            clear z1 z2
            go_wp2
            go_quiet (fail)
            go_wp2
            go_roundw
            case rel => exact ⟨j + 1, by omega, by go_num, below_drewN hb _, by obtain ⟨q, rfl⟩ := hq.out; exact ⟨q + nq, by rw [World.drewN_drewN]⟩⟩
            case measure => simp [intOf]; omega
          · go_wp2
            go_ret
            exact ⟨rfl, hb⟩
theorem b2 : brk 2 2 = 0 := brk_small (by omega)
theorem b3 : brk 2 3 = 1 := by rw [brk_big (by omega) (by omega), show 3 - 2 = 1 from rfl, brk_small (by omega)]
theorem b4 : brk 2 4 = 2 := by rw [brk_big (by omega) (by omega), show 4 - 2 = 2 from rfl, b2]
theorem nxt_yes {a left f : Nat} (q : Nat) (h : min f left = q) (hb : brk a q ≤ left - q) : nxt a left f = q := by unfold nxt; rw [h]; exact down_yes hb
theorem ex_spd : spd 10 2 4 1 = [2, 4, 3, 1] := by
  unfold spd
  rw [show 1 * 10 = 10 from rfl]
  have n1 : nxt 2 10 (min (0 + 2) 4) = 2 := nxt_yes 2 (by omega) (by rw [b2]; omega)
  have n2 : nxt 2 8 (min (2 + 2) 4) = 4 := nxt_yes 4 (by omega) (by rw [b4]; omega)
  have n3 : nxt 2 4 (min (4 + 2) 4) = 3 := by
    unfold nxt
    rw [show min (min (4 + 2) 4) 4 = 3 + 1 by omega, down_no (by rw [b4]; omega)]
    exact down_yes (by rw [b3]; omega)
  have n4 : nxt 2 1 (min (3 + 2) 4) = 1 := nxt_yes 1 (by omega) (by rw [brk_small (by omega)]; omega)
  rw [runs_cons (by omega) (by omega) (by omega) (by omega), n1, show 10 - 2 = 8 from rfl, runs_cons (by omega) (by omega) (by omega) (by omega), n2, show 8 - 4 = 4 from rfl,
    runs_cons (by omega) (by omega) (by omega) (by omega), n3, show 4 - 3 = 1 from rfl, runs_cons (by omega) (by omega) (by omega) (by omega), n4, show 1 - 1 = 0 from rfl, runs_nil]
theorem ex_ok : Ok 10 2 4 := ⟨by omega, by omega, by omega, by omega, by omega, by omega⟩
theorem ex_prof : profI 10 2 4 1 = [2, 6, 9, 10] := by
  have := profI_in (u := 10) (a := 2) (v := 4) (n := 1) (by omega) (by omega)
  rw [show (1 : Int) = ((1 : Nat) : Int) from rfl, this]
  unfold prof
  rw [ex_spd]
  rfl
theorem ex_at (t : Nat) : atI 10 2 4 1 t = (([2, 4, 3, 1] : List Nat).take t).sum := by
  have := atI_in ex_ok (n := 1) (by omega) (by omega) t
  rw [show (1 : Int) = ((1 : Nat) : Int) from rfl, this]
  unfold pos
  rw [ex_spd]
theorem ex_vel (t : Nat) : velI 10 2 4 1 t = (([2, 4, 3, 1] : List Nat).take t).sum - (([2, 4, 3, 1] : List Nat).take (t - 1)).sum := by
  have := velI_in ex_ok (n := 1) (by omega) (by omega) t
  rw [show (1 : Int) = ((1 : Nat) : Int) from rfl, this]
  unfold vel pos
  rw [ex_spd]
theorem ex_runs : (runs 2 4 0 8 2).length = 4 := by
  have n1 : nxt 2 8 (min (2 + 0) 4) = 2 := nxt_yes 2 (by omega) (by rw [b2]; omega)
  have n2 : nxt 2 6 (min (2 + 0) 4) = 2 := nxt_yes 2 (by omega) (by rw [b2]; omega)
  have n3 : nxt 2 4 (min (2 + 0) 4) = 2 := nxt_yes 2 (by omega) (by rw [b2]; omega)
  have n4 : nxt 2 2 (min (2 + 0) 4) = 2 := nxt_yes 2 (by omega) (by rw [b2]; omega)
  rw [runs_cons (by omega) (by omega) (by omega) (by omega), n1, show 8 - 2 = 6 from rfl, runs_cons (by omega) (by omega) (by omega) (by omega), n2, show 6 - 2 = 4 from rfl,
    runs_cons (by omega) (by omega) (by omega) (by omega), n3, show 4 - 2 = 2 from rfl, runs_cons (by omega) (by omega) (by omega) (by omega), n4, show 2 - 2 = 0 from rfl, runs_nil]
  rfl
theorem ex_a1 : atI 10 2 4 1 1 = 2 := ex_at 1
theorem ex_a2 : atI 10 2 4 1 2 = 6 := ex_at 2
theorem ex_v1 : velI 10 2 4 1 1 = 2 := ex_vel 1
theorem ex_v2 : velI 10 2 4 1 2 = 4 := ex_vel 2
theorem ex_cells : cellsS 10 2 2 2 = 1 := by unfold cellsS; rw [b2]
theorem ex_c : stopC 10 2 4 1 1 = 1 := by
  unfold stopC
  rw [ex_prof, if_neg (by simp), if_neg (by simp), ex_a1, ex_v1, ex_cells]
theorem ex_t : stopT 10 2 4 1 1 = 4 := by
  unfold stopT
  rw [ex_prof, if_neg (by simp), if_neg (by simp), ex_a1, ex_v1]
  unfold ticksS
  rw [ex_cells]
  exact ex_runs
theorem lit_row (w : World) : (w.alloc (.cells #[.int .i64 2, .int .i64 6, .int .i64 9, .int .i64 10] 3)).ownsRow w.heap.size 3 1 (.slice (some ⟨w.heap.size, 0, none⟩) 4 4) 4 (ints [2, 6, 9, 10]) :=
  ⟨rfl, Or.inr ⟨w.heap.size, 4, _, rfl, Nat.le_refl _, World.alloc_heap_new _ _, by omega, by decide, rfl, rfl⟩⟩
set_option maxRecDepth 100000 in
set_option maxHeartbeats 2000000 in
theorem awake_any (w : World) : Calls Try.prog 14 #[] w fun e w' => e = .returned (.bool true) ∧ Below w.heap.size w w' := by
  have cN : Calls Try.prog 32 #[.int .i64 10, .int .i64 2, .int .i64 4] w fun e w' => ∃ g, e = .returned (.tuple #[.pointer (some ⟨g, 0, none⟩), .int .i64 0]) ∧ w.heap.size ≤ g ∧ KinAt w' g 10 2 4 ∧ Below w.heap.size w w' := new_yes 10 2 4 ex_ok w
  have cS := fun (g : Nat) (w1 : World) (h1 : KinAt w1 g 10 2 4) => stop_any g 10 2 4 1 1 w1 h1 ex_ok (by omega)
  rw [ex_c, ex_t] at cS
  have cP := fun (g : Nat) (w1 : World) (h1 : KinAt w1 g 10 2 4) => profile_any g 10 2 4 1 w1 h1 ex_ok
  rw [ex_prof] at cP
  have cT := fun (g : Nat) (w1 : World) (h1 : KinAt w1 g 10 2 4) => time_any g 10 2 4 1 w1 h1 ex_ok
  rw [ex_prof] at cT
  have cA := fun (g : Nat) (w1 : World) (h1 : KinAt w1 g 10 2 4) => at_any g 10 2 4 1 2 w1 h1 ex_ok
  rw [ex_a2] at cA
  have cV := fun (g : Nat) (w1 : World) (h1 : KinAt w1 g 10 2 4) => speed_any g 10 2 4 1 2 w1 h1 ex_ok (by omega)
  rw [ex_v2] at cV
  go_enter Try.func14, Try.ntmps14
  go_wp2_with (first
    | (go_at_call 32; refine cN.mono ?_; rintro e w1 ⟨g, rfl, hg, k1, b1⟩)
    | (go_at_call 28; refine (cS g w1 k1).mono ?_; rintro e w2 ⟨rfl, g2⟩)
    | (go_at_call 19; refine (cP g w2 g2.kin).mono ?_; rintro e w3 ⟨x, rfl, r3, g3⟩)
    | (go_at_call 18; refine (same_any w2.heap.size w3.heap.size _ _ [2, 6, 9, 10] _ (owns_go r3 ((Below.refl _ _).alloc (Nat.le_refl _) _)) (lit_row w3) (by decide)).mono ?_; rintro e w4 ⟨rfl, b4⟩; have g4 := g3.then (((Below.refl _ _).alloc (Nat.le_refl _) _).trans (b4.mono (by simp))))
    | (go_at_call 21; refine (cT g w4 g4.kin).mono ?_; rintro e w5 ⟨rfl, g5⟩)
    | (go_at_call 23; refine (cA g w5 g5.kin).mono ?_; rintro e w6 ⟨rfl, g6⟩)
    | (go_at_call 25; refine (cV g w6 g6.kin).mono ?_; rintro e w7 ⟨rfl, g7⟩))
  go_ret
  exact ⟨rfl, b1.trans (((((g2.trans g4).trans g5).trans g6).trans g7).since hg b1.size)⟩
end Go.Proofs.Ytjblplaaogbkiaa.Kin
