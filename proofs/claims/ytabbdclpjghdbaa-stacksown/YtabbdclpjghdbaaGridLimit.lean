/-
  Whether each number of a config is within its limits.
-/
import Derived.Test.YtabbdclpjghdbaaGridCarry
import Derived.Deep.RegionWith
namespace Go.Proofs.Ytabbdclpjghdbaa.Grid
set_option linter.unusedVariables false
set_option linter.unusedSimpArgs false
open Go Go.RowKit

/- The cells of a config: its numbers, and four lists. -/
structure Cells (cs : Array Value) (c : Conf) (vb vp vr vs : Value) : Prop where
  size : cs.size = 16
  e0 : cs[0]? = some (.int .i64 c.W)
  e1 : cs[1]? = some (.int .i64 c.H)
  e2 : cs[2]? = some (.int .i64 c.height)
  e3 : cs[3]? = some vb
  e4 : cs[4]? = some vp
  e5 : cs[5]? = some vr
  e6 : cs[6]? = some vs
  e7 : cs[7]? = some (.int .i64 c.unit)
  e8 : cs[8]? = some (.int .i64 c.accel)
  e9 : cs[9]? = some (.int .i64 c.speed)
  e10 : cs[10]? = some (.int .i64 c.turn)
  e11 : cs[11]? = some (.int .i64 c.hoist)
  e12 : cs[12]? = some (.int .i64 c.queue)
  e13 : cs[13]? = some (.int .i64 c.resend)
  e14 : cs[14]? = some (.int .i64 c.budget)
theorem cells_conf (c : Conf) (vb vp vr vs : Value) : Cells (confCells c vb vp vr vs) c vb vp vr vs := ⟨rfl, rfl, rfl, rfl, rfl, rfl, rfl, rfl, rfl, rfl, rfl, rfl, rfl, rfl, rfl, rfl⟩
theorem info_conf : (Try.prog.info? 26).map (·.size) = some 16 := by kernel_rfl
def ticks (c : Conf) : List Int := [c.unit, c.accel, c.speed, c.turn, c.hoist, c.resend]
theorem limited_eq (c : Conf) : limited c = ((ticks c).all (fun v => upTo v 1000) && (upTo c.W 16 && upTo c.H 16 && upTo c.height 8 && upTo c.queue 16 && upTo c.budget 1048576)) := by
  unfold limited ticks
  simp [Bool.and_assoc]
theorem not_all (vs : List Int) (k : Nat) (hk : k < vs.length) (h : upTo (vs.getD k 0) 1000 = false) : vs.all (fun v => upTo v 1000) = false := by
  rw [List.getD_eq_getElem?_getD, List.getElem?_eq_getElem hk, Option.getD_some] at h
  rw [List.all_eq_false]
  exact ⟨_, List.getElem_mem hk, by rw [h]; simp⟩
theorem yes_all (vs : List Int) (h : ∀ j, j < vs.length → upTo (vs.getD j 0) 1000 = true) : vs.all (fun v => upTo v 1000) = true := by
  rw [List.all_eq_true]
  intro x hx
  obtain ⟨j, hj, e⟩ := List.getElem_of_mem hx
  have := h j hj
  rw [List.getD_eq_getElem?_getD, List.getElem?_eq_getElem hj, Option.getD_some, e] at this
  exact this
set_option maxRecDepth 100000 in
set_option maxHeartbeats 2000000 in
theorem limited_any (cs : Array Value) (c : Conf) (vb vp vr vs : Value) (w : World) (hC : Cells cs c vb vp vr vs) :
    Calls Try.prog 54 #[.agg cs] w fun e w' => e = .returned (.bool (limited c)) ∧ Below w.heap.size w w' := by
  obtain ⟨hz, e0, e1, e2, e3, e4, e5, e6, e7, e8, e9, e10, e11, e12, e13, e14⟩ := hC
  clear hz
  rw [limited_eq]
  have HT : Hid (∀ j, j < 6 → #[Value.int .i64 c.unit, .int .i64 c.accel, .int .i64 c.speed, .int .i64 c.turn, .int .i64 c.hoist, .int .i64 c.resend][j]? = some (.int .i64 ((ticks c).getD j 0))) := by
    show ∀ j, j < 6 → _
    intro j hj
    match j, hj with
    | 0, _ => rfl
    | 1, _ => rfl
    | 2, _ => rfl
    | 3, _ => rfl
    | 4, _ => rfl
    | 5, _ => rfl
  have HL : Hid ((ticks c).length = 6) := rfl
  generalize ticks c = T at *
  have u1 := fun u => upTo_any c.W 16 u
  have u2 := fun u => upTo_any c.H 16 u
  have u3 := fun u => upTo_any c.height 8 u
  have u4 := fun u => upTo_any c.queue 16 u
  have u5 := fun u => upTo_any c.budget 1048576 u
  generalize upTo c.W 16 = p1 at *
  generalize upTo c.H 16 = p2 at *
  generalize upTo c.height 8 = p3 at *
  generalize upTo c.queue 16 = p4 at *
  generalize upTo c.budget 1048576 = p5 at *
  generalize c.W = W at *
  generalize c.H = H at *
  generalize c.height = h at *
  generalize c.queue = q at *
  generalize c.budget = bu at *
  generalize c.unit = t1 at *
  generalize c.accel = t2 at *
  generalize c.speed = t3 at *
  generalize c.turn = t4 at *
  generalize c.hoist = t5 at *
  generalize c.resend = t6 at *
  go_enter Try.func54, Try.ntmps54
  go_wp2
  have bW : Below w.heap.size w ((w.alloc (.cells cs 26)).alloc (.cells #[.int .i64 t1, .int .i64 t2, .int .i64 t3, .int .i64 t4, .int .i64 t5, .int .i64 t6] 3)) := below_two _ _ _
  have HC : Hid (∀ j, j < 6 → ((w.alloc (.cells cs 26)).alloc (.cells #[.int .i64 t1, .int .i64 t2, .int .i64 t3, .int .i64 t4, .int .i64 t5, .int .i64 t6] 3)).cell? ⟨w.heap.size + 1, j, none⟩ = some (.int .i64 (T.getD j 0))) := fun j hj => (cell_of (heap_new2 _ _ _) j).trans (HT.out j hj)
  have k0 : ((w.alloc (.cells cs 26)).alloc (.cells #[.int .i64 t1, .int .i64 t2, .int .i64 t3, .int .i64 t4, .int .i64 t5, .int .i64 t6] 3)).cell? ⟨w.heap.size, 0, none⟩ = some (.int .i64 W) := by rw [cell_same (p := ⟨w.heap.size, 0, none⟩) (alloc_old _ _ _ (by simp)), new_cell]; exact e0
  have k1 : ((w.alloc (.cells cs 26)).alloc (.cells #[.int .i64 t1, .int .i64 t2, .int .i64 t3, .int .i64 t4, .int .i64 t5, .int .i64 t6] 3)).cell? ⟨w.heap.size, 1, none⟩ = some (.int .i64 H) := by rw [cell_same (p := ⟨w.heap.size, 1, none⟩) (alloc_old _ _ _ (by simp)), new_cell]; exact e1
  have k2 : ((w.alloc (.cells cs 26)).alloc (.cells #[.int .i64 t1, .int .i64 t2, .int .i64 t3, .int .i64 t4, .int .i64 t5, .int .i64 t6] 3)).cell? ⟨w.heap.size, 2, none⟩ = some (.int .i64 h) := by rw [cell_same (p := ⟨w.heap.size, 2, none⟩) (alloc_old _ _ _ (by simp)), new_cell]; exact e2
  have k12 : ((w.alloc (.cells cs 26)).alloc (.cells #[.int .i64 t1, .int .i64 t2, .int .i64 t3, .int .i64 t4, .int .i64 t5, .int .i64 t6] 3)).cell? ⟨w.heap.size, 12, none⟩ = some (.int .i64 q) := by rw [cell_same (p := ⟨w.heap.size, 12, none⟩) (alloc_old _ _ _ (by simp)), new_cell]; exact e12
  have k14 : ((w.alloc (.cells cs 26)).alloc (.cells #[.int .i64 t1, .int .i64 t2, .int .i64 t3, .int .i64 t4, .int .i64 t5, .int .i64 t6] 3)).cell? ⟨w.heap.size, 14, none⟩ = some (.int .i64 bu) := by rw [cell_same (p := ⟨w.heap.size, 14, none⟩) (alloc_old _ _ _ (by simp)), new_cell]; exact e14
  generalize ((w.alloc (.cells cs 26)).alloc (.cells #[.int .i64 t1, .int .i64 t2, .int .i64 t3, .int .i64 t4, .int .i64 t5, .int .i64 t6] 3)) = W2 at *
  clear HT e0 e1 e2 e3 e4 e5 e6 e7 e8 e9 e10 e11 e12 e13 e14
  go_loopw [19] (fun i wr => ∃ k : Nat, k ≤ 6 ∧ i = .int .i64 k ∧ wr = W2 ∧ Hid (∀ j, j < k → upTo (T.getD j 0) 1000 = true)) (fun i _ => 6 - (intOf i).toNat)
  case atStart => exact ⟨0, by omega, rfl, rfl, fun j hj => by omega⟩
  case round =>
    obtain ⟨k, hk, rfl, rfl, HK⟩ := hrel
    by_cases hlt : k < 6
    · have ck := HC.out k hlt
      have cU := fun u => upTo_any (T.getD k 0) 1000 u
      have HX : Hid (upTo (T.getD k 0) 1000 = true → ∀ j, j < k + 1 → upTo (T.getD j 0) 1000 = true) := fun h j hj => by
        by_cases q : j < k
        · exact HK.out j q
        · obtain rfl : j = k := by omega
          exact h
      have HY : Hid (upTo (T.getD k 0) 1000 = false → T.all (fun v => upTo v 1000) = false) := not_all T k (by rw [HL.out]; exact hlt)
      have hlt2 : (k : Int) < 6 := by omega
      generalize T.getD k 0 = x at *
      cases hu : upTo x 1000
      · rw [hu] at cU
        have HZ : Hid (T.all (fun v => upTo v 1000) = false) := HY.out hu
        go_wp2_with (go_at_call 68; refine (cU _).mono ?_; rintro e w1 ⟨rfl, hw1⟩; rw [hw1]; clear hw1 w1)
        go_ret
        exact ⟨ret_bool (by rw [HZ.out]; rfl), bW⟩
      · rw [hu] at cU
        go_wp2_with (go_at_call 68; refine (cU _).mono ?_; rintro e w1 ⟨rfl, hw1⟩; rw [hw1]; clear hw1 w1)
        go_roundw
        case rel => exact ⟨k + 1, by omega, by go_num, trivial, HX.out hu⟩
        case measure => simp [intOf]; omega
    · obtain rfl : k = 6 := by omega
      have HZ : Hid (T.all (fun v => upTo v 1000) = true) := yes_all T (fun j hj => HK.out j (by rw [HL.out] at hj; exact hj))
      cases p1
      · go_wp2_with (first
          | (go_at_call_of 68 W; refine (u1 _).mono ?_; rintro e w1 ⟨rfl, hw1⟩; rw [hw1]; clear hw1 w1))
        go_ret
        exact ⟨ret_bool (by rw [HZ.out]; rfl), bW⟩
      · cases p2
        · go_wp2_with (first
            | (go_at_call_of 68 W; refine (u1 _).mono ?_; rintro e w1 ⟨rfl, hw1⟩; rw [hw1]; clear hw1 w1)
            | (go_at_call_of 68 H; refine (u2 _).mono ?_; rintro e w2 ⟨rfl, hw2⟩; rw [hw2]; clear hw2 w2))
          go_ret
          exact ⟨ret_bool (by rw [HZ.out]; rfl), bW⟩
        · cases p3
          · go_wp2_with (first
              | (go_at_call_of 68 W; refine (u1 _).mono ?_; rintro e w1 ⟨rfl, hw1⟩; rw [hw1]; clear hw1 w1)
              | (go_at_call_of 68 H; refine (u2 _).mono ?_; rintro e w2 ⟨rfl, hw2⟩; rw [hw2]; clear hw2 w2)
              | (go_at_call_of 68 h; refine (u3 _).mono ?_; rintro e w3 ⟨rfl, hw3⟩; rw [hw3]; clear hw3 w3))
            go_ret
            exact ⟨ret_bool (by rw [HZ.out]; rfl), bW⟩
          · cases p4
            · go_wp2_with (first
                | (go_at_call_of 68 W; refine (u1 _).mono ?_; rintro e w1 ⟨rfl, hw1⟩; rw [hw1]; clear hw1 w1)
                | (go_at_call_of 68 H; refine (u2 _).mono ?_; rintro e w2 ⟨rfl, hw2⟩; rw [hw2]; clear hw2 w2)
                | (go_at_call_of 68 h; refine (u3 _).mono ?_; rintro e w3 ⟨rfl, hw3⟩; rw [hw3]; clear hw3 w3)
                | (go_at_call_of 68 q; refine (u4 _).mono ?_; rintro e w4 ⟨rfl, hw4⟩; rw [hw4]; clear hw4 w4))
              go_ret
              exact ⟨ret_bool (by rw [HZ.out]; rfl), bW⟩
            · cases p5
              all_goals
                go_wp2_with (first
                  | (go_at_call_of 68 W; refine (u1 _).mono ?_; rintro e w1 ⟨rfl, hw1⟩; rw [hw1]; clear hw1 w1)
                  | (go_at_call_of 68 H; refine (u2 _).mono ?_; rintro e w2 ⟨rfl, hw2⟩; rw [hw2]; clear hw2 w2)
                  | (go_at_call_of 68 h; refine (u3 _).mono ?_; rintro e w3 ⟨rfl, hw3⟩; rw [hw3]; clear hw3 w3)
                  | (go_at_call_of 68 q; refine (u4 _).mono ?_; rintro e w4 ⟨rfl, hw4⟩; rw [hw4]; clear hw4 w4)
                  | (go_at_call_of 68 bu; refine (u5 _).mono ?_; rintro e w5 ⟨rfl, hw5⟩; rw [hw5]; clear hw5 w5))
                go_ret
                exact ⟨ret_bool (by rw [HZ.out]; rfl), bW⟩
end Go.Proofs.Ytabbdclpjghdbaa.Grid
