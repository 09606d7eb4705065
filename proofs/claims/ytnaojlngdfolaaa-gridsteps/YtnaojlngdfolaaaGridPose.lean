/-
  Poses: whether one fits, where it is when it is shifted, turned; where a move leads.
-/
import Derived.Test.YtnaojlngdfolaaaGridNew
namespace Go.Proofs.Ytnaojlngdfolaaa.Grid
set_option linter.unusedVariables false
set_option linter.unusedSimpArgs false
open Go Go.RowKit

def fitsU (W H : Int) (us : List Int) (p : Pose) : Bool := openU W H us p.1 && openU W H us (second p)
def shiftP (p : Pose) (d n : Int) : Pose :=
  if d = 0 then ((p.1.1, w64 (p.1.2 - n)), p.2) else if d = 1 then ((w64 (p.1.1 + n), p.1.2), p.2) else if d = 2 then ((p.1.1, w64 (p.1.2 + n)), p.2) else if d = 3 then ((w64 (p.1.1 - n), p.1.2), p.2) else p
def mayShift (d n : Int) : Bool := decide (0 ≤ n) && decide (n ≤ 16) && decide (0 ≤ d) && decide (d ≤ 3)
def zeroP : Pose := ((0, 0), false)
def shiftR (p : Pose) (d n : Int) : Pose := if mayShift d n then shiftP p d n else zeroP
def turnP (p : Pose) : Pose := (p.1, !p.2)
def poseCs (p : Pose) : Array Value := #[.int .i64 p.1.1, .int .i64 p.1.2, .bool p.2]
abbrev Move := Int × Int × Int × Pose × Pose × Int × Int
def moveCs (m : Move) : Array Value := #[.int .i64 m.1, .int .i64 m.2.1, .int .i64 m.2.2.1, .int .i64 m.2.2.2.1.1.1, .int .i64 m.2.2.2.1.1.2, .bool m.2.2.2.1.2, .int .i64 m.2.2.2.2.1.1.1, .int .i64 m.2.2.2.2.1.1.2, .bool m.2.2.2.2.1.2, .int .i64 m.2.2.2.2.2.1, .int .i64 m.2.2.2.2.2.2]

set_option maxHeartbeats 2000000 in
theorem fits_any (g u : Nat) (W H : Int) (us : List Int) (vp : Value) (x y : Int) (d : Bool) (w : World) (hG : GridAt w g u W H us vp) :
    Calls Try.prog 80 #[.pointer (some ⟨g, 0, none⟩), .agg #[.int .i64 x, .int .i64 y, .bool d]] w fun e w' => e = .returned (.bool (fitsU W H us ((x, y), d))) ∧ Below w.heap.size w w' := by
  have e : Hid (fitsU W H us ((x, y), d) = (openU W H us (x, y) && openU W H us ((second ((x, y), d)).1, (second ((x, y), d)).2))) := rfl
  have oA := fun (w1 : World) (b : Below w.heap.size w w1) => open_any g u W H us vp x y w1 (hG.go b)
  have oB := fun (w1 : World) (b : Below w.heap.size w w1) => open_any g u W H us vp (second ((x, y), d)).1 (second ((x, y), d)).2 w1 (hG.go b)
  have cS := fun u => second_any x y d u
  generalize (second ((x, y), d)).1 = x2 at *
  generalize (second ((x, y), d)).2 = y2 at *
  generalize openU W H us (x, y) = p at *
  generalize openU W H us (x2, y2) = r at *
  generalize fitsU W H us ((x, y), d) = s at *
  clear hG
  cases p
  all_goals
    go_enter Try.func80, Try.ntmps80
    go_wp2_with (first
      | (go_at_call 125; refine (cS _).mono ?_; rintro e' w3 ⟨rfl, b3⟩; have B3 := bcat B2 b3 (Nat.le_refl _))
      | (have X' := B3; go_at_call 91; refine (oB _ B3).mono ?_; rintro e' w4 ⟨rfl, b4⟩; have B4 := bcat B3 b4 (Nat.le_refl _))
      | (go_at_call 91; refine (oA _ (below_new (Below.refl _ _) _)).mono ?_; rintro e' w2 ⟨rfl, b2⟩; have B2 := bcat (below_new (Below.refl w.heap.size w) _) b2 (Nat.le_refl _); have k0 : w2.cell? ⟨w.heap.size, 0, none⟩ = some (.int .i64 x) := (b2.cell (p := ⟨w.heap.size, 0, none⟩) (by simp)).trans (new_cell w _ _ 0); have k1 : w2.cell? ⟨w.heap.size, 1, none⟩ = some (.int .i64 y) := (b2.cell (p := ⟨w.heap.size, 1, none⟩) (by simp)).trans (new_cell w _ _ 1); have k2 : w2.cell? ⟨w.heap.size, 2, none⟩ = some (.bool d) := (b2.cell (p := ⟨w.heap.size, 2, none⟩) (by simp)).trans (new_cell w _ _ 2)))
    go_ret
    first
      | exact ⟨ret_bool (by rw [e.out]; simp), B4⟩
      | exact ⟨ret_bool (by rw [e.out]; simp), B2⟩
theorem turned_any (x y : Int) (d : Bool) (w : World) : Calls Try.prog 81 #[.agg #[.int .i64 x, .int .i64 y, .bool d]] w fun e w' => e = .returned (.agg #[.int .i64 x, .int .i64 y, .bool (!d)]) ∧ Below w.heap.size w w' := by
  go_enter Try.func81, Try.ntmps81
  go_wp2
  exact bodyPost_ret (results_cell_row rfl _ _ (w.heap.size + 1) 30 _ (0, 0) _ rfl (heap_new2 _ _ _) Try.underlying30 rfl info_pose) rfl ⟨rfl, below_two _ _ _⟩
/- Two results: a struct, and one in a slot. -/
theorem results_cell_tmp {fn : Func} {p q : Tmp} {ty : TypeId} (h : fn.results = #[.cell p ty, .tmp q]) (tmps : Array Value) (w : World) (N : Nat) (cs : Array Value)
    (hp : tmps.getD p undef = .pointer (some ⟨N, 0, none⟩)) (hg : (loadVar ty ⟨N, 0, none⟩).run Try.prog w = .ok (.agg cs) w) :
    (results fn tmps).run Try.prog w = .ok (.tuple #[.agg cs, tmps.getD q undef]) w := by
  have hp' : tmps[p]?.getD undef = .pointer (some ⟨N, 0, none⟩) := by simpa using hp
  simp [results, h, hp', asAddr, hg]
theorem load_pose (w : World) (g : Nat) (cs : Array Value) (hs : cs.size = 3) (h : w.heap[g]? = some (.cells cs 30 (0, 0))) : (loadVar 30 ⟨g, 0, none⟩).run Try.prog w = .ok (.agg cs) w :=
  run_loadVar_row w g 30 30 cs (0, 0) _ h Try.underlying30 rfl (by rw [hs]; exact info_pose)
set_option maxRecDepth 100000 in
set_option maxHeartbeats 4000000 in
theorem shift_any (v : Value) (x y : Int) (d : Bool) (dir n : Int) (w : World) :
    Calls Try.prog 28 #[v, .agg #[.int .i64 x, .int .i64 y, .bool d], .int .i64 dir, .int .i64 n] w fun e w' => e = .returned (.tuple #[.agg (poseCs (shiftR ((x, y), d) dir n)), .bool (mayShift dir n)]) ∧ Below w.heap.size w w' := by
  by_cases h1 : n < 0
  · have e : mayShift dir n = false := by unfold mayShift; simp; omega
    unfold shiftR
    rw [e]
    go_enter Try.func28, Try.ntmps28
    go_wp2
    exact bodyPost_ret (results_cell_tmp Try.results28 _ _ (w.heap.size + 1) _ rfl (load_pose _ _ _ rfl (heap_new2 _ _ _))) rfl ⟨rfl, below_two _ _ _⟩
  · by_cases h2 : 16 < n
    · have e : mayShift dir n = false := by unfold mayShift; simp; omega
      unfold shiftR
      rw [e]
      go_enter Try.func28, Try.ntmps28
      go_wp2
      exact bodyPost_ret (results_cell_tmp Try.results28 _ _ (w.heap.size + 1) _ rfl (load_pose _ _ _ rfl (heap_new2 _ _ _))) rfl ⟨by rfl, below_two _ _ _⟩
    · by_cases hd : 0 ≤ dir ∧ dir ≤ 3
      · have e : mayShift dir n = true := by unfold mayShift; simp; omega
        unfold shiftR
        rw [e, if_pos rfl]
        obtain rfl | rfl | rfl | rfl : dir = 0 ∨ dir = 1 ∨ dir = 2 ∨ dir = 3 := by omega
        all_goals
          go_enter Try.func28, Try.ntmps28
          go_wp2
          exact bodyPost_ret (results_cell_tmp Try.results28 _ _ (w.heap.size + 1) _ rfl (load_pose _ _ _ rfl (heap_new2 _ _ _))) rfl ⟨by simp only [shiftP, poseCs, w64_wrap]; rfl, below_two _ _ _⟩
      · have e : mayShift dir n = false := by unfold mayShift; simp; omega
        unfold shiftR
        rw [e]
        have d0 : (dir == 0) = false := by rw [beq_eq_false_iff_ne]; omega
        have d1 : (dir == 1) = false := by rw [beq_eq_false_iff_ne]; omega
        have d2 : (dir == 2) = false := by rw [beq_eq_false_iff_ne]; omega
        have d3 : (dir == 3) = false := by rw [beq_eq_false_iff_ne]; omega
        go_enter Try.func28, Try.ntmps28
        go_wp2
        exact bodyPost_ret (results_cell_tmp Try.results28 _ _ (w.heap.size + 1) _ rfl (load_pose _ _ _ rfl (heap_new2 _ _ _))) rfl ⟨by rfl, below_two _ _ _⟩
end Go.Proofs.Ytnaojlngdfolaaa.Grid
