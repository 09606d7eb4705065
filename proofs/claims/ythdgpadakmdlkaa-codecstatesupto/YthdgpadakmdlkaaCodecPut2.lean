/-
  What is put behind bytes of one's own: a move, an operation, a telegram; a number behind any bytes.
-/
import Derived.Test.YthdgpadakmdlkaaCodecPut
namespace Go.Proofs.Ythdgpadakmdlkaa.Codec
set_option linter.unusedVariables false
set_option linter.unusedSimpArgs false
open Go Go.RowKit

/- A move's cells. -/
def mCells (m : TMove) : List Value := [.int .i64 m.1, .int .i64 m.2.1, .int .i64 m.2.2.1, .int .i64 m.2.2.2.1.1.1, .int .i64 m.2.2.2.1.1.2, .bool m.2.2.2.1.2, .int .i64 m.2.2.2.2.1.1.1, .int .i64 m.2.2.2.2.1.1.2, .bool m.2.2.2.2.1.2, .int .i64 m.2.2.2.2.2.1, .int .i64 m.2.2.2.2.2.2]
def mVal (m : TMove) : Value := .agg (mCells m).toArray

theorem put_move (k d n fx fy tx ty a e : Int) (fd td : Bool) : cMove.put (k, d, n, ((fx, fy), fd), ((tx, ty), td), a, e) = nums [k, d, n] ++ (cPose.put ((fx, fy), fd) ++ (cPose.put ((tx, ty), td) ++ nums [a, e])) := by
  rw [nums_cons, nums_cons, nums_cons, nums_nil, List.append_nil, nums_cons, nums_cons, nums_nil, List.append_nil, List.append_assoc, List.append_assoc]
  rfl

set_option maxRecDepth 100000 in
set_option maxHeartbeats 1000000 in
theorem putMove_flat (w : World) (b : Value) (zs : List Int) (k d n fx fy tx ty a e : Int) (fd td : Bool) (hm : Mine w b zs) (ho : cMove.ok (k, d, n, ((fx, fy), fd), ((tx, ty), td), a, e)) (hl : zs.length + (cMove.put (k, d, n, ((fx, fy), fd), ((tx, ty), td), a, e)).length ≤ 140737488355328) :
    Calls Try.prog 64 #[b, .agg #[.int .i64 k, .int .i64 d, .int .i64 n, .int .i64 fx, .int .i64 fy, .bool fd, .int .i64 tx, .int .i64 ty, .bool td, .int .i64 a, .int .i64 e]] w
      fun e' w' => ∃ b', e' = .returned b' ∧ Mine w' b' (zs ++ cMove.put (k, d, n, ((fx, fy), fd), ((tx, ty), td), a, e)) ∧ Goes b w b' w' := by
  rw [put_move] at hl ⊢
  simp only [List.length_append] at hl
  obtain ⟨o1, o2, o3, o4, o5, o6, o7⟩ := ho
  have c1 := putNumbers3 b zs k d n (three_ok o1 o2 o3) (by omega)
  have c2 := fun (u : World) (b1 : Value) (hm : Mine u b1 (zs ++ nums [k, d, n])) => putPose_any u b1 _ fx fy fd hm o4 (by simp only [List.length_append]; omega)
  have c3 := fun (u : World) (b1 : Value) (hm : Mine u b1 ((zs ++ nums [k, d, n]) ++ cPose.put ((fx, fy), fd))) => putPose_any u b1 _ tx ty td hm o5 (by simp only [List.length_append]; omega)
  have c4 := fun (b1 : Value) => putNumbers2 b1 (((zs ++ nums [k, d, n]) ++ cPose.put ((fx, fy), fd)) ++ cPose.put ((tx, ty), td)) a e (two_ok o6 o7) (by simp only [List.length_append]; omega)
  simp only [← List.append_assoc]
  clear o1 o2 o3 o4 o5 o6 o7 hl
  generalize hX1 : zs ++ nums [k, d, n] = X1 at *
  generalize hX2 : X1 ++ cPose.put ((fx, fy), fd) = X2 at *
  generalize hX3 : X2 ++ cPose.put ((tx, ty), td) = X3 at *
  generalize hX4 : X3 ++ nums [a, e] = X4 at *
  clear hX1 hX2 hX3 hX4
  go_enter Try.func64, Try.ntmps64
  go_wp2_with (first
    | (go_at_call 61; refine (c4 b3 _ _ _ m3 rfl).mono ?_; rintro e w4 ⟨b4, rfl, m4, g4⟩; have G4 := (G3.alloc _).trans g4)
    | (go_at_call 62; refine (c3 _ _ m2).mono ?_; rintro e w3 ⟨b3, rfl, m3, g3⟩; have G3 := G2.trans g3; have K9 := box_stays hm G3 9; have K10 := box_stays hm G3 10; simp only [List.getElem?_toArray, List.getElem?_cons_succ, List.getElem?_cons_zero] at K9 K10)
    | (go_at_call 62; refine (c2 _ _ m1).mono ?_; rintro e w2 ⟨b2, rfl, m2, g2⟩; have G2 := G1.trans g2; have K6 := box_stays hm G2 6; have K7 := box_stays hm G2 7; have K8 := box_stays hm G2 8; simp only [List.getElem?_toArray, List.getElem?_cons_succ, List.getElem?_cons_zero] at K6 K7 K8)
    | (go_at_call 61; refine (c1 _ _ _ (hm.alloc _) (by simp)).mono ?_; rintro e w1 ⟨b1, rfl, m1, g1⟩; have G1 := (goes_alloc _ _ _).trans g1; have K3 := box_stays hm G1 3; have K4 := box_stays hm G1 4; have K5 := box_stays hm G1 5; simp only [List.getElem?_toArray, List.getElem?_cons_succ, List.getElem?_cons_zero] at K3 K4 K5))
  go_ret
  exact ⟨b4, rfl, m4, (goes_alloc _ _ _).trans G4⟩
theorem putMove_any (w : World) (b : Value) (zs : List Int) (m : TMove) (hm : Mine w b zs) (ho : cMove.ok m) (hl : zs.length + (cMove.put m).length ≤ 140737488355328) :
    Calls Try.prog 64 #[b, mVal m] w fun e w' => ∃ b', e = .returned b' ∧ Mine w' b' (zs ++ cMove.put m) ∧ Goes b w b' w' := by
  obtain ⟨k, d, n, ⟨⟨fx, fy⟩, fd⟩, ⟨⟨tx, ty⟩, td⟩, a, e⟩ := m
  exact putMove_flat w b zs k d n fx fy tx ty a e fd td hm ho hl
end Go.Proofs.Ythdgpadakmdlkaa.Codec
