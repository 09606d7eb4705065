/-
  What puts stacks, robots, ports, orders, jobs, events and states behind bytes of one's own, call by call.
-/
import Derived.Test.YthdgpadakmdlkaaCodecPutInts
namespace Go.Proofs.Ythdgpadakmdlkaa.Codec
set_option linter.unusedVariables false
set_option linter.unusedSimpArgs false
open Go Go.RowKit

theorem putsMove (W : World) (F : Nat → Prop) : Puts W cMove moveEl F 64 := by
  intro u b zs x cs hB hb hm hx ho hl
  cases hx
  exact putMove_any u b zs x hm ho hl
theorem eq_Order (p : Int) (q : Int) (r : Int) (s : Int) : cOrder.put (p, q, r, s) = nums [p, q, r, s] := by
  try simp only [nums_cons, nums_nil, List.append_nil, List.append_assoc]
  rfl
set_option maxRecDepth 100000 in
set_option maxHeartbeats 2000000 in
theorem putsOrder (W : World) (F : Nat → Prop) (hF : ∀ g, F g → g < W.heap.size) : Puts W cOrder orderEl F 87 := by
  intro u b zs x cs hB hb hm hx ho hl
  obtain ⟨p, q, r, s⟩ := x
  obtain rfl := hx
  rw [eq_Order] at hl ⊢
  try simp only [List.length_append] at hl
  obtain ⟨o1a, o1b, o1c, o1d⟩ := ho
  dsimp only at *
  have c1 := fun (b1 : Value) => putNumbers4 b1 (zs) p q r s (four_ok o1a o1b o1c o1d) (by (try simp only [List.length_append, flag_len] at hl ⊢); omega)
  try simp only [← List.append_assoc]
  generalize hX1 : zs ++ nums [p, q, r, s] = X1 at *
  clear hX1 hl
  go_enter Try.func87, Try.ntmps87
  go_wp2_with (first
    | (go_at_call 61; refine (c1 b _ _ _ (hm.alloc _) (by simp)).mono ?_; rintro e w1 ⟨b1, rfl, m1, g1⟩; have G1 := (goes_alloc _ _ _).trans g1))
  go_ret
  exact ⟨b1, rfl, m1, (goes_alloc _ _ _).trans G1⟩
theorem eq_Job (p : Int) (q : Int) (r : Int) (s : Int) (fx : Int) (fy : Int) (tx : Int) (ty : Int) (rb : Int) : cJob.put (p, q, r, s, (fx, fy), (tx, ty), rb) = nums [p, q, r, s] ++ (cCell.put (fx, fy) ++ (cCell.put (tx, ty) ++ (num rb))) := by
  try simp only [nums_cons, nums_nil, List.append_nil, List.append_assoc]
  rfl
set_option maxRecDepth 100000 in
set_option maxHeartbeats 2000000 in
theorem putsJob (W : World) (F : Nat → Prop) (hF : ∀ g, F g → g < W.heap.size) : Puts W cJob jobEl F 89 := by
  intro u b zs x cs hB hb hm hx ho hl
  obtain ⟨p, q, r, s, ⟨fx, fy⟩, ⟨tx, ty⟩, rb⟩ := x
  obtain rfl := hx
  rw [eq_Job] at hl ⊢
  try simp only [List.length_append] at hl
  obtain ⟨o1a, o1b, o1c, o1d, o2, o3, o4⟩ := ho
  dsimp only at *
  have c1 := fun (b1 : Value) => putNumbers4 b1 (zs) p q r s (four_ok o1a o1b o1c o1d) (by (try simp only [List.length_append, flag_len] at hl ⊢); omega)
  have c2 := fun (u1 : World) (b1 : Value) (m : Mine u1 b1 (zs ++ nums [p, q, r, s])) => putCell_any u1 b1 _ fx fy m o2 (by (try simp only [List.length_append, flag_len] at hl ⊢); omega)
  have c3 := fun (u1 : World) (b1 : Value) (m : Mine u1 b1 ((zs ++ nums [p, q, r, s]) ++ cCell.put (fx, fy))) => putCell_any u1 b1 _ tx ty m o3 (by (try simp only [List.length_append, flag_len] at hl ⊢); omega)
  have c4 := fun (u1 : World) (b1 : Value) (m : Mine u1 b1 (((zs ++ nums [p, q, r, s]) ++ cCell.put (fx, fy)) ++ cCell.put (tx, ty))) => putNumber_any u1 b1 _ rb m o4 (by (try simp only [List.length_append, flag_len] at hl ⊢); omega)
  try simp only [← List.append_assoc]
  generalize hX1 : zs ++ nums [p, q, r, s] = X1 at *
  generalize hX2 : X1 ++ cCell.put (fx, fy) = X2 at *
  generalize hX3 : X2 ++ cCell.put (tx, ty) = X3 at *
  generalize hX4 : X3 ++ num rb = X4 at *
  clear hX1 hX2 hX3 hX4 hl
  go_enter Try.func89, Try.ntmps89
  go_wp2_with (first
    | (have X' := m3; go_at_call 75; refine (c4 _ b3 m3).mono ?_; rintro e w4 ⟨b4, rfl, m4, g4⟩; have G4 := G3.trans g4)
    | (have X' := m2; go_at_call 97; refine (c3 _ b2 m2).mono ?_; rintro e w3 ⟨b3, rfl, m3, g3⟩; have G3 := G2.trans g3; have K8 := box_stays hm G3 8; simp only [List.getElem?_toArray, List.getElem?_cons_succ, List.getElem?_cons_zero] at K8)
    | (have X' := m1; go_at_call 97; refine (c2 _ b1 m1).mono ?_; rintro e w2 ⟨b2, rfl, m2, g2⟩; have G2 := G1.trans g2; have K6 := box_stays hm G2 6; have K7 := box_stays hm G2 7; simp only [List.getElem?_toArray, List.getElem?_cons_succ, List.getElem?_cons_zero] at K6 K7)
    | (go_at_call 61; refine (c1 b _ _ _ (hm.alloc _) (by simp)).mono ?_; rintro e w1 ⟨b1, rfl, m1, g1⟩; have G1 := (goes_alloc _ _ _).trans g1; have K4 := box_stays hm G1 4; have K5 := box_stays hm G1 5; simp only [List.getElem?_toArray, List.getElem?_cons_succ, List.getElem?_cons_zero] at K4 K5))
  go_ret
  exact ⟨b4, rfl, m4, (goes_alloc _ _ _).trans G4⟩
theorem eq_Stack (x : Int) (y : Int) (l : List Int) : cStack.put ((x, y), l) = cCell.put (x, y) ++ ((list cNum).put l) := by
  try simp only [nums_cons, nums_nil, List.append_nil, List.append_assoc]
  rfl
set_option maxRecDepth 100000 in
set_option maxHeartbeats 2000000 in
theorem putsStack (W : World) (F : Nat → Prop) (hF : ∀ g, F g → g < W.heap.size) : Puts W cStack stackEl F 81 := by
  intro u b zs x cs hB hb hm hx ho hl
  obtain ⟨⟨x, y⟩, l⟩ := x
  obtain ⟨v, rfl, hv⟩ := hx
  rw [eq_Stack] at hl ⊢
  try simp only [List.length_append] at hl
  obtain ⟨o1, o2⟩ := ho
  dsimp only at *
  have c1 := fun (u1 : World) (b1 : Value) (m : Mine u1 b1 (zs)) => putCell_any u1 b1 _ x y m o1 (by (try simp only [List.length_append, flag_len] at hl ⊢); omega)
  have c2 := fun (u1 : World) (b1 : Value) (hB1 : Below W.heap.size W u1) (hb1 : Fresh W b1) (m : Mine u1 b1 (zs ++ cCell.put (x, y))) => putInts_any W F hF u1 b1 _ l v hB1 hb1 m hv o2 (by (try simp only [List.length_append, flag_len] at hl ⊢); omega)
  try simp only [← List.append_assoc]
  generalize hX1 : zs ++ cCell.put (x, y) = X1 at *
  generalize hX2 : X1 ++ (list cNum).put l = X2 at *
  clear hX1 hX2 hl
  go_enter Try.func81, Try.ntmps81
  go_wp2_with (first
    | (have X' := m1; go_at_call 104; refine (c2 _ b1 (Goes.below_of (hB.alloc hB.size _) G1 hb) (hb.goes (hB.alloc hB.size _) G1) m1).mono ?_; rintro e w2 ⟨b2, rfl, m2, g2⟩; have G2 := G1.trans g2)
    | (go_at_call 97; refine (c1 _ b (hm.alloc _)).mono ?_; rintro e w1 ⟨b1, rfl, m1, g1⟩; have G1 := g1; have K2 := box_stays hm G1 2; simp only [List.getElem?_toArray, List.getElem?_cons_succ, List.getElem?_cons_zero] at K2))
  go_ret
  exact ⟨b2, rfl, m2, (goes_alloc _ _ _).trans G2⟩
theorem eq_Port (bn : Int) (ac : Int) (l : List Int) : cPort.put (bn, ac, l) = nums [bn, ac] ++ ((list cNum).put l) := by
  try simp only [nums_cons, nums_nil, List.append_nil, List.append_assoc]
  rfl
set_option maxRecDepth 100000 in
set_option maxHeartbeats 2000000 in
theorem putsPort (W : World) (F : Nat → Prop) (hF : ∀ g, F g → g < W.heap.size) : Puts W cPort portEl F 85 := by
  intro u b zs x cs hB hb hm hx ho hl
  obtain ⟨bn, ac, l⟩ := x
  obtain ⟨v, rfl, hv⟩ := hx
  rw [eq_Port] at hl ⊢
  try simp only [List.length_append] at hl
  obtain ⟨o1a, o1b, o2⟩ := ho
  dsimp only at *
  have c1 := fun (b1 : Value) => putNumbers2 b1 (zs) bn ac (two_ok o1a o1b) (by (try simp only [List.length_append, flag_len] at hl ⊢); omega)
  have c2 := fun (u1 : World) (b1 : Value) (hB1 : Below W.heap.size W u1) (hb1 : Fresh W b1) (m : Mine u1 b1 (zs ++ nums [bn, ac])) => putInts_any W F hF u1 b1 _ l v hB1 hb1 m hv o2 (by (try simp only [List.length_append, flag_len] at hl ⊢); omega)
  try simp only [← List.append_assoc]
  generalize hX1 : zs ++ nums [bn, ac] = X1 at *
  generalize hX2 : X1 ++ (list cNum).put l = X2 at *
  clear hX1 hX2 hl
  go_enter Try.func85, Try.ntmps85
  go_wp2_with (first
    | (have X' := m1; go_at_call 104; refine (c2 _ b1 (Goes.below_of (hB.alloc hB.size _) G1 hb) (hb.goes (hB.alloc hB.size _) G1) m1).mono ?_; rintro e w2 ⟨b2, rfl, m2, g2⟩; have G2 := G1.trans g2)
    | (go_at_call 61; refine (c1 b _ _ _ (hm.alloc _) (by simp)).mono ?_; rintro e w1 ⟨b1, rfl, m1, g1⟩; have G1 := (goes_alloc _ _ _).trans g1; have K2 := box_stays hm G1 2; simp only [List.getElem?_toArray, List.getElem?_cons_succ, List.getElem?_cons_zero] at K2))
  go_ret
  exact ⟨b2, rfl, m2, (goes_alloc _ _ _).trans G2⟩
theorem eq_Robot (x : Int) (y : Int) (d : Bool) (ld : Int) (jb : Int) (ot : Bool) (nm : Int) (st : Bool) (l : List TMove) : cRobot.put (((x, y), d), ld, jb, l, ot, nm, st) = cPose.put ((x, y), d) ++ (nums [ld, jb] ++ ((list cMove).put l ++ (cFlag.put ot ++ (num nm ++ (cFlag.put st))))) := by
  try simp only [nums_cons, nums_nil, List.append_nil, List.append_assoc]
  rfl
set_option maxRecDepth 100000 in
set_option maxHeartbeats 2000000 in
theorem putsRobot (W : World) (F : Nat → Prop) (hF : ∀ g, F g → g < W.heap.size) : Puts W cRobot robotEl F 83 := by
  intro u b zs x cs hB hb hm hx ho hl
  obtain ⟨⟨⟨x, y⟩, d⟩, ld, jb, l, ot, nm, st⟩ := x
  obtain ⟨v, rfl, hv⟩ := hx
  rw [eq_Robot] at hl ⊢
  try simp only [List.length_append] at hl
  obtain ⟨o1, o2a, o2b, o3, o4, o5, o6⟩ := ho
  dsimp only at *
  have c1 := fun (u1 : World) (b1 : Value) (m : Mine u1 b1 (zs)) => putPose_any u1 b1 _ x y d m o1 (by (try simp only [List.length_append, flag_len] at hl ⊢); omega)
  have c2 := fun (b1 : Value) => putNumbers2 b1 (zs ++ cPose.put ((x, y), d)) ld jb (two_ok o2a o2b) (by (try simp only [List.length_append, flag_len] at hl ⊢); omega)
  have c3 := fun (u1 : World) (b1 : Value) (hB1 : Below W.heap.size W u1) (hb1 : Fresh W b1) (m : Mine u1 b1 ((zs ++ cPose.put ((x, y), d)) ++ nums [ld, jb])) => putListMove_any cMove moveEl heldMoveEl W F hF (putsMove W F) u1 b1 _ l v hB1 hb1 m hv o3 gMove (by (try simp only [List.length_append, flag_len] at hl ⊢); omega)
  have c4 := fun (u1 : World) (b1 : Value) (m : Mine u1 b1 (((zs ++ cPose.put ((x, y), d)) ++ nums [ld, jb]) ++ (list cMove).put l)) => putBool_any u1 b1 _ ot m (by (try simp only [List.length_append, flag_len] at hl ⊢); omega)
  have c5 := fun (u1 : World) (b1 : Value) (m : Mine u1 b1 ((((zs ++ cPose.put ((x, y), d)) ++ nums [ld, jb]) ++ (list cMove).put l) ++ cFlag.put ot)) => putNumber_any u1 b1 _ nm m o5 (by (try simp only [List.length_append, flag_len] at hl ⊢); omega)
  have c6 := fun (u1 : World) (b1 : Value) (m : Mine u1 b1 (((((zs ++ cPose.put ((x, y), d)) ++ nums [ld, jb]) ++ (list cMove).put l) ++ cFlag.put ot) ++ num nm)) => putBool_any u1 b1 _ st m (by (try simp only [List.length_append, flag_len] at hl ⊢); omega)
  try simp only [← List.append_assoc]
  generalize hX1 : zs ++ cPose.put ((x, y), d) = X1 at *
  generalize hX2 : X1 ++ nums [ld, jb] = X2 at *
  generalize hX3 : X2 ++ (list cMove).put l = X3 at *
  generalize hX4 : X3 ++ cFlag.put ot = X4 at *
  generalize hX5 : X4 ++ num nm = X5 at *
  generalize hX6 : X5 ++ cFlag.put st = X6 at *
  clear hX1 hX2 hX3 hX4 hX5 hX6 hl
  go_enter Try.func83, Try.ntmps83
  go_wp2_with (first
    | (have X' := m5; go_at_call 79; refine (c6 _ b5 m5).mono ?_; rintro e w6 ⟨b6, rfl, m6, g6⟩; have G6 := G5.trans g6)
    | (have X' := m4; go_at_call 75; refine (c5 _ b4 m4).mono ?_; rintro e w5 ⟨b5, rfl, m5, g5⟩; have G5 := G4.trans g5; have K8 := box_stays hm G5 8; simp only [List.getElem?_toArray, List.getElem?_cons_succ, List.getElem?_cons_zero] at K8)
    | (have X' := m3; go_at_call 79; refine (c4 _ b3 m3).mono ?_; rintro e w4 ⟨b4, rfl, m4, g4⟩; have G4 := G3.trans g4; have K7 := box_stays hm G4 7; simp only [List.getElem?_toArray, List.getElem?_cons_succ, List.getElem?_cons_zero] at K7)
    | (have X' := m2; go_at_call 63; refine (c3 _ b2 (Goes.below_of (hB.alloc hB.size _) G2 hb) (hb.goes (hB.alloc hB.size _) G2) m2).mono ?_; rintro e w3 ⟨b3, rfl, m3, g3⟩; have G3 := G2.trans g3; have K6 := box_stays hm G3 6; simp only [List.getElem?_toArray, List.getElem?_cons_succ, List.getElem?_cons_zero] at K6)
    | (have X' := m1; go_at_call 61; refine (c2 b1 _ _ _ m1 (by simp)).mono ?_; rintro e w2 ⟨b2, rfl, m2, g2⟩; have G2 := (G1.alloc _).trans g2; have K5 := box_stays hm G2 5; simp only [List.getElem?_toArray, List.getElem?_cons_succ, List.getElem?_cons_zero] at K5)
    | (go_at_call 62; refine (c1 _ b (hm.alloc _)).mono ?_; rintro e w1 ⟨b1, rfl, m1, g1⟩; have G1 := g1; have K3 := box_stays hm G1 3; have K4 := box_stays hm G1 4; simp only [List.getElem?_toArray, List.getElem?_cons_succ, List.getElem?_cons_zero] at K3 K4))
  go_ret
  exact ⟨b6, rfl, m6, (goes_alloc _ _ _).trans G6⟩
theorem eq_Event (p : Int) (q : Int) (r : Int) (x : Int) (y : Int) (d : Bool) (l : List TMove) : cEvent.put (p, q, r, ((x, y), d), l) = nums [p, q, r] ++ (cPose.put ((x, y), d) ++ ((list cMove).put l)) := by
  try simp only [nums_cons, nums_nil, List.append_nil, List.append_assoc]
  rfl
set_option maxRecDepth 100000 in
set_option maxHeartbeats 2000000 in
theorem putsEvent (W : World) (F : Nat → Prop) (hF : ∀ g, F g → g < W.heap.size) : Puts W cEvent eventEl F 23 := by
  intro u b zs x cs hB hb hm hx ho hl
  obtain ⟨p, q, r, ⟨⟨x, y⟩, d⟩, l⟩ := x
  obtain ⟨v, rfl, hv⟩ := hx
  rw [eq_Event] at hl ⊢
  try simp only [List.length_append] at hl
  obtain ⟨o1a, o1b, o1c, o2, o3⟩ := ho
  dsimp only at *
  have c1 := fun (b1 : Value) => putNumbers3 b1 (zs) p q r (three_ok o1a o1b o1c) (by (try simp only [List.length_append, flag_len] at hl ⊢); omega)
  have c2 := fun (u1 : World) (b1 : Value) (m : Mine u1 b1 (zs ++ nums [p, q, r])) => putPose_any u1 b1 _ x y d m o2 (by (try simp only [List.length_append, flag_len] at hl ⊢); omega)
  have c3 := fun (u1 : World) (b1 : Value) (hB1 : Below W.heap.size W u1) (hb1 : Fresh W b1) (m : Mine u1 b1 ((zs ++ nums [p, q, r]) ++ cPose.put ((x, y), d))) => putListMove_any cMove moveEl heldMoveEl W F hF (putsMove W F) u1 b1 _ l v hB1 hb1 m hv o3 gMove (by (try simp only [List.length_append, flag_len] at hl ⊢); omega)
  try simp only [← List.append_assoc]
  generalize hX1 : zs ++ nums [p, q, r] = X1 at *
  generalize hX2 : X1 ++ cPose.put ((x, y), d) = X2 at *
  generalize hX3 : X2 ++ (list cMove).put l = X3 at *
  clear hX1 hX2 hX3 hl
  go_enter Try.func23, Try.ntmps23
  go_wp2_with (first
    | (have X' := m2; go_at_call 63; refine (c3 _ b2 (Goes.below_of (hB.alloc hB.size _) G2 hb) (hb.goes (hB.alloc hB.size _) G2) m2).mono ?_; rintro e w3 ⟨b3, rfl, m3, g3⟩; have G3 := G2.trans g3)
    | (have X' := m1; go_at_call 62; refine (c2 _ b1 m1).mono ?_; rintro e w2 ⟨b2, rfl, m2, g2⟩; have G2 := G1.trans g2; have K6 := box_stays hm G2 6; simp only [List.getElem?_toArray, List.getElem?_cons_succ, List.getElem?_cons_zero] at K6)
    | (go_at_call 61; refine (c1 b _ _ _ (hm.alloc _) (by simp)).mono ?_; rintro e w1 ⟨b1, rfl, m1, g1⟩; have G1 := (goes_alloc _ _ _).trans g1; have K3 := box_stays hm G1 3; have K4 := box_stays hm G1 4; have K5 := box_stays hm G1 5; simp only [List.getElem?_toArray, List.getElem?_cons_succ, List.getElem?_cons_zero] at K3 K4 K5))
  go_ret
  exact ⟨b3, rfl, m3, (goes_alloc _ _ _).trans G3⟩
theorem eq_State (sq : Int) (ep : Int) (hd : Bool) (no : Int) (nj : Int) (l1 : List TStack) (l2 : List TRobot) (l3 : List TPort) (l4 : List TOrder) (l5 : List TJob) : cState.put (sq, ep, hd, l1, l2, l3, l4, l5, no, nj) = nums [sq, ep] ++ (cFlag.put hd ++ ((list cStack).put l1 ++ ((list cRobot).put l2 ++ ((list cPort).put l3 ++ ((list cOrder).put l4 ++ ((list cJob).put l5 ++ (nums [no, nj]))))))) := by
  try simp only [nums_cons, nums_nil, List.append_nil, List.append_assoc]
  rfl
set_option maxRecDepth 100000 in
set_option maxHeartbeats 2000000 in
theorem putsState (W : World) (F : Nat → Prop) (hF : ∀ g, F g → g < W.heap.size) : Puts W cState stateEl F 44 := by
  intro u b zs x cs hB hb hm hx ho hl
  obtain ⟨sq, ep, hd, l1, l2, l3, l4, l5, no, nj⟩ := x
  obtain ⟨v1, v2, v3, v4, v5, rfl, hv1, hv2, hv3, hv4, hv5⟩ := hx
  rw [eq_State] at hl ⊢
  try simp only [List.length_append] at hl
  obtain ⟨o1a, o1b, o2, o3, o4, o5, o6, o7, o8a, o8b⟩ := ho
  dsimp only at *
  have c1 := fun (b1 : Value) => putNumbers2 b1 (zs) sq ep (two_ok o1a o1b) (by (try simp only [List.length_append, flag_len] at hl ⊢); omega)
  have c2 := fun (u1 : World) (b1 : Value) (m : Mine u1 b1 (zs ++ nums [sq, ep])) => putBool_any u1 b1 _ hd m (by (try simp only [List.length_append, flag_len] at hl ⊢); omega)
  have c3 := fun (u1 : World) (b1 : Value) (hB1 : Below W.heap.size W u1) (hb1 : Fresh W b1) (m : Mine u1 b1 ((zs ++ nums [sq, ep]) ++ cFlag.put hd)) => putListStack_any cStack stackEl heldStack W F hF (putsStack W F hF) u1 b1 _ l1 v1 hB1 hb1 m hv1 o3 gStack (by (try simp only [List.length_append, flag_len] at hl ⊢); omega)
  have c4 := fun (u1 : World) (b1 : Value) (hB1 : Below W.heap.size W u1) (hb1 : Fresh W b1) (m : Mine u1 b1 (((zs ++ nums [sq, ep]) ++ cFlag.put hd) ++ (list cStack).put l1)) => putListRobot_any cRobot robotEl heldRobot W F hF (putsRobot W F hF) u1 b1 _ l2 v2 hB1 hb1 m hv2 o4 gRobot (by (try simp only [List.length_append, flag_len] at hl ⊢); omega)
  have c5 := fun (u1 : World) (b1 : Value) (hB1 : Below W.heap.size W u1) (hb1 : Fresh W b1) (m : Mine u1 b1 ((((zs ++ nums [sq, ep]) ++ cFlag.put hd) ++ (list cStack).put l1) ++ (list cRobot).put l2)) => putListPort_any cPort portEl heldPort W F hF (putsPort W F hF) u1 b1 _ l3 v3 hB1 hb1 m hv3 o5 gPort (by (try simp only [List.length_append, flag_len] at hl ⊢); omega)
  have c6 := fun (u1 : World) (b1 : Value) (hB1 : Below W.heap.size W u1) (hb1 : Fresh W b1) (m : Mine u1 b1 (((((zs ++ nums [sq, ep]) ++ cFlag.put hd) ++ (list cStack).put l1) ++ (list cRobot).put l2) ++ (list cPort).put l3)) => putListOrder_any cOrder orderEl heldOrder W F hF (putsOrder W F hF) u1 b1 _ l4 v4 hB1 hb1 m hv4 o6 gOrder (by (try simp only [List.length_append, flag_len] at hl ⊢); omega)
  have c7 := fun (u1 : World) (b1 : Value) (hB1 : Below W.heap.size W u1) (hb1 : Fresh W b1) (m : Mine u1 b1 ((((((zs ++ nums [sq, ep]) ++ cFlag.put hd) ++ (list cStack).put l1) ++ (list cRobot).put l2) ++ (list cPort).put l3) ++ (list cOrder).put l4)) => putListJob_any cJob jobEl heldJob W F hF (putsJob W F hF) u1 b1 _ l5 v5 hB1 hb1 m hv5 o7 gJob (by (try simp only [List.length_append, flag_len] at hl ⊢); omega)
  have c8 := fun (b1 : Value) => putNumbers2 b1 (((((((zs ++ nums [sq, ep]) ++ cFlag.put hd) ++ (list cStack).put l1) ++ (list cRobot).put l2) ++ (list cPort).put l3) ++ (list cOrder).put l4) ++ (list cJob).put l5) no nj (two_ok o8a o8b) (by (try simp only [List.length_append, flag_len] at hl ⊢); omega)
  try simp only [← List.append_assoc]
  generalize hX1 : zs ++ nums [sq, ep] = X1 at *
  generalize hX2 : X1 ++ cFlag.put hd = X2 at *
  generalize hX3 : X2 ++ (list cStack).put l1 = X3 at *
  generalize hX4 : X3 ++ (list cRobot).put l2 = X4 at *
  generalize hX5 : X4 ++ (list cPort).put l3 = X5 at *
  generalize hX6 : X5 ++ (list cOrder).put l4 = X6 at *
  generalize hX7 : X6 ++ (list cJob).put l5 = X7 at *
  generalize hX8 : X7 ++ nums [no, nj] = X8 at *
  clear hX1 hX2 hX3 hX4 hX5 hX6 hX7 hX8 hl
  go_enter Try.func44, Try.ntmps44
  go_wp2_with (first
    | (have X' := m7; go_at_call 61; refine (c8 b7 _ _ _ m7 (by simp)).mono ?_; rintro e w8 ⟨b8, rfl, m8, g8⟩; have G8 := (G7.alloc _).trans g8)
    | (have X' := m6; go_at_call 88; refine (c7 _ b6 (Goes.below_of (hB.alloc hB.size _) G6 hb) (hb.goes (hB.alloc hB.size _) G6) m6).mono ?_; rintro e w7 ⟨b7, rfl, m7, g7⟩; have G7 := G6.trans g7; have K8 := box_stays hm G7 8; have K9 := box_stays hm G7 9; simp only [List.getElem?_toArray, List.getElem?_cons_succ, List.getElem?_cons_zero] at K8 K9)
    | (have X' := m5; go_at_call 86; refine (c6 _ b5 (Goes.below_of (hB.alloc hB.size _) G5 hb) (hb.goes (hB.alloc hB.size _) G5) m5).mono ?_; rintro e w6 ⟨b6, rfl, m6, g6⟩; have G6 := G5.trans g6; have K7 := box_stays hm G6 7; simp only [List.getElem?_toArray, List.getElem?_cons_succ, List.getElem?_cons_zero] at K7)
    | (have X' := m4; go_at_call 84; refine (c5 _ b4 (Goes.below_of (hB.alloc hB.size _) G4 hb) (hb.goes (hB.alloc hB.size _) G4) m4).mono ?_; rintro e w5 ⟨b5, rfl, m5, g5⟩; have G5 := G4.trans g5; have K6 := box_stays hm G5 6; simp only [List.getElem?_toArray, List.getElem?_cons_succ, List.getElem?_cons_zero] at K6)
    | (have X' := m3; go_at_call 82; refine (c4 _ b3 (Goes.below_of (hB.alloc hB.size _) G3 hb) (hb.goes (hB.alloc hB.size _) G3) m3).mono ?_; rintro e w4 ⟨b4, rfl, m4, g4⟩; have G4 := G3.trans g4; have K5 := box_stays hm G4 5; simp only [List.getElem?_toArray, List.getElem?_cons_succ, List.getElem?_cons_zero] at K5)
    | (have X' := m2; go_at_call 80; refine (c3 _ b2 (Goes.below_of (hB.alloc hB.size _) G2 hb) (hb.goes (hB.alloc hB.size _) G2) m2).mono ?_; rintro e w3 ⟨b3, rfl, m3, g3⟩; have G3 := G2.trans g3; have K4 := box_stays hm G3 4; simp only [List.getElem?_toArray, List.getElem?_cons_succ, List.getElem?_cons_zero] at K4)
    | (have X' := m1; go_at_call 79; refine (c2 _ b1 m1).mono ?_; rintro e w2 ⟨b2, rfl, m2, g2⟩; have G2 := G1.trans g2; have K3 := box_stays hm G2 3; simp only [List.getElem?_toArray, List.getElem?_cons_succ, List.getElem?_cons_zero] at K3)
    | (go_at_call 61; refine (c1 b _ _ _ (hm.alloc _) (by simp)).mono ?_; rintro e w1 ⟨b1, rfl, m1, g1⟩; have G1 := (goes_alloc _ _ _).trans g1; have K2 := box_stays hm G1 2; simp only [List.getElem?_toArray, List.getElem?_cons_succ, List.getElem?_cons_zero] at K2))
  go_ret
  exact ⟨b8, rfl, m8, (goes_alloc _ _ _).trans G8⟩
end Go.Proofs.Ythdgpadakmdlkaa.Codec
