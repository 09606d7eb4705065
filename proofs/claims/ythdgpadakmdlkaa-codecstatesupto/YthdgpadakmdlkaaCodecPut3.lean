/-
  What is put: an operation, a telegram, in new memory; a number behind any bytes, in new memory.
-/
import Derived.Test.YthdgpadakmdlkaaCodecPut2
namespace Go.Proofs.Ythdgpadakmdlkaa.Codec
set_option linter.unusedVariables false
set_option linter.unusedSimpArgs false
open Go Go.RowKit

set_option maxHeartbeats 1000000 in
theorem putOp_any (w : World) (b : Value) (zs : List Int) (x y z : Int) (hm : Mine w b zs) (ho : cOp.ok (x, y, z)) (hl : zs.length + (cOp.put (x, y, z)).length ≤ 140737488355328) :
    Calls Try.prog 76 #[b, .agg #[.int .i64 x, .int .i64 y, .int .i64 z]] w fun e w' => ∃ b', e = .returned b' ∧ Mine w' b' (zs ++ cOp.put (x, y, z)) ∧ Goes b w b' w' := by
  rw [put3] at hl ⊢
  have c1 := putNumbers3 b zs x y z (three_ok ho.1 ho.2.1 ho.2.2) hl
  clear ho
  generalize nums [x, y, z] = N at *
  go_enter Try.func76, Try.ntmps76
  go_wp2_with (go_at_call 61; refine (c1 _ _ _ (hm.alloc _) (by simp)).mono ?_; rintro e w1 ⟨b1, rfl, m1, g1⟩)
  go_ret
  exact ⟨b1, rfl, m1, ((goes_alloc _ _ _).trans (goes_alloc _ _ _)).trans g1⟩
theorem grp_small (f u : Nat) (h : u < 18446744073709551616) : (grp f u).length ≤ f + 1 := grp_len f u
theorem op_len (x y z : Int) : (cOp.put (x, y, z)).length ≤ 30 := by
  rw [put3, nums_cons, nums_cons, nums_cons, nums_nil, List.append_nil, List.length_append, List.length_append]
  have := num_len x
  have := num_len y
  have := num_len z
  omega
/- What a call that makes bytes comes to: a slice of just these, in new memory; nothing old has turned. -/
def Made (zs : List Int) (w : World) (e : Ending) (w' : World) : Prop := ∃ b, e = .returned b ∧ Mine w' b zs ∧ Below w.heap.size w w' ∧ ∀ g, b.ownBlock = some g → w.heap.size ≤ g
theorem made_of {zs : List Int} {w w' : World} {o : Obj} {b : Value} (m : Mine w' b zs) (g : Goes (.slice none 0 0) (w.alloc o) b w') : Made zs w (.returned b) w' := by
  have g' := (goes_alloc (.slice none 0 0) w o).trans g
  exact ⟨b, rfl, m, g'.below, g'.new⟩
set_option maxHeartbeats 1000000 in
theorem PutOp_any (w : World) (x y z : Int) (ho : cOp.ok (x, y, z)) :
    Calls Try.prog 37 #[.agg #[.int .i64 x, .int .i64 y, .int .i64 z]] w (Made (cOp.put (x, y, z)) w) := by
  have c1 := fun u : World => putOp_any u (.slice none 0 0) [] x y z (Mine.nil u) ho (by have := op_len x y z; rw [List.length_nil]; omega)
  simp only [List.nil_append] at c1
  generalize cOp.put (x, y, z) = N at *
  go_enter Try.func37, Try.ntmps37
  go_wp2_with (go_at_call 76; refine (c1 _).mono ?_; rintro e w1 ⟨b1, rfl, m1, g1⟩)
  go_ret
  exact made_of m1 g1

theorem put_tele (k r p n : Int) (m : TMove) (x y : Int) (d : Bool) (l : Int) : cTele.put (k, r, p, n, m, ((x, y), d), l) = nums [k, r, p, n] ++ (cMove.put m ++ (cPose.put ((x, y), d) ++ num l)) := by
  rw [nums_cons, nums_cons, nums_cons, nums_cons, nums_nil, List.append_nil, List.append_assoc, List.append_assoc, List.append_assoc]
  rfl
set_option maxRecDepth 100000 in
set_option maxHeartbeats 1000000 in
theorem putTele_flat (w : World) (b : Value) (zs : List Int) (q r p s : Int) (k d n fx fy tx ty a e : Int) (fd td : Bool) (x y : Int) (pd : Bool) (l : Int) (hm : Mine w b zs) (ho : cTele.ok (q, r, p, s, (k, d, n, ((fx, fy), fd), ((tx, ty), td), a, e), ((x, y), pd), l))
    (hl : zs.length + (cTele.put (q, r, p, s, (k, d, n, ((fx, fy), fd), ((tx, ty), td), a, e), ((x, y), pd), l)).length ≤ 140737488355328) :
    Calls Try.prog 38 #[b, .agg #[.int .i64 q, .int .i64 r, .int .i64 p, .int .i64 s, .int .i64 k, .int .i64 d, .int .i64 n, .int .i64 fx, .int .i64 fy, .bool fd, .int .i64 tx, .int .i64 ty, .bool td, .int .i64 a, .int .i64 e, .int .i64 x, .int .i64 y, .bool pd, .int .i64 l]] w
      fun e' w' => ∃ b', e' = .returned b' ∧ Mine w' b' (zs ++ cTele.put (q, r, p, s, (k, d, n, ((fx, fy), fd), ((tx, ty), td), a, e), ((x, y), pd), l)) ∧ Goes b w b' w' := by
  rw [put_tele] at hl ⊢
  simp only [List.length_append] at hl
  obtain ⟨o1, o2, o3, o4, o5, o6, o7⟩ := ho
  have c1 := putNumbers4 b zs q r p s (four_ok o1 o2 o3 o4) (by omega)
  have c2 := fun (u : World) (b1 : Value) (hm : Mine u b1 (zs ++ nums [q, r, p, s])) => putMove_flat u b1 _ k d n fx fy tx ty a e fd td hm o5 (by simp only [List.length_append]; omega)
  have c3 := fun (u : World) (b1 : Value) (hm : Mine u b1 ((zs ++ nums [q, r, p, s]) ++ cMove.put (k, d, n, ((fx, fy), fd), ((tx, ty), td), a, e))) => putPose_any u b1 _ x y pd hm o6 (by simp only [List.length_append]; omega)
  have c4 := fun (u : World) (b1 : Value) (hm : Mine u b1 (((zs ++ nums [q, r, p, s]) ++ cMove.put (k, d, n, ((fx, fy), fd), ((tx, ty), td), a, e)) ++ cPose.put ((x, y), pd))) => putNumber_any u b1 _ l hm o7 (by simp only [List.length_append]; omega)
  simp only [← List.append_assoc]
  clear o1 o2 o3 o4 o5 o6 o7 hl
  generalize hX1 : zs ++ nums [q, r, p, s] = X1 at *
  generalize hX2 : X1 ++ cMove.put (k, d, n, ((fx, fy), fd), ((tx, ty), td), a, e) = X2 at *
  generalize hX3 : X2 ++ cPose.put ((x, y), pd) = X3 at *
  generalize hX4 : X3 ++ num l = X4 at *
  clear hX1 hX2 hX3 hX4
  go_enter Try.func38, Try.ntmps38
  go_wp2_with (first
    | (go_at_call 75; refine (c4 _ _ m3).mono ?_; rintro e w4 ⟨b4, rfl, m4, g4⟩; have G4 := G3.trans g4)
    | (go_at_call 62; refine (c3 _ _ m2).mono ?_; rintro e w3 ⟨b3, rfl, m3, g3⟩; have G3 := G2.trans g3; have K := box_stays hm G3 18; simp only [List.getElem?_toArray, List.getElem?_cons_succ, List.getElem?_cons_zero] at K)
    | (go_at_call 64; refine (c2 _ _ m1).mono ?_; rintro e w2 ⟨b2, rfl, m2, g2⟩; have G2 := G1.trans g2; have K15 := box_stays hm G2 15; have K16 := box_stays hm G2 16; have K17 := box_stays hm G2 17; simp only [List.getElem?_toArray, List.getElem?_cons_succ, List.getElem?_cons_zero] at K15 K16 K17)
    | (go_at_call 61; refine (c1 _ _ _ (hm.alloc _) (by simp)).mono ?_; rintro e w1 ⟨b1, rfl, m1, g1⟩; have G1 := (goes_alloc _ _ _).trans g1; have K4 := box_stays hm G1 4; have K5 := box_stays hm G1 5; have K6 := box_stays hm G1 6; have K7 := box_stays hm G1 7; have K8 := box_stays hm G1 8; have K9 := box_stays hm G1 9; have K10 := box_stays hm G1 10; have K11 := box_stays hm G1 11; have K12 := box_stays hm G1 12; have K13 := box_stays hm G1 13; have K14 := box_stays hm G1 14; simp only [List.getElem?_toArray, List.getElem?_cons_succ, List.getElem?_cons_zero] at K4 K5 K6 K7 K8 K9 K10 K11 K12 K13 K14))
  go_ret
  exact ⟨b4, rfl, m4, (goes_alloc _ _ _).trans G4⟩
theorem flag_len (d : Bool) : (cFlag.put d).length = 1 := rfl
theorem cell_len (c : TCell) : (cCell.put c).length ≤ 20 := by
  obtain ⟨x, y⟩ := c
  rw [put2, nums_cons, nums_cons, nums_nil, List.append_nil, List.length_append]
  have := num_len x
  have := num_len y
  omega
theorem pose_len (p : TPose) : (cPose.put p).length ≤ 21 := by
  obtain ⟨c, d⟩ := p
  have e : cPose.put (c, d) = cCell.put c ++ cFlag.put d := rfl
  rw [e, List.length_append, flag_len]
  have := cell_len c
  omega
theorem move_len (m : TMove) : (cMove.put m).length ≤ 92 := by
  obtain ⟨k, d, n, ⟨⟨fx, fy⟩, fd⟩, ⟨⟨tx, ty⟩, td⟩, a, e⟩ := m
  rw [put_move, nums_cons, nums_cons, nums_cons, nums_nil, List.append_nil, nums_cons, nums_cons, nums_nil, List.append_nil]
  simp only [List.length_append]
  have := num_len k
  have := num_len d
  have := num_len n
  have := num_len a
  have := num_len e
  have := pose_len ((fx, fy), fd)
  have := pose_len ((tx, ty), td)
  omega
/- A telegram's cells. -/
def tCells (t : TTele) : List Value := [.int .i64 t.1, .int .i64 t.2.1, .int .i64 t.2.2.1, .int .i64 t.2.2.2.1] ++ mCells t.2.2.2.2.1 ++ [.int .i64 t.2.2.2.2.2.1.1.1, .int .i64 t.2.2.2.2.2.1.1.2, .bool t.2.2.2.2.2.1.2, .int .i64 t.2.2.2.2.2.2]
def tVal (t : TTele) : Value := .agg (tCells t).toArray
theorem tele_len (t : TTele) : (cTele.put t).length ≤ 163 := by
  obtain ⟨q, r, p, s, m, ⟨⟨x, y⟩, pd⟩, l⟩ := t
  rw [put_tele, nums_cons, nums_cons, nums_cons, nums_cons, nums_nil, List.append_nil]
  simp only [List.length_append]
  have := num_len q
  have := num_len r
  have := num_len p
  have := num_len s
  have := num_len l
  have := pose_len ((x, y), pd)
  have := move_len m
  omega
set_option maxRecDepth 100000 in
set_option maxHeartbeats 1000000 in
theorem PutTele_walk (w : World) (cs : Array Value) (hcs : cs.size = 19) (N : List Int)
    (c1 : ∀ u : World, Calls Try.prog 38 #[.slice none 0 0, .agg cs] u fun e' w' => ∃ b', e' = .returned b' ∧ Mine w' b' N ∧ Goes (.slice none 0 0) u b' w') :
    Calls Try.prog 14 #[.agg cs] w (Made N w) := by
  have hi : (Try.prog.info? 44).map (·.size) = some cs.size := by rw [hcs]; kernel_rfl
  go_enter Try.func14, Try.ntmps14
  go_wp2_with (first
    | (go_at_call 38; refine (c1 _).mono ?_; rintro e w1 ⟨b1, rfl, m1, g1⟩)
    | (refine wpList_load_row rfl 44 (.tmp 1) rfl w.heap.size rfl 44 cs (0, 0) _ (heap_alloc_new w _) Try.underlying44 rfl hi ?_))
  go_ret
  exact made_of m1 g1
theorem PutTele_flat (w : World) (q r p s : Int) (k d n fx fy tx ty a e : Int) (fd td : Bool) (x y : Int) (pd : Bool) (l : Int) (ho : cTele.ok (q, r, p, s, (k, d, n, ((fx, fy), fd), ((tx, ty), td), a, e), ((x, y), pd), l)) :
    Calls Try.prog 14 #[.agg #[.int .i64 q, .int .i64 r, .int .i64 p, .int .i64 s, .int .i64 k, .int .i64 d, .int .i64 n, .int .i64 fx, .int .i64 fy, .bool fd, .int .i64 tx, .int .i64 ty, .bool td, .int .i64 a, .int .i64 e, .int .i64 x, .int .i64 y, .bool pd, .int .i64 l]] w (Made (cTele.put (q, r, p, s, (k, d, n, ((fx, fy), fd), ((tx, ty), td), a, e), ((x, y), pd), l)) w) := by
  have hl := tele_len (q, r, p, s, (k, d, n, ((fx, fy), fd), ((tx, ty), td), a, e), ((x, y), pd), l)
  refine PutTele_walk w _ rfl _ fun u => ?_
  have c1 := putTele_flat u (.slice none 0 0) [] q r p s k d n fx fy tx ty a e fd td x y pd l (Mine.nil u) ho (by rw [List.length_nil]; omega)
  rw [List.nil_append] at c1
  exact c1
theorem PutTele_any (w : World) (t : TTele) (ho : cTele.ok t) : Calls Try.prog 14 #[tVal t] w (Made (cTele.put t) w) := by
  obtain ⟨q, r, p, s, ⟨k, d, n, ⟨⟨fx, fy⟩, fd⟩, ⟨⟨tx, ty⟩, td⟩, a, e⟩, ⟨⟨x, y⟩, pd⟩, l⟩ := t
  exact PutTele_flat w q r p s k d n fx fy tx ty a e fd td x y pd l ho

set_option maxRecDepth 100000 in
set_option maxHeartbeats 1000000 in
theorem PutNumber_any (a : Option Addr) (n cap : Nat) (zs : List Int) (v : Int) (w : World) (hr : Row w a n zs) (hc : a = none → cap = 0) (hm : n ≤ 140737488351232) (hv : I64 v) :
    Calls Try.prog 36 #[.slice a n cap, .int .i64 v] w (Made (zs ++ num v) w) := by
  obtain ⟨i0, hi, hz0, hz1, hz2⟩ := info_parts info5
  have hl := hr.len
  have hN := num_len v
  have c1 := fun (u : World) (b1 : Value) (hm : Mine u b1 zs) => putNumber_any u b1 zs v hm hv (by omega)
  generalize zs ++ num v = N at *
  have hmi : (n : Int) ≤ 140737488351232 := by omega
  clear hN hv
  go_enter Try.func36, Try.ntmps36
  go_wp2_with (first
    | (go_at_call 75; refine (c1 _ _ m2).mono ?_; rintro e w3 ⟨b3, rfl, m3, g3⟩)
    | (at_make; refine wpList_make_own _ rfl _ _ 29 rfl 0 5 i0 (.int .u8 0) 1 Try.underlying29 hi hz0 hz1 _ _ _ (n + 10) rfl rfl (by omega) (by rw [hz2]; omega) (by unfold maxLen; omega) (Nat.zero_le _) ?_; intro w1 hown1 hgrow1; have m1 : Mine w1 (.slice (some ⟨w.heap.size, 0, none⟩) 0 (n + 10)) [] := ⟨hown1, Bytes.nil⟩)
    | (at_builtin; refine wpList_append_mine rfl (.tmp 10) (.tmp 11) rfl _ [] rfl m1 a n cap zs rfl (hr.after (below_grown hgrow1)) hc (by simp; omega) ?_; intro v2 w2 m2 g2; rw [List.nil_append] at m2))
  go_ret
  have hb := below_grown hgrow1
  have h0 : ∀ g, Value.ownBlock (.slice (some ⟨w.heap.size, 0, none⟩) 0 (n + 10)) = some g → w.heap.size ≤ g := fun g hg => by cases hg; exact Nat.le_refl _
  have g23 := g2.trans g3
  exact ⟨b3, rfl, m3, g23.below_of hb h0, g23.new_of h0 hb.size⟩
end Go.Proofs.Ythdgpadakmdlkaa.Codec
