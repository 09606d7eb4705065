/-
  What the laws have in common: a robot of three cells in a row, the first sentence of all (awake).
-/
import Derived.Test.YtedhoghleelhfaaGreatQRobNew
import Derived.Deep.Slices
import Derived.OpenShut
import Derived.Test.YtedhoghleelhfaaGreatQRobXa
import Derived.Test.YtedhoghleelhfaaGreatQRobXb
import Derived.Deep.DeepCutAuto
import Derived.Deep.CutRange
namespace Go.Proofs.YtedhoghleelhfaaGreat.Rob
set_option linter.unusedVariables false
set_option linter.unusedSimpArgs false
open Go Go.RowKit Go.Shelf Go.Proofs Go.Proofs.YtedhoghleelhfaaGreat.Lk Go.Proofs.YtedhoghleelhfaaGreat.Plain
attribute [local go_sem] Oper.semAt_some

theorem stopT_le {u a v : Nat} (ok : Kin.Ok u a v) (m t : Int) : (Kin.stopT u a v m t : Int) ≤ 2000000 := by
  unfold Kin.stopT
  by_cases h1 : t < 1 ∨ (Kin.profI u a v m).length = 0
  · rw [if_pos h1]; decide
  · rw [if_neg h1]
    by_cases h2 : ((Kin.profI u a v m).length : Int) ≤ t
    · rw [if_pos h2]; decide
    · rw [if_neg h2]
      have hz : ¬ (Kin.profI u a v m).length = 0 := fun e => h1 (Or.inr e)
      have hn := (not_congr (Kin.prof_zero ok)).1 hz
      have ht : ¬ t < 1 := fun e => h1 (Or.inl e)
      have hv : 1 ≤ Kin.velI u a v m t ∧ Kin.velI u a v m t ≤ v := by
        obtain ⟨k, rfl⟩ := Int.eq_ofNat_of_zero_le (show 0 ≤ m by omega)
        obtain ⟨t', rfl⟩ := Int.eq_ofNat_of_zero_le (show 0 ≤ t by omega)
        rw [Kin.velI_in ok (by omega) (by omega)]
        rw [Kin.profI_in (by omega) (by omega), Kin.prof_len] at h2
        exact Kin.vel_bd ok (by omega) (by omega)
      have hb := Kin.cells_bd (u := u) (a := a) (p := Kin.atI u a v m t) (s := Kin.velI u a v m t) ok.u1
      have hr := (Kin.runs_len (a := a) (v := v) (rise := 0) (left := Kin.cellsS u a (Kin.atI u a v m t) (Kin.velI u a v m t) * u - Kin.atI u a v m t) (s := Kin.velI u a v m t) ok.a1 ok.v1 (by omega)).1
      have hk := Kin.brk_bound (a := a) (s := Kin.velI u a v m t) (m := 1000) ok.a1 (by have := ok.v2; omega)
      have hu := ok.u2
      unfold Kin.ticksS
      omega
theorem RbAt.hT {w : World} {R : Wh} {r : Rb} (h : RbAt w R r) : ∀ m t, (Kin.stopT R.ku R.ka R.kv m t : Int) ≤ 4611686018427387904 := fun m t => Int.le_trans (stopT_le h.ok m t) (by decide)
def confB : Grid.Conf := { W := 4, H := 1, height := 1, blocked := [], ports := [], robots := [((0, 0), false)], stacks := [], unit := 10, accel := 2, speed := 4, turn := 2, hoist := 3, queue := 1, resend := 1, budget := 1, back := false }
theorem newB : Grid.newP confB = some ⟨4, 1, [3, 3, 4, 0], []⟩ := by
  have h1 : Grid.takeAll 4 1 1 (List.replicate ((4 : Int) * 1).toNat 0) [] = some [0, 0, 0, 0] := rfl
  have h1b : Grid.takeP 4 1 [0, 0, 0, 0] [] = some [0, 0, 0, 0] := by decide +kernel
  have h1c : Grid.takeR 4 1 [0, 0, 0, 0] [((0, 0), false)] = some [3, 3, 0, 0] := by decide +kernel
  have h2 : Grid.stackUs 4 1 [3, 3, 0, 0] = [3, 3, 4, 0] := by decide +kernel
  have h3 : Grid.mayBeP [] := ⟨by simp, by simp, List.nodup_nil⟩
  have h4 : Grid.limited confB = true := by decide +kernel
  unfold Grid.newP
  rw [if_pos h4]
  refine Option.bind_eq_some_iff.2 ⟨_, h1, Option.bind_eq_some_iff.2 ⟨_, (if_pos (by decide)).trans h1b, Option.bind_eq_some_iff.2 ⟨_, (if_pos (by decide)).trans h1c, Option.bind_eq_some_iff.2 ⟨[], rfl, (if_pos h3).trans ?_⟩⟩⟩⟩
  show some (⟨4, 1, Grid.stackUs 4 1 [3, 3, 0, 0], []⟩ : Grid.GS) = _
  rw [h2]
theorem list_pose1 {w : World} {g : Nat} {t : TypeId} (h : w.heap[g]? = some (.cells (poA 0 0 false) t (0, 0))) (F : Nat → Prop) (hF : F g) : Grid.ListAt 3 Grid.poseEl F [((0, 0), false)] (.slice (some ⟨g, 0, none⟩) 1 1) w := by
  refine ⟨some ⟨g, 0, none⟩, 1, [(((0, 0), false), poA 0 0 false)], rfl, rfl, fun q hq => ?_, fun i hi => ⟨_, rfl, hF, fun j u hj => ?_⟩, fun h => by cases h⟩
  · rw [List.mem_singleton.1 hq]
    rfl
  · obtain rfl : i = 0 := by simpa using hi
    have e : ((⟨g, 0, none⟩ : Addr).add (0 * 3 + j)) = ⟨g, j, none⟩ := by unfold Addr.add; split <;> simp_all
    rw [e, cell_of' h]
    exact hj
set_option maxRecDepth 100000 in
theorem confB_any (w : World) : Calls Tryz.prog 25 #[] w fun e w' => ∃ b, e = .returned (.agg #[.int .i64 4, .int .i64 1, .int .i64 1, .slice none 0 0, .slice none 0 0, .slice (some ⟨b, 0, none⟩) 1 1, .slice none 0 0, .int .i64 10, .int .i64 2, .int .i64 4, .int .i64 2, .int .i64 3, .int .i64 1, .int .i64 1, .int .i64 1, .bool false]) ∧ w.heap.size ≤ b ∧ w'.heap[b]? = some (.cells (poA 0 0 false) 42 (0, 0)) ∧ Below w.heap.size w w' := by
  go_enter Tryz.func25, Tryz.ntmps25
  go_wp2
  exact bodyPost_ret (results_cell_row rfl _ _ w.heap.size 26 _ (0, 0) _ rfl ((Grid.alloc_old _ _ _ (by simp)).trans (World.alloc_heap_new _ _)) Tryz.underlying26 rfl Grid.info_conf) rfl ⟨w.heap.size + 1, rfl, by omega, Grid.heap_new2 _ _ _, Grid.below_two _ _ _⟩
theorem madeB_any (b : Nat) (w : World) (hb : w.heap[b]? = some (.cells (poA 0 0 false) 42 (0, 0))) : Calls Tryz.prog 5 #[.agg #[.int .i64 4, .int .i64 1, .int .i64 1, .slice none 0 0, .slice none 0 0, .slice (some ⟨b, 0, none⟩) 1 1, .slice none 0 0, .int .i64 10, .int .i64 2, .int .i64 4, .int .i64 2, .int .i64 3, .int .i64 1, .int .i64 1, .int .i64 1, .bool false], .int .i64 0] w fun e w' => ∃ R : Wh, e = .returned (.tuple #[.pointer (some ⟨R.p, 0, none⟩), .int .i64 0]) ∧ RbAt w' R (firstR 0 0 0 false) ∧ w.heap.size ≤ R.p ∧ w.heap.size ≤ R.k ∧ Below w.heap.size w w' := by
  have lb := (Array.getElem?_eq_some_iff.1 hb).1
  have hA : Grid.ConfAt (fun q => q = b) confB (.slice none 0 0) (.slice none 0 0) (.slice (some ⟨b, 0, none⟩) 1 1) (.slice none 0 0) w := ⟨Grid.ListAt.nil _ _ _ _, Grid.ListAt.nil _ _ _ _, list_pose1 hb _ rfl, Grid.ListAt.nil _ _ _ _⟩
  have cN := new_ok hA (fun q h => by rw [h]; exact lb) (by decide) (by decide) (by decide) (by decide) 0 newB (by decide)
  refine Calls.mono (show Calls Tryz.prog 5 #[.agg #[.int .i64 4, .int .i64 1, .int .i64 1, .slice none 0 0, .slice none 0 0, .slice (some ⟨b, 0, none⟩) 1 1, .slice none 0 0, .int .i64 10, .int .i64 2, .int .i64 4, .int .i64 2, .int .i64 3, .int .i64 1, .int .i64 1, .int .i64 1, .bool false], .int .i64 0] w _ from cN) ?_
  rintro e w' ⟨R, rfl, hR, h1, h2, _, h3⟩
  exact ⟨R, rfl, hR, h1, h2, h3⟩
/- Telegrams of which some fields are given. -/
def tlG (kd ep nm : Int) : Tl := ⟨kd, 0, ep, nm, 0, 0, 0, 0, 0, false, 0, 0, false, 0, 0, 0, 0, false, 0⟩
theorem built_stop (ep : Int) : Tryz.prog.built 46 [(0, .int .i64 2), (2, .int .i64 ep)] = some (tlA (tlG 2 ep 0)) := by kernel_rfl
theorem built_go (nm : Int) : Tryz.prog.built 46 [(0, .int .i64 1), (3, .int .i64 nm)] = some (tlA (tlG 1 0 nm)) := by kernel_rfl
theorem stop_first (R : Wh) (ep : Int) (h : 0 < ep) : hearL R (firstR 0 0 0 false) (tlG 2 ep 0) = some (haltP (newEp (firstR 0 0 0 false) ep)) ∧ hearR R (firstR 0 0 0 false) (tlG 2 ep 0) = newEp (firstR 0 0 0 false) ep ∧ hearH R (firstR 0 0 0 false) (tlG 2 ep 0) = 3 := by
  have n1 : ¬ (tlG 2 ep 0).rb ≠ (firstR 0 0 0 false).nb := fun f => f rfl
  have n2 : ¬ ((tlG 2 ep 0).kd = 1 ∧ (tlG 2 ep 0).ep < (firstR 0 0 0 false).ep) := fun f => absurd (show (2 : Int) = 1 from f.1) (by decide)
  have n3 : ¬ ((tlG 2 ep 0).kd = 1 ∧ begs R (firstR 0 0 0 false) (tlG 2 ep 0) = true) := fun f => absurd (show (2 : Int) = 1 from f.1) (by decide)
  have p4 : (tlG 2 ep 0).kd = 2 ∧ (firstR 0 0 0 false).ep < (tlG 2 ep 0).ep := ⟨rfl, h⟩
  have hs : stopd (newEp (firstR 0 0 0 false) ep) = true := by
    show (decide ((0 : Int) = 0) && decide (0 < ep)) = true
    simp [h]
  refine ⟨?_, ?_, ?_⟩
  · unfold hearL
    rw [if_neg n1, if_neg n2, if_neg n3, if_pos p4, if_neg (show ¬ under (firstR 0 0 0 false) = true by decide)]
    unfold tellP
    rw [show (tlG 2 ep 0).ep = ep from rfl, hs, if_pos rfl]
  · unfold hearR
    rw [if_neg n1, if_neg n2, if_neg n3, if_pos p4]
    unfold stopP
    rw [if_neg (show ¬ under (firstR 0 0 0 false) = true by decide)]
    rfl
  · unfold hearH
    rw [if_neg n1, if_neg n2, if_neg n3, if_pos p4]
    unfold stopH
    rw [if_neg (show ¬ under (firstR 0 0 0 false) = true by decide)]
theorem stop_ok (ep : Int) (h : 0 < ep) : OkR 0 (newEp (firstR 0 0 0 false) ep) := ⟨Int.le_refl _, Int.le_refl _, Int.le_refl _, Int.le_refl _, Int.le_refl _, (by decide : (0 : Int) ≤ 1000000), Int.le_refl _, (by decide : (0 : Int) ≤ 4611686018427387904), Int.le_of_lt h, fun _ => ⟨rfl, rfl, rfl, rfl, rfl⟩, fun h => by cases h⟩
theorem old_go {R : Wh} {r : Rb} {t : Tl} (h1 : t.rb = r.nb) (h2 : t.kd = 1) (h3 : t.ep < r.ep) : hearL R r t = none ∧ hearR R r t = r ∧ hearH R r t = 2 := by
  have n1 : ¬ t.rb ≠ r.nb := fun f => f h1
  exact ⟨by unfold hearL; rw [if_neg n1, if_pos ⟨h2, h3⟩], by unfold hearR; rw [if_neg n1, if_pos ⟨h2, h3⟩], by unfold hearH; rw [if_neg n1, if_pos ⟨h2, h3⟩]⟩
/- What a call told stays while another call of the robot goes on. -/
theorem lv_keep {R : Wh} {B : Nat} {w w' : World} {v : Value} {r : Rb} (h : LsAt B w v (some (haltP r))) (T : Tn R w w') (hp : R.p < B) (hk : R.k < B) : ∃ g, v = .slice (some ⟨g, 0, none⟩) 1 1 ∧ w'.cell? ⟨g, 0, none⟩ = some (.int .i64 4) := by
  obtain ⟨g, e, hg, ha⟩ := h
  have hl := (Array.getElem?_eq_some_iff.1 ha).1
  exact ⟨g, e, tl_kd ((T.block g hl (by omega) (by omega)).trans ha)⟩
/- A telegram heard, in plain words. -/
theorem hear_at {w : World} {R : Wh} {r r' : Rb} {t : Tl} {L : Option Tl} {H : Int} (h : RbAt w R r) {n : Int} (hn : n ≤ 1000000000000) (ok : OkR n r) (hL : hearL R r t = L) (hR : hearR R r t = r') (hH : hearH R r t = H) : Calls Tryz.prog 26 #[.pointer (some ⟨R.p, 0, none⟩), .agg (tlA t)] w fun e w' => ∃ v, e = .returned (.tuple #[v, .int .i64 H]) ∧ LsAt w.heap.size w' v L ∧ RbAt w' R r' ∧ Tn R w w' := by
  refine (hear_any h t hn ok).mono ?_
  rintro e w' ⟨v, h1, h2, h3, h4⟩
  rw [hH] at h1
  rw [hL] at h2
  rw [hR] at h3
  exact ⟨v, h1, h2, h3, h4⟩
set_option maxRecDepth 100000 in
set_option maxHeartbeats 2000000 in
theorem awake18_any (w : World) : Calls Tryz.prog 8 #[] w fun e w' => e = .returned (.bool true) ∧ Below w.heap.size w w' := by
  have cC := confB_any w
  go_enter Tryz.func8, Tryz.ntmps8
  go_upto_region 6 with (first
    | (go_at_call 25; refine cC.mono ?_; rintro e w1 ⟨b, rfl, hb, hcb, b1⟩)
    | (go_at_call 5; refine (madeB_any b _ hcb).mono ?_; rintro e w2 ⟨R, rfl, hR, hp, hk, b2⟩; have HR : Hid (RbAt w2 R (firstR 0 0 0 false)) := hR; have HB2 : Hid (Below w.heap.size w w2) := bcat b1 b2; have HPK : Hid (w.heap.size ≤ R.p ∧ w.heap.size ≤ R.k) := ⟨Nat.le_trans b1.size hp, Nat.le_trans b1.size hk⟩; clear hR hp hk b2 hcb hb b1 cC)
    | (refine wpList_buildAs rfl 46 _ rfl (tlA (tlG 2 1 0)) _ rfl (built_stop 1) ?_)
    | (refine wpList_buildAs rfl 46 _ rfl (tlA (tlG 1 0 1)) _ rfl (built_go 1) ?_)
    | (have X4 := HR4; go_at_call 26; have q := old_go (R := R) (r := newEp (firstR 0 0 0 false) 1) (t := tlG 1 0 1) rfl rfl (by decide); refine (hear_at HR4.out (n := 0) (by decide) HOK.out q.1 q.2.1 q.2.2).mono ?_; rintro e w5 ⟨v2, rfl, lv2, hR5, T5⟩; have HT5 : Hid (Below w.heap.size w w5) := bel_tn HB4.out T5 HPK.out.1 HPK.out.2 HB4.out.size; have HR5 : Hid (RbAt w5 R (newEp (firstR 0 0 0 false) 1)) := hR5; have HV : Hid (∃ g, v1 = .slice (some ⟨g, 0, none⟩) 1 1 ∧ w5.cell? ⟨g, 0, none⟩ = some (.int .i64 4)) := lv_keep HV1.out T5 HPK4.out.1 HPK4.out.2; clear hR5 T5 lv2 q)
    | (go_at_call 26; go_loud (have q := stop_first R 1 (by decide); refine (hear_at HR.out (n := 0) (by decide) (OkR.first 0 0 0 false) q.1 q.2.1 q.2.2).mono ?_; rintro e w4 ⟨v1, rfl, lv1, hR4, T4⟩; have HB4 : Hid (Below w.heap.size w w4) := bel_tn HB2.out T4 HPK.out.1 HPK.out.2 HB2.out.size; have HR4 : Hid (RbAt w4 R (newEp (firstR 0 0 0 false) 1)) := hR4; have HV1 : Hid (LsAt w2.heap.size w4 v1 (some (haltP (newEp (firstR 0 0 0 false) 1)))) := lv1; have HPK4 : Hid (R.p < w2.heap.size ∧ R.k < w2.heap.size) := ⟨HR.out.plt, HR.out.klt⟩; have HOK : Hid (OkR 0 (newEp (firstR 0 0 0 false) 1)) := stop_ok 1 (by decide); clear hR4 T4 lv1 q)))
  obtain ⟨g, hv, k0⟩ := HV.out
  subst hv
  have cE := epoch_any HR5.out
  rw [show (newEp (firstR 0 0 0 false) 1).ep = 1 from rfl] at cE
  clear HV1 HV
  go_wp2_with (go_at_call 27; refine cE.mono ?_; rintro e wq ⟨rfl, hwq⟩; rw [hwq]; clear hwq)
  go_ret
  exact ⟨rfl, HT5.out⟩
end Go.Proofs.YtedhoghleelhfaaGreat.Rob
/-
  Telegrams, and scripts, that came in, opened.
-/
namespace Go.Proofs.YtedhoghleelhfaaGreat.Rob
set_option linter.unusedVariables false
set_option linter.unusedSimpArgs false
open Go Go.RowKit Go.ChangeShapes Go.WideShapes Go.Proofs.YtedhoghleelhfaaGreat.Lk
theorem in_int {H : Type} {enc : TypeId × Value → H} {W : World} {n : Nat} {cs : List Value} {d : DataW H × List MemPlace} (h : DataW.trod enc Tryz.prog W 0 (fun _ => true) true n 3 cs = some d) : ∃ x, cs = [.int .i64 x] := by
  obtain ⟨x, q, e, f⟩ := DataW.trod_int Tryz.underlying3 h
  exact ⟨x, q⟩
theorem in_bool {H : Type} {enc : TypeId × Value → H} {W : World} {n : Nat} {cs : List Value} {d : DataW H × List MemPlace} (h : DataW.trod enc Tryz.prog W 0 (fun _ => true) true n 4 cs = some d) : ∃ x, cs = [.bool x] := by
  obtain ⟨x, q, e⟩ := DataW.trod_bool Tryz.underlying4 h
  exact ⟨x, q⟩
set_option maxRecDepth 100000 in
theorem in_cell {H : Type} {enc : TypeId × Value → H} {W : World} {n : Nat} {cs : List Value} {d : DataW H × List MemPlace} (h : DataW.trod enc Tryz.prog W 0 (fun _ => true) true n 40 cs = some d) : ∃ x0 x1, cs = [.int .i64 x0, .int .i64 x1] := by
  obtain ⟨xs, k, hk, hxy, hlen, hxl, hf⟩ := DataW.trod_struct Tryz.underlying40 h
  rw [show Tryz.prog.cellsOf 40 = 2 by kernel_rfl] at hlen
  match cs, hlen with
  | [v0, v1], _ =>
    match xs, hxl with
    | [y0, y1], _ =>
      have g0 : DataW.trod enc Tryz.prog W 0 (fun _ => true) true k 3 [v0] = some y0 := by
        have q := hf 0 _ rfl
        simp only [show Tryz.prog.cellsOf 3 = 1 by kernel_rfl, List.drop_zero, List.drop_succ_cons, List.take_succ_cons, List.take_zero, List.getElem?_cons_zero, List.getElem?_cons_succ] at q
        exact q
      have g1 : DataW.trod enc Tryz.prog W 0 (fun _ => true) true k 3 [v1] = some y1 := by
        have q := hf 1 _ rfl
        simp only [show Tryz.prog.cellsOf 3 = 1 by kernel_rfl, List.drop_zero, List.drop_succ_cons, List.take_succ_cons, List.take_zero, List.getElem?_cons_zero, List.getElem?_cons_succ] at q
        exact q
      obtain ⟨x0, q0⟩ := in_int g0
      simp only [tlL, List.cons.injEq, and_true] at q0
      obtain rfl := q0
      obtain ⟨x1, q1⟩ := in_int g1
      simp only [tlL, List.cons.injEq, and_true] at q1
      obtain rfl := q1
      exact ⟨x0, x1, rfl⟩
set_option maxRecDepth 100000 in
theorem in_pose {H : Type} {enc : TypeId × Value → H} {W : World} {n : Nat} {cs : List Value} {d : DataW H × List MemPlace} (h : DataW.trod enc Tryz.prog W 0 (fun _ => true) true n 42 cs = some d) : ∃ x0 x1 x2, cs = [.int .i64 x0, .int .i64 x1, .bool x2] := by
  obtain ⟨xs, k, hk, hxy, hlen, hxl, hf⟩ := DataW.trod_struct Tryz.underlying42 h
  rw [show Tryz.prog.cellsOf 42 = 3 by kernel_rfl] at hlen
  match cs, hlen with
  | [v0, v1, v2], _ =>
    match xs, hxl with
    | [y0, y1], _ =>
      have g0 : DataW.trod enc Tryz.prog W 0 (fun _ => true) true k 40 [v0, v1] = some y0 := by
        have q := hf 0 _ rfl
        simp only [show Tryz.prog.cellsOf 40 = 2 by kernel_rfl, List.drop_zero, List.drop_succ_cons, List.take_succ_cons, List.take_zero, List.getElem?_cons_zero, List.getElem?_cons_succ] at q
        exact q
      have g1 : DataW.trod enc Tryz.prog W 0 (fun _ => true) true k 4 [v2] = some y1 := by
        have q := hf 1 _ rfl
        simp only [show Tryz.prog.cellsOf 4 = 1 by kernel_rfl, List.drop_zero, List.drop_succ_cons, List.take_succ_cons, List.take_zero, List.getElem?_cons_zero, List.getElem?_cons_succ] at q
        exact q
      obtain ⟨x0, x1, q0⟩ := in_cell g0
      simp only [tlL, List.cons.injEq, and_true] at q0
      obtain ⟨rfl, rfl⟩ := q0
      obtain ⟨x2, q1⟩ := in_bool g1
      simp only [tlL, List.cons.injEq, and_true] at q1
      obtain rfl := q1
      exact ⟨x0, x1, x2, rfl⟩
/- Telegrams that came in. -/
def InT (w : World) (a : Option Addr) (n : Nat) (ts : Nat → Tl) : Prop := ∀ i, i < n → ∃ x : Addr, a = some x ∧ ∀ j u, (tlL (ts i))[j]? = some u → w.cell? ((x.add (i * 19)).add j) = some u
theorem InT.go {w w' : World} {a : Option Addr} {n : Nat} {ts : Nat → Tl} (h : InT w a n ts) (hb : Below w.heap.size w w') : InT w' a n ts := fun i hi => by
  obtain ⟨x, hx, h1⟩ := h i hi
  exact ⟨x, hx, fun j u hj => (hb.cell (World.block_lt_of_cell? w _ (h1 j u hj))).trans (h1 j u hj)⟩
theorem InT.load {w : World} {a : Option Addr} {n : Nat} {ts : Nat → Tl} (h : InT w a n ts) {i : Nat} (hi : i < n) : ∃ x : Addr, a = some x ∧ (loadVar 46 (x.add (i * 19))).run Tryz.prog w = .ok (.agg (tlA (ts i))) w := by
  obtain ⟨x, hx, h1⟩ := h i hi
  exact ⟨x, hx, run_loadVar_at w _ _ _ (fun j v hv => h1 j v (by unfold tlA at hv; simpa using hv)) (aggTele _) infoTele⟩
/- A call that is asked for. -/
structure Cl where
  kd : Int
  n : Int
  te : Tl
def clL (x : Cl) : List Value := [.int .i64 x.kd, .int .i64 x.n] ++ tlL x.te
def clA (x : Cl) : Array Value := (clL x).toArray
theorem infoCl : (Tryz.prog.info? 48).map (·.size) = some 21 := by kernel_rfl
theorem aggCl (w : World) : (isAgg 48).run Tryz.prog w = .ok true w := by unfold isAgg; rw [Sem.run_bind, run_underlying Tryz.underlying48 w]; rfl
def InS (w : World) (a : Option Addr) (n : Nat) (ts : Nat → Cl) : Prop := ∀ i, i < n → ∃ x : Addr, a = some x ∧ ∀ j u, (clL (ts i))[j]? = some u → w.cell? ((x.add (i * 21)).add j) = some u
theorem InS.go {w w' : World} {a : Option Addr} {n : Nat} {ts : Nat → Cl} (h : InS w a n ts) (hb : Below w.heap.size w w') : InS w' a n ts := fun i hi => by
  obtain ⟨x, hx, h1⟩ := h i hi
  exact ⟨x, hx, fun j u hj => (hb.cell (World.block_lt_of_cell? w _ (h1 j u hj))).trans (h1 j u hj)⟩
theorem InS.load {w : World} {a : Option Addr} {n : Nat} {ts : Nat → Cl} (h : InS w a n ts) {i : Nat} (hi : i < n) : ∃ x : Addr, a = some x ∧ (loadVar 48 (x.add (i * 21))).run Tryz.prog w = .ok (.agg (clA (ts i))) w := by
  obtain ⟨x, hx, h1⟩ := h i hi
  exact ⟨x, hx, run_loadVar_at w _ _ _ (fun j v hv => h1 j v (by unfold clA at hv; simpa using hv)) (aggCl _) infoCl⟩
end Go.Proofs.YtedhoghleelhfaaGreat.Rob
/-
  Place.
-/
namespace Go.Proofs.YtedhoghleelhfaaGreat.Rob
set_option linter.unusedVariables false
set_option linter.unusedSimpArgs false
open Go Go.RowKit Go.Shelf Go.Proofs Go.Proofs.YtedhoghleelhfaaGreat.Lk Go.Proofs.YtedhoghleelhfaaGreat.Plain
attribute [local go_sem] Oper.semAt_some

def place (v n : Int) : Int := if v.tmod n < 0 then v.tmod n + n else v.tmod n
theorem tmod_low (v n : Int) (h : 0 < n) : -n < v.tmod n := by
  by_cases g : 0 ≤ v
  · have := Int.tmod_nonneg n g
    omega
  · have h1 := Int.tmod_lt_of_pos (-v) h
    rw [Int.neg_tmod] at h1
    omega
theorem place_bd (v n : Int) (h : 0 < n) : 0 ≤ place v n ∧ place v n < n := by
  have h2 := Int.tmod_lt_of_pos v h
  have h3 := tmod_low v n h
  unfold place
  split <;> omega
set_option maxHeartbeats 1000000 in
theorem place_any (v n : Int) (w : World) (h0 : 0 < n) (h1 : n ≤ 9223372036854775807) : Calls Tryz.prog 34 #[.int .i64 v, .int .i64 n] w fun e w' => e = .returned (.int .i64 (place v n)) ∧ w' = w := by
  have h2 := Int.tmod_lt_of_pos v h0
  have h3 := tmod_low v n h0
  have H : Hid (place v n = if v.tmod n < 0 then v.tmod n + n else v.tmod n) := rfl
  generalize place v n = r at *
  by_cases hc : v.tmod n < 0
  all_goals
    go_enter Tryz.func34, Tryz.ntmps34
    go_wp2
    go_ret
    exact ⟨ret_int (by rw [H.out]; first | rw [if_pos (by omega)] | rw [if_neg (by omega)]), rfl⟩
end Go.Proofs.YtedhoghleelhfaaGreat.Rob
/-
  What follows for a robot, in plain words: what a telegram and a tick turn, how many ticks are left.
-/
namespace Go.Proofs.YtedhoghleelhfaaGreat.Rob
set_option linter.unusedVariables false
set_option linter.unusedSimpArgs false
open Go Go.RowKit Go.Shelf Go.Proofs Go.Proofs.YtedhoghleelhfaaGreat.Lk Go.Proofs.YtedhoghleelhfaaGreat.Plain

/- A new stop, and how a telegram was taken. -/
def newStop (r : Rb) (t : Tl) : Prop := t.rb = r.nb ∧ t.kd = 2 ∧ r.ep < t.ep
theorem stop_stay (R : Wh) (r : Rb) (ep : Int) : (stopP R r ep).nb = r.nb ∧ posR (stopP R r ep) = posR r ∧ (stopP R r ep).ld = r.ld ∧ (stopP R r ep).ep = ep ∧ (stopP R r ep).lt = 0 := by
  unfold stopP
  split
  · split <;> exact ⟨rfl, rfl, rfl, rfl, rfl⟩
  · exact ⟨rfl, rfl, rfl, rfl, rfl⟩
theorem hear_new {R : Wh} {r : Rb} {t : Tl} (h : newStop r t) : hearR R r t = stopP R r t.ep ∧ hearH R r t = stopH r := by
  obtain ⟨h1, h2, h3⟩ := h
  have n1 : ¬ t.rb ≠ r.nb := fun f => f h1
  have n2 : ¬ (t.kd = 1 ∧ t.ep < r.ep) := fun f => by omega
  have n3 : ¬ (t.kd = 1 ∧ begs R r t = true) := fun f => by omega
  exact ⟨by unfold hearR; rw [if_neg n1, if_neg n2, if_neg n3, if_pos ⟨h2, h3⟩], by unfold hearH; rw [if_neg n1, if_neg n2, if_neg n3, if_pos ⟨h2, h3⟩]⟩
theorem hear_same {R : Wh} {r : Rb} {t : Tl} (h : ¬ newStop r t) : (hearR R r t).ep = r.ep ∧ (hearR R r t).lt = r.lt := by
  unfold hearR
  by_cases h1 : t.rb ≠ r.nb
  · rw [if_pos h1]; exact ⟨rfl, rfl⟩
  · rw [if_neg h1]
    split
    · exact ⟨rfl, rfl⟩
    · split
      · exact ⟨rfl, rfl⟩
      · rw [if_neg (fun f => h ⟨Decidable.not_not.1 h1, f.1, f.2⟩)]
        exact ⟨rfl, rfl⟩
/- The ticks that are left of a move under way. -/
def rest (r : Rb) : Int := r.lf + r.la
theorem late_none {r : Rb} (hu : under r = false) (m : Int) : lateR r m = r := by
  unfold lateR
  rw [if_neg (fun f => by rw [hu] at f; cases f.1)]
end Go.Proofs.YtedhoghleelhfaaGreat.Rob
/-
  Go-aheads of an older epoch are refused for ever.
-/
namespace Go.Proofs.YtedhoghleelhfaaGreat.Rob
set_option linter.unusedVariables false
set_option linter.unusedSimpArgs false
open Go Go.RowKit Go.Shelf Go.Proofs Go.Proofs.YtedhoghleelhfaaGreat.Lk Go.Proofs.YtedhoghleelhfaaGreat.Plain
attribute [local go_sem] Oper.semAt_some

theorem wpList_neq_agg {ops : Array Oper} {rest : List Oper} {o : Oper} {a : Act} {w : World} {Q : Exit → Act → World → Prop} (hw : Region.wanted o (yielded ops a.tmps) = true) (T : TypeId) (x y : Operand) (ho : o.op = .binOp .neq T x y T) (hg : Tryz.prog.eqGuardType Tryz.prog.depth T = false) (xs ys : Array Value) (b : Bool) (hx : a.eval x = .agg xs) (hy : a.eval y = .agg ys)
    (hq : (Op.equalIn 10000 T (.agg xs) (.agg ys)).run Tryz.prog w = .ok b w) (h : wpList Tryz.prog ops Q rest (a.put o.dst (.bool (!b))) w) : wpList Tryz.prog ops Q (o :: rest) a w :=
  BigFrame.wpList_want hw fun _ hK => by
    unfold Oper.wp
    rw [run_neq_agg T x y ho hg xs ys b hx hy hq]
    exact hK _ _ h
end Go.Proofs.YtedhoghleelhfaaGreat.Rob
/-
  A robot begins a move only by the next go-ahead of its epoch.
-/
namespace Go.Proofs.YtedhoghleelhfaaGreat.Rob
set_option linter.unusedVariables false
set_option linter.unusedSimpArgs false
open Go Go.RowKit Go.Shelf Go.Proofs Go.Proofs.YtedhoghleelhfaaGreat.Lk Go.Proofs.YtedhoghleelhfaaGreat.Plain
attribute [local go_sem] Oper.semAt_some

theorem cl_cell {w : World} {g : Nat} {x : Cl} {T : TypeId} {fr : Nat × Nat} (h : w.heap[g]? = some (.cells (clA x) T fr)) (j : Nat) : w.cell? ⟨g, j, none⟩ = (clA x)[j]? := by simp [World.cell?, h]
theorem cl_tele {w : World} {g : Nat} {x : Cl} {T : TypeId} {fr : Nat × Nat} (h : w.heap[g]? = some (.cells (clA x) T fr)) : (loadVar 46 ⟨g, 2, none⟩).run Tryz.prog w = .ok (.agg (tlA x.te)) w :=
  run_loadVar_at w _ _ _ (fun j v hv => by
    rw [Addr.add_mid, cl_cell h]
    unfold tlA at hv
    rw [List.getElem?_toArray] at hv
    unfold clA clL
    rw [List.getElem?_toArray]
    rw [List.getElem?_append_right (by simp only [List.length_cons, List.length_nil]; omega)]
    simp only [List.length_cons, List.length_nil]
    rw [show 2 + j - (0 + 1 + 1) = j by omega]
    exact hv) (aggTele _) infoTele
end Go.Proofs.YtedhoghleelhfaaGreat.Rob
