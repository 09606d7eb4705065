/-
  New.
-/
import Derived.Test.YtedhoghleelhfaaGreatQRobHear
import Derived.Test.YtedhoghleelhfaaGreatQRgN
import Derived.Test.YtedhoghleelhfaaGreatQRkC
namespace Go.Proofs.YtedhoghleelhfaaGreat.Rob
set_option linter.unusedVariables false
set_option linter.unusedSimpArgs false
open Go Go.RowKit Go.Shelf Go.Proofs Go.Proofs.YtedhoghleelhfaaGreat.Lk Go.Proofs.YtedhoghleelhfaaGreat.Plain
attribute [local go_sem] Oper.semAt_some

theorem limited_nums {c : Grid.Conf} (h : Grid.limited c = true) : 1 ≤ c.unit ∧ c.unit ≤ 1000 ∧ 1 ≤ c.accel ∧ c.accel ≤ 1000 ∧ 1 ≤ c.speed ∧ c.speed ≤ 1000 ∧ 1 ≤ c.turn ∧ c.turn ≤ 1000 ∧ 1 ≤ c.hoist ∧ c.hoist ≤ 1000 := by
  unfold Grid.limited Grid.upTo at h
  simp only [Bool.and_eq_true, decide_eq_true_eq] at h
  omega
theorem built_robot (g k : Nat) (i x y : Int) (d : Bool) : Tryz.prog.built 64 [(0, .pointer (some ⟨g, 0, none⟩)), (1, .pointer (some ⟨k, 0, none⟩)), (2, .int .i64 i), (3, .agg (poA x y d))] = some (rbA g k (firstR i x y d)) := by kernel_rfl
theorem cell_of' {w : World} {g : Nat} {cs : Array Value} {t : TypeId} {r : Nat × Nat} (h : w.heap[g]? = some (.cells cs t r)) (o : Nat) : w.cell? ⟨g, o, none⟩ = cs[o]? := by simp [World.cell?, h]
section
variable {F : Nat → Prop} {c : Grid.Conf} {v1 v2 v3 v4 : Value} {w : World} (hA : Grid.ConfAt F c v1 v2 v3 v4 w) (hF : ∀ b, F b → b < w.heap.size) (l1 : c.blocked.length ≤ 8796093022208) (l2 : c.ports.length ≤ 8796093022208) (l3 : c.robots.length ≤ 5864062014805) (l4 : c.stacks.length ≤ 3518437208880)
include hA hF l1 l2 l3 l4

set_option maxRecDepth 100000 in
set_option maxHeartbeats 2000000 in
theorem new_ok (i : Nat) {G : Grid.GS} (hN : Grid.newP c = some G) (hi : i < c.robots.length) : Calls Tryz.prog 5 #[.agg #[.int .i64 c.W, .int .i64 c.H, .int .i64 c.height, v1, v2, v3, v4, .int .i64 c.unit, .int .i64 c.accel, .int .i64 c.speed, .int .i64 c.turn, .int .i64 c.hoist, .int .i64 c.queue, .int .i64 c.resend, .int .i64 c.budget, .bool c.back], .int .i64 i] w fun e w' => ∃ R : Wh, e = .returned (.tuple #[.pointer (some ⟨R.p, 0, none⟩), .int .i64 0]) ∧ RbAt w' R (firstR i (c.robots[i]'hi).1.1 (c.robots[i]'hi).1.2 (c.robots[i]'hi).2) ∧ w.heap.size ≤ R.p ∧ w.heap.size ≤ R.k ∧
    (R.W = c.W ∧ R.H = c.H ∧ R.us = G.uses ∧ (R.ku : Int) = c.unit ∧ (R.ka : Int) = c.accel ∧ (R.kv : Int) = c.speed) ∧ Below w.heap.size w w' := by
  obtain ⟨a3, cap3, hv3, _⟩ := hA.r.form
  obtain ⟨w1, hw1⟩ : ∃ w1, w1 = w.alloc (.cells #[.int .i64 c.W, .int .i64 c.H, .int .i64 c.height, v1, v2, v3, v4, .int .i64 c.unit, .int .i64 c.accel, .int .i64 c.speed, .int .i64 c.turn, .int .i64 c.hoist, .int .i64 c.queue, .int .i64 c.resend, .int .i64 c.budget, .bool c.back] 26) := ⟨_, rfl⟩
  have b1 : Below w.heap.size w w1 := by rw [hw1]; exact (Below.refl _ _).alloc (Nat.le_refl _) _
  have hc1 : w1.heap[w.heap.size]? = some (.cells #[.int .i64 c.W, .int .i64 c.H, .int .i64 c.height, v1, v2, v3, v4, .int .i64 c.unit, .int .i64 c.accel, .int .i64 c.speed, .int .i64 c.turn, .int .i64 c.hoist, .int .i64 c.queue, .int .i64 c.resend, .int .i64 c.budget, .bool c.back] 26 (0, 0)) := by rw [hw1]; exact World.alloc_heap_new _ _
  have hA1 := hA.go hF b1
  have hF1 : ∀ b, F b → b < w1.heap.size := fun b h => Nat.lt_of_lt_of_le (hF b h) b1.size
  have HLD : Hid ((loadVar 26 ⟨w.heap.size, 0, none⟩).run Tryz.prog w1 = .ok (.agg #[.int .i64 c.W, .int .i64 c.H, .int .i64 c.height, v1, v2, v3, v4, .int .i64 c.unit, .int .i64 c.accel, .int .i64 c.speed, .int .i64 c.turn, .int .i64 c.hoist, .int .i64 c.queue, .int .i64 c.resend, .int .i64 c.budget, .bool c.back]) w1) := load_row_of hc1 (Grid.aggConf _) Grid.info_conf
  have cG := Grid.new_yes hA1 hF1 l1 l2 l3 l4 hN
  obtain ⟨p, cs, cap, hv, hpF, hcs, hrd⟩ := hA.r.item hi
  have hnm := limited_nums (Grid.new_some hN).1.1
  obtain ⟨ku, hku⟩ := Int.eq_ofNat_of_zero_le (show 0 ≤ c.unit by omega)
  obtain ⟨ka, hka⟩ := Int.eq_ofNat_of_zero_le (show 0 ≤ c.accel by omega)
  obtain ⟨kv, hkv⟩ := Int.eq_ofNat_of_zero_le (show 0 ≤ c.speed by omega)
  have ok : Kin.Ok ku ka kv := ⟨by omega, by omega, by omega, by omega, by omega, by omega⟩
  have cK := fun u => Kin.new_yes ku ka kv ok u
  obtain ⟨⟨⟨rx, ry⟩, rd⟩, hr⟩ : ∃ z, c.robots[i]'hi = z := ⟨_, rfl⟩
  rw [hr] at hcs ⊢
  have hcs : cs = poA rx ry rd := hcs
  subst hcs
  subst hv
  have HC : Hid (∀ u, Below w1.heap.size w1 u → u.heap[w.heap.size]? = some (.cells #[.int .i64 c.W, .int .i64 c.H, .int .i64 c.height, v1, v2, (.slice (some p) c.robots.length cap), v4, .int .i64 c.unit, .int .i64 c.accel, .int .i64 c.speed, .int .i64 c.turn, .int .i64 c.hoist, .int .i64 c.queue, .int .i64 c.resend, .int .i64 c.budget, .bool c.back] 26 (0, 0))) := fun u b => (b.block _ (Array.getElem?_eq_some_iff.1 hc1).1).trans hc1
  have hpl : p.block < w.heap.size := hF _ hpF
  have HP : Hid (∀ u, Below w.heap.size w u → (loadVar 42 (p.add (i * 3))).run Tryz.prog u = .ok (.agg (poA rx ry rd)) u) := fun u b =>
    run_loadVar_at u _ _ _ (fun j v hj => (cell_block (by rw [Grid.block_add, Grid.block_add]; exact b.block _ hpl)).trans (hrd j v hj)) (aggPose _) infoPose
  have hi2 : i < c.robots.length := hi
  have q0 : decide ((i : Int) < 0) = false := by simp
  have q1 : decide ((c.robots.length : Int) ≤ i) = false := by simp; omega
  have HB1 : Hid (Below w.heap.size w w1) := b1
  rw [hku, hka, hkv]
  rw [hku, hka, hkv] at hw1 HLD HC cG
  clear hA hF hA1 hF1 hc1 hpF hrd hv3 hr b1 hnm
  go_enter Tryz.func5, Tryz.ntmps5
  go_wp2_with (first
    | (refine wpList_boxAt rfl 26 (.tmp 0) rfl #[.int .i64 c.W, .int .i64 c.H, .int .i64 c.height, v1, v2, (.slice (some p) c.robots.length cap), v4, .int .i64 ku, .int .i64 ka, .int .i64 kv, .int .i64 c.turn, .int .i64 c.hoist, .int .i64 c.queue, .int .i64 c.resend, .int .i64 c.budget, .bool c.back] rfl ?_; rw [← hw1]; clear hw1)
    | (refine wpList_load_at rfl 26 (.tmp 2) rfl ⟨w.heap.size, 0, none⟩ rfl #[.int .i64 c.W, .int .i64 c.H, .int .i64 c.height, v1, v2, (.slice (some p) c.robots.length cap), v4, .int .i64 ku, .int .i64 ka, .int .i64 kv, .int .i64 c.turn, .int .i64 c.hoist, .int .i64 c.queue, .int .i64 c.resend, .int .i64 c.budget, .bool c.back] HLD.out ?_)
    | (go_at_call 14; refine cG.mono ?_; rintro e w2 ⟨g, u, v', rfl, hG, hg, hu, hp, b2⟩; have k5 := cell_of' (HC.out _ b2) 5; have k7 := cell_of' (HC.out _ b2) 7; have k8 := cell_of' (HC.out _ b2) 8; have k9 := cell_of' (HC.out _ b2) 9; simp only [List.getElem?_toArray, List.getElem?_cons_succ, List.getElem?_cons_zero] at k5 k7 k8 k9; have HG : Hid (Grid.GridAt w2 g u c.W c.H G.uses v') := hG; have HB2 : Hid (Below w.heap.size w w2) := bcat HB1.out b2; have hg' : w.heap.size ≤ g := Nat.le_trans HB1.out.size hg; have hu' : w.heap.size ≤ u := Nat.le_trans HB1.out.size hu; have hgl := hG.ltg; have hul := hG.ltu; clear hG hp)
    | (go_at_call 15; refine (cK _).mono ?_; rintro e w3 ⟨kk, rfl, hk, hK, b3⟩; have HK : Hid (Kin.KinAt w3 kk ku ka kv) := hK; have HB3 : Hid (Below w.heap.size w w3) := bcat HB2.out b3; have HG3 : Hid (Grid.GridAt w3 g u c.W c.H G.uses v') := HG.out.go b3; have j5 := (b3.cell (p := ⟨w.heap.size, 5, none⟩) (by have := hul; show w.heap.size < _; omega)).trans k5; have hkl := hK.nums.lt; clear hK)
    | (refine wpList_load_at rfl 42 (.tmp 42) rfl (p.add (i * 3)) rfl (poA rx ry rd) (HP.out _ HB3.out) ?_)
    | (refine wpList_buildAs rfl 64 _ rfl (rbA g kk (firstR i rx ry rd)) _ (by simp only [List.map_toArray, List.map_cons, List.map_nil]; rfl) (built_robot g kk i rx ry rd) ?_)
    | (refine wpList_boxAt rfl 64 (.tmp 44) rfl (rbA g kk (firstR i rx ry rd)) rfl ?_))
  go_ret2
  have b4 : Below w3.heap.size w3 (w3.alloc (.cells (rbA g kk (firstR i rx ry rd)) 64)) := (Below.refl _ _).alloc (Nat.le_refl _) _
  refine ⟨⟨w3.heap.size, g, u, kk, c.W, c.H, G.uses, v', ku, ka, kv⟩, rfl, ⟨World.alloc_heap_new _ _, HG3.out.go b4, HK.out.go b4, ok, ?_, ?_, ?_, ?_, ?_⟩, ?_, ?_, ⟨rfl, rfl, rfl, rfl, rfl, rfl⟩, bcat HB3.out b4⟩
  · have := b3.size; show w3.heap.size ≠ g; omega
  · have := b3.size; show w3.heap.size ≠ u; omega
  · show w3.heap.size ≠ kk; omega
  · show kk ≠ g; omega
  · show kk ≠ u; omega
  · exact HB3.out.size
  · exact Nat.le_trans HB2.out.size hk
end
end Go.Proofs.YtedhoghleelhfaaGreat.Rob
