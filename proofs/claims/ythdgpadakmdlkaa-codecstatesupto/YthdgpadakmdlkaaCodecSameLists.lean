/-
  The law's SameInts, SameJobs, SameStacks, sameRobot, over like things.
-/
import Derived.Test.YthdgpadakmdlkaaCodecSameMoves
namespace Go.Proofs.Ythdgpadakmdlkaa.Codec
set_option linter.unusedVariables false
set_option linter.unusedSimpArgs false
open Go Go.RowKit

set_option maxRecDepth 100000 in
set_option maxHeartbeats 2000000 in
theorem sameInts_same (F G : Nat → Prop) (v1 v2 : Value) (xs : List Int) (w : World) (h1 : ListAt 1 intEl F xs v1 w) (h2 : ListAt 1 intEl G xs v2 w) (hm : xs.length ≤ 140737488355328) :
    Calls Try.prog 60 #[v1, v2] w fun e w' => e = .returned (.bool true) ∧ Below w.heap.size w w' := by
  obtain ⟨a1, c1, ys1, rfl, rfl, el1, ce1, _⟩ := h1
  obtain ⟨a2, c2, ys2, hxs, rfl, el2, ce2, _⟩ := h2
  have hll : ys2.length = ys1.length := by have := congrArg List.length hxs; simpa using this.symm
  rw [hll]
  rw [List.length_map] at hm
  have HR : Hid (∀ i, i < ys1.length → ∃ (cs : Array Value) (m : Int) (p1 p2 : Addr), cs = intCells m ∧ a1 = some p1 ∧ a2 = some p2 ∧ (∀ j u, cs[j]? = some u → w.cell? (p1.add (i * 1 + j)) = some u ∧ p1.block < w.heap.size) ∧ (∀ j u, cs[j]? = some u → w.cell? (p2.add (i * 1 + j)) = some u ∧ p2.block < w.heap.size)) := by
    intro i hi
    obtain ⟨p1, e1, _, q1⟩ := ce1 i hi
    obtain ⟨p2, e2, _, q2⟩ := ce2 i (by omega)
    have s1 : (ys1[i]'hi).2 = intCells (ys1[i]'hi).1 := el1 _ (List.getElem_mem hi)
    have s2 : (ys2[i]'(by omega)).2 = intCells (ys2[i]'(by omega)).1 := el2 _ (List.getElem_mem _)
    have hx : (ys1[i]'hi).1 = (ys2[i]'(by omega)).1 := by
      have := congrArg (fun l => l[i]?) hxs
      simp only [List.getElem?_map, List.getElem?_eq_getElem hi, List.getElem?_eq_getElem (show i < ys2.length by omega), Option.map_some, Option.some.injEq] at this
      exact this
    rw [s2, ← hx, ← s1] at q2
    refine ⟨_, _, p1, p2, s1, e1, e2, fun j u h => ⟨q1 j u h, ?_⟩, fun j u h => ⟨q2 j u h, ?_⟩⟩
    · have := World.block_lt_of_cell? w _ (q1 j u h); rwa [block_add] at this
    · have := World.block_lt_of_cell? w _ (q2 j u h); rwa [block_add] at this
  clear el1 el2 ce1 ce2 hxs
  generalize ys1.length = n at *
  clear hll
  have hl' : ((n : Int) != (n : Int)) = false := by simp
  go_enter Try.func60, Try.ntmps60
  go_wp2_with fail
  go_loopw [5] (fun s5 wr => ∃ i : Nat, s5 = .int .i64 i ∧ i ≤ n ∧ Hid (Below w.heap.size w wr)) (fun s5 _ => n - (intOf s5).toNat)
  case atStart => exact ⟨0, rfl, Nat.zero_le _, Below.refl _ _⟩
  case round =>
    obtain ⟨i, rfl, hi, bw⟩ := hrel
    rcases Nat.lt_or_ge i n with hlt | hge
    · obtain ⟨cs, m, p1, p2, e0, e1, e2, q1, q2⟩ := HR.out i hlt
      subst e1
      subst e2
      have r1 : wr.cell? (p1.add i) = some (.int .i64 m) := by
        have := q1 0 (.int .i64 m) (by rw [e0]; rfl)
        rw [Nat.mul_one, Nat.add_zero] at this
        rw [bw.out.cell (by rw [block_add]; exact this.2)]
        exact this.1
      have r2 : wr.cell? (p2.add i) = some (.int .i64 m) := by
        have := q2 0 (.int .i64 m) (by rw [e0]; rfl)
        rw [Nat.mul_one, Nat.add_zero] at this
        rw [bw.out.cell (by rw [block_add]; exact this.2)]
        exact this.1
      have hb : Hid (Below w.heap.size w wr.drew) := bcat bw.out (below_drewN wr 1) (Nat.le_refl _)
      have i1 : (i : Int) < (n : Int) := by omega
      have hd : decide ((i : Int) < (n : Int)) = true := decide_eq_true i1
      clear e0 q1 q2
      go_wp2_with fail
      go_quiet (fail)
      go_wp2_with fail
      go_roundw
      case measure => simp only [intOf]; omega
      case rel => exact ⟨i + 1, by go_num, hlt, bcat bw.out (below_drewN wr _) (Nat.le_refl _)⟩
    · obtain rfl : i = n := by omega
      have hd : decide ((i : Int) < (i : Int)) = false := decide_eq_false (by omega)
      go_wp2
      go_ret
      exact ⟨rfl, bw.out⟩

def jobCells (x : TJob) : Array Value := #[.int .i64 x.1, .int .i64 x.2.1, .int .i64 x.2.2.1, .int .i64 x.2.2.2.1, .int .i64 x.2.2.2.2.1.1, .int .i64 x.2.2.2.2.1.2, .int .i64 x.2.2.2.2.2.1.1, .int .i64 x.2.2.2.2.2.1.2, .int .i64 x.2.2.2.2.2.2]
set_option maxRecDepth 100000 in
theorem eqJob_flat (a b c d e f g h i : Int) (w : World) : (Op.equalIn 10000 108 (.agg #[.int .i64 a, .int .i64 b, .int .i64 c, .int .i64 d, .int .i64 e, .int .i64 f, .int .i64 g, .int .i64 h, .int .i64 i]) (.agg #[.int .i64 a, .int .i64 b, .int .i64 c, .int .i64 d, .int .i64 e, .int .i64 f, .int .i64 g, .int .i64 h, .int .i64 i])).run Try.prog w = .ok true w := by
  go_simp
theorem eqJob_self (m : TJob) (w : World) : (Op.equalIn 10000 108 (.agg (jobCells m)) (.agg (jobCells m))).run Try.prog w = .ok true w := eqJob_flat _ _ _ _ _ _ _ _ _ w
theorem gJobT3 : Try.prog.eqGuardType Try.prog.depth 108 = false := by kernel_rfl
theorem iszJob3 : (Try.prog.info? 108).map (·.size) = some 9 := by kernel_rfl
set_option maxRecDepth 100000 in
set_option maxHeartbeats 2000000 in
theorem sameJobs_same (F G : Nat → Prop) (v1 v2 : Value) (xs : List TJob) (w : World) (h1 : ListAt 9 jobEl F xs v1 w) (h2 : ListAt 9 jobEl G xs v2 w) (hm : xs.length ≤ 140737488355328) :
    Calls Try.prog 58 #[v1, v2] w fun e w' => e = .returned (.bool true) ∧ Below w.heap.size w w' := by
  obtain ⟨a1, c1, ys1, rfl, rfl, el1, ce1, _⟩ := h1
  obtain ⟨a2, c2, ys2, hxs, rfl, el2, ce2, _⟩ := h2
  have hll : ys2.length = ys1.length := by have := congrArg List.length hxs; simpa using this.symm
  rw [hll]
  rw [List.length_map] at hm
  have HR : Hid (∀ i, i < ys1.length → ∃ (cs : Array Value) (m : TJob) (p1 p2 : Addr), cs = jobCells m ∧ a1 = some p1 ∧ a2 = some p2 ∧ (∀ j u, cs[j]? = some u → w.cell? (p1.add (i * 9 + j)) = some u ∧ p1.block < w.heap.size) ∧ (∀ j u, cs[j]? = some u → w.cell? (p2.add (i * 9 + j)) = some u ∧ p2.block < w.heap.size)) := by
    intro i hi
    obtain ⟨p1, e1, _, q1⟩ := ce1 i hi
    obtain ⟨p2, e2, _, q2⟩ := ce2 i (by omega)
    have s1 : (ys1[i]'hi).2 = jobCells (ys1[i]'hi).1 := el1 _ (List.getElem_mem hi)
    have s2 : (ys2[i]'(by omega)).2 = jobCells (ys2[i]'(by omega)).1 := el2 _ (List.getElem_mem _)
    have hx : (ys1[i]'hi).1 = (ys2[i]'(by omega)).1 := by
      have := congrArg (fun l => l[i]?) hxs
      simp only [List.getElem?_map, List.getElem?_eq_getElem hi, List.getElem?_eq_getElem (show i < ys2.length by omega), Option.map_some, Option.some.injEq] at this
      exact this
    rw [s2, ← hx, ← s1] at q2
    refine ⟨_, _, p1, p2, s1, e1, e2, fun j u h => ⟨q1 j u h, ?_⟩, fun j u h => ⟨q2 j u h, ?_⟩⟩
    · have := World.block_lt_of_cell? w _ (q1 j u h); rwa [block_add] at this
    · have := World.block_lt_of_cell? w _ (q2 j u h); rwa [block_add] at this
  clear el1 el2 ce1 ce2 hxs
  generalize ys1.length = n at *
  clear hll
  have hl' : ((n : Int) != (n : Int)) = false := by simp
  go_enter Try.func58, Try.ntmps58
  go_wp2_with fail
  go_loopw [5] (fun s5 wr => ∃ i : Nat, s5 = .int .i64 i ∧ i ≤ n ∧ Hid (Below w.heap.size w wr)) (fun s5 _ => n - (intOf s5).toNat)
  case atStart => exact ⟨0, rfl, Nat.zero_le _, Below.refl _ _⟩
  case round =>
    obtain ⟨i, rfl, hi, bw⟩ := hrel
    rcases Nat.lt_or_ge i n with hlt | hge
    · obtain ⟨cs, m, p1, p2, e0, e1, e2, q1, q2⟩ := HR.out i hlt
      subst e1
      subst e2
      have hq := fun u => eqJob_self m u
      rw [← e0] at hq
      have hz : (Try.prog.info? 108).map (·.size) = some cs.size := by rw [e0]; exact iszJob3
      have r1 : ∀ j v, cs[j]? = some v → wr.drew.cell? ((p1.add (i * 9)).add j) = some v := fun j v hj => by
        rw [add_add]
        show wr.cell? _ = _
        rw [bw.out.cell (by rw [block_add]; exact (q1 j v hj).2)]
        exact (q1 j v hj).1
      have r2 : ∀ j v, cs[j]? = some v → wr.drew.cell? ((p2.add (i * 9)).add j) = some v := fun j v hj => by
        rw [add_add]
        show wr.cell? _ = _
        rw [bw.out.cell (by rw [block_add]; exact (q2 j v hj).2)]
        exact (q2 j v hj).1
      have hb : Hid (Below w.heap.size w wr.drew) := bcat bw.out (below_drewN wr 1) (Nat.le_refl _)
      have i1 : (i : Int) < (n : Int) := by omega
      have hd : decide ((i : Int) < (n : Int)) = true := decide_eq_true i1
      clear e0 q1 q2
      go_upto_region 6 with fail
      go_cut [25] from 17 to 25 (fun rr wx => rr = .bool false ∧ wx = wr.drew)
      case first =>
        have S0 : wr.drew = wr.drew := rfl
        refine start_held (S := fun u => u = wr.drew) 9 rfl (by kernel_rfl) S0 ?_
        simp only [Array.replicate_succ, Array.replicate_zero, List.push_toArray, List.nil_append, List.cons_append]
        refine take_held 0 S0 rfl (by kernel_rfl) (by kernel_rfl) (by kernel_rfl) (fun _ _ _ h => h) (by kernel_rfl) (v := .slice (some p1) n c1) ?ya0 ?ra0
        case ya0 => (intro u hu; go_simp; try rfl)
        simp only [Act.put, List.setIfInBounds_toArray, List.set_cons_zero, List.set_cons_succ]
        refine take_held 1 S0 rfl (by kernel_rfl) (by kernel_rfl) (by kernel_rfl) (fun _ _ _ h => h) (by kernel_rfl) (v := .int .i64 i) ?ya1 ?ra1
        case ya1 => (intro u hu; go_simp; try rfl)
        simp only [Act.put, List.setIfInBounds_toArray, List.set_cons_zero, List.set_cons_succ]
        refine take_held 2 S0 rfl (by kernel_rfl) (by kernel_rfl) (by kernel_rfl) (fun _ _ _ h => h) (by kernel_rfl) (v := .pointer (some (p1.add (i * 9)))) ?ya2 ?ra2
        case ya2 => (intro u hu; clear r1 r2; go_simp; try rfl)
        simp only [Act.put, List.setIfInBounds_toArray, List.set_cons_zero, List.set_cons_succ]
        refine take_held 3 S0 rfl (by kernel_rfl) (by kernel_rfl) (by kernel_rfl) (fun _ _ _ h => h) (by kernel_rfl) (v := .agg cs) ?ya3 ?ra3
        case ya3 => (intro u hu; subst hu; exact run_load_at 108 (.tmp 19) rfl (p1.add (i * 9)) cs rfl (run_loadVar_at _ _ _ cs r1 (aggJob _) hz))
        simp only [Act.put, List.setIfInBounds_toArray, List.set_cons_zero, List.set_cons_succ]
        refine take_held 4 S0 rfl (by kernel_rfl) (by kernel_rfl) (by kernel_rfl) (fun _ _ _ h => h) (by kernel_rfl) (v := .slice (some p2) n c2) ?ya4 ?ra4
        case ya4 => (intro u hu; go_simp; try rfl)
        simp only [Act.put, List.setIfInBounds_toArray, List.set_cons_zero, List.set_cons_succ]
        refine take_held 5 S0 rfl (by kernel_rfl) (by kernel_rfl) (by kernel_rfl) (fun _ _ _ h => h) (by kernel_rfl) (v := .int .i64 i) ?ya5 ?ra5
        case ya5 => (intro u hu; go_simp; try rfl)
        simp only [Act.put, List.setIfInBounds_toArray, List.set_cons_zero, List.set_cons_succ]
        refine take_held 6 S0 rfl (by kernel_rfl) (by kernel_rfl) (by kernel_rfl) (fun _ _ _ h => h) (by kernel_rfl) (v := .pointer (some (p2.add (i * 9)))) ?ya6 ?ra6
        case ya6 => (intro u hu; clear r1 r2; go_simp; try rfl)
        simp only [Act.put, List.setIfInBounds_toArray, List.set_cons_zero, List.set_cons_succ]
        refine take_held 7 S0 rfl (by kernel_rfl) (by kernel_rfl) (by kernel_rfl) (fun _ _ _ h => h) (by kernel_rfl) (v := .agg cs) ?ya7 ?ra7
        case ya7 => (intro u hu; subst hu; exact run_load_at 108 (.tmp 23) rfl (p2.add (i * 9)) cs rfl (run_loadVar_at _ _ _ cs r2 (aggJob _) hz))
        simp only [Act.put, List.setIfInBounds_toArray, List.set_cons_zero, List.set_cons_succ]
        refine take_held 8 S0 rfl (by kernel_rfl) (by kernel_rfl) (by kernel_rfl) (fun _ _ _ h => h) (by kernel_rfl) (v := .bool false) ?ya8 ?ra8
        case ya8 => (intro u hu; exact run_neq_op3 108 108 (.tmp 20) (.tmp 24) rfl cs cs rfl rfl true (hq u) gJobT3)
        simp only [Act.put, List.setIfInBounds_toArray, List.set_cons_zero, List.set_cons_succ]
        refine done_held (by kernel_rfl) ?_ _
        go_wp2_with fail
        go_meet
        exact ⟨rfl, rfl⟩
      case rest =>
      obtain ⟨rfl, rfl⟩ := hcut
      go_wp2_with fail
      go_roundw
      case measure => simp only [intOf]; omega
      case rel => exact ⟨i + 1, by go_num, hlt, hb⟩
    · obtain rfl : i = n := by omega
      have hd : decide ((i : Int) < (i : Int)) = false := decide_eq_false (by omega)
      go_wp2
      go_ret
      exact ⟨rfl, bw.out⟩

set_option maxRecDepth 100000 in
set_option maxHeartbeats 4000000 in
theorem sameRobot_same (w : World) (x : TRobot) (cs ds : Array Value) (F G : Nat → Prop) (hx : robotEl F x cs w) (hy : robotEl G x ds w) (hF : ∀ g, F g → g < w.heap.size) (hG : ∀ g, G g → g < w.heap.size) (hn : x.2.2.2.1.length ≤ 140737488355328) :
    Calls Try.prog 59 #[.agg cs, .agg ds] w fun e w' => e = .returned (.bool true) ∧ Below w.heap.size w w' := by
  obtain ⟨⟨⟨px, py⟩, d⟩, lo, jo, xs, ou, nu, st⟩ := x
  obtain ⟨v, rfl, l1⟩ := hx
  obtain ⟨u, rfl, l2⟩ := hy
  dsimp only at l1 l2 hn ⊢
  have B : Below w.heap.size w ((w.alloc (.cells #[.int .i64 px, .int .i64 py, .bool d, .int .i64 lo, .int .i64 jo, v, .bool ou, .int .i64 nu, .bool st] 101)).alloc (.cells #[.int .i64 px, .int .i64 py, .bool d, .int .i64 lo, .int .i64 jo, u, .bool ou, .int .i64 nu, .bool st] 101)) := ((Below.refl _ _).alloc (Nat.le_refl _) _).alloc (by simp) _
  have cS := sameMoves_same F G v u xs _ (l1.stable heldMoveEl fun g hg => B.block g (hF g hg)) (l2.stable heldMoveEl fun g hg => B.block g (hG g hg)) hn
  obtain ⟨va, vc, rfl, _⟩ := l1.form
  obtain ⟨ua, uc, rfl, _⟩ := l2.form
  clear l1 l2
  obtain ⟨wc, hwc⟩ : ∃ wc, wc = ((w.alloc (.cells #[.int .i64 px, .int .i64 py, .bool d, .int .i64 lo, .int .i64 jo, .slice va xs.length vc, .bool ou, .int .i64 nu, .bool st] 101)).alloc (.cells #[.int .i64 px, .int .i64 py, .bool d, .int .i64 lo, .int .i64 jo, .slice ua xs.length uc, .bool ou, .int .i64 nu, .bool st] 101)) := ⟨_, rfl⟩
  have h1 : wc.heap[w.heap.size]? = some (.cells #[.int .i64 px, .int .i64 py, .bool d, .int .i64 lo, .int .i64 jo, .slice va xs.length vc, .bool ou, .int .i64 nu, .bool st] 101 (0, 0)) := by
    rw [hwc, alloc_old _ _ _ (by simp)]
    exact heap_alloc_new _ _
  have h2 : wc.heap[w.heap.size + 1]? = some (.cells #[.int .i64 px, .int .i64 py, .bool d, .int .i64 lo, .int .i64 jo, .slice ua xs.length uc, .bool ou, .int .i64 nu, .bool st] 101 (0, 0)) := by
    rw [hwc]
    have := heap_alloc_new (w.alloc (.cells #[.int .i64 px, .int .i64 py, .bool d, .int .i64 lo, .int .i64 jo, .slice va xs.length vc, .bool ou, .int .i64 nu, .bool st] 101)) (.cells #[.int .i64 px, .int .i64 py, .bool d, .int .i64 lo, .int .i64 jo, .slice ua xs.length uc, .bool ou, .int .i64 nu, .bool st] 101)
    simp only [World.size_alloc] at this
    exact this
  go_enter Try.func59, Try.ntmps59
  go_upto_region 1 with fail
  rw [← hwc]
  rw [← hwc] at cS B
  clear hwc
  have p0 : wc.cell? ⟨w.heap.size, 0, none⟩ = some (.int .i64 px) := (cell_of h1 0).trans rfl
  have q0 : wc.cell? ⟨w.heap.size + 1, 0, none⟩ = some (.int .i64 px) := (cell_of h2 0).trans rfl
  have p1 : wc.cell? ⟨w.heap.size, 1, none⟩ = some (.int .i64 py) := (cell_of h1 1).trans rfl
  have q1 : wc.cell? ⟨w.heap.size + 1, 1, none⟩ = some (.int .i64 py) := (cell_of h2 1).trans rfl
  have p2 : wc.cell? ⟨w.heap.size, 2, none⟩ = some (.bool d) := (cell_of h1 2).trans rfl
  have q2 : wc.cell? ⟨w.heap.size + 1, 2, none⟩ = some (.bool d) := (cell_of h2 2).trans rfl
  have p3 : wc.cell? ⟨w.heap.size, 3, none⟩ = some (.int .i64 lo) := (cell_of h1 3).trans rfl
  have q3 : wc.cell? ⟨w.heap.size + 1, 3, none⟩ = some (.int .i64 lo) := (cell_of h2 3).trans rfl
  have p4 : wc.cell? ⟨w.heap.size, 4, none⟩ = some (.int .i64 jo) := (cell_of h1 4).trans rfl
  have q4 : wc.cell? ⟨w.heap.size + 1, 4, none⟩ = some (.int .i64 jo) := (cell_of h2 4).trans rfl
  have p5 : wc.cell? ⟨w.heap.size, 5, none⟩ = some (.slice va xs.length vc) := (cell_of h1 5).trans rfl
  have q5 : wc.cell? ⟨w.heap.size + 1, 5, none⟩ = some (.slice ua xs.length uc) := (cell_of h2 5).trans rfl
  have p6 : wc.cell? ⟨w.heap.size, 6, none⟩ = some (.bool ou) := (cell_of h1 6).trans rfl
  have q6 : wc.cell? ⟨w.heap.size + 1, 6, none⟩ = some (.bool ou) := (cell_of h2 6).trans rfl
  have p7 : wc.cell? ⟨w.heap.size, 7, none⟩ = some (.int .i64 nu) := (cell_of h1 7).trans rfl
  have q7 : wc.cell? ⟨w.heap.size + 1, 7, none⟩ = some (.int .i64 nu) := (cell_of h2 7).trans rfl
  have p8 : wc.cell? ⟨w.heap.size, 8, none⟩ = some (.bool st) := (cell_of h1 8).trans rfl
  have q8 : wc.cell? ⟨w.heap.size + 1, 8, none⟩ = some (.bool st) := (cell_of h2 8).trans rfl
  go_wp2_with (first
    | (refine wpIn_wide.2 ?_; go_at_call 34; refine cS.mono ?_; rintro e1 w1 ⟨rfl, b1⟩; have k1 := (b1.block _ (lt_of_heap h1)).trans h1; have k2 := (b1.block _ (lt_of_heap h2)).trans h2; have pp6 : w1.cell? ⟨w.heap.size, 6, none⟩ = some (.bool ou) := (cell_of k1 6).trans rfl; have qq6 : w1.cell? ⟨w.heap.size + 1, 6, none⟩ = some (.bool ou) := (cell_of k2 6).trans rfl; have pp7 : w1.cell? ⟨w.heap.size, 7, none⟩ = some (.int .i64 nu) := (cell_of k1 7).trans rfl; have qq7 : w1.cell? ⟨w.heap.size + 1, 7, none⟩ = some (.int .i64 nu) := (cell_of k2 7).trans rfl; have pp8 : w1.cell? ⟨w.heap.size, 8, none⟩ = some (.bool st) := (cell_of k1 8).trans rfl; have qq8 : w1.cell? ⟨w.heap.size + 1, 8, none⟩ = some (.bool st) := (cell_of k2 8).trans rfl)
    | (go_at_call 34; refine cS.mono ?_; rintro e1 w1 ⟨rfl, b1⟩; have k1 := (b1.block _ (lt_of_heap h1)).trans h1; have k2 := (b1.block _ (lt_of_heap h2)).trans h2; have pp6 : w1.cell? ⟨w.heap.size, 6, none⟩ = some (.bool ou) := (cell_of k1 6).trans rfl; have qq6 : w1.cell? ⟨w.heap.size + 1, 6, none⟩ = some (.bool ou) := (cell_of k2 6).trans rfl; have pp7 : w1.cell? ⟨w.heap.size, 7, none⟩ = some (.int .i64 nu) := (cell_of k1 7).trans rfl; have qq7 : w1.cell? ⟨w.heap.size + 1, 7, none⟩ = some (.int .i64 nu) := (cell_of k2 7).trans rfl; have pp8 : w1.cell? ⟨w.heap.size, 8, none⟩ = some (.bool st) := (cell_of k1 8).trans rfl; have qq8 : w1.cell? ⟨w.heap.size + 1, 8, none⟩ = some (.bool st) := (cell_of k2 8).trans rfl))
  go_ret
  exact ⟨rfl, bcat B b1 (Nat.le_refl _)⟩
end Go.Proofs.Ythdgpadakmdlkaa.Codec
