/-
  The law's SameJobs, over two lists of the same jobs.
-/
import Derived.Test.YtgnpmjlliolmoaaDigJob
import Derived.Deep.DeepCutAuto
import Derived.Deep.CutRange
namespace Go.Proofs.Ytgnpmjlliolmoaa.Dig
set_option linter.unusedVariables false
set_option linter.unusedSimpArgs false
open Go Go.RowKit Go.Shelf Go.Proofs Go.Proofs.Ytgnpmjlliolmoaa.Grid
attribute [local go_sem] Oper.semAt_some

theorem run_load_atJ {o : Oper} {a : Act} {w : World} (ty : TypeId) (x : Operand) (ho : o.op = .load ty x) (p : Addr) (cs : Array Value) (hx : a.eval x = .pointer (some p))
    (h : (loadVar ty p).run Try.prog w = .ok (.agg cs) w) : (execOp a.eval o).run Try.prog w = .ok (.value (.agg cs)) w := by
  unfold execOp
  simp only [ho, hx, Instr.loadAt, Instr.sureAddr, Sem.run_bind, Sem.run_pure, Result.andThen_ok, h]
theorem run_neq_opJ {o : Oper} {a : Act} {w : World} (T R : TypeId) (x y : Operand) (ho : o.op = .binOp .neq T x y R) (xs ys : Array Value) (hx : a.eval x = .agg xs) (hy : a.eval y = .agg ys) (b : Bool)
    (h : (Op.equalIn 10000 T (.agg xs) (.agg ys)).run Try.prog w = .ok b w) (hg : Try.prog.eqGuardType Try.prog.depth T = false) : (execOp a.eval o).run Try.prog w = .ok (.value (.bool !b)) w := by
  unfold execOp
  simp only [ho, hx, hy, Sem.run_bind, Sem.run_pure, Result.andThen_ok, run_eqGuard_agg _ _ _ _ _ _ _ hg, run_neq_struct, h]
set_option maxRecDepth 100000 in
theorem eqJob_flat (k n fx fy tx ty : Int) (w : World) : (Op.equalIn 10000 45 (.agg #[.int .i64 0, .int .i64 k, .int .i64 0, .int .i64 n, .int .i64 fx, .int .i64 fy, .int .i64 tx, .int .i64 ty, .int .i64 (-1)]) (.agg #[.int .i64 0, .int .i64 k, .int .i64 0, .int .i64 n, .int .i64 fx, .int .i64 fy, .int .i64 tx, .int .i64 ty, .int .i64 (-1)])).run Try.prog w = .ok true w := by
  go_simp
theorem eqJob_self (m : Jb) (w : World) : (Op.equalIn 10000 45 (.agg (jobL m).toArray) (.agg (jobL m).toArray)).run Try.prog w = .ok true w := by
  obtain ⟨k, n, ⟨fx, fy⟩, ⟨tx, ty⟩⟩ := m
  exact eqJob_flat k n fx fy tx ty w
theorem aggJob (w : World) : (isAgg 45).run Try.prog w = .ok true w := by unfold isAgg; rw [Sem.run_bind, run_underlying Try.underlying45 w]; rfl
theorem gJobT3 : Try.prog.eqGuardType Try.prog.depth 45 = false := by kernel_rfl
theorem iszJob3 : (Try.prog.info? 45).map (·.size) = some 9 := by kernel_rfl
set_option maxRecDepth 100000 in
set_option maxHeartbeats 2000000 in
theorem sameJobs_same (F G : Nat → Prop) (v1 v2 : Value) (xs : List Jb) (w : World) (h1 : ListAt 9 (ElL jobL) F xs v1 w) (h2 : ListAt 9 (ElL jobL) G xs v2 w) (hm : xs.length ≤ 140737488355328) :
    Calls Try.prog 12 #[v1, v2] w fun e w' => e = .returned (.bool true) ∧ Below w.heap.size w w' := by
  obtain ⟨a1, c1, ys1, rfl, rfl, el1, ce1, _⟩ := h1
  obtain ⟨a2, c2, ys2, hxs, rfl, el2, ce2, _⟩ := h2
  have hll : ys2.length = ys1.length := by have := congrArg List.length hxs; simpa using this.symm
  rw [hll]
  rw [List.length_map] at hm
  have HR : Hid (∀ i, i < ys1.length → ∃ (cs : Array Value) (m : Jb) (p1 p2 : Addr), cs = (jobL m).toArray ∧ a1 = some p1 ∧ a2 = some p2 ∧ (∀ j u, cs[j]? = some u → w.cell? (p1.add (i * 9 + j)) = some u ∧ p1.block < w.heap.size) ∧ (∀ j u, cs[j]? = some u → w.cell? (p2.add (i * 9 + j)) = some u ∧ p2.block < w.heap.size)) := by
    intro i hi
    obtain ⟨p1, e1, _, q1⟩ := ce1 i hi
    obtain ⟨p2, e2, _, q2⟩ := ce2 i (by omega)
    have s1 : (ys1[i]'hi).2 = (jobL (ys1[i]'hi).1).toArray := el1 _ (List.getElem_mem hi)
    have s2 : (ys2[i]'(by omega)).2 = (jobL (ys2[i]'(by omega)).1).toArray := el2 _ (List.getElem_mem _)
    have hx : (ys1[i]'hi).1 = (ys2[i]'(by omega)).1 := by
      have := congrArg (fun l => l[i]?) hxs
      simp only [List.getElem?_map, List.getElem?_eq_getElem hi, List.getElem?_eq_getElem (show i < ys2.length by omega), Option.map_some, Option.some.injEq] at this
      exact this
    rw [s2, ← hx, ← s1] at q2
    refine ⟨_, _, p1, p2, s1, e1, e2, fun j u h => ⟨q1 j u h, ?_⟩, fun j u h => ⟨q2 j u h, ?_⟩⟩
    · have := World.block_lt_of_cell? w _ (q1 j u h); rwa [block_add] at this
    · have := World.block_lt_of_cell? w _ (q2 j u h); rwa [block_add] at this
  clear el1 el2 ce1 ce2 hxs
  generalize ys1.length = n at *
  clear hll
  have hl' : ((n : Int) != (n : Int)) = false := by simp
  go_enter Try.func12, Try.ntmps12
  go_wp2_with fail
  go_loopw [5] (fun s5 wr => ∃ i : Nat, s5 = .int .i64 i ∧ i ≤ n ∧ Hid (Below w.heap.size w wr)) (fun s5 _ => n - (intOf s5).toNat)
  case atStart => exact ⟨0, rfl, Nat.zero_le _, Below.refl _ _⟩
  case round =>
    obtain ⟨i, rfl, hi, bw⟩ := hrel
    rcases Nat.lt_or_ge i n with hlt | hge
    · obtain ⟨cs, m, p1, p2, e0, e1, e2, q1, q2⟩ := HR.out i hlt
      subst e1
      subst e2
      have hq := fun u => eqJob_self m u
      rw [← e0] at hq
      have hz : (Try.prog.info? 45).map (·.size) = some cs.size := by rw [e0]; exact iszJob3
      have r1 : ∀ j v, cs[j]? = some v → wr.drew.cell? ((p1.add (i * 9)).add j) = some v := fun j v hj => by
        rw [add_add]
        show wr.cell? _ = _
        rw [bw.out.cell (by rw [block_add]; exact (q1 j v hj).2)]
        exact (q1 j v hj).1
      have r2 : ∀ j v, cs[j]? = some v → wr.drew.cell? ((p2.add (i * 9)).add j) = some v := fun j v hj => by
        rw [add_add]
        show wr.cell? _ = _
        rw [bw.out.cell (by rw [block_add]; exact (q2 j v hj).2)]
        exact (q2 j v hj).1
      have hb : Hid (Below w.heap.size w wr.drew) := bcat bw.out (Below.refl _ _).drew (Nat.le_refl _)
      have i1 : (i : Int) < (n : Int) := by omega
      have hd : decide ((i : Int) < (n : Int)) = true := decide_eq_true i1
      clear e0 q1 q2
      go_upto_region 6 with fail
      go_cut [25] from 17 to 25 (fun rr wx => rr = .bool false ∧ wx = wr.drew)
      case first =>
        have S0 : wr.drew = wr.drew := rfl
        refine start_held (S := fun u => u = wr.drew) 9 rfl (by kernel_rfl) S0 ?_
        simp only [Array.replicate_succ, Array.replicate_zero, List.push_toArray, List.nil_append, List.cons_append]
        refine take_held 0 S0 rfl (by kernel_rfl) (by kernel_rfl) (by kernel_rfl) (fun _ _ _ h => h) (by kernel_rfl) (v := .slice (some p1) n c1) ?ya0 ?ra0
        case ya0 => (intro u hu; go_simp; try rfl)
        simp only [Act.put, List.setIfInBounds_toArray, List.set_cons_zero, List.set_cons_succ]
        refine take_held 1 S0 rfl (by kernel_rfl) (by kernel_rfl) (by kernel_rfl) (fun _ _ _ h => h) (by kernel_rfl) (v := .int .i64 i) ?ya1 ?ra1
        case ya1 => (intro u hu; go_simp; try rfl)
        simp only [Act.put, List.setIfInBounds_toArray, List.set_cons_zero, List.set_cons_succ]
        refine take_held 2 S0 rfl (by kernel_rfl) (by kernel_rfl) (by kernel_rfl) (fun _ _ _ h => h) (by kernel_rfl) (v := .pointer (some (p1.add (i * 9)))) ?ya2 ?ra2
        case ya2 => (intro u hu; clear r1 r2; go_simp; try rfl)
        simp only [Act.put, List.setIfInBounds_toArray, List.set_cons_zero, List.set_cons_succ]
        refine take_held 3 S0 rfl (by kernel_rfl) (by kernel_rfl) (by kernel_rfl) (fun _ _ _ h => h) (by kernel_rfl) (v := .agg cs) ?ya3 ?ra3
        case ya3 => (intro u hu; subst hu; exact run_load_atJ 45 (.tmp 19) rfl (p1.add (i * 9)) cs rfl (run_loadVar_at _ _ _ cs r1 (aggJob _) hz))
        simp only [Act.put, List.setIfInBounds_toArray, List.set_cons_zero, List.set_cons_succ]
        refine take_held 4 S0 rfl (by kernel_rfl) (by kernel_rfl) (by kernel_rfl) (fun _ _ _ h => h) (by kernel_rfl) (v := .slice (some p2) n c2) ?ya4 ?ra4
        case ya4 => (intro u hu; go_simp; try rfl)
        simp only [Act.put, List.setIfInBounds_toArray, List.set_cons_zero, List.set_cons_succ]
        refine take_held 5 S0 rfl (by kernel_rfl) (by kernel_rfl) (by kernel_rfl) (fun _ _ _ h => h) (by kernel_rfl) (v := .int .i64 i) ?ya5 ?ra5
        case ya5 => (intro u hu; go_simp; try rfl)
        simp only [Act.put, List.setIfInBounds_toArray, List.set_cons_zero, List.set_cons_succ]
        refine take_held 6 S0 rfl (by kernel_rfl) (by kernel_rfl) (by kernel_rfl) (fun _ _ _ h => h) (by kernel_rfl) (v := .pointer (some (p2.add (i * 9)))) ?ya6 ?ra6
        case ya6 => (intro u hu; clear r1 r2; go_simp; try rfl)
        simp only [Act.put, List.setIfInBounds_toArray, List.set_cons_zero, List.set_cons_succ]
        refine take_held 7 S0 rfl (by kernel_rfl) (by kernel_rfl) (by kernel_rfl) (fun _ _ _ h => h) (by kernel_rfl) (v := .agg cs) ?ya7 ?ra7
        case ya7 => (intro u hu; subst hu; exact run_load_atJ 45 (.tmp 23) rfl (p2.add (i * 9)) cs rfl (run_loadVar_at _ _ _ cs r2 (aggJob _) hz))
        simp only [Act.put, List.setIfInBounds_toArray, List.set_cons_zero, List.set_cons_succ]
        refine take_held 8 S0 rfl (by kernel_rfl) (by kernel_rfl) (by kernel_rfl) (fun _ _ _ h => h) (by kernel_rfl) (v := .bool false) ?ya8 ?ra8
        case ya8 => (intro u hu; exact run_neq_opJ 45 45 (.tmp 20) (.tmp 24) rfl cs cs rfl rfl true (hq u) gJobT3)
        simp only [Act.put, List.setIfInBounds_toArray, List.set_cons_zero, List.set_cons_succ]
        refine done_held (by kernel_rfl) ?_ _
        go_wp2_with fail
        go_meet
        exact ⟨rfl, rfl⟩
      case rest =>
      obtain ⟨rfl, rfl⟩ := hcut
      go_wp2_with fail
      go_roundw
      case measure => simp only [intOf]; omega
      case rel => exact ⟨i + 1, by go_num, hlt, hb⟩
    · obtain rfl : i = n := by omega
      have hd : decide ((i : Int) < (i : Int)) = false := decide_eq_false (by omega)
      go_wp2
      go_ret
      exact ⟨rfl, bw.out⟩
end Go.Proofs.Ytgnpmjlliolmoaa.Dig
