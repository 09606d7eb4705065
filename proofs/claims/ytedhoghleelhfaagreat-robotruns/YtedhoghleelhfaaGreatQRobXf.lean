/-
  A go-ahead at the chapter's own robot.
-/
import Derived.Test.YtedhoghleelhfaaGreatQRobXe
import Derived.Test.YtedhoghleelhfaaGreatQTickRefs
namespace Go.Proofs.YtedhoghleelhfaaGreat.Rob
set_option linter.unusedVariables false
set_option linter.unusedSimpArgs false
open Go Go.RowKit Go.Shelf Go.Proofs Go.Proofs.YtedhoghleelhfaaGreat.Lk Go.Proofs.YtedhoghleelhfaaGreat.Plain
attribute [local go_sem] Oper.semAt_some

structure Hg (w : World) (q : Nat) (cs : Array Value) (x : Rx) (t : Tl) (u : World) : Prop where
  xt : XAt u q cs x
  tl : u.heap[w.heap.size]? = some (.cells (tlA t) 46 (0, 0))
  bel : Below w.heap.size w u
theorem Hg.go {w : World} {q : Nat} {cs : Array Value} {x : Rx} {t : Tl} {u u' : World} (h : Hg w q cs x t u) (b : Below u.heap.size u u') : Hg w q cs x t u' :=
  ⟨h.xt.go b, (b.block _ (Array.getElem?_eq_some_iff.1 h.tl).1).trans h.tl, bcat h.bel b⟩
theorem Hg.make {w w1 : World} {q : Nat} {cs : Array Value} {x : Rx} {t : Tl} (h : XAt w q cs x) (hw1 : w1 = w.alloc (.cells (tlA t) 46)) : Hg w q cs x t w1 := by
  have b : Below w.heap.size w w1 := by rw [hw1]; exact (Below.refl _ _).alloc (Nat.le_refl _) _
  exact ⟨h.go b, by rw [hw1]; exact World.alloc_heap_new _ _, b⟩
section
variable {w : World} {q : Nat} {cs : Array Value} {x : Rx} {t : Tl}
set_option maxRecDepth 100000 in
set_option maxHeartbeats 2000000 in
theorem goes_old (h : XAt w q cs x) (h1 : t.ep < x.ep) : Calls Tryz.prog 60 #[.pointer (some ⟨q, 0, none⟩), .agg (tlA t)] w fun e w' => e = .returned (.tuple #[.slice none 0 0, .int .i64 2]) ∧ XAt w' q cs x ∧ Below w.heap.size w w' := by
  obtain ⟨w1, hw1⟩ : ∃ z, z = w.alloc (.cells (tlA t) 46) := ⟨_, rfl⟩
  have HG1 : Hid (Hg w q cs x t w1) := Hg.make h hw1
  have q1 : decide (t.ep < x.ep) = true := decide_eq_true h1
  clear h h1
  go_enter Tryz.func60, Tryz.ntmps60
  go_upto_region 1 with (refine wpList_boxAt rfl 46 (.tmp 1) rfl (tlA t) rfl ?_; rw [← hw1]; clear hw1)
  refine start_held (S := fun u => Hg w q cs x t u) 7 rfl (by kernel_rfl) (HG1.out.go (Below.refl _ _).drew) ?_
  simp only [Array.replicate_succ, Array.replicate_zero, List.push_toArray, List.nil_append, List.cons_append]
  have hS0 := HG1.out.go (Below.refl _ _).drew
  generalize w1.drew = z1 at *
  refine tkq 0 hS0 ?_
  refine tkf 1 hS0 rfl (fun u hu => by have zz0 := (fun (u : World) (hu : Hg w q cs x t u) => tl_ep hu.tl) u hu; go_simp; try rfl) ?_
  refine tkq 2 hS0 ?_
  refine tkq 3 hS0 ?_
  refine tkq 4 hS0 ?_
  refine tkf 5 hS0 rfl (fun u hu => by have zz0 := (fun (u : World) (hu : Hg w q cs x t u) => hu.xt.ep) u hu; go_simp; try rfl) ?_
  refine tkq 6 hS0 ?_
  refine done_held (by kernel_rfl) ?_ _
  go_wp2
  go_ret2
  exact ⟨rfl, hS0.xt, hS0.bel⟩
set_option maxRecDepth 100000 in
set_option maxHeartbeats 2000000 in
theorem goes_new (h : XAt w q cs x) (h1 : x.ep < t.ep) : Calls Tryz.prog 60 #[.pointer (some ⟨q, 0, none⟩), .agg (tlA t)] w fun e w' => e = .returned (.tuple #[.slice none 0 0, .int .i64 0]) ∧ XAt w' q cs x ∧ Below w.heap.size w w' := by
  obtain ⟨w1, hw1⟩ : ∃ z, z = w.alloc (.cells (tlA t) 46) := ⟨_, rfl⟩
  have HG1 : Hid (Hg w q cs x t w1) := Hg.make h hw1
  have q1 : decide (t.ep < x.ep) = false := decide_eq_false (by omega)
  have q2 : decide (x.ep < t.ep) = true := decide_eq_true h1
  clear h h1
  go_enter Tryz.func60, Tryz.ntmps60
  go_upto_region 1 with (refine wpList_boxAt rfl 46 (.tmp 1) rfl (tlA t) rfl ?_; rw [← hw1]; clear hw1)
  refine start_held (S := fun u => Hg w q cs x t u) 7 rfl (by kernel_rfl) (HG1.out.go (Below.refl _ _).drew) ?_
  simp only [Array.replicate_succ, Array.replicate_zero, List.push_toArray, List.nil_append, List.cons_append]
  have hS0 := HG1.out.go (Below.refl _ _).drew
  generalize w1.drew = z1 at *
  refine tkq 0 hS0 ?_
  refine tkf 1 hS0 rfl (fun u hu => by have zz0 := (fun (u : World) (hu : Hg w q cs x t u) => tl_ep hu.tl) u hu; go_simp; try rfl) ?_
  refine tkq 2 hS0 ?_
  refine tkq 3 hS0 ?_
  refine tkq 4 hS0 ?_
  refine tkf 5 hS0 rfl (fun u hu => by have zz0 := (fun (u : World) (hu : Hg w q cs x t u) => hu.xt.ep) u hu; go_simp; try rfl) ?_
  refine tkq 6 hS0 ?_
  refine done_held (by kernel_rfl) ?_ _
  go_upto_region 3 with fail
  have HG3 : Hid (Hg w q cs x t z1) := hS0
  clear hS0
  refine start_held (S := fun u => Hg w q cs x t u) 13 rfl (by kernel_rfl) (HG3.out.go (Below.refl _ _).drew) ?_
  simp only [Array.replicate_succ, Array.replicate_zero, List.push_toArray, List.nil_append, List.cons_append]
  have hS0 := HG3.out.go (Below.refl _ _).drew
  generalize z1.drew = z3 at *
  refine tkq 0 hS0 ?_
  refine tkf 1 hS0 rfl (fun u hu => by have zz0 := (fun (u : World) (hu : Hg w q cs x t u) => tl_ep hu.tl) u hu; go_simp; try rfl) ?_
  refine tkq 2 hS0 ?_
  refine tkq 3 hS0 ?_
  refine tkq 4 hS0 ?_
  refine tkf 5 hS0 rfl (fun u hu => by have zz0 := (fun (u : World) (hu : Hg w q cs x t u) => hu.xt.ep) u hu; go_simp; try rfl) ?_
  refine tkq 6 hS0 ?_
  refine tkq 7 hS0 ?_
  refine skq 8 hS0 ?_
  refine skq 9 hS0 ?_
  refine skq 10 hS0 ?_
  refine skq 11 hS0 ?_
  refine tkq 12 hS0 ?_
  refine done_held (by kernel_rfl) ?_ _
  go_wp2
  go_ret2
  exact ⟨rfl, hS0.xt, hS0.bel⟩
set_option maxRecDepth 100000 in
set_option maxHeartbeats 2000000 in
theorem goes_under (h : XAt w q cs x) (h1 : t.ep = x.ep) (hu : x.un = true) : Calls Tryz.prog 60 #[.pointer (some ⟨q, 0, none⟩), .agg (tlA t)] w fun e w' => e = .returned (.tuple #[.slice none 0 0, .int .i64 0]) ∧ XAt w' q cs x ∧ Below w.heap.size w w' := by
  obtain ⟨w1, hw1⟩ : ∃ z, z = w.alloc (.cells (tlA t) 46) := ⟨_, rfl⟩
  have HG1 : Hid (Hg w q cs x t w1) := Hg.make h hw1
  have q1 : decide (t.ep < x.ep) = false := decide_eq_false (by omega)
  have q2 : decide (x.ep < t.ep) = false := decide_eq_false (by omega)
  have UN : Hid (some (Value.bool x.un) = some (.bool true)) := by show some (Value.bool x.un) = some (.bool true); rw [hu]
  clear h h1 hu
  go_enter Tryz.func60, Tryz.ntmps60
  go_upto_region 1 with (refine wpList_boxAt rfl 46 (.tmp 1) rfl (tlA t) rfl ?_; rw [← hw1]; clear hw1)
  refine start_held (S := fun u => Hg w q cs x t u) 7 rfl (by kernel_rfl) (HG1.out.go (Below.refl _ _).drew) ?_
  simp only [Array.replicate_succ, Array.replicate_zero, List.push_toArray, List.nil_append, List.cons_append]
  have hS0 := HG1.out.go (Below.refl _ _).drew
  generalize w1.drew = z1 at *
  refine tkq 0 hS0 ?_
  refine tkf 1 hS0 rfl (fun u hu => by have zz0 := (fun (u : World) (hu : Hg w q cs x t u) => tl_ep hu.tl) u hu; go_simp; try rfl) ?_
  refine tkq 2 hS0 ?_
  refine tkq 3 hS0 ?_
  refine tkq 4 hS0 ?_
  refine tkf 5 hS0 rfl (fun u hu => by have zz0 := (fun (u : World) (hu : Hg w q cs x t u) => hu.xt.ep) u hu; go_simp; try rfl) ?_
  refine tkq 6 hS0 ?_
  refine done_held (by kernel_rfl) ?_ _
  go_upto_region 3 with fail
  have HG3 : Hid (Hg w q cs x t z1) := hS0
  clear hS0
  refine start_held (S := fun u => Hg w q cs x t u) 13 rfl (by kernel_rfl) (HG3.out.go (Below.refl _ _).drew) ?_
  simp only [Array.replicate_succ, Array.replicate_zero, List.push_toArray, List.nil_append, List.cons_append]
  have hS0 := HG3.out.go (Below.refl _ _).drew
  generalize z1.drew = z3 at *
  refine tkq 0 hS0 ?_
  refine tkf 1 hS0 rfl (fun u hu => by have zz0 := (fun (u : World) (hu : Hg w q cs x t u) => tl_ep hu.tl) u hu; go_simp; try rfl) ?_
  refine tkq 2 hS0 ?_
  refine tkq 3 hS0 ?_
  refine tkq 4 hS0 ?_
  refine tkf 5 hS0 rfl (fun u hu => by have zz0 := (fun (u : World) (hu : Hg w q cs x t u) => hu.xt.ep) u hu; go_simp; try rfl) ?_
  refine tkq 6 hS0 ?_
  refine tkq 7 hS0 ?_
  refine tkq 8 hS0 ?_
  refine tkq 9 hS0 ?_
  refine tkq 10 hS0 ?_
  refine tkf 11 hS0 rfl (fun u hu => by have zz0 := (fun (u : World) (hu : Hg w q cs x t u) => hu.xt.un.trans UN.out) u hu; go_simp; try rfl) ?_
  refine tkq 12 hS0 ?_
  refine done_held (by kernel_rfl) ?_ _
  go_wp2
  go_ret2
  exact ⟨rfl, hS0.xt, hS0.bel⟩
set_option maxRecDepth 100000 in
set_option maxHeartbeats 2000000 in
theorem goes_last (h : XAt w q cs x) (h1 : t.ep = x.ep) (hu : x.un = false) (h2 : t.nm = x.lt) (h3 : 0 < x.lt) : Calls Tryz.prog 60 #[.pointer (some ⟨q, 0, none⟩), .agg (tlA t)] w fun e w' => ∃ v, e = .returned (.tuple #[v, .int .i64 0]) ∧ LsAt w.heap.size w' v (some (rxTell x)) ∧ XAt w' q cs x ∧ Below w.heap.size w w' := by
  obtain ⟨w1, hw1⟩ : ∃ z, z = w.alloc (.cells (tlA t) 46) := ⟨_, rfl⟩
  have HG1 : Hid (Hg w q cs x t w1) := Hg.make h hw1
  have q1 : decide (t.ep < x.ep) = false := decide_eq_false (by omega)
  have q2 : decide (x.ep < t.ep) = false := decide_eq_false (by omega)
  have q3 : (t.nm == x.lt) = true := by rw [beq_iff_eq]; exact h2
  have q4 : decide (0 < x.lt) = true := decide_eq_true h3
  have UN : Hid (some (Value.bool x.un) = some (.bool false)) := by show some (Value.bool x.un) = some (.bool false); rw [hu]
  clear h h1 hu h2 h3
  go_enter Tryz.func60, Tryz.ntmps60
  go_upto_region 1 with (refine wpList_boxAt rfl 46 (.tmp 1) rfl (tlA t) rfl ?_; rw [← hw1]; clear hw1)
  refine start_held (S := fun u => Hg w q cs x t u) 7 rfl (by kernel_rfl) (HG1.out.go (Below.refl _ _).drew) ?_
  simp only [Array.replicate_succ, Array.replicate_zero, List.push_toArray, List.nil_append, List.cons_append]
  have hS0 := HG1.out.go (Below.refl _ _).drew
  generalize w1.drew = z1 at *
  refine tkq 0 hS0 ?_
  refine tkf 1 hS0 rfl (fun u hu => by have zz0 := (fun (u : World) (hu : Hg w q cs x t u) => tl_ep hu.tl) u hu; go_simp; try rfl) ?_
  refine tkq 2 hS0 ?_
  refine tkq 3 hS0 ?_
  refine tkq 4 hS0 ?_
  refine tkf 5 hS0 rfl (fun u hu => by have zz0 := (fun (u : World) (hu : Hg w q cs x t u) => hu.xt.ep) u hu; go_simp; try rfl) ?_
  refine tkq 6 hS0 ?_
  refine done_held (by kernel_rfl) ?_ _
  go_upto_region 3 with fail
  have HG3 : Hid (Hg w q cs x t z1) := hS0
  clear hS0
  refine start_held (S := fun u => Hg w q cs x t u) 13 rfl (by kernel_rfl) (HG3.out.go (Below.refl _ _).drew) ?_
  simp only [Array.replicate_succ, Array.replicate_zero, List.push_toArray, List.nil_append, List.cons_append]
  have hS0 := HG3.out.go (Below.refl _ _).drew
  generalize z1.drew = z3 at *
  refine tkq 0 hS0 ?_
  refine tkf 1 hS0 rfl (fun u hu => by have zz0 := (fun (u : World) (hu : Hg w q cs x t u) => tl_ep hu.tl) u hu; go_simp; try rfl) ?_
  refine tkq 2 hS0 ?_
  refine tkq 3 hS0 ?_
  refine tkq 4 hS0 ?_
  refine tkf 5 hS0 rfl (fun u hu => by have zz0 := (fun (u : World) (hu : Hg w q cs x t u) => hu.xt.ep) u hu; go_simp; try rfl) ?_
  refine tkq 6 hS0 ?_
  refine tkq 7 hS0 ?_
  refine tkq 8 hS0 ?_
  refine tkq 9 hS0 ?_
  refine tkq 10 hS0 ?_
  refine tkf 11 hS0 rfl (fun u hu => by have zz0 := (fun (u : World) (hu : Hg w q cs x t u) => hu.xt.un.trans UN.out) u hu; go_simp; try rfl) ?_
  refine tkq 12 hS0 ?_
  refine done_held (by kernel_rfl) ?_ _
  go_upto_region 5 with fail
  have HG5 : Hid (Hg w q cs x t z3) := hS0
  clear hS0
  refine start_held (S := fun u => Hg w q cs x t u) 14 rfl (by kernel_rfl) (HG5.out.go (Below.refl _ _).drew) ?_
  simp only [Array.replicate_succ, Array.replicate_zero, List.push_toArray, List.nil_append, List.cons_append]
  have hS0 := HG5.out.go (Below.refl _ _).drew
  generalize z3.drew = z5 at *
  refine tkq 0 hS0 ?_
  refine tkf 1 hS0 rfl (fun u hu => by have zz0 := (fun (u : World) (hu : Hg w q cs x t u) => tl_nm hu.tl) u hu; go_simp; try rfl) ?_
  refine tkq 2 hS0 ?_
  refine tkq 3 hS0 ?_
  refine tkq 4 hS0 ?_
  refine tkf 5 hS0 rfl (fun u hu => by have zz0 := (fun (u : World) (hu : Hg w q cs x t u) => hu.xt.lt_) u hu; go_simp; try rfl) ?_
  refine tkq 6 hS0 ?_
  refine tkq 7 hS0 ?_
  refine tkq 8 hS0 ?_
  refine tkq 9 hS0 ?_
  refine tkq 10 hS0 ?_
  refine tkf 11 hS0 rfl (fun u hu => by have zz0 := (fun (u : World) (hu : Hg w q cs x t u) => hu.xt.lt_) u hu; go_simp; try rfl) ?_
  refine tkq 12 hS0 ?_
  refine tkq 13 hS0 ?_
  refine done_held (by kernel_rfl) ?_ _
  have cT := rtell_any hS0.xt
  have HG6 : Hid (Hg w q cs x t z5) := hS0
  clear hS0
  go_wp2_with (go_at_call 33; refine cT.mono ?_; clear cT; rintro e z6 ⟨v6, rfl, lv6, b6⟩; have HZ6 : Hid (LsAt w.heap.size z6 v6 (some (rxTell x)) ∧ Hg w q cs x t z6) := ⟨lv6.mono HG6.out.bel.size, HG6.out.go b6⟩; clear lv6 b6)
  go_ret2
  exact ⟨_, rfl, HZ6.out.1, HZ6.out.2.xt, HZ6.out.2.bel⟩
end
end Go.Proofs.YtedhoghleelhfaaGreat.Rob
/-
  A go-ahead at the chapter's own robot: begun, or not.
-/
namespace Go.Proofs.YtedhoghleelhfaaGreat.Rob
set_option linter.unusedVariables false
set_option linter.unusedSimpArgs false
open Go Go.RowKit Go.Shelf Go.Proofs Go.Proofs.YtedhoghleelhfaaGreat.Lk Go.Proofs.YtedhoghleelhfaaGreat.Plain
attribute [local go_sem] Oper.semAt_some

theorem tl_frm {w : World} {g : Nat} {t : Tl} {T : TypeId} {fr : Nat × Nat} (h : w.heap[g]? = some (.cells (tlA t) T fr)) : (loadVar 42 ⟨g, 7, none⟩).run Tryz.prog w = .ok (.agg (poA t.fx t.fy t.fd)) w :=
  run_loadVar_at w _ _ _ (fun j v hv => by
    rw [Addr.add_mid, tl_cell h]
    match j with
    | 0 => exact hv
    | 1 => exact hv
    | 2 => exact hv
    | j + 3 => simp [poA] at hv) (aggPose _) infoPose
theorem XAt.conf {w : World} {q : Nat} {cs : Array Value} {x : Rx} (h : XAt w q cs x) : (loadVar 26 ⟨q, 0, none⟩).run Tryz.prog w = .ok (.agg cs) w :=
  run_loadVar_at w _ _ _ (fun j v hv => by
    rw [Lk.add_zero, cell_of' h.at_, List.getElem?_toArray, List.getElem?_append_left (by rw [Array.length_toList]; exact (Array.getElem?_eq_some_iff.1 hv).1), Array.getElem?_toList]
    exact hv) (Grid.aggConf _) (by rw [h.len]; exact Grid.info_conf)
set_option maxRecDepth 100000 in
set_option maxHeartbeats 2000000 in
theorem goes_num {w : World} {q : Nat} {cs : Array Value} {x : Rx} {t : Tl} (h : XAt w q cs x) (h1 : t.ep = x.ep) (hu : x.un = false) (t0 : 0 ≤ x.lt) (t1 : x.lt ≤ 4000000000000000000) (h2 : t.nm ≠ x.lt) (h3 : t.nm ≠ x.lt + 1) : Calls Tryz.prog 60 #[.pointer (some ⟨q, 0, none⟩), .agg (tlA t)] w fun e w' => e = .returned (.tuple #[.slice none 0 0, .int .i64 0]) ∧ XAt w' q cs x ∧ Below w.heap.size w w' := by
  obtain ⟨w1, hw1⟩ : ∃ z, z = w.alloc (.cells (tlA t) 46) := ⟨_, rfl⟩
  have HG1 : Hid (Hg w q cs x t w1) := Hg.make h hw1
  have q1 : decide (t.ep < x.ep) = false := decide_eq_false (by omega)
  have q2 : decide (x.ep < t.ep) = false := decide_eq_false (by omega)
  have hwl : IntKind.i64.wrap (x.lt + 1) = x.lt + 1 := by rw [IntKind.wrap_i64]; omega
  obtain ⟨ln, hln⟩ : ∃ ln, less t.me t.ma = ln := ⟨_, rfl⟩
  have UN : Hid (some (Value.bool x.un) = some (.bool false)) := by show some (Value.bool x.un) = some (.bool false); rw [hu]
  have q3 : (t.nm == x.lt) = false := by rw [beq_eq_false_iff_ne]; omega
  have q5 : (t.nm != x.lt + 1) = true := by simp [bne, h3]
  clear h2 h3
  clear h h1 hu t0 t1
  go_enter Tryz.func60, Tryz.ntmps60
  go_upto_region 1 with (refine wpList_boxAt rfl 46 (.tmp 1) rfl (tlA t) rfl ?_; rw [← hw1]; clear hw1)
  refine start_held (S := fun u => Hg w q cs x t u) 7 rfl (by kernel_rfl) (HG1.out.go (Below.refl _ _).drew) ?_
  simp only [Array.replicate_succ, Array.replicate_zero, List.push_toArray, List.nil_append, List.cons_append]
  have hS0 := HG1.out.go (Below.refl _ _).drew
  generalize w1.drew = z1 at *
  refine tkq 0 hS0 ?_
  refine tkf 1 hS0 rfl (fun u hu => by have zz0 := (fun (u : World) (hu : Hg w q cs x t u) => tl_ep hu.tl) u hu; go_simp; try rfl) ?_
  refine tkq 2 hS0 ?_
  refine tkq 3 hS0 ?_
  refine tkq 4 hS0 ?_
  refine tkf 5 hS0 rfl (fun u hu => by have zz0 := (fun (u : World) (hu : Hg w q cs x t u) => hu.xt.ep) u hu; go_simp; try rfl) ?_
  refine tkq 6 hS0 ?_
  refine done_held (by kernel_rfl) ?_ _
  go_upto_region 3 with fail
  have HG3 : Hid (Hg w q cs x t z1) := hS0
  clear hS0
  refine start_held (S := fun u => Hg w q cs x t u) 13 rfl (by kernel_rfl) (HG3.out.go (Below.refl _ _).drew) ?_
  simp only [Array.replicate_succ, Array.replicate_zero, List.push_toArray, List.nil_append, List.cons_append]
  have hS0 := HG3.out.go (Below.refl _ _).drew
  generalize z1.drew = z3 at *
  refine tkq 0 hS0 ?_
  refine tkf 1 hS0 rfl (fun u hu => by have zz0 := (fun (u : World) (hu : Hg w q cs x t u) => tl_ep hu.tl) u hu; go_simp; try rfl) ?_
  refine tkq 2 hS0 ?_
  refine tkq 3 hS0 ?_
  refine tkq 4 hS0 ?_
  refine tkf 5 hS0 rfl (fun u hu => by have zz0 := (fun (u : World) (hu : Hg w q cs x t u) => hu.xt.ep) u hu; go_simp; try rfl) ?_
  refine tkq 6 hS0 ?_
  refine tkq 7 hS0 ?_
  refine tkq 8 hS0 ?_
  refine tkq 9 hS0 ?_
  refine tkq 10 hS0 ?_
  refine tkf 11 hS0 rfl (fun u hu => by have zz0 := (fun (u : World) (hu : Hg w q cs x t u) => hu.xt.un.trans UN.out) u hu; go_simp; try rfl) ?_
  refine tkq 12 hS0 ?_
  refine done_held (by kernel_rfl) ?_ _
  go_upto_region 5 with fail
  have HG5 : Hid (Hg w q cs x t z3) := hS0
  clear hS0
  refine start_held (S := fun u => Hg w q cs x t u) 14 rfl (by kernel_rfl) (HG5.out.go (Below.refl _ _).drew) ?_
  simp only [Array.replicate_succ, Array.replicate_zero, List.push_toArray, List.nil_append, List.cons_append]
  have hS0 := HG5.out.go (Below.refl _ _).drew
  generalize z3.drew = z5 at *
  refine tkq 0 hS0 ?_
  refine tkf 1 hS0 rfl (fun u hu => by have zz0 := (fun (u : World) (hu : Hg w q cs x t u) => tl_nm hu.tl) u hu; go_simp; try rfl) ?_
  refine tkq 2 hS0 ?_
  refine tkq 3 hS0 ?_
  refine tkq 4 hS0 ?_
  refine tkf 5 hS0 rfl (fun u hu => by have zz0 := (fun (u : World) (hu : Hg w q cs x t u) => hu.xt.lt_) u hu; go_simp; try rfl) ?_
  refine tkq 6 hS0 ?_
  refine tkq 7 hS0 ?_
  refine skq 8 hS0 ?_
  refine skq 9 hS0 ?_
  refine skq 10 hS0 ?_
  refine skq 11 hS0 ?_
  refine skq 12 hS0 ?_
  refine tkq 13 hS0 ?_
  refine done_held (by kernel_rfl) ?_ _
  have HG8 : Hid (Hg w q cs x t z5) := hS0
  clear hS0
  have k14 := tl_me HG8.out.tl
  have k13 := tl_ma HG8.out.tl
  have cLs := fun u => Tick.rless_any t.me t.ma u
  rw [hln] at cLs
  go_upto_region 8 with (go_at_call 79; refine (cLs _).mono ?_; rintro e wq ⟨rfl, hwq⟩; rw [hwq]; clear hwq)
  clear k14 k13 cLs
  refine start_held (S := fun u => Hg w q cs x t u) 32 rfl (by kernel_rfl) (HG8.out.go (Below.refl _ _).drew) ?_
  simp only [Array.replicate_succ, Array.replicate_zero, List.push_toArray, List.nil_append, List.cons_append]
  have hS0 := HG8.out.go (Below.refl _ _).drew
  generalize z5.drew = z8 at *
  refine tkq 0 hS0 ?_
  refine tkf 1 hS0 rfl (fun u hu => by have zz0 := (fun (u : World) (hu : Hg w q cs x t u) => tl_nm hu.tl) u hu; go_simp; try rfl) ?_
  refine tkq 2 hS0 ?_
  refine tkq 3 hS0 ?_
  refine tkq 4 hS0 ?_
  refine tkf 5 hS0 rfl (fun u hu => by have zz0 := (fun (u : World) (hu : Hg w q cs x t u) => hu.xt.lt_) u hu; go_simp; try rfl) ?_
  refine tkq 6 hS0 ?_
  refine tkq 7 hS0 ?_
  refine tkq 8 hS0 ?_
  refine skq 9 hS0 ?_
  refine skq 10 hS0 ?_
  refine skq 11 hS0 ?_
  refine skq 12 hS0 ?_
  refine skq 13 hS0 ?_
  refine skq 14 hS0 ?_
  refine skq 15 hS0 ?_
  refine skq 16 hS0 ?_
  refine tkq 17 hS0 ?_
  refine tkq 18 hS0 ?_
  refine skq 19 hS0 ?_
  refine skq 20 hS0 ?_
  refine skq 21 hS0 ?_
  refine skq 22 hS0 ?_
  refine skq 23 hS0 ?_
  refine skq 24 hS0 ?_
  refine skq 25 hS0 ?_
  refine skq 26 hS0 ?_
  refine tkq 27 hS0 ?_
  refine tkq 28 hS0 ?_
  refine skq 29 hS0 ?_
  refine skq 30 hS0 ?_
  refine tkq 31 hS0 ?_
  refine done_held (by kernel_rfl) ?_ _
  go_wp2
  go_ret2
  exact ⟨rfl, hS0.xt, hS0.bel⟩
set_option maxRecDepth 100000 in
set_option maxHeartbeats 2000000 in
theorem goes_nil {w : World} {q : Nat} {cs : Array Value} {x : Rx} {t : Tl} (h : XAt w q cs x) (h1 : t.ep = x.ep) (hu : x.un = false) (t0 : 0 ≤ x.lt) (t1 : x.lt ≤ 4000000000000000000) (h2 : t.nm = x.lt) (h3 : ¬ 0 < x.lt) : Calls Tryz.prog 60 #[.pointer (some ⟨q, 0, none⟩), .agg (tlA t)] w fun e w' => e = .returned (.tuple #[.slice none 0 0, .int .i64 0]) ∧ XAt w' q cs x ∧ Below w.heap.size w w' := by
  obtain ⟨w1, hw1⟩ : ∃ z, z = w.alloc (.cells (tlA t) 46) := ⟨_, rfl⟩
  have HG1 : Hid (Hg w q cs x t w1) := Hg.make h hw1
  have q1 : decide (t.ep < x.ep) = false := decide_eq_false (by omega)
  have q2 : decide (x.ep < t.ep) = false := decide_eq_false (by omega)
  have hwl : IntKind.i64.wrap (x.lt + 1) = x.lt + 1 := by rw [IntKind.wrap_i64]; omega
  obtain ⟨ln, hln⟩ : ∃ ln, less t.me t.ma = ln := ⟨_, rfl⟩
  have UN : Hid (some (Value.bool x.un) = some (.bool false)) := by show some (Value.bool x.un) = some (.bool false); rw [hu]
  have q3 : (t.nm == x.lt) = true := by rw [beq_iff_eq]; exact h2
  have q4 : decide (0 < x.lt) = false := decide_eq_false h3
  have q5 : (t.nm != x.lt + 1) = true := by rw [h2]; simp [bne]; omega
  clear h2 h3
  clear h h1 hu t0 t1
  go_enter Tryz.func60, Tryz.ntmps60
  go_upto_region 1 with (refine wpList_boxAt rfl 46 (.tmp 1) rfl (tlA t) rfl ?_; rw [← hw1]; clear hw1)
  refine start_held (S := fun u => Hg w q cs x t u) 7 rfl (by kernel_rfl) (HG1.out.go (Below.refl _ _).drew) ?_
  simp only [Array.replicate_succ, Array.replicate_zero, List.push_toArray, List.nil_append, List.cons_append]
  have hS0 := HG1.out.go (Below.refl _ _).drew
  generalize w1.drew = z1 at *
  refine tkq 0 hS0 ?_
  refine tkf 1 hS0 rfl (fun u hu => by have zz0 := (fun (u : World) (hu : Hg w q cs x t u) => tl_ep hu.tl) u hu; go_simp; try rfl) ?_
  refine tkq 2 hS0 ?_
  refine tkq 3 hS0 ?_
  refine tkq 4 hS0 ?_
  refine tkf 5 hS0 rfl (fun u hu => by have zz0 := (fun (u : World) (hu : Hg w q cs x t u) => hu.xt.ep) u hu; go_simp; try rfl) ?_
  refine tkq 6 hS0 ?_
  refine done_held (by kernel_rfl) ?_ _
  go_upto_region 3 with fail
  have HG3 : Hid (Hg w q cs x t z1) := hS0
  clear hS0
  refine start_held (S := fun u => Hg w q cs x t u) 13 rfl (by kernel_rfl) (HG3.out.go (Below.refl _ _).drew) ?_
  simp only [Array.replicate_succ, Array.replicate_zero, List.push_toArray, List.nil_append, List.cons_append]
  have hS0 := HG3.out.go (Below.refl _ _).drew
  generalize z1.drew = z3 at *
  refine tkq 0 hS0 ?_
  refine tkf 1 hS0 rfl (fun u hu => by have zz0 := (fun (u : World) (hu : Hg w q cs x t u) => tl_ep hu.tl) u hu; go_simp; try rfl) ?_
  refine tkq 2 hS0 ?_
  refine tkq 3 hS0 ?_
  refine tkq 4 hS0 ?_
  refine tkf 5 hS0 rfl (fun u hu => by have zz0 := (fun (u : World) (hu : Hg w q cs x t u) => hu.xt.ep) u hu; go_simp; try rfl) ?_
  refine tkq 6 hS0 ?_
  refine tkq 7 hS0 ?_
  refine tkq 8 hS0 ?_
  refine tkq 9 hS0 ?_
  refine tkq 10 hS0 ?_
  refine tkf 11 hS0 rfl (fun u hu => by have zz0 := (fun (u : World) (hu : Hg w q cs x t u) => hu.xt.un.trans UN.out) u hu; go_simp; try rfl) ?_
  refine tkq 12 hS0 ?_
  refine done_held (by kernel_rfl) ?_ _
  go_upto_region 5 with fail
  have HG5 : Hid (Hg w q cs x t z3) := hS0
  clear hS0
  refine start_held (S := fun u => Hg w q cs x t u) 14 rfl (by kernel_rfl) (HG5.out.go (Below.refl _ _).drew) ?_
  simp only [Array.replicate_succ, Array.replicate_zero, List.push_toArray, List.nil_append, List.cons_append]
  have hS0 := HG5.out.go (Below.refl _ _).drew
  generalize z3.drew = z5 at *
  refine tkq 0 hS0 ?_
  refine tkf 1 hS0 rfl (fun u hu => by have zz0 := (fun (u : World) (hu : Hg w q cs x t u) => tl_nm hu.tl) u hu; go_simp; try rfl) ?_
  refine tkq 2 hS0 ?_
  refine tkq 3 hS0 ?_
  refine tkq 4 hS0 ?_
  refine tkf 5 hS0 rfl (fun u hu => by have zz0 := (fun (u : World) (hu : Hg w q cs x t u) => hu.xt.lt_) u hu; go_simp; try rfl) ?_
  refine tkq 6 hS0 ?_
  refine tkq 7 hS0 ?_
  refine tkq 8 hS0 ?_
  refine tkq 9 hS0 ?_
  refine tkq 10 hS0 ?_
  refine tkf 11 hS0 rfl (fun u hu => by have zz0 := (fun (u : World) (hu : Hg w q cs x t u) => hu.xt.lt_) u hu; go_simp; try rfl) ?_
  refine tkq 12 hS0 ?_
  refine tkq 13 hS0 ?_
  refine done_held (by kernel_rfl) ?_ _
  have HG8 : Hid (Hg w q cs x t z5) := hS0
  clear hS0
  have k14 := tl_me HG8.out.tl
  have k13 := tl_ma HG8.out.tl
  have cLs := fun u => Tick.rless_any t.me t.ma u
  rw [hln] at cLs
  go_upto_region 8 with (go_at_call 79; refine (cLs _).mono ?_; rintro e wq ⟨rfl, hwq⟩; rw [hwq]; clear hwq)
  clear k14 k13 cLs
  refine start_held (S := fun u => Hg w q cs x t u) 32 rfl (by kernel_rfl) (HG8.out.go (Below.refl _ _).drew) ?_
  simp only [Array.replicate_succ, Array.replicate_zero, List.push_toArray, List.nil_append, List.cons_append]
  have hS0 := HG8.out.go (Below.refl _ _).drew
  generalize z5.drew = z8 at *
  refine tkq 0 hS0 ?_
  refine tkf 1 hS0 rfl (fun u hu => by have zz0 := (fun (u : World) (hu : Hg w q cs x t u) => tl_nm hu.tl) u hu; go_simp; try rfl) ?_
  refine tkq 2 hS0 ?_
  refine tkq 3 hS0 ?_
  refine tkq 4 hS0 ?_
  refine tkf 5 hS0 rfl (fun u hu => by have zz0 := (fun (u : World) (hu : Hg w q cs x t u) => hu.xt.lt_) u hu; go_simp; try rfl) ?_
  refine tkq 6 hS0 ?_
  refine tkq 7 hS0 ?_
  refine tkq 8 hS0 ?_
  refine skq 9 hS0 ?_
  refine skq 10 hS0 ?_
  refine skq 11 hS0 ?_
  refine skq 12 hS0 ?_
  refine skq 13 hS0 ?_
  refine skq 14 hS0 ?_
  refine skq 15 hS0 ?_
  refine skq 16 hS0 ?_
  refine tkq 17 hS0 ?_
  refine tkq 18 hS0 ?_
  refine skq 19 hS0 ?_
  refine skq 20 hS0 ?_
  refine skq 21 hS0 ?_
  refine skq 22 hS0 ?_
  refine skq 23 hS0 ?_
  refine skq 24 hS0 ?_
  refine skq 25 hS0 ?_
  refine skq 26 hS0 ?_
  refine tkq 27 hS0 ?_
  refine tkq 28 hS0 ?_
  refine skq 29 hS0 ?_
  refine skq 30 hS0 ?_
  refine tkq 31 hS0 ?_
  refine done_held (by kernel_rfl) ?_ _
  go_wp2
  go_ret2
  exact ⟨rfl, hS0.xt, hS0.bel⟩
set_option maxRecDepth 100000 in
set_option maxHeartbeats 2000000 in
theorem goes_from {w : World} {q : Nat} {cs : Array Value} {x : Rx} {t : Tl} (h : XAt w q cs x) (h1 : t.ep = x.ep) (hu : x.un = false) (t0 : 0 ≤ x.lt) (t1 : x.lt ≤ 4000000000000000000) (h2 : t.nm = x.lt + 1) (h3 : ((t.fx, t.fy), t.fd) ≠ ((x.px, x.py), x.pd)) : Calls Tryz.prog 60 #[.pointer (some ⟨q, 0, none⟩), .agg (tlA t)] w fun e w' => e = .returned (.tuple #[.slice none 0 0, .int .i64 0]) ∧ XAt w' q cs x ∧ Below w.heap.size w w' := by
  obtain ⟨w1, hw1⟩ : ∃ z, z = w.alloc (.cells (tlA t) 46) := ⟨_, rfl⟩
  have HG1 : Hid (Hg w q cs x t w1) := Hg.make h hw1
  have q1 : decide (t.ep < x.ep) = false := decide_eq_false (by omega)
  have q2 : decide (x.ep < t.ep) = false := decide_eq_false (by omega)
  have hwl : IntKind.i64.wrap (x.lt + 1) = x.lt + 1 := by rw [IntKind.wrap_i64]; omega
  obtain ⟨ln, hln⟩ : ∃ ln, less t.me t.ma = ln := ⟨_, rfl⟩
  have UN : Hid (some (Value.bool x.un) = some (.bool false)) := by show some (Value.bool x.un) = some (.bool false); rw [hu]
  have q3 : (t.nm == x.lt) = false := by rw [beq_eq_false_iff_ne]; omega
  have q5 : (t.nm != x.lt + 1) = false := by rw [h2]; simp
  have HPO : Hid (decide (((t.fx, t.fy), t.fd) = ((x.px, x.py), x.pd)) = false) := decide_eq_false h3
  clear h2 h3
  clear h h1 hu t0 t1
  go_enter Tryz.func60, Tryz.ntmps60
  go_upto_region 1 with (refine wpList_boxAt rfl 46 (.tmp 1) rfl (tlA t) rfl ?_; rw [← hw1]; clear hw1)
  refine start_held (S := fun u => Hg w q cs x t u) 7 rfl (by kernel_rfl) (HG1.out.go (Below.refl _ _).drew) ?_
  simp only [Array.replicate_succ, Array.replicate_zero, List.push_toArray, List.nil_append, List.cons_append]
  have hS0 := HG1.out.go (Below.refl _ _).drew
  generalize w1.drew = z1 at *
  refine tkq 0 hS0 ?_
  refine tkf 1 hS0 rfl (fun u hu => by have zz0 := (fun (u : World) (hu : Hg w q cs x t u) => tl_ep hu.tl) u hu; go_simp; try rfl) ?_
  refine tkq 2 hS0 ?_
  refine tkq 3 hS0 ?_
  refine tkq 4 hS0 ?_
  refine tkf 5 hS0 rfl (fun u hu => by have zz0 := (fun (u : World) (hu : Hg w q cs x t u) => hu.xt.ep) u hu; go_simp; try rfl) ?_
  refine tkq 6 hS0 ?_
  refine done_held (by kernel_rfl) ?_ _
  go_upto_region 3 with fail
  have HG3 : Hid (Hg w q cs x t z1) := hS0
  clear hS0
  refine start_held (S := fun u => Hg w q cs x t u) 13 rfl (by kernel_rfl) (HG3.out.go (Below.refl _ _).drew) ?_
  simp only [Array.replicate_succ, Array.replicate_zero, List.push_toArray, List.nil_append, List.cons_append]
  have hS0 := HG3.out.go (Below.refl _ _).drew
  generalize z1.drew = z3 at *
  refine tkq 0 hS0 ?_
  refine tkf 1 hS0 rfl (fun u hu => by have zz0 := (fun (u : World) (hu : Hg w q cs x t u) => tl_ep hu.tl) u hu; go_simp; try rfl) ?_
  refine tkq 2 hS0 ?_
  refine tkq 3 hS0 ?_
  refine tkq 4 hS0 ?_
  refine tkf 5 hS0 rfl (fun u hu => by have zz0 := (fun (u : World) (hu : Hg w q cs x t u) => hu.xt.ep) u hu; go_simp; try rfl) ?_
  refine tkq 6 hS0 ?_
  refine tkq 7 hS0 ?_
  refine tkq 8 hS0 ?_
  refine tkq 9 hS0 ?_
  refine tkq 10 hS0 ?_
  refine tkf 11 hS0 rfl (fun u hu => by have zz0 := (fun (u : World) (hu : Hg w q cs x t u) => hu.xt.un.trans UN.out) u hu; go_simp; try rfl) ?_
  refine tkq 12 hS0 ?_
  refine done_held (by kernel_rfl) ?_ _
  go_upto_region 5 with fail
  have HG5 : Hid (Hg w q cs x t z3) := hS0
  clear hS0
  refine start_held (S := fun u => Hg w q cs x t u) 14 rfl (by kernel_rfl) (HG5.out.go (Below.refl _ _).drew) ?_
  simp only [Array.replicate_succ, Array.replicate_zero, List.push_toArray, List.nil_append, List.cons_append]
  have hS0 := HG5.out.go (Below.refl _ _).drew
  generalize z3.drew = z5 at *
  refine tkq 0 hS0 ?_
  refine tkf 1 hS0 rfl (fun u hu => by have zz0 := (fun (u : World) (hu : Hg w q cs x t u) => tl_nm hu.tl) u hu; go_simp; try rfl) ?_
  refine tkq 2 hS0 ?_
  refine tkq 3 hS0 ?_
  refine tkq 4 hS0 ?_
  refine tkf 5 hS0 rfl (fun u hu => by have zz0 := (fun (u : World) (hu : Hg w q cs x t u) => hu.xt.lt_) u hu; go_simp; try rfl) ?_
  refine tkq 6 hS0 ?_
  refine tkq 7 hS0 ?_
  refine skq 8 hS0 ?_
  refine skq 9 hS0 ?_
  refine skq 10 hS0 ?_
  refine skq 11 hS0 ?_
  refine skq 12 hS0 ?_
  refine tkq 13 hS0 ?_
  refine done_held (by kernel_rfl) ?_ _
  have HG8 : Hid (Hg w q cs x t z5) := hS0
  clear hS0
  have k14 := tl_me HG8.out.tl
  have k13 := tl_ma HG8.out.tl
  have cLs := fun u => Tick.rless_any t.me t.ma u
  rw [hln] at cLs
  go_upto_region 8 with (go_at_call 79; refine (cLs _).mono ?_; rintro e wq ⟨rfl, hwq⟩; rw [hwq]; clear hwq)
  clear k14 k13 cLs
  refine start_held (S := fun u => Hg w q cs x t u) 32 rfl (by kernel_rfl) (HG8.out.go (Below.refl _ _).drew) ?_
  simp only [Array.replicate_succ, Array.replicate_zero, List.push_toArray, List.nil_append, List.cons_append]
  have hS0 := HG8.out.go (Below.refl _ _).drew
  generalize z5.drew = z8 at *
  refine tkq 0 hS0 ?_
  refine tkf 1 hS0 rfl (fun u hu => by have zz0 := (fun (u : World) (hu : Hg w q cs x t u) => tl_nm hu.tl) u hu; go_simp; try rfl) ?_
  refine tkq 2 hS0 ?_
  refine tkq 3 hS0 ?_
  refine tkq 4 hS0 ?_
  refine tkf 5 hS0 rfl (fun u hu => by have zz0 := (fun (u : World) (hu : Hg w q cs x t u) => hu.xt.lt_) u hu; go_simp; try rfl) ?_
  refine tkq 6 hS0 ?_
  refine tkq 7 hS0 ?_
  refine tkq 8 hS0 ?_
  refine tkq 9 hS0 ?_
  refine tkq 10 hS0 ?_
  refine tkf 11 hS0 rfl (v := .agg (poA t.fx t.fy t.fd)) (fun u hu => by exact run_load_at 42 _ rfl ⟨w.heap.size, 7, none⟩ rfl _ (tl_frm hu.tl)) ?_
  refine tkq 12 hS0 ?_
  refine tkq 13 hS0 ?_
  refine tkq 14 hS0 ?_
  refine tkf 15 hS0 rfl (v := .agg (poA x.px x.py x.pd)) (fun u hu => by exact run_load_at 42 _ rfl ⟨q, 17, none⟩ rfl _ (hu.xt.pose)) ?_
  refine tkf 16 hS0 rfl (v := .bool (!false)) (fun u hu => by exact run_neq_agg 42 _ _ rfl guardPo (poA t.fx t.fy t.fd) (poA x.px x.py x.pd) false rfl rfl (eqPo HPO.out u)) ?_
  refine tkq 17 hS0 ?_
  refine tkq 18 hS0 ?_
  refine skq 19 hS0 ?_
  refine skq 20 hS0 ?_
  refine skq 21 hS0 ?_
  refine skq 22 hS0 ?_
  refine skq 23 hS0 ?_
  refine skq 24 hS0 ?_
  refine skq 25 hS0 ?_
  refine skq 26 hS0 ?_
  refine tkq 27 hS0 ?_
  refine tkq 28 hS0 ?_
  refine skq 29 hS0 ?_
  refine skq 30 hS0 ?_
  refine tkq 31 hS0 ?_
  refine done_held (by kernel_rfl) ?_ _
  go_wp2
  go_ret2
  exact ⟨rfl, hS0.xt, hS0.bel⟩
set_option maxRecDepth 100000 in
set_option maxHeartbeats 2000000 in
theorem goes_legal {w : World} {q : Nat} {cs : Array Value} {x : Rx} {t : Tl} (h : XAt w q cs x) (h1 : t.ep = x.ep) (hu : x.un = false) (t0 : 0 ≤ x.lt) (t1 : x.lt ≤ 4000000000000000000) (h2 : t.nm = x.lt + 1) (h3 : ((t.fx, t.fy), t.fd) = ((x.px, x.py), x.pd)) (HL0 : ∀ u, Below w.heap.size w u → Calls Tryz.prog 63 #[.agg cs, .agg (mvA (tmv t))] u fun e w' => ∃ z, e = .returned z ∧ (z = .bool false ∧ Below u.heap.size u w')) : Calls Tryz.prog 60 #[.pointer (some ⟨q, 0, none⟩), .agg (tlA t)] w fun e w' => e = .returned (.tuple #[.slice none 0 0, .int .i64 0]) ∧ XAt w' q cs x ∧ Below w.heap.size w w' := by
  obtain ⟨w1, hw1⟩ : ∃ z, z = w.alloc (.cells (tlA t) 46) := ⟨_, rfl⟩
  have HG1 : Hid (Hg w q cs x t w1) := Hg.make h hw1
  have q1 : decide (t.ep < x.ep) = false := decide_eq_false (by omega)
  have q2 : decide (x.ep < t.ep) = false := decide_eq_false (by omega)
  have hwl : IntKind.i64.wrap (x.lt + 1) = x.lt + 1 := by rw [IntKind.wrap_i64]; omega
  obtain ⟨ln, hln⟩ : ∃ ln, less t.me t.ma = ln := ⟨_, rfl⟩
  have UN : Hid (some (Value.bool x.un) = some (.bool false)) := by show some (Value.bool x.un) = some (.bool false); rw [hu]
  have q3 : (t.nm == x.lt) = false := by rw [beq_eq_false_iff_ne]; omega
  have q5 : (t.nm != x.lt + 1) = false := by rw [h2]; simp
  have HPO : Hid (decide (((t.fx, t.fy), t.fd) = ((x.px, x.py), x.pd)) = true) := decide_eq_true h3
  clear h2 h3
  have HL : Hid _ := HL0
  clear HL0
  clear h h1 hu t0 t1
  go_enter Tryz.func60, Tryz.ntmps60
  go_upto_region 1 with (refine wpList_boxAt rfl 46 (.tmp 1) rfl (tlA t) rfl ?_; rw [← hw1]; clear hw1)
  refine start_held (S := fun u => Hg w q cs x t u) 7 rfl (by kernel_rfl) (HG1.out.go (Below.refl _ _).drew) ?_
  simp only [Array.replicate_succ, Array.replicate_zero, List.push_toArray, List.nil_append, List.cons_append]
  have hS0 := HG1.out.go (Below.refl _ _).drew
  generalize w1.drew = z1 at *
  refine tkq 0 hS0 ?_
  refine tkf 1 hS0 rfl (fun u hu => by have zz0 := (fun (u : World) (hu : Hg w q cs x t u) => tl_ep hu.tl) u hu; go_simp; try rfl) ?_
  refine tkq 2 hS0 ?_
  refine tkq 3 hS0 ?_
  refine tkq 4 hS0 ?_
  refine tkf 5 hS0 rfl (fun u hu => by have zz0 := (fun (u : World) (hu : Hg w q cs x t u) => hu.xt.ep) u hu; go_simp; try rfl) ?_
  refine tkq 6 hS0 ?_
  refine done_held (by kernel_rfl) ?_ _
  go_upto_region 3 with fail
  have HG3 : Hid (Hg w q cs x t z1) := hS0
  clear hS0
  refine start_held (S := fun u => Hg w q cs x t u) 13 rfl (by kernel_rfl) (HG3.out.go (Below.refl _ _).drew) ?_
  simp only [Array.replicate_succ, Array.replicate_zero, List.push_toArray, List.nil_append, List.cons_append]
  have hS0 := HG3.out.go (Below.refl _ _).drew
  generalize z1.drew = z3 at *
  refine tkq 0 hS0 ?_
  refine tkf 1 hS0 rfl (fun u hu => by have zz0 := (fun (u : World) (hu : Hg w q cs x t u) => tl_ep hu.tl) u hu; go_simp; try rfl) ?_
  refine tkq 2 hS0 ?_
  refine tkq 3 hS0 ?_
  refine tkq 4 hS0 ?_
  refine tkf 5 hS0 rfl (fun u hu => by have zz0 := (fun (u : World) (hu : Hg w q cs x t u) => hu.xt.ep) u hu; go_simp; try rfl) ?_
  refine tkq 6 hS0 ?_
  refine tkq 7 hS0 ?_
  refine tkq 8 hS0 ?_
  refine tkq 9 hS0 ?_
  refine tkq 10 hS0 ?_
  refine tkf 11 hS0 rfl (fun u hu => by have zz0 := (fun (u : World) (hu : Hg w q cs x t u) => hu.xt.un.trans UN.out) u hu; go_simp; try rfl) ?_
  refine tkq 12 hS0 ?_
  refine done_held (by kernel_rfl) ?_ _
  go_upto_region 5 with fail
  have HG5 : Hid (Hg w q cs x t z3) := hS0
  clear hS0
  refine start_held (S := fun u => Hg w q cs x t u) 14 rfl (by kernel_rfl) (HG5.out.go (Below.refl _ _).drew) ?_
  simp only [Array.replicate_succ, Array.replicate_zero, List.push_toArray, List.nil_append, List.cons_append]
  have hS0 := HG5.out.go (Below.refl _ _).drew
  generalize z3.drew = z5 at *
  refine tkq 0 hS0 ?_
  refine tkf 1 hS0 rfl (fun u hu => by have zz0 := (fun (u : World) (hu : Hg w q cs x t u) => tl_nm hu.tl) u hu; go_simp; try rfl) ?_
  refine tkq 2 hS0 ?_
  refine tkq 3 hS0 ?_
  refine tkq 4 hS0 ?_
  refine tkf 5 hS0 rfl (fun u hu => by have zz0 := (fun (u : World) (hu : Hg w q cs x t u) => hu.xt.lt_) u hu; go_simp; try rfl) ?_
  refine tkq 6 hS0 ?_
  refine tkq 7 hS0 ?_
  refine skq 8 hS0 ?_
  refine skq 9 hS0 ?_
  refine skq 10 hS0 ?_
  refine skq 11 hS0 ?_
  refine skq 12 hS0 ?_
  refine tkq 13 hS0 ?_
  refine done_held (by kernel_rfl) ?_ _
  have HG8 : Hid (Hg w q cs x t z5) := hS0
  clear hS0
  have k14 := tl_me HG8.out.tl
  have k13 := tl_ma HG8.out.tl
  have cLs := fun u => Tick.rless_any t.me t.ma u
  rw [hln] at cLs
  go_upto_region 8 with (go_at_call 79; refine (cLs _).mono ?_; rintro e wq ⟨rfl, hwq⟩; rw [hwq]; clear hwq)
  clear k14 k13 cLs
  refine start_held (S := fun u => Hg w q cs x t u) 32 rfl (by kernel_rfl) (HG8.out.go (Below.refl _ _).drew) ?_
  simp only [Array.replicate_succ, Array.replicate_zero, List.push_toArray, List.nil_append, List.cons_append]
  have hS0 := HG8.out.go (Below.refl _ _).drew
  generalize z5.drew = z8 at *
  refine tkq 0 hS0 ?_
  refine tkf 1 hS0 rfl (fun u hu => by have zz0 := (fun (u : World) (hu : Hg w q cs x t u) => tl_nm hu.tl) u hu; go_simp; try rfl) ?_
  refine tkq 2 hS0 ?_
  refine tkq 3 hS0 ?_
  refine tkq 4 hS0 ?_
  refine tkf 5 hS0 rfl (fun u hu => by have zz0 := (fun (u : World) (hu : Hg w q cs x t u) => hu.xt.lt_) u hu; go_simp; try rfl) ?_
  refine tkq 6 hS0 ?_
  refine tkq 7 hS0 ?_
  refine tkq 8 hS0 ?_
  refine tkq 9 hS0 ?_
  refine tkq 10 hS0 ?_
  refine tkf 11 hS0 rfl (v := .agg (poA t.fx t.fy t.fd)) (fun u hu => by exact run_load_at 42 _ rfl ⟨w.heap.size, 7, none⟩ rfl _ (tl_frm hu.tl)) ?_
  refine tkq 12 hS0 ?_
  refine tkq 13 hS0 ?_
  refine tkq 14 hS0 ?_
  refine tkf 15 hS0 rfl (v := .agg (poA x.px x.py x.pd)) (fun u hu => by exact run_load_at 42 _ rfl ⟨q, 17, none⟩ rfl _ (hu.xt.pose)) ?_
  refine tkf 16 hS0 rfl (v := .bool (!true)) (fun u hu => by exact run_neq_agg 42 _ _ rfl guardPo (poA t.fx t.fy t.fd) (poA x.px x.py x.pd) true rfl rfl (eqPo HPO.out u)) ?_
  refine tkq 17 hS0 ?_
  refine tkq 18 hS0 ?_
  refine tkq 19 hS0 ?_
  refine tkq 20 hS0 ?_
  refine tkq 21 hS0 ?_
  refine tkf 22 hS0 rfl (v := .agg cs) (fun u hu => by exact run_load_at 26 _ rfl ⟨q, 0, none⟩ rfl _ (hu.xt.conf)) ?_
  refine tkq 23 hS0 ?_
  refine tkf 24 hS0 rfl (v := .agg (mvA (tmv t))) (fun u hu => by exact run_load_at 44 _ rfl ⟨w.heap.size, 4, none⟩ rfl _ (tl_move hu.tl)) ?_
  refine wpAnyH_ready (rs := [25]) (by kernel_rfl) (by simp) (AllReadyH.cons ((nth_eq _ 25).trans rfl) ?_ AllReadyH.nil)
  intro K1 hK1
  refine call_in hK1 (by kernel_rfl) 63 #[.agg cs, .agg (mvA (tmv t))] (by go_simp) _ (HL.out _ hS0.bel) ?_
  rintro y1 x1 ⟨rfl, b1⟩
  have hS1 := hS0.go b1
  refine ⟨hS1, ?_⟩
  simp only [Act.put, List.setIfInBounds_toArray, List.set_cons_zero, List.set_cons_succ]
  refine tkq 26 hS1 ?_
  refine tkq 27 hS1 ?_
  refine tkq 28 hS1 ?_
  refine skq 29 hS1 ?_
  refine skq 30 hS1 ?_
  refine tkq 31 hS1 ?_
  refine done_held (by kernel_rfl) ?_ _
  go_wp2
  go_ret2
  exact ⟨rfl, hS1.xt, hS1.bel⟩
set_option maxRecDepth 100000 in
set_option maxHeartbeats 2000000 in
theorem goes_zero {w : World} {q : Nat} {cs : Array Value} {x : Rx} {t : Tl} (h : XAt w q cs x) (h1 : t.ep = x.ep) (hu : x.un = false) (t0 : 0 ≤ x.lt) (t1 : x.lt ≤ 4000000000000000000) (h2 : t.nm = x.lt + 1) (h3 : ((t.fx, t.fy), t.fd) = ((x.px, x.py), x.pd)) (h4 : less t.me t.ma = 0) (HL0 : ∀ u, Below w.heap.size w u → Calls Tryz.prog 63 #[.agg cs, .agg (mvA (tmv t))] u fun e w' => ∃ z, e = .returned z ∧ (z = .bool true ∧ Below u.heap.size u w')) : Calls Tryz.prog 60 #[.pointer (some ⟨q, 0, none⟩), .agg (tlA t)] w fun e w' => e = .returned (.tuple #[.slice none 0 0, .int .i64 0]) ∧ XAt w' q cs x ∧ Below w.heap.size w w' := by
  obtain ⟨w1, hw1⟩ : ∃ z, z = w.alloc (.cells (tlA t) 46) := ⟨_, rfl⟩
  have HG1 : Hid (Hg w q cs x t w1) := Hg.make h hw1
  have q1 : decide (t.ep < x.ep) = false := decide_eq_false (by omega)
  have q2 : decide (x.ep < t.ep) = false := decide_eq_false (by omega)
  have hwl : IntKind.i64.wrap (x.lt + 1) = x.lt + 1 := by rw [IntKind.wrap_i64]; omega
  obtain ⟨ln, hln⟩ : ∃ ln, less t.me t.ma = ln := ⟨_, rfl⟩
  have UN : Hid (some (Value.bool x.un) = some (.bool false)) := by show some (Value.bool x.un) = some (.bool false); rw [hu]
  have q3 : (t.nm == x.lt) = false := by rw [beq_eq_false_iff_ne]; omega
  have q5 : (t.nm != x.lt + 1) = false := by rw [h2]; simp
  have HPO : Hid (decide (((t.fx, t.fy), t.fd) = ((x.px, x.py), x.pd)) = true) := decide_eq_true h3
  have q6 : (ln == 0) = true := by rw [beq_iff_eq, ← hln]; exact h4
  clear h2 h3 h4
  have HL : Hid _ := HL0
  clear HL0
  clear h h1 hu t0 t1
  go_enter Tryz.func60, Tryz.ntmps60
  go_upto_region 1 with (refine wpList_boxAt rfl 46 (.tmp 1) rfl (tlA t) rfl ?_; rw [← hw1]; clear hw1)
  refine start_held (S := fun u => Hg w q cs x t u) 7 rfl (by kernel_rfl) (HG1.out.go (Below.refl _ _).drew) ?_
  simp only [Array.replicate_succ, Array.replicate_zero, List.push_toArray, List.nil_append, List.cons_append]
  have hS0 := HG1.out.go (Below.refl _ _).drew
  generalize w1.drew = z1 at *
  refine tkq 0 hS0 ?_
  refine tkf 1 hS0 rfl (fun u hu => by have zz0 := (fun (u : World) (hu : Hg w q cs x t u) => tl_ep hu.tl) u hu; go_simp; try rfl) ?_
  refine tkq 2 hS0 ?_
  refine tkq 3 hS0 ?_
  refine tkq 4 hS0 ?_
  refine tkf 5 hS0 rfl (fun u hu => by have zz0 := (fun (u : World) (hu : Hg w q cs x t u) => hu.xt.ep) u hu; go_simp; try rfl) ?_
  refine tkq 6 hS0 ?_
  refine done_held (by kernel_rfl) ?_ _
  go_upto_region 3 with fail
  have HG3 : Hid (Hg w q cs x t z1) := hS0
  clear hS0
  refine start_held (S := fun u => Hg w q cs x t u) 13 rfl (by kernel_rfl) (HG3.out.go (Below.refl _ _).drew) ?_
  simp only [Array.replicate_succ, Array.replicate_zero, List.push_toArray, List.nil_append, List.cons_append]
  have hS0 := HG3.out.go (Below.refl _ _).drew
  generalize z1.drew = z3 at *
  refine tkq 0 hS0 ?_
  refine tkf 1 hS0 rfl (fun u hu => by have zz0 := (fun (u : World) (hu : Hg w q cs x t u) => tl_ep hu.tl) u hu; go_simp; try rfl) ?_
  refine tkq 2 hS0 ?_
  refine tkq 3 hS0 ?_
  refine tkq 4 hS0 ?_
  refine tkf 5 hS0 rfl (fun u hu => by have zz0 := (fun (u : World) (hu : Hg w q cs x t u) => hu.xt.ep) u hu; go_simp; try rfl) ?_
  refine tkq 6 hS0 ?_
  refine tkq 7 hS0 ?_
  refine tkq 8 hS0 ?_
  refine tkq 9 hS0 ?_
  refine tkq 10 hS0 ?_
  refine tkf 11 hS0 rfl (fun u hu => by have zz0 := (fun (u : World) (hu : Hg w q cs x t u) => hu.xt.un.trans UN.out) u hu; go_simp; try rfl) ?_
  refine tkq 12 hS0 ?_
  refine done_held (by kernel_rfl) ?_ _
  go_upto_region 5 with fail
  have HG5 : Hid (Hg w q cs x t z3) := hS0
  clear hS0
  refine start_held (S := fun u => Hg w q cs x t u) 14 rfl (by kernel_rfl) (HG5.out.go (Below.refl _ _).drew) ?_
  simp only [Array.replicate_succ, Array.replicate_zero, List.push_toArray, List.nil_append, List.cons_append]
  have hS0 := HG5.out.go (Below.refl _ _).drew
  generalize z3.drew = z5 at *
  refine tkq 0 hS0 ?_
  refine tkf 1 hS0 rfl (fun u hu => by have zz0 := (fun (u : World) (hu : Hg w q cs x t u) => tl_nm hu.tl) u hu; go_simp; try rfl) ?_
  refine tkq 2 hS0 ?_
  refine tkq 3 hS0 ?_
  refine tkq 4 hS0 ?_
  refine tkf 5 hS0 rfl (fun u hu => by have zz0 := (fun (u : World) (hu : Hg w q cs x t u) => hu.xt.lt_) u hu; go_simp; try rfl) ?_
  refine tkq 6 hS0 ?_
  refine tkq 7 hS0 ?_
  refine skq 8 hS0 ?_
  refine skq 9 hS0 ?_
  refine skq 10 hS0 ?_
  refine skq 11 hS0 ?_
  refine skq 12 hS0 ?_
  refine tkq 13 hS0 ?_
  refine done_held (by kernel_rfl) ?_ _
  have HG8 : Hid (Hg w q cs x t z5) := hS0
  clear hS0
  have k14 := tl_me HG8.out.tl
  have k13 := tl_ma HG8.out.tl
  have cLs := fun u => Tick.rless_any t.me t.ma u
  rw [hln] at cLs
  go_upto_region 8 with (go_at_call 79; refine (cLs _).mono ?_; rintro e wq ⟨rfl, hwq⟩; rw [hwq]; clear hwq)
  clear k14 k13 cLs
  refine start_held (S := fun u => Hg w q cs x t u) 32 rfl (by kernel_rfl) (HG8.out.go (Below.refl _ _).drew) ?_
  simp only [Array.replicate_succ, Array.replicate_zero, List.push_toArray, List.nil_append, List.cons_append]
  have hS0 := HG8.out.go (Below.refl _ _).drew
  generalize z5.drew = z8 at *
  refine tkq 0 hS0 ?_
  refine tkf 1 hS0 rfl (fun u hu => by have zz0 := (fun (u : World) (hu : Hg w q cs x t u) => tl_nm hu.tl) u hu; go_simp; try rfl) ?_
  refine tkq 2 hS0 ?_
  refine tkq 3 hS0 ?_
  refine tkq 4 hS0 ?_
  refine tkf 5 hS0 rfl (fun u hu => by have zz0 := (fun (u : World) (hu : Hg w q cs x t u) => hu.xt.lt_) u hu; go_simp; try rfl) ?_
  refine tkq 6 hS0 ?_
  refine tkq 7 hS0 ?_
  refine tkq 8 hS0 ?_
  refine tkq 9 hS0 ?_
  refine tkq 10 hS0 ?_
  refine tkf 11 hS0 rfl (v := .agg (poA t.fx t.fy t.fd)) (fun u hu => by exact run_load_at 42 _ rfl ⟨w.heap.size, 7, none⟩ rfl _ (tl_frm hu.tl)) ?_
  refine tkq 12 hS0 ?_
  refine tkq 13 hS0 ?_
  refine tkq 14 hS0 ?_
  refine tkf 15 hS0 rfl (v := .agg (poA x.px x.py x.pd)) (fun u hu => by exact run_load_at 42 _ rfl ⟨q, 17, none⟩ rfl _ (hu.xt.pose)) ?_
  refine tkf 16 hS0 rfl (v := .bool (!true)) (fun u hu => by exact run_neq_agg 42 _ _ rfl guardPo (poA t.fx t.fy t.fd) (poA x.px x.py x.pd) true rfl rfl (eqPo HPO.out u)) ?_
  refine tkq 17 hS0 ?_
  refine tkq 18 hS0 ?_
  refine tkq 19 hS0 ?_
  refine tkq 20 hS0 ?_
  refine tkq 21 hS0 ?_
  refine tkf 22 hS0 rfl (v := .agg cs) (fun u hu => by exact run_load_at 26 _ rfl ⟨q, 0, none⟩ rfl _ (hu.xt.conf)) ?_
  refine tkq 23 hS0 ?_
  refine tkf 24 hS0 rfl (v := .agg (mvA (tmv t))) (fun u hu => by exact run_load_at 44 _ rfl ⟨w.heap.size, 4, none⟩ rfl _ (tl_move hu.tl)) ?_
  refine wpAnyH_ready (rs := [25]) (by kernel_rfl) (by simp) (AllReadyH.cons ((nth_eq _ 25).trans rfl) ?_ AllReadyH.nil)
  intro K1 hK1
  refine call_in hK1 (by kernel_rfl) 63 #[.agg cs, .agg (mvA (tmv t))] (by go_simp) _ (HL.out _ hS0.bel) ?_
  rintro y1 x1 ⟨rfl, b1⟩
  have hS1 := hS0.go b1
  refine ⟨hS1, ?_⟩
  simp only [Act.put, List.setIfInBounds_toArray, List.set_cons_zero, List.set_cons_succ]
  refine tkq 26 hS1 ?_
  refine tkq 27 hS1 ?_
  refine tkq 28 hS1 ?_
  refine tkq 29 hS1 ?_
  refine tkq 30 hS1 ?_
  refine tkq 31 hS1 ?_
  refine done_held (by kernel_rfl) ?_ _
  go_wp2
  go_ret2
  exact ⟨rfl, hS1.xt, hS1.bel⟩
set_option maxRecDepth 100000 in
set_option maxHeartbeats 2000000 in
theorem goes_beg {w : World} {q : Nat} {cs : Array Value} {x : Rx} {t : Tl} (h : XAt w q cs x) (h1 : t.ep = x.ep) (hu : x.un = false) (t0 : 0 ≤ x.lt) (t1 : x.lt ≤ 4000000000000000000) (h2 : t.nm = x.lt + 1) (h3 : ((t.fx, t.fy), t.fd) = ((x.px, x.py), x.pd)) (h4 : less t.me t.ma ≠ 0) (HL0 : ∀ u, Below w.heap.size w u → Calls Tryz.prog 63 #[.agg cs, .agg (mvA (tmv t))] u fun e w' => ∃ z, e = .returned z ∧ (z = .bool true ∧ Below u.heap.size u w')) : Calls Tryz.prog 60 #[.pointer (some ⟨q, 0, none⟩), .agg (tlA t)] w fun e w' => e = .returned (.tuple #[.slice none 0 0, .int .i64 1]) ∧ XAt w' q cs { x with un := true, mv := tmv t, lf := less t.me t.ma, gn := 0, la := 0, cu := false } ∧ Xn q w w' := by
  obtain ⟨w1, hw1⟩ : ∃ z, z = w.alloc (.cells (tlA t) 46) := ⟨_, rfl⟩
  have HG1 : Hid (Hg w q cs x t w1) := Hg.make h hw1
  have q1 : decide (t.ep < x.ep) = false := decide_eq_false (by omega)
  have q2 : decide (x.ep < t.ep) = false := decide_eq_false (by omega)
  have hwl : IntKind.i64.wrap (x.lt + 1) = x.lt + 1 := by rw [IntKind.wrap_i64]; omega
  obtain ⟨ln, hln⟩ : ∃ ln, less t.me t.ma = ln := ⟨_, rfl⟩
  have UN : Hid (some (Value.bool x.un) = some (.bool false)) := by show some (Value.bool x.un) = some (.bool false); rw [hu]
  have q3 : (t.nm == x.lt) = false := by rw [beq_eq_false_iff_ne]; omega
  have q5 : (t.nm != x.lt + 1) = false := by rw [h2]; simp
  have HPO : Hid (decide (((t.fx, t.fy), t.fd) = ((x.px, x.py), x.pd)) = true) := decide_eq_true h3
  have q6 : (ln == 0) = false := by rw [beq_eq_false_iff_ne, ← hln]; exact h4
  have HLN : Hid (less t.me t.ma = ln) := hln
  have HQW : Hid (w.heap.size ≠ q) := Ne.symm (Nat.ne_of_lt h.qlt)
  clear h2 h3 h4
  have HL : Hid _ := HL0
  clear HL0
  clear h h1 hu t0 t1
  go_enter Tryz.func60, Tryz.ntmps60
  go_upto_region 1 with (refine wpList_boxAt rfl 46 (.tmp 1) rfl (tlA t) rfl ?_; rw [← hw1]; clear hw1)
  refine start_held (S := fun u => Hg w q cs x t u) 7 rfl (by kernel_rfl) (HG1.out.go (Below.refl _ _).drew) ?_
  simp only [Array.replicate_succ, Array.replicate_zero, List.push_toArray, List.nil_append, List.cons_append]
  have hS0 := HG1.out.go (Below.refl _ _).drew
  generalize w1.drew = z1 at *
  refine tkq 0 hS0 ?_
  refine tkf 1 hS0 rfl (fun u hu => by have zz0 := (fun (u : World) (hu : Hg w q cs x t u) => tl_ep hu.tl) u hu; go_simp; try rfl) ?_
  refine tkq 2 hS0 ?_
  refine tkq 3 hS0 ?_
  refine tkq 4 hS0 ?_
  refine tkf 5 hS0 rfl (fun u hu => by have zz0 := (fun (u : World) (hu : Hg w q cs x t u) => hu.xt.ep) u hu; go_simp; try rfl) ?_
  refine tkq 6 hS0 ?_
  refine done_held (by kernel_rfl) ?_ _
  go_upto_region 3 with fail
  have HG3 : Hid (Hg w q cs x t z1) := hS0
  clear hS0
  refine start_held (S := fun u => Hg w q cs x t u) 13 rfl (by kernel_rfl) (HG3.out.go (Below.refl _ _).drew) ?_
  simp only [Array.replicate_succ, Array.replicate_zero, List.push_toArray, List.nil_append, List.cons_append]
  have hS0 := HG3.out.go (Below.refl _ _).drew
  generalize z1.drew = z3 at *
  refine tkq 0 hS0 ?_
  refine tkf 1 hS0 rfl (fun u hu => by have zz0 := (fun (u : World) (hu : Hg w q cs x t u) => tl_ep hu.tl) u hu; go_simp; try rfl) ?_
  refine tkq 2 hS0 ?_
  refine tkq 3 hS0 ?_
  refine tkq 4 hS0 ?_
  refine tkf 5 hS0 rfl (fun u hu => by have zz0 := (fun (u : World) (hu : Hg w q cs x t u) => hu.xt.ep) u hu; go_simp; try rfl) ?_
  refine tkq 6 hS0 ?_
  refine tkq 7 hS0 ?_
  refine tkq 8 hS0 ?_
  refine tkq 9 hS0 ?_
  refine tkq 10 hS0 ?_
  refine tkf 11 hS0 rfl (fun u hu => by have zz0 := (fun (u : World) (hu : Hg w q cs x t u) => hu.xt.un.trans UN.out) u hu; go_simp; try rfl) ?_
  refine tkq 12 hS0 ?_
  refine done_held (by kernel_rfl) ?_ _
  go_upto_region 5 with fail
  have HG5 : Hid (Hg w q cs x t z3) := hS0
  clear hS0
  refine start_held (S := fun u => Hg w q cs x t u) 14 rfl (by kernel_rfl) (HG5.out.go (Below.refl _ _).drew) ?_
  simp only [Array.replicate_succ, Array.replicate_zero, List.push_toArray, List.nil_append, List.cons_append]
  have hS0 := HG5.out.go (Below.refl _ _).drew
  generalize z3.drew = z5 at *
  refine tkq 0 hS0 ?_
  refine tkf 1 hS0 rfl (fun u hu => by have zz0 := (fun (u : World) (hu : Hg w q cs x t u) => tl_nm hu.tl) u hu; go_simp; try rfl) ?_
  refine tkq 2 hS0 ?_
  refine tkq 3 hS0 ?_
  refine tkq 4 hS0 ?_
  refine tkf 5 hS0 rfl (fun u hu => by have zz0 := (fun (u : World) (hu : Hg w q cs x t u) => hu.xt.lt_) u hu; go_simp; try rfl) ?_
  refine tkq 6 hS0 ?_
  refine tkq 7 hS0 ?_
  refine skq 8 hS0 ?_
  refine skq 9 hS0 ?_
  refine skq 10 hS0 ?_
  refine skq 11 hS0 ?_
  refine skq 12 hS0 ?_
  refine tkq 13 hS0 ?_
  refine done_held (by kernel_rfl) ?_ _
  have HG8 : Hid (Hg w q cs x t z5) := hS0
  clear hS0
  have k14 := tl_me HG8.out.tl
  have k13 := tl_ma HG8.out.tl
  have cLs := fun u => Tick.rless_any t.me t.ma u
  rw [hln] at cLs
  go_upto_region 8 with (go_at_call 79; refine (cLs _).mono ?_; rintro e wq ⟨rfl, hwq⟩; rw [hwq]; clear hwq)
  clear k14 k13 cLs
  refine start_held (S := fun u => Hg w q cs x t u) 32 rfl (by kernel_rfl) (HG8.out.go (Below.refl _ _).drew) ?_
  simp only [Array.replicate_succ, Array.replicate_zero, List.push_toArray, List.nil_append, List.cons_append]
  have hS0 := HG8.out.go (Below.refl _ _).drew
  generalize z5.drew = z8 at *
  refine tkq 0 hS0 ?_
  refine tkf 1 hS0 rfl (fun u hu => by have zz0 := (fun (u : World) (hu : Hg w q cs x t u) => tl_nm hu.tl) u hu; go_simp; try rfl) ?_
  refine tkq 2 hS0 ?_
  refine tkq 3 hS0 ?_
  refine tkq 4 hS0 ?_
  refine tkf 5 hS0 rfl (fun u hu => by have zz0 := (fun (u : World) (hu : Hg w q cs x t u) => hu.xt.lt_) u hu; go_simp; try rfl) ?_
  refine tkq 6 hS0 ?_
  refine tkq 7 hS0 ?_
  refine tkq 8 hS0 ?_
  refine tkq 9 hS0 ?_
  refine tkq 10 hS0 ?_
  refine tkf 11 hS0 rfl (v := .agg (poA t.fx t.fy t.fd)) (fun u hu => by exact run_load_at 42 _ rfl ⟨w.heap.size, 7, none⟩ rfl _ (tl_frm hu.tl)) ?_
  refine tkq 12 hS0 ?_
  refine tkq 13 hS0 ?_
  refine tkq 14 hS0 ?_
  refine tkf 15 hS0 rfl (v := .agg (poA x.px x.py x.pd)) (fun u hu => by exact run_load_at 42 _ rfl ⟨q, 17, none⟩ rfl _ (hu.xt.pose)) ?_
  refine tkf 16 hS0 rfl (v := .bool (!true)) (fun u hu => by exact run_neq_agg 42 _ _ rfl guardPo (poA t.fx t.fy t.fd) (poA x.px x.py x.pd) true rfl rfl (eqPo HPO.out u)) ?_
  refine tkq 17 hS0 ?_
  refine tkq 18 hS0 ?_
  refine tkq 19 hS0 ?_
  refine tkq 20 hS0 ?_
  refine tkq 21 hS0 ?_
  refine tkf 22 hS0 rfl (v := .agg cs) (fun u hu => by exact run_load_at 26 _ rfl ⟨q, 0, none⟩ rfl _ (hu.xt.conf)) ?_
  refine tkq 23 hS0 ?_
  refine tkf 24 hS0 rfl (v := .agg (mvA (tmv t))) (fun u hu => by exact run_load_at 44 _ rfl ⟨w.heap.size, 4, none⟩ rfl _ (tl_move hu.tl)) ?_
  refine wpAnyH_ready (rs := [25]) (by kernel_rfl) (by simp) (AllReadyH.cons ((nth_eq _ 25).trans rfl) ?_ AllReadyH.nil)
  intro K1 hK1
  refine call_in hK1 (by kernel_rfl) 63 #[.agg cs, .agg (mvA (tmv t))] (by go_simp) _ (HL.out _ hS0.bel) ?_
  rintro y1 x1 ⟨rfl, b1⟩
  have hS1 := hS0.go b1
  refine ⟨hS1, ?_⟩
  simp only [Act.put, List.setIfInBounds_toArray, List.set_cons_zero, List.set_cons_succ]
  refine tkq 26 hS1 ?_
  refine tkq 27 hS1 ?_
  refine tkq 28 hS1 ?_
  refine tkq 29 hS1 ?_
  refine tkq 30 hS1 ?_
  refine tkq 31 hS1 ?_
  refine done_held (by kernel_rfl) ?_ _
  have Hx1 : Hid (XAt x1 q cs x ∧ Xn q w x1) := ⟨hS1.xt, Xn.below hS1.bel⟩
  have HT0 : Hid (x1.heap[w.heap.size]? = some (.cells (tlA t) 46 (0, 0))) := hS1.tl
  have HNQ : Hid (w.heap.size ≠ q) := HQW.out
  clear hS1
  obtain ⟨v1, hv1⟩ : ∃ z, x1.setCell ⟨q, 23, none⟩ (.bool true) = z := ⟨_, rfl⟩
  have Hv1 : Hid (XAt v1 q cs { x with un := true } ∧ Xn q w v1) := by
    have e : x1.setCells q 23 [.bool true] = v1 := hv1
    show XAt v1 q cs { x with un := true } ∧ Xn q w v1
    rw [← e]
    exact ⟨Hx1.out.1.put 7 _ (rx_un _ true), Hx1.out.2.trans (Xn.only (Only.setCells _ _ _ _))⟩
  obtain ⟨v2, hv2⟩ : ∃ z, v1.setCells q 24 (mvA (tmv t)).toList = z := ⟨_, rfl⟩
  have Hv2 : Hid (XAt v2 q cs { x with un := true, mv := tmv t } ∧ Xn q w v2) := by
    show XAt v2 q cs { x with un := true, mv := tmv t } ∧ Xn q w v2
    rw [← hv2]
    exact ⟨Hv1.out.1.put 8 _ (rx_mv _ _), Hv1.out.2.trans (Xn.only (Only.setCells _ _ _ _))⟩
  have HT1 : Hid (v1.heap[w.heap.size]? = some (.cells (tlA t) 46 (0, 0))) := by show v1.heap[w.heap.size]? = _; rw [← hv1]; exact ((Only.setCell q 23 _ x1).block _ HNQ.out).trans HT0.out
  obtain ⟨v3, hv3⟩ : ∃ z, v2.setCell ⟨q, 35, none⟩ (.int .i64 ln) = z := ⟨_, rfl⟩
  have Hv3 : Hid (XAt v3 q cs { x with un := true, mv := tmv t, lf := ln } ∧ Xn q w v3) := by
    have e : v2.setCells q 35 [.int .i64 ln] = v3 := hv3
    show XAt v3 q cs { x with un := true, mv := tmv t, lf := ln } ∧ Xn q w v3
    rw [← e]
    exact ⟨Hv2.out.1.put 19 _ (rx_lf _ _), Hv2.out.2.trans (Xn.only (Only.setCells _ _ _ _))⟩
  obtain ⟨v4, hv4⟩ : ∃ z, v3.setCell ⟨q, 36, none⟩ (.int .i64 0) = z := ⟨_, rfl⟩
  have Hv4 : Hid (XAt v4 q cs { x with un := true, mv := tmv t, lf := ln, gn := 0 } ∧ Xn q w v4) := by
    have e : v3.setCells q 36 [.int .i64 0] = v4 := hv4
    show XAt v4 q cs { x with un := true, mv := tmv t, lf := ln, gn := 0 } ∧ Xn q w v4
    rw [← e]
    exact ⟨Hv3.out.1.put 20 _ (rx_gn _ _), Hv3.out.2.trans (Xn.only (Only.setCells _ _ _ _))⟩
  obtain ⟨v5, hv5⟩ : ∃ z, v4.setCell ⟨q, 37, none⟩ (.int .i64 0) = z := ⟨_, rfl⟩
  have Hv5 : Hid (XAt v5 q cs { x with un := true, mv := tmv t, lf := ln, gn := 0, la := 0 } ∧ Xn q w v5) := by
    have e : v4.setCells q 37 [.int .i64 0] = v5 := hv5
    show XAt v5 q cs { x with un := true, mv := tmv t, lf := ln, gn := 0, la := 0 } ∧ Xn q w v5
    rw [← e]
    exact ⟨Hv4.out.1.put 21 _ (rx_la _ _), Hv4.out.2.trans (Xn.only (Only.setCells _ _ _ _))⟩
  obtain ⟨v6, hv6⟩ : ∃ z, v5.setCell ⟨q, 39, none⟩ (.bool false) = z := ⟨_, rfl⟩
  have Hv6 : Hid (XAt v6 q cs { x with un := true, mv := tmv t, lf := ln, gn := 0, la := 0, cu := false } ∧ Xn q w v6) := by
    have e : v5.setCells q 39 [.bool false] = v6 := hv6
    show XAt v6 q cs { x with un := true, mv := tmv t, lf := ln, gn := 0, la := 0, cu := false } ∧ Xn q w v6
    rw [← e]
    exact ⟨Hv5.out.1.put 23 _ (rx_cu _ _), Hv5.out.2.trans (Xn.only (Only.setCells _ _ _ _))⟩
  have a1 := Hx1.out.1.un
  have a2 := Hx1.out.1.froz 23
  have c1 := Hv2.out.1.lf
  have c2 := Hv2.out.1.froz 35
  have d1 := Hv3.out.1.gn
  have d2 := Hv3.out.1.froz 36
  have e1 := Hv4.out.1.la
  have e2 := Hv4.out.1.froz 37
  have f1 := Hv5.out.1.cu
  have f2 := Hv5.out.1.froz 39
  go_upto_region 11 with fail
  go_upto_region 12 with (first
    | (refine wpList_load_at rfl 44 (.tmp 86) rfl ⟨w.heap.size, 4, none⟩ rfl (mvA (tmv t)) (tl_move HT1.out) ?_)
    | (refine wpList_store_mid rfl 44 (.tmp 89) _ rfl q 24 (mvA (tmv t)) rfl rfl (there_x Hv1.out.1 24 11 (by omega)) infoMove (mvA_one _) ?_; rw [hv2]; clear hv2))
  go_wp2_with fail
  go_ret2
  exact ⟨rfl, by first | exact Hv6.out.1 | (rw [HLN.out]; exact Hv6.out.1), Hv6.out.2⟩
end Go.Proofs.YtedhoghleelhfaaGreat.Rob
/-
  A stop at the chapter's own robot.
-/
namespace Go.Proofs.YtedhoghleelhfaaGreat.Rob
set_option linter.unusedVariables false
set_option linter.unusedSimpArgs false
open Go Go.RowKit Go.Shelf Go.Proofs Go.Proofs.YtedhoghleelhfaaGreat.Lk Go.Proofs.YtedhoghleelhfaaGreat.Plain
attribute [local go_sem] Oper.semAt_some

theorem rx_n (x : Rx) (v : Int) : setAll (rxL x).toArray 10 [.int .i64 v] = (rxL { x with mv := { x.mv with n := v } }).toArray := by
  simp only [rxL, mvL, setAll, List.cons_append, List.nil_append, List.setIfInBounds_toArray, List.set_cons_succ, List.set_cons_zero]
theorem rx_to (x : Rx) (a b : Int) (d : Bool) : setAll (rxL x).toArray 14 (poA a b d).toList = (rxL { x with mv := { x.mv with tx := a, ty := b, td := d } }).toArray := by
  simp only [rxL, mvL, poA, setAll, List.cons_append, List.nil_append, List.setIfInBounds_toArray, List.set_cons_succ, List.set_cons_zero]
/- What stays of a run that is being cut. -/
def Sx (q : Nat) (cs : Array Value) (x : Rx) (u : World) : Prop := ∃ x', XAt u q cs x' ∧ x'.mv.dr = x.mv.dr ∧ x'.mv.fx = x.mv.fx ∧ x'.mv.fy = x.mv.fy ∧ x'.mv.fd = x.mv.fd
theorem Sx.dr {q : Nat} {cs : Array Value} {x : Rx} {u : World} (h : Sx q cs x u) : u.cell? ⟨q, 25, none⟩ = some (.int .i64 x.mv.dr) := by obtain ⟨x', h, e, _⟩ := h; rw [← e]; exact h.cell 9
theorem Sx.frm {q : Nat} {cs : Array Value} {x : Rx} {u : World} (h : Sx q cs x u) : (loadVar 42 ⟨q, 27, none⟩).run Tryz.prog u = .ok (.agg (poA x.mv.fx x.mv.fy x.mv.fd)) u := by
  obtain ⟨x', h, _, e1, e2, e3⟩ := h
  rw [← e1, ← e2, ← e3]
  exact run_loadVar_at u _ _ _ (fun j v hv => by
    rw [Addr.add_mid, show 27 + j = 16 + (11 + j) by omega, h.cell]
    match j with
    | 0 => exact hv
    | 1 => exact hv
    | 2 => exact hv
    | j + 3 => simp [poA] at hv) (aggPose _) infoPose
theorem rshift_ret (x y : Int) (d : Bool) (dir n : Int) (w : World) : Calls Tryz.prog 81 #[.agg (poA x y d), .int .i64 dir, .int .i64 n] w fun e w' => ∃ z, e = .returned z ∧ (z = .tuple #[.agg (poA (Grid.shiftR ((x, y), d) dir n).1.1 (Grid.shiftR ((x, y), d) dir n).1.2 (Grid.shiftR ((x, y), d) dir n).2), .bool (Grid.mayShift dir n)] ∧ Below w.heap.size w w') :=
  (Grid.shiftRef_any x y d dir n w).mono fun e w' ⟨a, b⟩ => ⟨_, a, rfl, b⟩
theorem rkstop_ret {ku ka kv : Nat} (ok : Kin.Ok ku ka kv) (n g : Int) (hg : g ≤ 9223372036854775807) (u : World) : Calls Tryz.prog 80 #[.agg #[.int .i64 ku, .int .i64 ka, .int .i64 kv], .int .i64 n, .int .i64 g] u fun e w' => ∃ z, e = .returned z ∧ (z = .tuple #[.int .i64 (Kin.stopC ku ka kv n g : Nat), .int .i64 (Kin.stopT ku ka kv n g : Nat)] ∧ Below u.heap.size u w') :=
  (Kin.refStop_any ku ka kv n g u ok hg).mono fun e w' ⟨a, b⟩ => ⟨_, a, rfl, b⟩
set_option maxRecDepth 100000 in
set_option maxHeartbeats 2000000 in
theorem stops_old {w : World} {q : Nat} {cs : Array Value} {x : Rx} {t : Tl} (h : XAt w q cs x) (h1 : t.ep < x.ep) : Calls Tryz.prog 61 #[.pointer (some ⟨q, 0, none⟩), .agg (tlA t)] w fun e w' => e = .returned (.tuple #[.slice none 0 0, .int .i64 0]) ∧ XAt w' q cs x ∧ Below w.heap.size w w' := by
  obtain ⟨w1, hw1⟩ : ∃ z, z = w.alloc (.cells (tlA t) 46) := ⟨_, rfl⟩
  have HG1 : Hid (Hg w q cs x t w1) := Hg.make h hw1
  have q1 : decide (t.ep < x.ep) = true := decide_eq_true h1
  clear h h1
  go_enter Tryz.func61, Tryz.ntmps61
  go_upto_region 1 with (refine wpList_boxAt rfl 46 (.tmp 1) rfl (tlA t) rfl ?_; rw [← hw1]; clear hw1)
  refine start_held (S := fun u => Hg w q cs x t u) 7 rfl (by kernel_rfl) (HG1.out.go (Below.refl _ _).drew) ?_
  simp only [Array.replicate_succ, Array.replicate_zero, List.push_toArray, List.nil_append, List.cons_append]
  have hS0 := HG1.out.go (Below.refl _ _).drew
  generalize w1.drew = z1 at *
  refine tkq 0 hS0 ?_
  refine tkf 1 hS0 rfl (fun u hu => by have zz0 := (fun (u : World) (hu : Hg w q cs x t u) => tl_ep hu.tl) u hu; go_simp; try rfl) ?_
  refine tkq 2 hS0 ?_
  refine tkq 3 hS0 ?_
  refine tkq 4 hS0 ?_
  refine tkf 5 hS0 rfl (fun u hu => by have zz0 := (fun (u : World) (hu : Hg w q cs x t u) => hu.xt.ep) u hu; go_simp; try rfl) ?_
  refine tkq 6 hS0 ?_
  refine done_held (by kernel_rfl) ?_ _
  go_wp2
  go_ret2
  exact ⟨rfl, hS0.xt, hS0.bel⟩
set_option maxRecDepth 100000 in
set_option maxHeartbeats 2000000 in
theorem stops_tell {w : World} {q : Nat} {cs : Array Value} {x : Rx} {t : Tl} (h : XAt w q cs x) (h1 : t.ep = x.ep) (h2 : 0 < x.ep) (h3 : x.un = false) (h4 : x.lt = 0) : Calls Tryz.prog 61 #[.pointer (some ⟨q, 0, none⟩), .agg (tlA t)] w fun e w' => ∃ v, e = .returned (.tuple #[v, .int .i64 0]) ∧ LsAt w.heap.size w' v (some (rxTell x)) ∧ XAt w' q cs x ∧ Below w.heap.size w w' := by
  obtain ⟨w1, hw1⟩ : ∃ z, z = w.alloc (.cells (tlA t) 46) := ⟨_, rfl⟩
  have HG1 : Hid (Hg w q cs x t w1) := Hg.make h hw1
  have q1 : decide (t.ep < x.ep) = false := decide_eq_false (by omega)
  have q2 : (t.ep == x.ep) = true := by rw [beq_iff_eq]; exact h1
  have q3 : decide (0 < x.ep) = true := decide_eq_true h2
  have q4 : (x.lt == 0) = true := by rw [beq_iff_eq]; exact h4
  have UN : Hid (x.un = false) := h3
  clear h2 h3 h4
  clear h h1
  go_enter Tryz.func61, Tryz.ntmps61
  go_upto_region 1 with (refine wpList_boxAt rfl 46 (.tmp 1) rfl (tlA t) rfl ?_; rw [← hw1]; clear hw1)
  refine start_held (S := fun u => Hg w q cs x t u) 7 rfl (by kernel_rfl) (HG1.out.go (Below.refl _ _).drew) ?_
  simp only [Array.replicate_succ, Array.replicate_zero, List.push_toArray, List.nil_append, List.cons_append]
  have hS0 := HG1.out.go (Below.refl _ _).drew
  generalize w1.drew = z1 at *
  refine tkq 0 hS0 ?_
  refine tkf 1 hS0 rfl (fun u hu => by have zz0 := (fun (u : World) (hu : Hg w q cs x t u) => tl_ep hu.tl) u hu; go_simp; try rfl) ?_
  refine tkq 2 hS0 ?_
  refine tkq 3 hS0 ?_
  refine tkq 4 hS0 ?_
  refine tkf 5 hS0 rfl (fun u hu => by have zz0 := (fun (u : World) (hu : Hg w q cs x t u) => hu.xt.ep) u hu; go_simp; try rfl) ?_
  refine tkq 6 hS0 ?_
  refine done_held (by kernel_rfl) ?_ _
  go_upto_region 3 with fail
  have HG3 : Hid (Hg w q cs x t z1) := hS0
  clear hS0
  refine start_held (S := fun u => Hg w q cs x t u) 7 rfl (by kernel_rfl) (HG3.out.go (Below.refl _ _).drew) ?_
  simp only [Array.replicate_succ, Array.replicate_zero, List.push_toArray, List.nil_append, List.cons_append]
  have hS0 := HG3.out.go (Below.refl _ _).drew
  generalize z1.drew = z3 at *
  refine tkq 0 hS0 ?_
  refine tkf 1 hS0 rfl (fun u hu => by have zz0 := (fun (u : World) (hu : Hg w q cs x t u) => tl_ep hu.tl) u hu; go_simp; try rfl) ?_
  refine tkq 2 hS0 ?_
  refine tkq 3 hS0 ?_
  refine tkq 4 hS0 ?_
  refine tkf 5 hS0 rfl (fun u hu => by have zz0 := (fun (u : World) (hu : Hg w q cs x t u) => hu.xt.ep) u hu; go_simp; try rfl) ?_
  refine tkq 6 hS0 ?_
  refine done_held (by kernel_rfl) ?_ _
  have HG4 : Hid (Hg w q cs x t z3) := hS0
  clear hS0
  have k21 := HG4.out.xt.ep
  have k23 := HG4.out.xt.un
  have k22 := HG4.out.xt.lt_
  rw [UN.out] at k23
  have cT := rtell_any HG4.out.xt
  go_wp2_with (go_at_call 33; refine cT.mono ?_; clear cT; rintro e z6 ⟨v6, rfl, lv6, b6⟩; have HZ6 : Hid (LsAt w.heap.size z6 v6 (some (rxTell x)) ∧ Hg w q cs x t z6) := ⟨lv6.mono HG4.out.bel.size, HG4.out.go b6⟩; clear lv6 b6)
  go_ret2
  exact ⟨_, rfl, HZ6.out.1, HZ6.out.2.xt, HZ6.out.2.bel⟩
set_option maxRecDepth 100000 in
set_option maxHeartbeats 2000000 in
theorem stops_nil1 {w : World} {q : Nat} {cs : Array Value} {x : Rx} {t : Tl} (h : XAt w q cs x) (h1 : t.ep = x.ep) (h2 : ¬ 0 < x.ep) : Calls Tryz.prog 61 #[.pointer (some ⟨q, 0, none⟩), .agg (tlA t)] w fun e w' => e = .returned (.tuple #[.slice none 0 0, .int .i64 0]) ∧ XAt w' q cs x ∧ Below w.heap.size w w' := by
  obtain ⟨w1, hw1⟩ : ∃ z, z = w.alloc (.cells (tlA t) 46) := ⟨_, rfl⟩
  have HG1 : Hid (Hg w q cs x t w1) := Hg.make h hw1
  have q1 : decide (t.ep < x.ep) = false := decide_eq_false (by omega)
  have q2 : (t.ep == x.ep) = true := by rw [beq_iff_eq]; exact h1
  have q3 : decide (0 < x.ep) = false := decide_eq_false h2
  clear h2
  clear h h1
  go_enter Tryz.func61, Tryz.ntmps61
  go_upto_region 1 with (refine wpList_boxAt rfl 46 (.tmp 1) rfl (tlA t) rfl ?_; rw [← hw1]; clear hw1)
  refine start_held (S := fun u => Hg w q cs x t u) 7 rfl (by kernel_rfl) (HG1.out.go (Below.refl _ _).drew) ?_
  simp only [Array.replicate_succ, Array.replicate_zero, List.push_toArray, List.nil_append, List.cons_append]
  have hS0 := HG1.out.go (Below.refl _ _).drew
  generalize w1.drew = z1 at *
  refine tkq 0 hS0 ?_
  refine tkf 1 hS0 rfl (fun u hu => by have zz0 := (fun (u : World) (hu : Hg w q cs x t u) => tl_ep hu.tl) u hu; go_simp; try rfl) ?_
  refine tkq 2 hS0 ?_
  refine tkq 3 hS0 ?_
  refine tkq 4 hS0 ?_
  refine tkf 5 hS0 rfl (fun u hu => by have zz0 := (fun (u : World) (hu : Hg w q cs x t u) => hu.xt.ep) u hu; go_simp; try rfl) ?_
  refine tkq 6 hS0 ?_
  refine done_held (by kernel_rfl) ?_ _
  go_upto_region 3 with fail
  have HG3 : Hid (Hg w q cs x t z1) := hS0
  clear hS0
  refine start_held (S := fun u => Hg w q cs x t u) 7 rfl (by kernel_rfl) (HG3.out.go (Below.refl _ _).drew) ?_
  simp only [Array.replicate_succ, Array.replicate_zero, List.push_toArray, List.nil_append, List.cons_append]
  have hS0 := HG3.out.go (Below.refl _ _).drew
  generalize z1.drew = z3 at *
  refine tkq 0 hS0 ?_
  refine tkf 1 hS0 rfl (fun u hu => by have zz0 := (fun (u : World) (hu : Hg w q cs x t u) => tl_ep hu.tl) u hu; go_simp; try rfl) ?_
  refine tkq 2 hS0 ?_
  refine tkq 3 hS0 ?_
  refine tkq 4 hS0 ?_
  refine tkf 5 hS0 rfl (fun u hu => by have zz0 := (fun (u : World) (hu : Hg w q cs x t u) => hu.xt.ep) u hu; go_simp; try rfl) ?_
  refine tkq 6 hS0 ?_
  refine done_held (by kernel_rfl) ?_ _
  have HG4 : Hid (Hg w q cs x t z3) := hS0
  clear hS0
  have k21 := HG4.out.xt.ep
  have k23 := HG4.out.xt.un
  have k22 := HG4.out.xt.lt_
  go_wp2
  go_ret2
  exact ⟨rfl, HG4.out.xt, HG4.out.bel⟩
set_option maxRecDepth 100000 in
set_option maxHeartbeats 2000000 in
theorem stops_nil2 {w : World} {q : Nat} {cs : Array Value} {x : Rx} {t : Tl} (h : XAt w q cs x) (h1 : t.ep = x.ep) (h2 : 0 < x.ep) (h3 : x.un = true) : Calls Tryz.prog 61 #[.pointer (some ⟨q, 0, none⟩), .agg (tlA t)] w fun e w' => e = .returned (.tuple #[.slice none 0 0, .int .i64 0]) ∧ XAt w' q cs x ∧ Below w.heap.size w w' := by
  obtain ⟨w1, hw1⟩ : ∃ z, z = w.alloc (.cells (tlA t) 46) := ⟨_, rfl⟩
  have HG1 : Hid (Hg w q cs x t w1) := Hg.make h hw1
  have q1 : decide (t.ep < x.ep) = false := decide_eq_false (by omega)
  have q2 : (t.ep == x.ep) = true := by rw [beq_iff_eq]; exact h1
  have q3 : decide (0 < x.ep) = true := decide_eq_true h2
  have UN : Hid (x.un = true) := h3
  clear h2 h3
  clear h h1
  go_enter Tryz.func61, Tryz.ntmps61
  go_upto_region 1 with (refine wpList_boxAt rfl 46 (.tmp 1) rfl (tlA t) rfl ?_; rw [← hw1]; clear hw1)
  refine start_held (S := fun u => Hg w q cs x t u) 7 rfl (by kernel_rfl) (HG1.out.go (Below.refl _ _).drew) ?_
  simp only [Array.replicate_succ, Array.replicate_zero, List.push_toArray, List.nil_append, List.cons_append]
  have hS0 := HG1.out.go (Below.refl _ _).drew
  generalize w1.drew = z1 at *
  refine tkq 0 hS0 ?_
  refine tkf 1 hS0 rfl (fun u hu => by have zz0 := (fun (u : World) (hu : Hg w q cs x t u) => tl_ep hu.tl) u hu; go_simp; try rfl) ?_
  refine tkq 2 hS0 ?_
  refine tkq 3 hS0 ?_
  refine tkq 4 hS0 ?_
  refine tkf 5 hS0 rfl (fun u hu => by have zz0 := (fun (u : World) (hu : Hg w q cs x t u) => hu.xt.ep) u hu; go_simp; try rfl) ?_
  refine tkq 6 hS0 ?_
  refine done_held (by kernel_rfl) ?_ _
  go_upto_region 3 with fail
  have HG3 : Hid (Hg w q cs x t z1) := hS0
  clear hS0
  refine start_held (S := fun u => Hg w q cs x t u) 7 rfl (by kernel_rfl) (HG3.out.go (Below.refl _ _).drew) ?_
  simp only [Array.replicate_succ, Array.replicate_zero, List.push_toArray, List.nil_append, List.cons_append]
  have hS0 := HG3.out.go (Below.refl _ _).drew
  generalize z1.drew = z3 at *
  refine tkq 0 hS0 ?_
  refine tkf 1 hS0 rfl (fun u hu => by have zz0 := (fun (u : World) (hu : Hg w q cs x t u) => tl_ep hu.tl) u hu; go_simp; try rfl) ?_
  refine tkq 2 hS0 ?_
  refine tkq 3 hS0 ?_
  refine tkq 4 hS0 ?_
  refine tkf 5 hS0 rfl (fun u hu => by have zz0 := (fun (u : World) (hu : Hg w q cs x t u) => hu.xt.ep) u hu; go_simp; try rfl) ?_
  refine tkq 6 hS0 ?_
  refine done_held (by kernel_rfl) ?_ _
  have HG4 : Hid (Hg w q cs x t z3) := hS0
  clear hS0
  have k21 := HG4.out.xt.ep
  have k23 := HG4.out.xt.un
  have k22 := HG4.out.xt.lt_
  rw [UN.out] at k23
  go_wp2
  go_ret2
  exact ⟨rfl, HG4.out.xt, HG4.out.bel⟩
set_option maxRecDepth 100000 in
set_option maxHeartbeats 2000000 in
theorem stops_nil3 {w : World} {q : Nat} {cs : Array Value} {x : Rx} {t : Tl} (h : XAt w q cs x) (h1 : t.ep = x.ep) (h2 : 0 < x.ep) (h3 : x.un = false) (h4 : x.lt ≠ 0) : Calls Tryz.prog 61 #[.pointer (some ⟨q, 0, none⟩), .agg (tlA t)] w fun e w' => e = .returned (.tuple #[.slice none 0 0, .int .i64 0]) ∧ XAt w' q cs x ∧ Below w.heap.size w w' := by
  obtain ⟨w1, hw1⟩ : ∃ z, z = w.alloc (.cells (tlA t) 46) := ⟨_, rfl⟩
  have HG1 : Hid (Hg w q cs x t w1) := Hg.make h hw1
  have q1 : decide (t.ep < x.ep) = false := decide_eq_false (by omega)
  have q2 : (t.ep == x.ep) = true := by rw [beq_iff_eq]; exact h1
  have q3 : decide (0 < x.ep) = true := decide_eq_true h2
  have q4 : (x.lt == 0) = false := by rw [beq_eq_false_iff_ne]; exact h4
  have UN : Hid (x.un = false) := h3
  clear h2 h3 h4
  clear h h1
  go_enter Tryz.func61, Tryz.ntmps61
  go_upto_region 1 with (refine wpList_boxAt rfl 46 (.tmp 1) rfl (tlA t) rfl ?_; rw [← hw1]; clear hw1)
  refine start_held (S := fun u => Hg w q cs x t u) 7 rfl (by kernel_rfl) (HG1.out.go (Below.refl _ _).drew) ?_
  simp only [Array.replicate_succ, Array.replicate_zero, List.push_toArray, List.nil_append, List.cons_append]
  have hS0 := HG1.out.go (Below.refl _ _).drew
  generalize w1.drew = z1 at *
  refine tkq 0 hS0 ?_
  refine tkf 1 hS0 rfl (fun u hu => by have zz0 := (fun (u : World) (hu : Hg w q cs x t u) => tl_ep hu.tl) u hu; go_simp; try rfl) ?_
  refine tkq 2 hS0 ?_
  refine tkq 3 hS0 ?_
  refine tkq 4 hS0 ?_
  refine tkf 5 hS0 rfl (fun u hu => by have zz0 := (fun (u : World) (hu : Hg w q cs x t u) => hu.xt.ep) u hu; go_simp; try rfl) ?_
  refine tkq 6 hS0 ?_
  refine done_held (by kernel_rfl) ?_ _
  go_upto_region 3 with fail
  have HG3 : Hid (Hg w q cs x t z1) := hS0
  clear hS0
  refine start_held (S := fun u => Hg w q cs x t u) 7 rfl (by kernel_rfl) (HG3.out.go (Below.refl _ _).drew) ?_
  simp only [Array.replicate_succ, Array.replicate_zero, List.push_toArray, List.nil_append, List.cons_append]
  have hS0 := HG3.out.go (Below.refl _ _).drew
  generalize z1.drew = z3 at *
  refine tkq 0 hS0 ?_
  refine tkf 1 hS0 rfl (fun u hu => by have zz0 := (fun (u : World) (hu : Hg w q cs x t u) => tl_ep hu.tl) u hu; go_simp; try rfl) ?_
  refine tkq 2 hS0 ?_
  refine tkq 3 hS0 ?_
  refine tkq 4 hS0 ?_
  refine tkf 5 hS0 rfl (fun u hu => by have zz0 := (fun (u : World) (hu : Hg w q cs x t u) => hu.xt.ep) u hu; go_simp; try rfl) ?_
  refine tkq 6 hS0 ?_
  refine done_held (by kernel_rfl) ?_ _
  have HG4 : Hid (Hg w q cs x t z3) := hS0
  clear hS0
  have k21 := HG4.out.xt.ep
  have k23 := HG4.out.xt.un
  have k22 := HG4.out.xt.lt_
  rw [UN.out] at k23
  go_wp2
  go_ret2
  exact ⟨rfl, HG4.out.xt, HG4.out.bel⟩
set_option maxRecDepth 100000 in
set_option maxHeartbeats 2000000 in
theorem stops_stand {w : World} {q : Nat} {cs : Array Value} {x : Rx} {t : Tl} (h : XAt w q cs x) (h1 : x.ep < t.ep) (h2 : x.un = false) : Calls Tryz.prog 61 #[.pointer (some ⟨q, 0, none⟩), .agg (tlA t)] w fun e w' => ∃ v, e = .returned (.tuple #[v, .int .i64 3]) ∧ LsAt w.heap.size w' v (some (rxTell { x with ep := t.ep, lt := 0 })) ∧ XAt w' q cs { x with ep := t.ep, lt := 0 } ∧ Xn q w w' := by
  obtain ⟨w1, hw1⟩ : ∃ z, z = w.alloc (.cells (tlA t) 46) := ⟨_, rfl⟩
  have HG1 : Hid (Hg w q cs x t w1) := Hg.make h hw1
  have q1 : decide (t.ep < x.ep) = false := decide_eq_false (by omega)
  have q2 : (t.ep == x.ep) = false := by rw [beq_eq_false_iff_ne]; omega
  have UN : Hid (x.un = false) := h2
  clear h2
  clear h h1
  go_enter Tryz.func61, Tryz.ntmps61
  go_upto_region 1 with (refine wpList_boxAt rfl 46 (.tmp 1) rfl (tlA t) rfl ?_; rw [← hw1]; clear hw1)
  refine start_held (S := fun u => Hg w q cs x t u) 7 rfl (by kernel_rfl) (HG1.out.go (Below.refl _ _).drew) ?_
  simp only [Array.replicate_succ, Array.replicate_zero, List.push_toArray, List.nil_append, List.cons_append]
  have hS0 := HG1.out.go (Below.refl _ _).drew
  generalize w1.drew = z1 at *
  refine tkq 0 hS0 ?_
  refine tkf 1 hS0 rfl (fun u hu => by have zz0 := (fun (u : World) (hu : Hg w q cs x t u) => tl_ep hu.tl) u hu; go_simp; try rfl) ?_
  refine tkq 2 hS0 ?_
  refine tkq 3 hS0 ?_
  refine tkq 4 hS0 ?_
  refine tkf 5 hS0 rfl (fun u hu => by have zz0 := (fun (u : World) (hu : Hg w q cs x t u) => hu.xt.ep) u hu; go_simp; try rfl) ?_
  refine tkq 6 hS0 ?_
  refine done_held (by kernel_rfl) ?_ _
  go_upto_region 3 with fail
  have HG3 : Hid (Hg w q cs x t z1) := hS0
  clear hS0
  refine start_held (S := fun u => Hg w q cs x t u) 7 rfl (by kernel_rfl) (HG3.out.go (Below.refl _ _).drew) ?_
  simp only [Array.replicate_succ, Array.replicate_zero, List.push_toArray, List.nil_append, List.cons_append]
  have hS0 := HG3.out.go (Below.refl _ _).drew
  generalize z1.drew = z3 at *
  refine tkq 0 hS0 ?_
  refine tkf 1 hS0 rfl (fun u hu => by have zz0 := (fun (u : World) (hu : Hg w q cs x t u) => tl_ep hu.tl) u hu; go_simp; try rfl) ?_
  refine tkq 2 hS0 ?_
  refine tkq 3 hS0 ?_
  refine tkq 4 hS0 ?_
  refine tkf 5 hS0 rfl (fun u hu => by have zz0 := (fun (u : World) (hu : Hg w q cs x t u) => hu.xt.ep) u hu; go_simp; try rfl) ?_
  refine tkq 6 hS0 ?_
  refine done_held (by kernel_rfl) ?_ _
  have Hz3 : Hid (XAt z3 q cs x ∧ Xn q w z3) := ⟨hS0.xt, Xn.below hS0.bel⟩
  have k2 := tl_ep hS0.tl
  have k21 := Hz3.out.1.ep
  have f21 := Hz3.out.1.froz 21
  clear hS0
  obtain ⟨y1, hy1⟩ : ∃ z, z3.setCell ⟨q, 21, none⟩ (.int .i64 t.ep) = z := ⟨_, rfl⟩
  have Hy1 : Hid (XAt y1 q cs { x with ep := t.ep } ∧ Xn q w y1) := by
    have e : z3.setCells q 21 [.int .i64 t.ep] = y1 := hy1
    show XAt y1 q cs { x with ep := t.ep } ∧ Xn q w y1
    rw [← e]
    exact ⟨Hz3.out.1.put 5 _ (rx_ep _ t.ep), Hz3.out.2.trans (Xn.only (Only.setCells _ _ _ _))⟩
  have k22 := Hy1.out.1.lt_
  have f22 := Hy1.out.1.froz 22
  obtain ⟨y2, hy2⟩ : ∃ z, y1.setCell ⟨q, 22, none⟩ (.int .i64 0) = z := ⟨_, rfl⟩
  have Hy2 : Hid (XAt y2 q cs { x with ep := t.ep, lt := 0 } ∧ Xn q w y2) := by
    have e : y1.setCells q 22 [.int .i64 0] = y2 := hy2
    show XAt y2 q cs { x with ep := t.ep, lt := 0 } ∧ Xn q w y2
    rw [← e]
    exact ⟨Hy1.out.1.put 6 _ (rx_lt _ 0), Hy1.out.2.trans (Xn.only (Only.setCells _ _ _ _))⟩
  have k23 := Hy2.out.1.un
  have k23b : y2.cell? ⟨q, 23, none⟩ = some (.bool false) := k23.trans (by rw [UN.out])
  clear k23
  have cT := rtell_any Hy2.out.1
  go_wp2_with (go_at_call 33; refine cT.mono ?_; clear cT; rintro e z6 ⟨v6, rfl, lv6, b6⟩; have HZ6 : Hid (LsAt w.heap.size z6 v6 (some (rxTell { x with ep := t.ep, lt := 0 })) ∧ XAt z6 q cs { x with ep := t.ep, lt := 0 } ∧ Xn q w z6) := ⟨lv6.mono Hy2.out.2.size, Hy2.out.1.go b6, Hy2.out.2.trans (Xn.below b6)⟩; clear lv6 b6)
  go_ret2
  exact ⟨_, rfl, HZ6.out.1, HZ6.out.2.1, HZ6.out.2.2⟩
set_option maxRecDepth 100000 in
set_option maxHeartbeats 2000000 in
theorem stops_keep1 {w : World} {q : Nat} {cs : Array Value} {x : Rx} {t : Tl} (h : XAt w q cs x) (h1 : x.ep < t.ep) (h2 : x.un = true) (h3 : x.mv.kd ≠ 1) : Calls Tryz.prog 61 #[.pointer (some ⟨q, 0, none⟩), .agg (tlA t)] w fun e w' => e = .returned (.tuple #[.slice none 0 0, .int .i64 0]) ∧ XAt w' q cs { x with ep := t.ep, lt := 0, st := true } ∧ Xn q w w' := by
  obtain ⟨w1, hw1⟩ : ∃ z, z = w.alloc (.cells (tlA t) 46) := ⟨_, rfl⟩
  have HG1 : Hid (Hg w q cs x t w1) := Hg.make h hw1
  have q1 : decide (t.ep < x.ep) = false := decide_eq_false (by omega)
  have q2 : (t.ep == x.ep) = false := by rw [beq_eq_false_iff_ne]; omega
  have UN : Hid (x.un = true) := h2
  have q3 : (x.mv.kd == 1) = false := by rw [beq_eq_false_iff_ne]; exact h3
  clear h2 h3
  clear h h1
  go_enter Tryz.func61, Tryz.ntmps61
  go_upto_region 1 with (refine wpList_boxAt rfl 46 (.tmp 1) rfl (tlA t) rfl ?_; rw [← hw1]; clear hw1)
  refine start_held (S := fun u => Hg w q cs x t u) 7 rfl (by kernel_rfl) (HG1.out.go (Below.refl _ _).drew) ?_
  simp only [Array.replicate_succ, Array.replicate_zero, List.push_toArray, List.nil_append, List.cons_append]
  have hS0 := HG1.out.go (Below.refl _ _).drew
  generalize w1.drew = z1 at *
  refine tkq 0 hS0 ?_
  refine tkf 1 hS0 rfl (fun u hu => by have zz0 := (fun (u : World) (hu : Hg w q cs x t u) => tl_ep hu.tl) u hu; go_simp; try rfl) ?_
  refine tkq 2 hS0 ?_
  refine tkq 3 hS0 ?_
  refine tkq 4 hS0 ?_
  refine tkf 5 hS0 rfl (fun u hu => by have zz0 := (fun (u : World) (hu : Hg w q cs x t u) => hu.xt.ep) u hu; go_simp; try rfl) ?_
  refine tkq 6 hS0 ?_
  refine done_held (by kernel_rfl) ?_ _
  go_upto_region 3 with fail
  have HG3 : Hid (Hg w q cs x t z1) := hS0
  clear hS0
  refine start_held (S := fun u => Hg w q cs x t u) 7 rfl (by kernel_rfl) (HG3.out.go (Below.refl _ _).drew) ?_
  simp only [Array.replicate_succ, Array.replicate_zero, List.push_toArray, List.nil_append, List.cons_append]
  have hS0 := HG3.out.go (Below.refl _ _).drew
  generalize z1.drew = z3 at *
  refine tkq 0 hS0 ?_
  refine tkf 1 hS0 rfl (fun u hu => by have zz0 := (fun (u : World) (hu : Hg w q cs x t u) => tl_ep hu.tl) u hu; go_simp; try rfl) ?_
  refine tkq 2 hS0 ?_
  refine tkq 3 hS0 ?_
  refine tkq 4 hS0 ?_
  refine tkf 5 hS0 rfl (fun u hu => by have zz0 := (fun (u : World) (hu : Hg w q cs x t u) => hu.xt.ep) u hu; go_simp; try rfl) ?_
  refine tkq 6 hS0 ?_
  refine done_held (by kernel_rfl) ?_ _
  have Hz3 : Hid (XAt z3 q cs x ∧ Xn q w z3) := ⟨hS0.xt, Xn.below hS0.bel⟩
  have k2 := tl_ep hS0.tl
  have k21 := Hz3.out.1.ep
  have f21 := Hz3.out.1.froz 21
  clear hS0
  obtain ⟨y1, hy1⟩ : ∃ z, z3.setCell ⟨q, 21, none⟩ (.int .i64 t.ep) = z := ⟨_, rfl⟩
  have Hy1 : Hid (XAt y1 q cs { x with ep := t.ep } ∧ Xn q w y1) := by
    have e : z3.setCells q 21 [.int .i64 t.ep] = y1 := hy1
    show XAt y1 q cs { x with ep := t.ep } ∧ Xn q w y1
    rw [← e]
    exact ⟨Hz3.out.1.put 5 _ (rx_ep _ t.ep), Hz3.out.2.trans (Xn.only (Only.setCells _ _ _ _))⟩
  have k22 := Hy1.out.1.lt_
  have f22 := Hy1.out.1.froz 22
  obtain ⟨y2, hy2⟩ : ∃ z, y1.setCell ⟨q, 22, none⟩ (.int .i64 0) = z := ⟨_, rfl⟩
  have Hy2 : Hid (XAt y2 q cs { x with ep := t.ep, lt := 0 } ∧ Xn q w y2) := by
    have e : y1.setCells q 22 [.int .i64 0] = y2 := hy2
    show XAt y2 q cs { x with ep := t.ep, lt := 0 } ∧ Xn q w y2
    rw [← e]
    exact ⟨Hy1.out.1.put 6 _ (rx_lt _ 0), Hy1.out.2.trans (Xn.only (Only.setCells _ _ _ _))⟩
  have k23 := Hy2.out.1.un
  have k23b : y2.cell? ⟨q, 23, none⟩ = some (.bool true) := k23.trans (by rw [UN.out])
  clear k23
  have f38 := Hy2.out.1.froz 38
  have k38 := Hy2.out.1.st
  obtain ⟨y3, hy3⟩ : ∃ z, y2.setCell ⟨q, 38, none⟩ (.bool true) = z := ⟨_, rfl⟩
  have Hy3 : Hid (XAt y3 q cs { x with ep := t.ep, lt := 0, st := true } ∧ Xn q w y3) := by
    have e : y2.setCells q 38 [.bool true] = y3 := hy3
    show XAt y3 q cs { x with ep := t.ep, lt := 0, st := true } ∧ Xn q w y3
    rw [← e]
    exact ⟨Hy2.out.1.put 22 _ (rx_st _ true), Hy2.out.2.trans (Xn.only (Only.setCells _ _ _ _))⟩
  have k24 : y3.cell? ⟨q, 24, none⟩ = some (.int .i64 x.mv.kd) := Hy3.out.1.cell 8
  have k39 : y3.cell? ⟨q, 39, none⟩ = some (.bool x.cu) := Hy3.out.1.cu
  go_wp2
  go_ret2
  exact ⟨rfl, Hy3.out.1, Hy3.out.2⟩
set_option maxRecDepth 100000 in
set_option maxHeartbeats 2000000 in
theorem stops_keep2 {w : World} {q : Nat} {cs : Array Value} {x : Rx} {t : Tl} (h : XAt w q cs x) (h1 : x.ep < t.ep) (h2 : x.un = true) (h3 : x.mv.kd = 1) (h4 : x.cu = true) : Calls Tryz.prog 61 #[.pointer (some ⟨q, 0, none⟩), .agg (tlA t)] w fun e w' => e = .returned (.tuple #[.slice none 0 0, .int .i64 0]) ∧ XAt w' q cs { x with ep := t.ep, lt := 0, st := true } ∧ Xn q w w' := by
  obtain ⟨w1, hw1⟩ : ∃ z, z = w.alloc (.cells (tlA t) 46) := ⟨_, rfl⟩
  have HG1 : Hid (Hg w q cs x t w1) := Hg.make h hw1
  have q1 : decide (t.ep < x.ep) = false := decide_eq_false (by omega)
  have q2 : (t.ep == x.ep) = false := by rw [beq_eq_false_iff_ne]; omega
  have UN : Hid (x.un = true) := h2
  have CU : Hid (x.cu = true) := h4
  have q3 : (x.mv.kd == 1) = true := by rw [beq_iff_eq]; exact h3
  clear h2 h3 h4
  clear h h1
  go_enter Tryz.func61, Tryz.ntmps61
  go_upto_region 1 with (refine wpList_boxAt rfl 46 (.tmp 1) rfl (tlA t) rfl ?_; rw [← hw1]; clear hw1)
  refine start_held (S := fun u => Hg w q cs x t u) 7 rfl (by kernel_rfl) (HG1.out.go (Below.refl _ _).drew) ?_
  simp only [Array.replicate_succ, Array.replicate_zero, List.push_toArray, List.nil_append, List.cons_append]
  have hS0 := HG1.out.go (Below.refl _ _).drew
  generalize w1.drew = z1 at *
  refine tkq 0 hS0 ?_
  refine tkf 1 hS0 rfl (fun u hu => by have zz0 := (fun (u : World) (hu : Hg w q cs x t u) => tl_ep hu.tl) u hu; go_simp; try rfl) ?_
  refine tkq 2 hS0 ?_
  refine tkq 3 hS0 ?_
  refine tkq 4 hS0 ?_
  refine tkf 5 hS0 rfl (fun u hu => by have zz0 := (fun (u : World) (hu : Hg w q cs x t u) => hu.xt.ep) u hu; go_simp; try rfl) ?_
  refine tkq 6 hS0 ?_
  refine done_held (by kernel_rfl) ?_ _
  go_upto_region 3 with fail
  have HG3 : Hid (Hg w q cs x t z1) := hS0
  clear hS0
  refine start_held (S := fun u => Hg w q cs x t u) 7 rfl (by kernel_rfl) (HG3.out.go (Below.refl _ _).drew) ?_
  simp only [Array.replicate_succ, Array.replicate_zero, List.push_toArray, List.nil_append, List.cons_append]
  have hS0 := HG3.out.go (Below.refl _ _).drew
  generalize z1.drew = z3 at *
  refine tkq 0 hS0 ?_
  refine tkf 1 hS0 rfl (fun u hu => by have zz0 := (fun (u : World) (hu : Hg w q cs x t u) => tl_ep hu.tl) u hu; go_simp; try rfl) ?_
  refine tkq 2 hS0 ?_
  refine tkq 3 hS0 ?_
  refine tkq 4 hS0 ?_
  refine tkf 5 hS0 rfl (fun u hu => by have zz0 := (fun (u : World) (hu : Hg w q cs x t u) => hu.xt.ep) u hu; go_simp; try rfl) ?_
  refine tkq 6 hS0 ?_
  refine done_held (by kernel_rfl) ?_ _
  have Hz3 : Hid (XAt z3 q cs x ∧ Xn q w z3) := ⟨hS0.xt, Xn.below hS0.bel⟩
  have k2 := tl_ep hS0.tl
  have k21 := Hz3.out.1.ep
  have f21 := Hz3.out.1.froz 21
  clear hS0
  obtain ⟨y1, hy1⟩ : ∃ z, z3.setCell ⟨q, 21, none⟩ (.int .i64 t.ep) = z := ⟨_, rfl⟩
  have Hy1 : Hid (XAt y1 q cs { x with ep := t.ep } ∧ Xn q w y1) := by
    have e : z3.setCells q 21 [.int .i64 t.ep] = y1 := hy1
    show XAt y1 q cs { x with ep := t.ep } ∧ Xn q w y1
    rw [← e]
    exact ⟨Hz3.out.1.put 5 _ (rx_ep _ t.ep), Hz3.out.2.trans (Xn.only (Only.setCells _ _ _ _))⟩
  have k22 := Hy1.out.1.lt_
  have f22 := Hy1.out.1.froz 22
  obtain ⟨y2, hy2⟩ : ∃ z, y1.setCell ⟨q, 22, none⟩ (.int .i64 0) = z := ⟨_, rfl⟩
  have Hy2 : Hid (XAt y2 q cs { x with ep := t.ep, lt := 0 } ∧ Xn q w y2) := by
    have e : y1.setCells q 22 [.int .i64 0] = y2 := hy2
    show XAt y2 q cs { x with ep := t.ep, lt := 0 } ∧ Xn q w y2
    rw [← e]
    exact ⟨Hy1.out.1.put 6 _ (rx_lt _ 0), Hy1.out.2.trans (Xn.only (Only.setCells _ _ _ _))⟩
  have k23 := Hy2.out.1.un
  have k23b : y2.cell? ⟨q, 23, none⟩ = some (.bool true) := k23.trans (by rw [UN.out])
  clear k23
  have f38 := Hy2.out.1.froz 38
  have k38 := Hy2.out.1.st
  obtain ⟨y3, hy3⟩ : ∃ z, y2.setCell ⟨q, 38, none⟩ (.bool true) = z := ⟨_, rfl⟩
  have Hy3 : Hid (XAt y3 q cs { x with ep := t.ep, lt := 0, st := true } ∧ Xn q w y3) := by
    have e : y2.setCells q 38 [.bool true] = y3 := hy3
    show XAt y3 q cs { x with ep := t.ep, lt := 0, st := true } ∧ Xn q w y3
    rw [← e]
    exact ⟨Hy2.out.1.put 22 _ (rx_st _ true), Hy2.out.2.trans (Xn.only (Only.setCells _ _ _ _))⟩
  have k24 : y3.cell? ⟨q, 24, none⟩ = some (.int .i64 x.mv.kd) := Hy3.out.1.cell 8
  have k39 : y3.cell? ⟨q, 39, none⟩ = some (.bool x.cu) := Hy3.out.1.cu
  rw [CU.out] at k39
  go_wp2
  go_ret2
  exact ⟨rfl, Hy3.out.1, Hy3.out.2⟩
set_option maxRecDepth 100000 in
set_option maxHeartbeats 2000000 in
theorem stops_cut {w : World} {q : Nat} {cs : Array Value} {x : Rx} {t : Tl} (h : XAt w q cs x) (h1 : x.ep < t.ep) {ku ka kv : Nat} (ok : Kin.Ok ku ka kv) (hg : x.gn ≤ 9223372036854775807) (HK0 : ∀ u, Calls Tryz.prog 64 #[.agg cs] u fun e w' => ∃ z, e = .returned z ∧ (z = .agg #[.int .i64 ku, .int .i64 ka, .int .i64 kv] ∧ Below u.heap.size u w')) (h2 : x.un = true) (h3 : x.mv.kd = 1) (h4 : x.cu = false) : Calls Tryz.prog 61 #[.pointer (some ⟨q, 0, none⟩), .agg (tlA t)] w fun e w' => e = .returned (.tuple #[.slice none 0 0, .int .i64 0]) ∧ XAt w' q cs { x with ep := t.ep, lt := 0, st := true, mv := { x.mv with n := (Kin.stopC ku ka kv x.mv.n x.gn : Nat), tx := (Grid.shiftR ((x.mv.fx, x.mv.fy), x.mv.fd) x.mv.dr (Kin.stopC ku ka kv x.mv.n x.gn : Nat)).1.1, ty := (Grid.shiftR ((x.mv.fx, x.mv.fy), x.mv.fd) x.mv.dr (Kin.stopC ku ka kv x.mv.n x.gn : Nat)).1.2, td := (Grid.shiftR ((x.mv.fx, x.mv.fy), x.mv.fd) x.mv.dr (Kin.stopC ku ka kv x.mv.n x.gn : Nat)).2 }, lf := max 1 (Kin.stopT ku ka kv x.mv.n x.gn : Nat), cu := true } ∧ Xn q w w' := by
  obtain ⟨w1, hw1⟩ : ∃ z, z = w.alloc (.cells (tlA t) 46) := ⟨_, rfl⟩
  have HG1 : Hid (Hg w q cs x t w1) := Hg.make h hw1
  have q1 : decide (t.ep < x.ep) = false := decide_eq_false (by omega)
  have q2 : (t.ep == x.ep) = false := by rw [beq_eq_false_iff_ne]; omega
  have UN : Hid (x.un = true) := h2
  have CU : Hid (x.cu = false) := h4
  have q3 : (x.mv.kd == 1) = true := by rw [beq_iff_eq]; exact h3
  have HK : Hid _ := HK0
  have HST : Hid _ := rkstop_ret ok x.mv.n x.gn hg
  have HSH : Hid _ := rshift_ret x.mv.fx x.mv.fy x.mv.fd x.mv.dr (Kin.stopC ku ka kv x.mv.n x.gn : Nat)
  generalize ((Kin.stopC ku ka kv x.mv.n x.gn : Nat) : Int) = zc at *
  generalize ((Kin.stopT ku ka kv x.mv.n x.gn : Nat) : Int) = zt at *
  generalize Grid.shiftR ((x.mv.fx, x.mv.fy), x.mv.fd) x.mv.dr zc = tp at *
  generalize Grid.mayShift x.mv.dr zc = ms at *
  clear h2 h3 h4 ok hg HK0
  clear h h1
  go_enter Tryz.func61, Tryz.ntmps61
  go_upto_region 1 with (refine wpList_boxAt rfl 46 (.tmp 1) rfl (tlA t) rfl ?_; rw [← hw1]; clear hw1)
  refine start_held (S := fun u => Hg w q cs x t u) 7 rfl (by kernel_rfl) (HG1.out.go (Below.refl _ _).drew) ?_
  simp only [Array.replicate_succ, Array.replicate_zero, List.push_toArray, List.nil_append, List.cons_append]
  have hS0 := HG1.out.go (Below.refl _ _).drew
  generalize w1.drew = z1 at *
  refine tkq 0 hS0 ?_
  refine tkf 1 hS0 rfl (fun u hu => by have zz0 := (fun (u : World) (hu : Hg w q cs x t u) => tl_ep hu.tl) u hu; go_simp; try rfl) ?_
  refine tkq 2 hS0 ?_
  refine tkq 3 hS0 ?_
  refine tkq 4 hS0 ?_
  refine tkf 5 hS0 rfl (fun u hu => by have zz0 := (fun (u : World) (hu : Hg w q cs x t u) => hu.xt.ep) u hu; go_simp; try rfl) ?_
  refine tkq 6 hS0 ?_
  refine done_held (by kernel_rfl) ?_ _
  go_upto_region 3 with fail
  have HG3 : Hid (Hg w q cs x t z1) := hS0
  clear hS0
  refine start_held (S := fun u => Hg w q cs x t u) 7 rfl (by kernel_rfl) (HG3.out.go (Below.refl _ _).drew) ?_
  simp only [Array.replicate_succ, Array.replicate_zero, List.push_toArray, List.nil_append, List.cons_append]
  have hS0 := HG3.out.go (Below.refl _ _).drew
  generalize z1.drew = z3 at *
  refine tkq 0 hS0 ?_
  refine tkf 1 hS0 rfl (fun u hu => by have zz0 := (fun (u : World) (hu : Hg w q cs x t u) => tl_ep hu.tl) u hu; go_simp; try rfl) ?_
  refine tkq 2 hS0 ?_
  refine tkq 3 hS0 ?_
  refine tkq 4 hS0 ?_
  refine tkf 5 hS0 rfl (fun u hu => by have zz0 := (fun (u : World) (hu : Hg w q cs x t u) => hu.xt.ep) u hu; go_simp; try rfl) ?_
  refine tkq 6 hS0 ?_
  refine done_held (by kernel_rfl) ?_ _
  have Hz3 : Hid (XAt z3 q cs x ∧ Xn q w z3) := ⟨hS0.xt, Xn.below hS0.bel⟩
  have k2 := tl_ep hS0.tl
  have k21 := Hz3.out.1.ep
  have f21 := Hz3.out.1.froz 21
  clear hS0
  obtain ⟨y1, hy1⟩ : ∃ z, z3.setCell ⟨q, 21, none⟩ (.int .i64 t.ep) = z := ⟨_, rfl⟩
  have Hy1 : Hid (XAt y1 q cs { x with ep := t.ep } ∧ Xn q w y1) := by
    have e : z3.setCells q 21 [.int .i64 t.ep] = y1 := hy1
    show XAt y1 q cs { x with ep := t.ep } ∧ Xn q w y1
    rw [← e]
    exact ⟨Hz3.out.1.put 5 _ (rx_ep _ t.ep), Hz3.out.2.trans (Xn.only (Only.setCells _ _ _ _))⟩
  have k22 := Hy1.out.1.lt_
  have f22 := Hy1.out.1.froz 22
  obtain ⟨y2, hy2⟩ : ∃ z, y1.setCell ⟨q, 22, none⟩ (.int .i64 0) = z := ⟨_, rfl⟩
  have Hy2 : Hid (XAt y2 q cs { x with ep := t.ep, lt := 0 } ∧ Xn q w y2) := by
    have e : y1.setCells q 22 [.int .i64 0] = y2 := hy2
    show XAt y2 q cs { x with ep := t.ep, lt := 0 } ∧ Xn q w y2
    rw [← e]
    exact ⟨Hy1.out.1.put 6 _ (rx_lt _ 0), Hy1.out.2.trans (Xn.only (Only.setCells _ _ _ _))⟩
  have k23 := Hy2.out.1.un
  have k23b : y2.cell? ⟨q, 23, none⟩ = some (.bool true) := k23.trans (by rw [UN.out])
  clear k23
  have f38 := Hy2.out.1.froz 38
  have k38 := Hy2.out.1.st
  obtain ⟨y3, hy3⟩ : ∃ z, y2.setCell ⟨q, 38, none⟩ (.bool true) = z := ⟨_, rfl⟩
  have Hy3 : Hid (XAt y3 q cs { x with ep := t.ep, lt := 0, st := true } ∧ Xn q w y3) := by
    have e : y2.setCells q 38 [.bool true] = y3 := hy3
    show XAt y3 q cs { x with ep := t.ep, lt := 0, st := true } ∧ Xn q w y3
    rw [← e]
    exact ⟨Hy2.out.1.put 22 _ (rx_st _ true), Hy2.out.2.trans (Xn.only (Only.setCells _ _ _ _))⟩
  have k24 : y3.cell? ⟨q, 24, none⟩ = some (.int .i64 x.mv.kd) := Hy3.out.1.cell 8
  have k39 : y3.cell? ⟨q, 39, none⟩ = some (.bool x.cu) := Hy3.out.1.cu
  rw [CU.out] at k39
  go_upto_region 13 with fail
  try rw [hy3]
  clear hy3 hy2 hy1 k2 k21 f21 k22 f22 k23b f38 k38 k24 k39
  refine start_held (S := fun u => Below y3.drew.heap.size y3.drew u) 20 rfl (by kernel_rfl) (Below.refl _ _) ?_
  simp only [Array.replicate_succ, Array.replicate_zero, List.push_toArray, List.nil_append, List.cons_append]
  have hS0 : Below y3.drew.heap.size y3.drew y3.drew := Below.refl _ _
  have BB : Hid (∀ u, Below y3.drew.heap.size y3.drew u → Below y3.heap.size y3 u) := fun u hu => (Below.refl _ _).drew.trans (hu.mono (Below.refl y3.heap.size y3).drew.size)
  generalize y3.drew = v0 at *
  refine tkq 0 hS0 ?_
  refine tkq 1 hS0 ?_
  refine tkq 2 hS0 ?_
  refine tkf 3 hS0 rfl (v := .agg cs) (fun u hu => by exact run_load_at 26 _ rfl ⟨q, 0, none⟩ rfl _ ((Hy3.out.1.go (BB.out _ hu)).conf)) ?_
  refine tkq 5 hS0 ?_
  refine tkq 6 hS0 ?_
  refine tkq 7 hS0 ?_
  refine tkq 8 hS0 ?_
  refine tkf 9 hS0 rfl (fun u hu => by have zz0 := (fun (u : World) (hu : Below v0.heap.size v0 u) => ((Hy3.out.1.go (BB.out _ hu)).cell 10 : u.cell? ⟨q, 26, none⟩ = some (.int .i64 x.mv.n))) u hu; go_simp; try rfl) ?_
  refine tkq 10 hS0 ?_
  refine tkq 11 hS0 ?_
  refine tkq 12 hS0 ?_
  refine tkf 13 hS0 rfl (fun u hu => by have zz0 := (fun (u : World) (hu : Below v0.heap.size v0 u) => (Hy3.out.1.go (BB.out _ hu)).gn) u hu; go_simp; try rfl) ?_
  refine wpAnyH_ready (rs := [4]) (by kernel_rfl) (by simp) (AllReadyH.cons ((nth_eq _ 4).trans rfl) ?_ AllReadyH.nil)
  intro K1 hK1
  refine call_in hK1 (by kernel_rfl) 64 #[.agg cs] (by go_simp) _ (HK.out _) ?_
  rintro v1 x1 ⟨rfl, b1⟩
  have hS1 := hS0.trans (b1.mono hS0.size)
  refine ⟨hS1, ?_⟩
  simp only [Act.put, List.setIfInBounds_toArray, List.set_cons_zero, List.set_cons_succ]
  refine wpAnyH_ready (rs := [14]) (by kernel_rfl) (by simp) (AllReadyH.cons ((nth_eq _ 14).trans rfl) ?_ AllReadyH.nil)
  intro K2 hK2
  refine call_in hK2 (by kernel_rfl) 80 #[.agg #[.int .i64 ku, .int .i64 ka, .int .i64 kv], .int .i64 x.mv.n, .int .i64 x.gn] (by go_simp) _ (HST.out _) ?_
  rintro v2 x2 ⟨rfl, b2⟩
  have hS2 := hS1.trans (b2.mono hS1.size)
  refine ⟨hS2, ?_⟩
  simp only [Act.put, List.setIfInBounds_toArray, List.set_cons_zero, List.set_cons_succ]
  refine tkq 15 hS2 ?_
  refine tkq 16 hS2 ?_
  refine tkq 17 hS2 ?_
  refine tkq 18 hS2 ?_
  refine tkq 19 hS2 ?_
  refine done_held (by kernel_rfl) ?_ _
  have Hv : Hid (XAt x2 q cs { x with ep := t.ep, lt := 0, st := true } ∧ Xn q w x2) := ⟨Hy3.out.1.go (BB.out _ hS2), Hy3.out.2.trans (Xn.below (BB.out _ hS2))⟩
  obtain ⟨y3b, hy3b⟩ : ∃ z, x2 = z := ⟨_, rfl⟩
  rw [hy3b] at Hv ⊢
  clear hy3b hS2 hS0
  have k26 : y3b.cell? ⟨q, 26, none⟩ = some (.int .i64 x.mv.n) := Hv.out.1.cell 10
  have f26 := Hv.out.1.froz 26
  have Hy3b := Hv
  obtain ⟨y4, hy4⟩ : ∃ z, y3b.setCell ⟨q, 26, none⟩ (.int .i64 zc) = z := ⟨_, rfl⟩
  have Hy4 : Hid (XAt y4 q cs { x with ep := t.ep, lt := 0, st := true, mv := { x.mv with n := zc } } ∧ Xn q w y4) := by
    have e : y3b.setCells q 26 [.int .i64 zc] = y4 := hy4
    show XAt y4 q cs { x with ep := t.ep, lt := 0, st := true, mv := { x.mv with n := zc } } ∧ Xn q w y4
    rw [← e]
    exact ⟨Hy3b.out.1.put 10 _ (rx_n _ zc), Hy3b.out.2.trans (Xn.only (Only.setCells _ _ _ _))⟩
  have HX0 : Hid (Sx q cs x y4.drew) := ⟨_, Hy4.out.1.go (Below.refl _ _).drew, rfl, rfl, rfl, rfl⟩
  go_upto_region 15 with fail
  try rw [hy4]
  clear hy4 k26 f26
  refine start_held (S := Sx q cs x) 20 rfl (by kernel_rfl) (HX0.out) ?_
  simp only [Array.replicate_succ, Array.replicate_zero, List.push_toArray, List.nil_append, List.cons_append]
  have hN0 : XAt y4.drew q cs { x with ep := t.ep, lt := 0, st := true, mv := { x.mv with n := zc } } := Hy4.out.1.go (Below.refl _ _).drew
  have hZ0 : Sx q cs x y4.drew := HX0.out
  have HXT : Hid (Xn q w y4.drew) := Hy4.out.2.trans (Xn.below (Below.refl _ _).drew)
  generalize y4.drew = s0 at *
  refine tkq 0 hZ0 ?_
  refine tkq 1 hZ0 ?_
  refine tkq 2 hZ0 ?_
  refine tkq 3 hZ0 ?_
  refine tkq 4 hZ0 ?_
  refine tkf 5 hZ0 rfl (v := .agg (poA x.mv.fx x.mv.fy x.mv.fd)) (fun u hu => by exact run_load_at 42 _ rfl ⟨q, 27, none⟩ rfl _ (Sx.frm hu)) ?_
  refine tkq 6 hZ0 ?_
  refine tkq 7 hZ0 ?_
  refine tkq 8 hZ0 ?_
  refine tkq 9 hZ0 ?_
  refine tkf 10 hZ0 rfl (fun u hu => by have zz0 := (fun (u : World) (hu : Sx q cs x u) => hu.dr) u hu; go_simp; try rfl) ?_
  refine tkq 11 hZ0 ?_
  refine wpAnyH_ready (rs := [12]) (by kernel_rfl) (by simp) (AllReadyH.cons ((nth_eq _ 12).trans rfl) ?_ AllReadyH.nil)
  intro L1 hL1
  refine call_in hL1 (by kernel_rfl) 81 #[.agg (poA x.mv.fx x.mv.fy x.mv.fd), .int .i64 x.mv.dr, .int .i64 zc] (by go_simp) _ (HSH.out _) ?_
  rintro u1 s1 ⟨rfl, d1⟩
  have hN1 := hN0.go d1
  have hZ1 : Sx q cs x s1 := ⟨_, hN1, rfl, rfl, rfl, rfl⟩
  refine ⟨hZ1, ?_⟩
  simp only [Act.put, List.setIfInBounds_toArray, List.set_cons_zero, List.set_cons_succ]
  refine tkq 13 hZ1 ?_
  refine tkq 14 hZ1 ?_
  refine tkq 15 hZ1 ?_
  refine tkq 16 hZ1 ?_
  refine tkq 17 hZ1 ?_
  refine tkq 18 hZ1 ?_
  refine wpAnyH_ready (rs := [19]) (by kernel_rfl) (by simp) (AllReadyH.cons ((nth_eq _ 19).trans rfl) ?_ AllReadyH.nil)
  intro L2 hL2
  obtain ⟨s2, hs2⟩ : ∃ y, y = s1.setCells q 30 (poA tp.1.1 tp.1.2 tp.2).toList := ⟨_, rfl⟩
  have hN2 : XAt s2 q cs { x with ep := t.ep, lt := 0, st := true, mv := { x.mv with n := zc, tx := tp.1.1, ty := tp.1.2, td := tp.2 } } := by rw [hs2]; exact hN1.put 14 _ (rx_to _ _ _ _)
  have o2 : Only q s1 s2 := by rw [hs2]; exact Only.setCells _ _ _ _
  have hZ2 : Sx q cs x s2 := ⟨_, hN2, rfl, rfl, rfl, rfl⟩
  refine skip_in hL2 (by kernel_rfl) s2 (by rw [hs2]; exact run_store_mid_op 42 _ _ rfl q 30 (poA tp.1.1 tp.1.2 tp.2) rfl rfl (there_x hN1 30 3 (by omega)) infoPose (poA_one _ _ _)) hZ2 ?_
  simp only [Act.put, List.setIfInBounds_toArray, List.set_cons_zero, List.set_cons_succ]
  refine done_held (by kernel_rfl) ?_ _
  have Hs2 : Hid (XAt s2 q cs { x with ep := t.ep, lt := 0, st := true, mv := { x.mv with n := zc, tx := tp.1.1, ty := tp.1.2, td := tp.2 } } ∧ Xn q w s2) := ⟨hN2, (HXT.out.trans (Xn.below d1)).trans (Xn.only o2)⟩
  have k35 := Hs2.out.1.lf
  have f35 := Hs2.out.1.froz 35
  clear hN2 hN1 hN0 hZ2 hZ1 hZ0 o2 d1 hs2
  obtain ⟨y6, hy6⟩ : ∃ z, s2.setCell ⟨q, 35, none⟩ (.int .i64 (max 1 zt)) = z := ⟨_, rfl⟩
  have Hy6 : Hid (XAt y6 q cs { x with ep := t.ep, lt := 0, st := true, mv := { x.mv with n := zc, tx := tp.1.1, ty := tp.1.2, td := tp.2 }, lf := max 1 zt } ∧ Xn q w y6) := by
    have e : s2.setCells q 35 [.int .i64 (max 1 zt)] = y6 := hy6
    show XAt y6 q cs { x with ep := t.ep, lt := 0, st := true, mv := { x.mv with n := zc, tx := tp.1.1, ty := tp.1.2, td := tp.2 }, lf := max 1 zt } ∧ Xn q w y6
    rw [← e]
    exact ⟨Hs2.out.1.put 19 _ (rx_lf _ (max 1 zt)), Hs2.out.2.trans (Xn.only (Only.setCells _ _ _ _))⟩
  have k39b := Hy6.out.1.cu
  have f39 := Hy6.out.1.froz 39
  obtain ⟨y7, hy7⟩ : ∃ z, y6.setCell ⟨q, 39, none⟩ (.bool true) = z := ⟨_, rfl⟩
  have Hy7 : Hid (XAt y7 q cs { x with ep := t.ep, lt := 0, st := true, mv := { x.mv with n := zc, tx := tp.1.1, ty := tp.1.2, td := tp.2 }, lf := max 1 zt, cu := true } ∧ Xn q w y7) := by
    have e : y6.setCells q 39 [.bool true] = y7 := hy7
    show XAt y7 q cs { x with ep := t.ep, lt := 0, st := true, mv := { x.mv with n := zc, tx := tp.1.1, ty := tp.1.2, td := tp.2 }, lf := max 1 zt, cu := true } ∧ Xn q w y7
    rw [← e]
    exact ⟨Hy6.out.1.put 23 _ (rx_cu _ true), Hy6.out.2.trans (Xn.only (Only.setCells _ _ _ _))⟩
  go_wp2
  go_ret2
  exact ⟨rfl, Hy7.out.1, Hy7.out.2⟩
end Go.Proofs.YtedhoghleelhfaaGreat.Rob
/-
  A telegram at the chapter's own robot, in the plain words of the program's.
-/
namespace Go.Proofs.YtedhoghleelhfaaGreat.Rob
set_option linter.unusedVariables false
set_option linter.unusedSimpArgs false
open Go Go.RowKit Go.Shelf Go.Proofs Go.Proofs.YtedhoghleelhfaaGreat.Lk Go.Proofs.YtedhoghleelhfaaGreat.Plain
attribute [local go_sem] Oper.semAt_some

/- What the chapter's own answer stands on: its Legal, its Kin. -/
structure Ch (W0 : World) (cs : Array Value) (R : Wh) : Prop where
  leg : ∀ u, Below W0.heap.size W0 u → ∀ m : Mv, Calls Tryz.prog 63 #[.agg cs, .agg (mvA m)] u fun e w' => ∃ z, e = .returned z ∧ (z = .bool (Grid.legalU R.W R.H R.us (gm m)) ∧ Below u.heap.size u w')
  kin : ∀ u, Calls Tryz.prog 64 #[.agg cs] u fun e w' => ∃ z, e = .returned z ∧ (z = .agg #[.int .i64 R.ku, .int .i64 R.ka, .int .i64 R.kv] ∧ Below u.heap.size u w')
  ok : Kin.Ok R.ku R.ka R.kv
theorem RcAt.x {w : World} {q : Nat} {cs : Array Value} {r : Rb} {gn : Int} {cu : Bool} (h : XAt w q cs (rxOf r gn cu)) (hi : under r = true → gn = r.gn ∧ cu = (r.st && decide (r.mv.kd = 1))) : RcAt w q cs r gn cu := ⟨h.at_, h.len, hi⟩
def RHeard (w : World) (q : Nat) (cs : Array Value) (R : Wh) (r : Rb) (t : Tl) (e : Ending) (w' : World) : Prop :=
  ∃ v, e = .returned (.tuple #[v, .int .i64 (hearH R r t)]) ∧ LsAt w.heap.size w' v (hearL R r t) ∧ (∃ gn cu, RcAt w' q cs (hearR R r t) gn cu) ∧ Xn q w w'
section
variable {w : World} {q : Nat} {cs : Array Value} {R : Wh} {r : Rb} {t : Tl}
theorem rheard_of {r' : Rb} {gn : Int} {cu : Bool} {L : Option Tl} {n : Int} {v : Value} {w' : World} (hL : hearL R r t = L) (hR : hearR R r t = r') (hH : hearH R r t = n) (lv : LsAt w.heap.size w' v L) (X : XAt w' q cs (rxOf r' gn cu)) (hi : under r' = true → gn = r'.gn ∧ cu = (r'.st && decide (r'.mv.kd = 1))) (T : Xn q w w') : RHeard w q cs R r t (.returned (.tuple #[v, .int .i64 n])) w' :=
  ⟨v, by rw [hH], by rw [hL]; exact lv, ⟨gn, cu, by rw [hR]; exact RcAt.x X hi⟩, T⟩
theorem rheard_none {gn : Int} {cu : Bool} {n : Int} {w' : World} (h : RcAt w q cs r gn cu) (hL : hearL R r t = none) (hR : hearR R r t = r) (hH : hearH R r t = n) (X : XAt w' q cs (rxOf r gn cu)) (T : Below w.heap.size w w') : RHeard w q cs R r t (.returned (.tuple #[.slice none 0 0, .int .i64 n])) w' :=
  rheard_of hL hR hH rfl X h.run_ (Xn.below T)
/- In plain words. -/
theorem go_old (h1 : t.rb = r.nb) (h2 : t.kd = 1) (h3 : t.ep < r.ep) : hearL R r t = none ∧ hearR R r t = r ∧ hearH R r t = 2 := by
  have n1 : ¬ t.rb ≠ r.nb := fun f => f h1
  exact ⟨by unfold hearL; rw [if_neg n1, if_pos ⟨h2, h3⟩], by unfold hearR; rw [if_neg n1, if_pos ⟨h2, h3⟩], by unfold hearH; rw [if_neg n1, if_pos ⟨h2, h3⟩]⟩
theorem go_begs (h1 : t.rb = r.nb) (h2 : t.kd = 1) (h3 : ¬ t.ep < r.ep) (hb : begs R r t = true) : hearL R r t = none ∧ hearR R r t = begun r t ∧ hearH R r t = 1 := by
  have n1 : ¬ t.rb ≠ r.nb := fun f => f h1
  have n2 : ¬ (t.kd = 1 ∧ t.ep < r.ep) := fun f => h3 f.2
  exact ⟨by unfold hearL; rw [if_neg n1, if_neg n2, if_pos ⟨h2, hb⟩], by unfold hearR; rw [if_neg n1, if_neg n2, if_pos ⟨h2, hb⟩], by unfold hearH; rw [if_neg n1, if_neg n2, if_pos ⟨h2, hb⟩]⟩
theorem go_not (h1 : t.rb = r.nb) (h2 : t.kd = 1) (h3 : ¬ t.ep < r.ep) (hb : begs R r t = false) {L : Option Tl} (hl : (if lastP r t && !under r then some (tellP r) else none) = L) : hearL R r t = L ∧ hearR R r t = r ∧ hearH R r t = 0 := by
  have n1 : ¬ t.rb ≠ r.nb := fun f => f h1
  have n2 : ¬ (t.kd = 1 ∧ t.ep < r.ep) := fun f => h3 f.2
  have n3 : ¬ (t.kd = 1 ∧ begs R r t = true) := fun f => by rw [hb] at f; exact absurd f.2 (by decide)
  have n4 : ¬ (t.kd = 2 ∧ r.ep < t.ep) := fun f => by omega
  exact ⟨by unfold hearL; rw [if_neg n1, if_neg n2, if_neg n3, if_neg n4]; exact hl, by unfold hearR; rw [if_neg n1, if_neg n2, if_neg n3, if_neg n4], by unfold hearH; rw [if_neg n1, if_neg n2, if_neg n3, if_neg n4]⟩
theorem stop_not (h1 : t.rb = r.nb) (h2 : t.kd ≠ 1) (h3 : ¬ (t.kd = 2 ∧ r.ep < t.ep)) {L : Option Tl} (hl : (if lastP r t && !under r then some (tellP r) else none) = L) : hearL R r t = L ∧ hearR R r t = r ∧ hearH R r t = 0 := by
  have n1 : ¬ t.rb ≠ r.nb := fun f => f h1
  have n2 : ¬ (t.kd = 1 ∧ t.ep < r.ep) := fun f => h2 f.1
  have n3 : ¬ (t.kd = 1 ∧ begs R r t = true) := fun f => h2 f.1
  exact ⟨by unfold hearL; rw [if_neg n1, if_neg n2, if_neg n3, if_neg h3]; exact hl, by unfold hearR; rw [if_neg n1, if_neg n2, if_neg n3, if_neg h3], by unfold hearH; rw [if_neg n1, if_neg n2, if_neg n3, if_neg h3]⟩
theorem stop_new (h1 : t.rb = r.nb) (h2 : t.kd = 2) (h3 : r.ep < t.ep) : hearL R r t = (if under r then none else some (tellP (newEp r t.ep))) ∧ hearR R r t = stopP R r t.ep ∧ hearH R r t = stopH r := by
  have n1 : ¬ t.rb ≠ r.nb := fun f => f h1
  have n2 : ¬ (t.kd = 1 ∧ t.ep < r.ep) := fun f => by omega
  have n3 : ¬ (t.kd = 1 ∧ begs R r t = true) := fun f => by omega
  exact ⟨by unfold hearL; rw [if_neg n1, if_neg n2, if_neg n3, if_pos ⟨h2, h3⟩], by unfold hearR; rw [if_neg n1, if_neg n2, if_neg n3, if_pos ⟨h2, h3⟩], by unfold hearH; rw [if_neg n1, if_neg n2, if_neg n3, if_pos ⟨h2, h3⟩]⟩
theorem last_go (h2 : t.kd = 1) {z : Bool} (hz : (decide (t.ep = r.ep) && (decide (t.nm = r.lt) && decide (0 < r.lt))) = z) : lastP r t = z := by
  unfold lastP
  rw [if_pos h2]
  exact hz
theorem last_stop (h2 : t.kd ≠ 1) {z : Bool} (hz : (decide (t.ep = r.ep) && (decide (t.kd = 2) && stopd r)) = z) : lastP r t = z := by
  unfold lastP
  rw [if_neg h2]
  exact hz
theorem none_if (z : Bool) (h : z = false) (a : Tl) (b : Bool) : (if z && b then some a else none) = none := by rw [h]; rfl
theorem none_if2 (z : Bool) (a : Tl) (b : Bool) (h : b = true) : (if z && !b then some a else none) = none := by rw [h]; cases z <;> rfl
theorem some_if (z : Bool) (hz : z = true) (a : Tl) (b : Bool) (h : b = false) : (if z && !b then some a else none) = some a := by rw [h, hz]; rfl
set_option maxHeartbeats 2000000 in
theorem rgoes_all {W0 : World} (hc : Ch W0 cs R) (b0 : Below W0.heap.size W0 w) {gn : Int} {cu : Bool} (h : RcAt w q cs r gn cu) {n : Int} (hn : n ≤ 1000000000000) (ok : OkR n r) (h1 : t.rb = r.nb) (h2 : t.kd = 1) : Calls Tryz.prog 60 #[.pointer (some ⟨q, 0, none⟩), .agg (tlA t)] w (RHeard w q cs R r t) := by
  have X := XAt.of h
  have t0 := ok.lt0
  have t1 : r.lt ≤ 4000000000000000000 := by have := ok.ltn; omega
  by_cases he : t.ep < r.ep
  · obtain ⟨a1, a2, a3⟩ := go_old (R := R) h1 h2 he
    exact (goes_old X he).mono fun e w' ⟨p1, p2, p3⟩ => by rw [p1]; exact rheard_none h a1 a2 a3 p2 p3
  have hno : ∀ {L : Option Tl}, begs R r t = false → (if lastP r t && !under r then some (tellP r) else none) = L → hearL R r t = L ∧ hearR R r t = r ∧ hearH R r t = 0 := fun z1 z2 => go_not h1 h2 he z1 z2
  by_cases he2 : r.ep < t.ep
  · obtain ⟨a1, a2, a3⟩ := hno (by unfold begs; rw [decide_eq_false (by omega)]; rfl) (none_if _ (last_go h2 (by rw [decide_eq_false (by omega)]; rfl)) _ _)
    exact (goes_new X he2).mono fun e w' ⟨p1, p2, p3⟩ => by rw [p1]; exact rheard_none h a1 a2 a3 p2 p3
  have he3 : t.ep = r.ep := by omega
  cases hu : under r with
  | true =>
    obtain ⟨a1, a2, a3⟩ := hno (by unfold begs; rw [hu]; simp) (none_if2 _ _ _ hu)
    exact (goes_under X he3 hu).mono fun e w' ⟨p1, p2, p3⟩ => by rw [p1]; exact rheard_none h a1 a2 a3 p2 p3
  | false =>
    by_cases hm : t.nm = r.lt
    · have hb : begs R r t = false := by unfold begs; rw [decide_eq_false (p := t.nm = r.lt + 1) (by omega)]; simp
      by_cases hl : 0 < r.lt
      · obtain ⟨a1, a2, a3⟩ := hno hb (some_if _ (last_go h2 (by rw [decide_eq_true he3, decide_eq_true hm, decide_eq_true hl]; rfl)) _ _ hu)
        exact (goes_last X he3 hu hm hl).mono fun e w' ⟨v, p1, p2, p3, p4⟩ => by rw [p1]; exact rheard_of a1 a2 a3 p2 p3 h.run_ (Xn.below p4)
      · obtain ⟨a1, a2, a3⟩ := hno hb (none_if _ (last_go h2 (by rw [decide_eq_false hl]; simp)) _ _)
        exact (goes_nil X he3 hu t0 t1 hm hl).mono fun e w' ⟨p1, p2, p3⟩ => by rw [p1]; exact rheard_none h a1 a2 a3 p2 p3
    · have hla : lastP r t = false := last_go h2 (by rw [decide_eq_false hm]; simp)
      by_cases hm1 : t.nm = r.lt + 1
      · by_cases hf : ((t.fx, t.fy), t.fd) = ((r.px, r.py), r.pd)
        · have hL0 := fun u (b : Below w.heap.size w u) => hc.leg u (bcat b0 b) (tmv t)
          cases hg : Grid.legalU R.W R.H R.us (gm (tmv t)) with
          | false =>
            rw [hg] at hL0
            obtain ⟨a1, a2, a3⟩ := hno (by unfold begs; rw [hg]; simp) (none_if _ hla _ _)
            exact (goes_legal X he3 hu t0 t1 hm1 hf hL0).mono fun e w' ⟨p1, p2, p3⟩ => by rw [p1]; exact rheard_none h a1 a2 a3 p2 p3
          | true =>
            rw [hg] at hL0
            have hbd := (less_bd t.me t.ma).1
            by_cases hz : less t.me t.ma = 0
            · obtain ⟨a1, a2, a3⟩ := hno (by unfold begs; rw [hz]; simp) (none_if _ hla _ _)
              exact (goes_zero X he3 hu t0 t1 hm1 hf hz hL0).mono fun e w' ⟨p1, p2, p3⟩ => by rw [p1]; exact rheard_none h a1 a2 a3 p2 p3
            · have hb : begs R r t = true := by
                unfold begs
                rw [hg, hu, decide_eq_true he3, decide_eq_true hm1, decide_eq_true (show ((t.fx, t.fy), t.fd) = posR r from hf), decide_eq_true (by omega)]
                rfl
              obtain ⟨a1, a2, a3⟩ := go_begs (R := R) h1 h2 he hb
              refine (goes_beg X he3 hu t0 t1 hm1 hf hz hL0).mono fun e w' ⟨p1, p2, p3⟩ => ?_
              rw [p1]
              refine rheard_of (gn := 0) (cu := false) a1 a2 a3 rfl ?_ (fun _ => ⟨rfl, rfl⟩) p3
              have e1 : under (begun r t) = true := by show decide (0 < less t.me t.ma) = true; rw [decide_eq_true_iff]; omega
              have e2 : (rxOf (begun r t) 0 false) = { rxOf r gn cu with un := true, mv := tmv t, lf := less t.me t.ma, gn := 0, la := 0, cu := false } := by
                have hst : r.st = false := (ok.none_ hu).2.2.2.2
                show (⟨r.nb, r.px, r.py, r.pd, r.ld, r.ep, r.lt, under (begun r t), tmv t, less t.me t.ma, 0, 0, false, false⟩ : Rx) = ⟨r.nb, r.px, r.py, r.pd, r.ld, r.ep, r.lt, true, tmv t, less t.me t.ma, 0, 0, r.st, false⟩
                rw [e1, hst]
              rw [e2]
              exact p2
        · obtain ⟨a1, a2, a3⟩ := hno (by unfold begs; rw [decide_eq_false (p := ((t.fx, t.fy), t.fd) = posR r) hf]; simp) (none_if _ hla _ _)
          exact (goes_from X he3 hu t0 t1 hm1 hf).mono fun e w' ⟨p1, p2, p3⟩ => by rw [p1]; exact rheard_none h a1 a2 a3 p2 p3
      · obtain ⟨a1, a2, a3⟩ := hno (by unfold begs; rw [decide_eq_false hm1]; simp) (none_if _ hla _ _)
        exact (goes_num X he3 hu t0 t1 hm hm1).mono fun e w' ⟨p1, p2, p3⟩ => by rw [p1]; exact rheard_none h a1 a2 a3 p2 p3
set_option maxHeartbeats 2000000 in
theorem rstops_all {W0 : World} (hc : Ch W0 cs R) {gn : Int} {cu : Bool} (h : RcAt w q cs r gn cu) {n : Int} (hn : n ≤ 1000000000000) (ok : OkR n r) (h1 : t.rb = r.nb) (h2 : t.kd = 2) : Calls Tryz.prog 61 #[.pointer (some ⟨q, 0, none⟩), .agg (tlA t)] w (RHeard w q cs R r t) := by
  have X := XAt.of h
  have h2' : t.kd ≠ 1 := by omega
  by_cases he : t.ep < r.ep
  · obtain ⟨a1, a2, a3⟩ := stop_not (R := R) h1 h2' (fun f => by omega) (none_if _ (last_stop h2' (by rw [decide_eq_false (by omega)]; rfl)) _ _)
    exact (stops_old X he).mono fun e w' ⟨p1, p2, p3⟩ => by rw [p1]; exact rheard_none h a1 a2 a3 p2 p3
  by_cases he3 : t.ep = r.ep
  · have hno : ∀ {L : Option Tl}, (if lastP r t && !under r then some (tellP r) else none) = L → hearL R r t = L ∧ hearR R r t = r ∧ hearH R r t = 0 := fun z => stop_not h1 h2' (fun f => by omega) z
    by_cases h0 : 0 < r.ep
    · cases hu : under r with
      | true =>
        obtain ⟨a1, a2, a3⟩ := hno (none_if2 _ _ _ hu)
        exact (stops_nil2 X he3 h0 hu).mono fun e w' ⟨p1, p2, p3⟩ => by rw [p1]; exact rheard_none h a1 a2 a3 p2 p3
      | false =>
        by_cases hl : r.lt = 0
        · obtain ⟨a1, a2, a3⟩ := hno (some_if _ (last_stop h2' (by unfold stopd; rw [decide_eq_true he3, decide_eq_true h2, decide_eq_true hl, decide_eq_true h0]; rfl)) _ _ hu)
          exact (stops_tell X he3 h0 hu hl).mono fun e w' ⟨v, p1, p2, p3, p4⟩ => by rw [p1]; exact rheard_of a1 a2 a3 p2 p3 h.run_ (Xn.below p4)
        · obtain ⟨a1, a2, a3⟩ := hno (none_if _ (last_stop h2' (by unfold stopd; rw [decide_eq_false hl]; simp)) _ _)
          exact (stops_nil3 X he3 h0 hu hl).mono fun e w' ⟨p1, p2, p3⟩ => by rw [p1]; exact rheard_none h a1 a2 a3 p2 p3
    · obtain ⟨a1, a2, a3⟩ := hno (none_if _ (last_stop h2' (by unfold stopd; rw [decide_eq_false h0]; simp)) _ _)
      exact (stops_nil1 X he3 h0).mono fun e w' ⟨p1, p2, p3⟩ => by rw [p1]; exact rheard_none h a1 a2 a3 p2 p3
  · have he4 : r.ep < t.ep := by omega
    obtain ⟨a1, a2, a3⟩ := stop_new (R := R) h1 h2 he4
    cases hu : under r with
    | false =>
      rw [hu, if_neg (by decide)] at a1
      have a2' : hearR R r t = newEp r t.ep := by rw [a2]; unfold stopP; rw [hu]; rfl
      have a3' : hearH R r t = 3 := by rw [a3]; unfold stopH; rw [hu]; rfl
      exact (stops_stand X he4 hu).mono fun e w' ⟨v, p1, p2, p3, p4⟩ => by
        rw [p1]
        exact rheard_of (gn := gn) (cu := cu) a1 a2' a3' p2 p3 (fun f => by rw [show under (newEp r t.ep) = under r from rfl, hu] at f; cases f) p4
    | true =>
      rw [hu, if_pos rfl] at a1
      have a3' : hearH R r t = 0 := by rw [a3]; unfold stopH; rw [hu]; rfl
      obtain ⟨i1, i2⟩ := h.run_ hu
      by_cases hk : r.mv.kd = 1
      · cases hs : r.st with
        | false =>
          have hcu : cu = false := by rw [i2, hs]; rfl
          have a2' : hearR R r t = { cutP R (newEp r t.ep) with st := true } := by rw [a2]; unfold stopP; rw [if_pos hu, if_pos ⟨hk, hs⟩]
          have hg : gn ≤ 9223372036854775807 := by have := ok.gnn; omega
          refine (stops_cut X he4 hc.ok hg hc.kin hu hk hcu).mono fun e w' ⟨p1, p2, p3⟩ => ?_
          rw [p1]
          refine rheard_of (gn := gn) (cu := true) a1 a2' a3' rfl ?_ (fun _ => ⟨i1, by show true = (true && decide (r.mv.kd = 1)); rw [decide_eq_true hk]; rfl⟩) p3
          have e1 : under { cutP R (newEp r t.ep) with st := true } = true := by
            show decide (0 < max ((Kin.stopT R.ku R.ka R.kv r.mv.n r.gn : Nat) : Int) 1) = true
            rw [decide_eq_true_iff]
            omega
          have e2 : rxOf { cutP R (newEp r t.ep) with st := true } gn true = { rxOf r gn cu with ep := t.ep, lt := 0, st := true, mv := { r.mv with n := (Kin.stopC R.ku R.ka R.kv r.mv.n gn : Nat), tx := (Grid.shiftR ((r.mv.fx, r.mv.fy), r.mv.fd) r.mv.dr (Kin.stopC R.ku R.ka R.kv r.mv.n gn : Nat)).1.1, ty := (Grid.shiftR ((r.mv.fx, r.mv.fy), r.mv.fd) r.mv.dr (Kin.stopC R.ku R.ka R.kv r.mv.n gn : Nat)).1.2, td := (Grid.shiftR ((r.mv.fx, r.mv.fy), r.mv.fd) r.mv.dr (Kin.stopC R.ku R.ka R.kv r.mv.n gn : Nat)).2 }, lf := max 1 ((Kin.stopT R.ku R.ka R.kv r.mv.n gn : Nat) : Int), cu := true } := by
            unfold rxOf
            rw [e1, hu, i1]
            unfold cutP cutTo newEp
            rw [Int.max_comm]
          rw [e2]
          exact p2
        | true =>
          have hcu : cu = true := by rw [i2, hs, decide_eq_true hk]; rfl
          have a2' : hearR R r t = { newEp r t.ep with st := true } := by rw [a2]; unfold stopP; rw [if_pos hu, if_neg (fun f => by rw [hs] at f; cases f.2)]
          exact (stops_keep2 X he4 hu hk hcu).mono fun e w' ⟨p1, p2, p3⟩ => by
            rw [p1]
            exact rheard_of (gn := gn) (cu := cu) a1 a2' a3' rfl p2 (fun _ => ⟨i1, by show cu = (true && decide (r.mv.kd = 1)); rw [hcu, decide_eq_true hk]; rfl⟩) p3
      · have hcu : cu = false := by rw [i2, decide_eq_false hk]; simp
        have a2' : hearR R r t = { newEp r t.ep with st := true } := by rw [a2]; unfold stopP; rw [if_pos hu, if_neg (fun f => hk f.1)]
        exact (stops_keep1 X he4 hu hk).mono fun e w' ⟨p1, p2, p3⟩ => by
          rw [p1]
          exact rheard_of (gn := gn) (cu := cu) a1 a2' a3' rfl p2 (fun _ => ⟨i1, by show cu = (true && decide (r.mv.kd = 1)); rw [hcu, decide_eq_false hk]; rfl⟩) p3
theorem RHeard.past {w w1 : World} {e : Ending} {w' : World} (b : Below w.heap.size w w1) (h : RHeard w1 q cs R r t e w') : RHeard w q cs R r t e w' := by
  obtain ⟨v, h1, h2, h3, h4⟩ := h
  exact ⟨v, h1, h2.mono b.size, h3, (Xn.below b).trans h4⟩
set_option maxRecDepth 100000 in
set_option maxHeartbeats 2000000 in
theorem rhear_all {W0 : World} (hc : Ch W0 cs R) (b0 : Below W0.heap.size W0 w) {gn : Int} {cu : Bool} (h : RcAt w q cs r gn cu) {n : Int} (hn : n ≤ 1000000000000) (ok : OkR n r) (t : Tl) : Calls Tryz.prog 40 #[.pointer (some ⟨q, 0, none⟩), .agg (tlA t)] w (RHeard w q cs R r t) := by
  obtain ⟨w1, hw1⟩ : ∃ z, z = w.alloc (.cells (tlA t) 46) := ⟨_, rfl⟩
  obtain ⟨x, hx⟩ : ∃ x, rxOf r gn cu = x := ⟨_, rfl⟩
  have hnb : x.nb = r.nb := by rw [← hx]; rfl
  have HG1 : Hid (Hg w q cs x t w1) := Hg.make (by rw [← hx]; exact XAt.of h) hw1
  have HBK : Hid (∀ u, Hg w q cs x t u → RcAt u q cs r gn cu ∧ Below w.heap.size w u) := fun u hu => ⟨RcAt.x (by rw [hx]; exact hu.xt) h.run_, hu.bel⟩
  have HC : Hid (Ch W0 cs R) := hc
  have HB0 : Hid (Below W0.heap.size W0 w) := b0
  have HOK : Hid (OkR n r ∧ n ≤ 1000000000000) := ⟨ok, hn⟩
  have HX1 : Hid (∀ {w'}, XAt w' q cs x → Below w.heap.size w w' → hearL R r t = none → hearR R r t = r → hearH R r t = 0 → RHeard w q cs R r t (.returned (.tuple #[.slice none 0 0, .int .i64 0])) w') := fun X T a1 a2 a3 => rheard_none h a1 a2 a3 (by rw [hx]; exact X) T
  clear h hc b0 ok hn hx
  by_cases h1 : t.rb = r.nb
  · have q1 : (t.rb != x.nb) = false := by simp [h1, hnb]
    have H1 : Hid (t.rb = r.nb) := h1
    clear h1
    by_cases h2 : t.kd = 1
    · have q2 : (t.kd == 1) = true := by rw [beq_iff_eq]; exact h2
      have H2 : Hid (t.kd = 1) := h2
      clear h2
      go_enter Tryz.func40, Tryz.ntmps40
      go_upto_region 1 with (refine wpList_boxAt rfl 46 (.tmp 1) rfl (tlA t) rfl ?_; rw [← hw1]; clear hw1)
      refine start_held (S := fun u => Hg w q cs x t u) 7 rfl (by kernel_rfl) (HG1.out.go (Below.refl _ _).drew) ?_
      simp only [Array.replicate_succ, Array.replicate_zero, List.push_toArray, List.nil_append, List.cons_append]
      have hS0 := HG1.out.go (Below.refl _ _).drew
      generalize w1.drew = z1 at *
      refine tkq 0 hS0 ?_
      refine tkf 1 hS0 rfl (fun u hu => by have zz0 := (fun (u : World) (hu : Hg w q cs x t u) => tl_rb hu.tl) u hu; go_simp; try rfl) ?_
      refine tkq 2 hS0 ?_
      refine tkq 3 hS0 ?_
      refine tkq 4 hS0 ?_
      refine tkf 5 hS0 rfl (fun u hu => by have zz0 := (fun (u : World) (hu : Hg w q cs x t u) => hu.xt.nb) u hu; go_simp; try rfl) ?_
      refine tkq 6 hS0 ?_
      refine done_held (by kernel_rfl) ?_ _
      have HX : Hid (Hg w q cs x t z1) := hS0
      have cG := rgoes_all HC.out (bcat HB0.out HX.out.bel) (HBK.out z1 HX.out).1 HOK.out.2 HOK.out.1 H1.out H2.out
      have k0 := tl_kd HX.out.tl
      clear hS0
      go_wp2_with (first | (refine wpList_load_at rfl 46 (.tmp 3) rfl ⟨w.heap.size, 0, none⟩ rfl (tlA t) (load_tele HX.out.tl) ?_) | (go_at_call 60; refine cG.mono ?_; clear cG; rintro e z6 hR6; obtain ⟨v6, rfl, lv6, rc6, xn6⟩ := hR6; have HR6 : Hid (RHeard w q cs R r t (.returned (.tuple #[v6, .int .i64 (hearH R r t)])) z6) := RHeard.past HX.out.bel ⟨v6, rfl, lv6, rc6, xn6⟩; clear lv6 rc6 xn6))
      go_ret2
      exact HR6.out
    · have q2 : (t.kd == 1) = false := by rw [beq_eq_false_iff_ne]; exact h2
      by_cases h3 : t.kd = 2
      · have q3 : (t.kd == 2) = true := by rw [beq_iff_eq]; exact h3
        have H3 : Hid (t.kd = 2) := h3
        clear h2 h3
        go_enter Tryz.func40, Tryz.ntmps40
        go_upto_region 1 with (refine wpList_boxAt rfl 46 (.tmp 1) rfl (tlA t) rfl ?_; rw [← hw1]; clear hw1)
        refine start_held (S := fun u => Hg w q cs x t u) 7 rfl (by kernel_rfl) (HG1.out.go (Below.refl _ _).drew) ?_
        simp only [Array.replicate_succ, Array.replicate_zero, List.push_toArray, List.nil_append, List.cons_append]
        have hS0 := HG1.out.go (Below.refl _ _).drew
        generalize w1.drew = z1 at *
        refine tkq 0 hS0 ?_
        refine tkf 1 hS0 rfl (fun u hu => by have zz0 := (fun (u : World) (hu : Hg w q cs x t u) => tl_rb hu.tl) u hu; go_simp; try rfl) ?_
        refine tkq 2 hS0 ?_
        refine tkq 3 hS0 ?_
        refine tkq 4 hS0 ?_
        refine tkf 5 hS0 rfl (fun u hu => by have zz0 := (fun (u : World) (hu : Hg w q cs x t u) => hu.xt.nb) u hu; go_simp; try rfl) ?_
        refine tkq 6 hS0 ?_
        refine done_held (by kernel_rfl) ?_ _
        have HX : Hid (Hg w q cs x t z1) := hS0
        have cG := rstops_all HC.out (HBK.out z1 HX.out).1 HOK.out.2 HOK.out.1 H1.out H3.out
        have k0 := tl_kd HX.out.tl
        clear hS0
        go_wp2_with (first | (refine wpList_load_at rfl 46 (.tmp 3) rfl ⟨w.heap.size, 0, none⟩ rfl (tlA t) (load_tele HX.out.tl) ?_) | (go_at_call 61; refine cG.mono ?_; clear cG; rintro e z6 hR6; obtain ⟨v6, rfl, lv6, rc6, xn6⟩ := hR6; have HR6 : Hid (RHeard w q cs R r t (.returned (.tuple #[v6, .int .i64 (hearH R r t)])) z6) := RHeard.past HX.out.bel ⟨v6, rfl, lv6, rc6, xn6⟩; clear lv6 rc6 xn6))
        go_ret2
        exact HR6.out
      · have q3 : (t.kd == 2) = false := by rw [beq_eq_false_iff_ne]; exact h3
        have HN : Hid (hearL R r t = none ∧ hearR R r t = r ∧ hearH R r t = 0) := stop_not H1.out h2 (fun f => h3 f.1) (none_if _ (last_stop h2 (by rw [decide_eq_false h3]; simp)) _ _)
        clear h2 h3
        go_enter Tryz.func40, Tryz.ntmps40
        go_upto_region 1 with (refine wpList_boxAt rfl 46 (.tmp 1) rfl (tlA t) rfl ?_; rw [← hw1]; clear hw1)
        refine start_held (S := fun u => Hg w q cs x t u) 7 rfl (by kernel_rfl) (HG1.out.go (Below.refl _ _).drew) ?_
        simp only [Array.replicate_succ, Array.replicate_zero, List.push_toArray, List.nil_append, List.cons_append]
        have hS0 := HG1.out.go (Below.refl _ _).drew
        generalize w1.drew = z1 at *
        refine tkq 0 hS0 ?_
        refine tkf 1 hS0 rfl (fun u hu => by have zz0 := (fun (u : World) (hu : Hg w q cs x t u) => tl_rb hu.tl) u hu; go_simp; try rfl) ?_
        refine tkq 2 hS0 ?_
        refine tkq 3 hS0 ?_
        refine tkq 4 hS0 ?_
        refine tkf 5 hS0 rfl (fun u hu => by have zz0 := (fun (u : World) (hu : Hg w q cs x t u) => hu.xt.nb) u hu; go_simp; try rfl) ?_
        refine tkq 6 hS0 ?_
        refine done_held (by kernel_rfl) ?_ _
        have HX : Hid (Hg w q cs x t z1) := hS0
        have k0 := tl_kd HX.out.tl
        clear hS0
        go_wp2
        go_ret2
        exact HX1.out HX.out.xt HX.out.bel HN.out.1 HN.out.2.1 HN.out.2.2
  · have q1 : (t.rb != x.nb) = true := by simp [hnb, h1]
    have HN : Hid (hearL R r t = none ∧ hearR R r t = r ∧ hearH R r t = 0) := ⟨by unfold hearL; rw [if_pos h1], by unfold hearR; rw [if_pos h1], by unfold hearH; rw [if_pos h1]⟩
    clear h1
    go_enter Tryz.func40, Tryz.ntmps40
    go_upto_region 1 with (refine wpList_boxAt rfl 46 (.tmp 1) rfl (tlA t) rfl ?_; rw [← hw1]; clear hw1)
    refine start_held (S := fun u => Hg w q cs x t u) 7 rfl (by kernel_rfl) (HG1.out.go (Below.refl _ _).drew) ?_
    simp only [Array.replicate_succ, Array.replicate_zero, List.push_toArray, List.nil_append, List.cons_append]
    have hS0 := HG1.out.go (Below.refl _ _).drew
    generalize w1.drew = z1 at *
    refine tkq 0 hS0 ?_
    refine tkf 1 hS0 rfl (fun u hu => by have zz0 := (fun (u : World) (hu : Hg w q cs x t u) => tl_rb hu.tl) u hu; go_simp; try rfl) ?_
    refine tkq 2 hS0 ?_
    refine tkq 3 hS0 ?_
    refine tkq 4 hS0 ?_
    refine tkf 5 hS0 rfl (fun u hu => by have zz0 := (fun (u : World) (hu : Hg w q cs x t u) => hu.xt.nb) u hu; go_simp; try rfl) ?_
    refine tkq 6 hS0 ?_
    refine done_held (by kernel_rfl) ?_ _
    have HX : Hid (Hg w q cs x t z1) := hS0
    clear hS0
    go_wp2
    go_ret2
    exact HX1.out HX.out.xt HX.out.bel HN.out.1 HN.out.2.1 HN.out.2.2
end
end Go.Proofs.YtedhoghleelhfaaGreat.Rob
