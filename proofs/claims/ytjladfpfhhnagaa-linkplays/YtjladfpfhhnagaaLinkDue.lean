/-
  Due: what is told, and what waits behind it.
-/
import Derived.Test.YtjladfpfhhnagaaLinkCalls
namespace Go.Proofs.Ytjladfpfhhnagaa.Lk
set_option linter.unusedVariables false
set_option linter.unusedSimpArgs false
open Go Go.RowKit Go.Shelf Go.Proofs Go.Proofs.Ytjladfpfhhnagaa.Tick Go.Proofs.Ytjladfpfhhnagaa.Plain
attribute [local go_sem] Oper.semAt_some

/- What Due tells of one robot, and what waits then. -/
def due1 (now rsd : Int) (o : Option (Tl × Int)) : List Tl := match o with
  | none => []
  | some s => if rsd ≤ less now s.2 then [s.1] else []
def wait1 (now rsd : Int) (o : Option (Tl × Int)) : Option (Tl × Int) := match o with
  | none => none
  | some s => if rsd ≤ less now s.2 then some (s.1, now) else some s
/- Of the first k robots. -/
def dueL (now rsd : Int) (M : Mp) (k : Nat) : List Tl := (List.range k).flatMap fun (i : Nat) => due1 now rsd (M (i : Int))
def dueM (now rsd : Int) (M : Mp) (k : Nat) : Mp := fun x => if 0 ≤ x ∧ x < k then wait1 now rsd (M x) else M x
theorem dueL_succ (now rsd : Int) (M : Mp) (k : Nat) : dueL now rsd M (k + 1) = dueL now rsd M k ++ due1 now rsd (M (k : Int)) := by
  unfold dueL
  rw [List.range_succ, List.flatMap_append]
  simp
theorem dueL_len (now rsd : Int) (M : Mp) : ∀ k, (dueL now rsd M k).length ≤ k
  | 0 => Nat.le_refl _
  | k + 1 => by
    rw [dueL_succ, List.length_append]
    have h1 := dueL_len now rsd M k
    have h2 : (due1 now rsd (M (k : Int))).length ≤ 1 := by
      unfold due1
      split
      · simp
      · split <;> simp
    omega
theorem dueM_zero (now rsd : Int) (M : Mp) : dueM now rsd M 0 = M := by
  funext x
  unfold dueM
  rw [if_neg (by omega)]
theorem dueM_at (now rsd : Int) (M : Mp) (k : Nat) : dueM now rsd M k (k : Int) = M k := by
  unfold dueM
  rw [if_neg (by omega)]
theorem dueM_stay (now rsd : Int) (M : Mp) (k : Nat) (h : wait1 now rsd (M k) = M k) : dueM now rsd M (k + 1) = dueM now rsd M k := by
  funext x
  unfold dueM
  by_cases hx : x = k
  · subst hx
    rw [if_pos (by omega), if_neg (by omega), h]
  · by_cases hl : 0 ≤ x ∧ x < k
    · rw [if_pos hl, if_pos (by omega)]
    · rw [if_neg hl, if_neg (by omega)]
theorem dueM_turn (now rsd : Int) (M : Mp) (k : Nat) : dueM now rsd M (k + 1) = upd (dueM now rsd M k) k (wait1 now rsd (M k)) := by
  funext x
  unfold dueM upd
  show (if 0 ≤ x ∧ x < ((k + 1 : Nat) : Int) then wait1 now rsd (M x) else M x) = if x = (k : Int) then wait1 now rsd (M k) else if 0 ≤ x ∧ x < (k : Int) then wait1 now rsd (M x) else M x
  by_cases hx : x = k
  · subst hx
    rw [if_pos (by omega), if_pos rfl]
  · rw [if_neg hx]
    by_cases hl : 0 ≤ x ∧ x < k
    · rw [if_pos hl, if_pos (by omega)]
    · rw [if_neg hl, if_neg (by omega)]
/- A list of telegrams of one's own. -/
abbrev Own (w : World) (B : Nat) (v : Value) (l : List Tl) : Prop := w.ownsRow B 37 19 v l.length (rowL tlL l)
theorem tlL_one (t : Tl) : ∀ u ∈ tlL t, u.oneCell' = true := fun u hu => by
  have := tlA_one t
  rw [Array.all_eq_true'] at this
  exact this u (by unfold tlA; simpa using hu)
theorem infoT3 : (Try.prog.info? 37).map (fun i => (i.zero, i.size, i.bytes)) = some (some (.agg (tlA tl0)), 19, 152) := by kernel_rfl
theorem run_one (t : Tl) (w : World) : (Instr.buildSlice 45 1 #[(0, .agg (tlA t))]).run Try.prog w = .ok (.slice (some ⟨w.heap.size, 0, none⟩) 1 1) (w.alloc (.cells (tlA t) 37)) := by
  cases t
  kernel_rfl
theorem wpList_one {ops : Array Oper} {rest : List Oper} {o : Oper} {a : Act} {w : World} {Q : Exit → Act → World → Prop} (hg : o.guard = none) (x : Operand) (ho : o.op = .buildSlice 45 1 #[(0, x)]) (t : Tl) (hx : a.eval x = .agg (tlA t))
    (h : wpList Try.prog ops Q rest (a.put o.dst (.slice (some ⟨w.heap.size, 0, none⟩) 1 1)) (w.alloc (.cells (tlA t) 37))) : wpList Try.prog ops Q (o :: rest) a w := by
  refine wpList_plain hg fun K hK => ?_
  unfold Oper.wp execOp
  simp only [ho, List.map_toArray, List.map_cons, List.map_nil, hx, Sem.run_bind, run_one, Result.andThen_ok, Sem.run_pure]
  exact hK _ _ h
theorem wpList_push {ops : Array Oper} {rest : List Oper} {o : Oper} {a : Act} {w : World} {Q : Exit → Act → World → Prop} (hg : o.guard = none) (s x : Operand) (ho : o.op = .call { callee := .builtin .append, args := #[s, x], argTypes := #[45, 45] })
    (B : Nat) (v : Value) (l : List Tl) (hs : a.eval s = v) (hown : Own w B v l) (g : Nat) (t : Tl) (fr : Nat × Nat) (hx : a.eval x = .slice (some ⟨g, 0, none⟩) 1 1) (hgt : w.heap[g]? = some (.cells (tlA t) 37 fr)) (hl : l.length ≤ 1000000) (hB : B ≤ w.heap.size)
    (h : ∀ v' w', Own w' B v' (l ++ [t]) → w.grownBy w' v.ownBlock → wpList Try.prog ops Q rest (a.put o.dst v') w') : wpList Try.prog ops Q (o :: rest) a w := by
  refine wpList_plain hg fun K hK => ?_
  obtain ⟨i, hi, hz0, hz1, hz2⟩ := info_parts infoT3
  obtain ⟨v', w', hrun, hown', hgrow, _⟩ := run_append_own (P := Try.prog) w B 45 o.type 37 i _ 19 152 Try.underlying45 hi hz0 hz1 hz2 rfl (by decide) v l.length _ hown ⟨g, 0, none⟩ 1 1 (tlL t) rfl (fun j u hj => by rw [add_zero]; simpa [World.cell?, hgt, tlA] using hj) (tlL_one t) (by unfold maxLen; omega) (by omega) hB
  unfold Oper.wp execOp
  simp only [ho, resolve, invoke, builtin, Sem.run_bind, Sem.run_pure, Result.andThen_ok, List.map_toArray, List.map_cons, List.map_nil, hs, hx, hrun]
  refine hK _ _ (h v' w' ?_ hgrow)
  unfold Own
  rw [List.length_append, rowL_append]
  simpa [rowL] using hown'
set_option maxRecDepth 100000 in
set_option maxHeartbeats 4000000 in
theorem due_any {w : World} {p b n N : Nat} {rsd : Int} {M : Mp} (G : LkAt w p b n (N : Int) rsd M) (now : Int) (hN : N ≤ 8) (hn : n ≤ 900000) :
    Calls Try.prog 18 #[.pointer (some ⟨p, 0, none⟩), .int .i64 now] w fun e w' => ∃ v, e = .returned v ∧ ∃ n', Own w' w.heap.size v (dueL now rsd M N) ∧ LkAt w' p b n' (N : Int) rsd (dueM now rsd M N) ∧ n' ≤ n + 8 ∧ w.grownBy w' (some b) := by
  obtain ⟨rs, hrs⟩ : ∃ rs : Int, rs = (N : Int) := ⟨_, rfl⟩
  have HR : Hid (rs = (N : Int)) := hrs
  rw [← hrs] at G ⊢
  clear hrs
  have g0 := G.c0
  have lb := G.blt
  have lp0 := G.lt
  go_enter Try.func18, Try.ntmps18
  go_wp2_with fail
  go_loopw [13, 5] (fun c v wr => ∃ (k n' : Nat), c = .int .i64 k ∧ k ≤ N ∧ Own wr w.heap.size v (dueL now rsd M k) ∧ LkAt wr p b n' rs rsd (dueM now rsd M k) ∧ n' ≤ n + k ∧ w.grownBy wr (some b)) (fun c _ _ => N - (intOf c).toNat)
  case atStart => exact ⟨0, n, rfl, Nat.zero_le _, World.ownsRow_nil _ _ _ _, by rw [dueM_zero]; exact G, Nat.le_refl _, World.grownBy.refl _ _⟩
  case round =>
    clear G
    obtain ⟨k, n', rfl, hk, O, G, hn', gr⟩ := hrel
    have lp : p < w.heap.size := lp0
    have hwf : wf64 (k : Int) := wf64_of (by omega) (by omega)
    have HW : Hid (wf64 (k : Int)) := hwf
    by_cases hlt : k < N
    · have hlt' : (k : Int) < rs := by rw [HR.out]; omega
      have k8 : (k : Int) < 8 := by omega
      have g2 := G.c2
      have hl := G.look hwf
      rw [dueM_at] at hl
      obtain ⟨w2, hw2⟩ : ∃ w2, w2 = wr.alloc (.cells (sdOf (M k)) 64) := ⟨_, rfl⟩
      have b2 : Below wr.heap.size wr w2 := by rw [hw2]; exact (Below.refl _ _).alloc (Nat.le_refl _) _
      have hs2 : w2.heap[wr.heap.size]? = some (.cells (sdOf (M k)) 64 (0, 0)) := by rw [hw2]; exact World.alloc_heap_new _ _
      have HG : Hid (LkAt w2 p b n' rs rsd (dueM now rsd M k)) := G.go b2
      cases hM : M (k : Int) with
      | none =>
        rw [hM] at hl hw2 hs2
        simp only [Option.isSome_none] at hl
        have HM : Hid (M (k : Int) = none) := hM
        have HE : Hid (∀ m, Own (w2.drewN m) w.heap.size u5 (dueL now rsd M (k + 1)) ∧ LkAt (w2.drewN m) p b n' rs rsd (dueM now rsd M (k + 1)) ∧ w.grownBy (w2.drewN m) (some b)) :=
          fun m => ⟨by rw [dueL_succ, hM]; simpa [due1] using owns_go O (below_drewN b2 m), by rw [dueM_stay _ _ _ _ (by rw [hM]; rfl)]; exact HG.out.same rfl rfl, grown_trans gr (grown_of (below_drewN b2 m))⟩
        clear G O gr b2 hM hs2
        go_wp2_with (refine wpList_new rfl rfl 64 7 (.tmp 23) rfl rfl rfl rfl (sdA tl0 0) (sdOf none) (zeroSd _) rfl rfl infoSd rfl (sdA_one _ _) ?_; rw [← hw2]; clear hw2)
        go_quiet (fail)
        go_wp2
        go_roundw
        case rel => exact ⟨k + 1, n', by go_num, by omega, (HE.out _).1, (HE.out _).2.1, by omega, (HE.out _).2.2⟩
        case measure => simp [intOf]; omega
      | some s =>
        obtain ⟨t, at_⟩ := s
        rw [hM] at hl hw2 hs2
        simp only [Option.isSome_some] at hl
        have HM : Hid (M (k : Int) = some (t, at_)) := hM
        have HS0 : w2.heap[p]? = some (LkB rs rsd b) ∧ w2.heap[wr.heap.size]? = some (.cells (sdA t at_) 64 (0, 0)) := ⟨HG.out.at_, hs2⟩
        clear hM hs2
        go_wp2_with (refine wpList_new rfl rfl 64 7 (.tmp 23) rfl rfl rfl rfl (sdA tl0 0) (sdOf (some (t, at_))) (zeroSd _) rfl rfl infoSd rfl (sdA_one _ _) ?_; rw [← hw2]; clear hw2)
        refine start_any (S := fun u => u.heap[p]? = some (LkB rs rsd b) ∧ u.heap[wr.heap.size]? = some (.cells (sdA t at_) 64 (0, 0))) 13 rfl (by kernel_rfl) (fun u su => ⟨by rw [su.heap]; exact HS0.1, by rw [su.heap]; exact HS0.2⟩) ?_
        intro x0 sx
        have HS1 : x0.heap[p]? = some (LkB rs rsd b) ∧ x0.heap[wr.heap.size]? = some (.cells (sdA t at_) 64 (0, 0)) := ⟨by rw [sx.heap]; exact HS0.1, by rw [sx.heap]; exact HS0.2⟩
        simp only [Array.replicate_succ, Array.replicate_zero, List.push_toArray, List.nil_append, List.cons_append]
        refine take_held 0 HS1 rfl (by kernel_rfl) (by kernel_rfl) (by kernel_rfl) (fun _ _ _ h => h) (by kernel_rfl) (v := ?v101) ?y101 ?r101
        case y101 => (intro u hu; go_simp; try rfl)
        simp only [Act.put, List.setIfInBounds_toArray, List.set_cons_zero, List.set_cons_succ]
        refine take_held 1 HS1 rfl (by kernel_rfl) (by kernel_rfl) (by kernel_rfl) (fun _ _ _ h => h) (by kernel_rfl) (v := ?v102) ?y102 ?r102
        case y102 => (intro u hu; go_simp; try rfl)
        simp only [Act.put, List.setIfInBounds_toArray, List.set_cons_zero, List.set_cons_succ]
        refine take_held 2 HS1 rfl (by kernel_rfl) (by kernel_rfl) (by kernel_rfl) (fun _ _ _ h => h) (by kernel_rfl) (v := ?v103) ?y103 ?r103
        case y103 => (intro u hu; go_simp; try rfl)
        simp only [Act.put, List.setIfInBounds_toArray, List.set_cons_zero, List.set_cons_succ]
        refine take_held 3 HS1 rfl (by kernel_rfl) (by kernel_rfl) (by kernel_rfl) (fun _ _ _ h => h) (by kernel_rfl) (v := ?v104) ?y104 ?r104
        case y104 => (intro u hu; go_simp; try rfl)
        simp only [Act.put, List.setIfInBounds_toArray, List.set_cons_zero, List.set_cons_succ]
        refine take_held 4 HS1 rfl (by kernel_rfl) (by kernel_rfl) (by kernel_rfl) (fun _ _ _ h => h) (by kernel_rfl) (v := ?v105) ?y105 ?r105
        case y105 => (intro u hu; go_simp; try rfl)
        simp only [Act.put, List.setIfInBounds_toArray, List.set_cons_zero, List.set_cons_succ]
        refine take_held 5 HS1 rfl (by kernel_rfl) (by kernel_rfl) (by kernel_rfl) (fun _ _ _ h => h) (by kernel_rfl) (v := .int .i64 at_) ?y106 ?r106
        case y106 => (intro u hu; have zz := sd_at hu.2; go_simp; try rfl)
        simp only [Act.put, List.setIfInBounds_toArray, List.set_cons_zero, List.set_cons_succ]
        refine take_held 7 HS1 rfl (by kernel_rfl) (by kernel_rfl) (by kernel_rfl) (fun _ _ _ h => h) (by kernel_rfl) (v := ?v107) ?y107 ?r107
        case y107 => (intro u hu; go_simp; try rfl)
        simp only [Act.put, List.setIfInBounds_toArray, List.set_cons_zero, List.set_cons_succ]
        refine take_held 8 HS1 rfl (by kernel_rfl) (by kernel_rfl) (by kernel_rfl) (fun _ _ _ h => h) (by kernel_rfl) (v := ?v108) ?y108 ?r108
        case y108 => (intro u hu; go_simp; try rfl)
        simp only [Act.put, List.setIfInBounds_toArray, List.set_cons_zero, List.set_cons_succ]
        refine take_held 9 HS1 rfl (by kernel_rfl) (by kernel_rfl) (by kernel_rfl) (fun _ _ _ h => h) (by kernel_rfl) (v := ?v109) ?y109 ?r109
        case y109 => (intro u hu; go_simp; try rfl)
        simp only [Act.put, List.setIfInBounds_toArray, List.set_cons_zero, List.set_cons_succ]
        refine take_held 10 HS1 rfl (by kernel_rfl) (by kernel_rfl) (by kernel_rfl) (fun _ _ _ h => h) (by kernel_rfl) (v := .int .i64 rsd) ?y110 ?r110
        case y110 => (intro u hu; have zz : u.cell? ⟨p, 1, none⟩ = some (.int .i64 rsd) := link_c1 hu.1; go_simp; try rfl)
        simp only [Act.put, List.setIfInBounds_toArray, List.set_cons_zero, List.set_cons_succ]
        refine call_held 6 rfl (by kernel_rfl) (by kernel_rfl) 25 #[.int .i64 now, .int .i64 at_] (by go_simp; try rfl) _ (less_any now at_ x0) ?_
        rintro e x1 ⟨rfl, kx⟩
        have bx : Below wr.heap.size wr x1 := (b2.trans ⟨sx.os, sx.tape, sx.output, by rw [sx.heap]; exact Nat.le_refl _, fun k _ => by rw [sx.heap]⟩).trans (kx.below.mono (by have := b2.size; rw [sx.heap]; omega))
        have bz : Below x0.heap.size x0 x1 := kx.below
        have HS2 : x1.heap[p]? = some (LkB rs rsd b) ∧ x1.heap[wr.heap.size]? = some (.cells (sdA t at_) 64 (0, 0)) := ⟨(bz.block _ (Array.getElem?_eq_some_iff.1 HS1.1).1).trans HS1.1, (bz.block _ (Array.getElem?_eq_some_iff.1 HS1.2).1).trans HS1.2⟩
        refine Or.inl ⟨_, rfl, HS2, ?_⟩
        simp only [Act.put, List.setIfInBounds_toArray, List.set_cons_zero, List.set_cons_succ]
        refine take_held 11 HS2 rfl (by kernel_rfl) (by kernel_rfl) (by kernel_rfl) (fun _ _ _ h => h) (by kernel_rfl) (v := .bool (decide (less now at_ < rsd))) ?y111 ?r111
        case y111 => (intro u hu; go_simp; try rfl)
        simp only [Act.put, List.setIfInBounds_toArray, List.set_cons_zero, List.set_cons_succ]
        refine take_held 12 HS2 rfl (by kernel_rfl) (by kernel_rfl) (by kernel_rfl) (fun _ _ _ h => h) (by kernel_rfl) (v := ?v112) ?y112 ?r112
        case y112 => (intro u hu; go_simp; try rfl)
        simp only [Act.put, List.setIfInBounds_toArray, List.set_cons_zero, List.set_cons_succ]
        refine done_held (by kernel_rfl) ?_ _
        clear kx bz sx HS1 HS0
        by_cases hd : less now at_ < rsd
        · have hd' : decide (less now at_ < rsd) = true := decide_eq_true hd
          have HD : Hid (¬ rsd ≤ less now at_) := by show ¬ _; omega
          have HE : Hid (Own x1 w.heap.size u5 (dueL now rsd M (k + 1)) ∧ LkAt x1 p b n' rs rsd (dueM now rsd M (k + 1)) ∧ w.grownBy x1 (some b)) :=
            ⟨by rw [dueL_succ, HM.out]; simpa [due1, HD.out] using owns_go O bx, by rw [dueM_stay _ _ _ _ (by rw [HM.out]; simp [wait1, HD.out])]; exact G.go bx, grown_trans gr (grown_of bx)⟩
          clear G O gr b2 bx HS2
          go_wp2
          go_roundw
          case rel => exact ⟨k + 1, n', by go_num, by omega, HE.out.1, HE.out.2.1, by omega, HE.out.2.2⟩
          case measure => simp [intOf]; omega
        · have hd' : decide (less now at_ < rsd) = false := decide_eq_false hd
          have HD : Hid (rsd ≤ less now at_) := by show _ ≤ _; omega
          go_wp2_with fail
          refine start_any (S := fun u => u.heap[p]? = some (LkB rs rsd b) ∧ u.heap[wr.heap.size]? = some (.cells (sdA t at_) 64 (0, 0))) 10 rfl (by kernel_rfl) (fun u su => ⟨by rw [su.heap]; exact HS2.1, by rw [su.heap]; exact HS2.2⟩) ?_
          intro x2 sy
          have HS3 : x2.heap[p]? = some (LkB rs rsd b) ∧ x2.heap[wr.heap.size]? = some (.cells (sdA t at_) 64 (0, 0)) := ⟨by rw [sy.heap]; exact HS2.1, by rw [sy.heap]; exact HS2.2⟩
          simp only [Array.replicate_succ, Array.replicate_zero, List.push_toArray, List.nil_append, List.cons_append]
          refine take_held 0 HS3 rfl (by kernel_rfl) (by kernel_rfl) (by kernel_rfl) (fun _ _ _ h => h) (by kernel_rfl) (v := ?v113) ?y113 ?r113
          case y113 => (intro u hu; go_simp; try rfl)
          simp only [Act.put, List.setIfInBounds_toArray, List.set_cons_zero, List.set_cons_succ]
          refine take_held 1 HS3 rfl (by kernel_rfl) (by kernel_rfl) (by kernel_rfl) (fun _ _ _ h => h) (by kernel_rfl) (v := ?v114) ?y114 ?r114
          case y114 => (intro u hu; go_simp; try rfl)
          simp only [Act.put, List.setIfInBounds_toArray, List.set_cons_zero, List.set_cons_succ]
          refine take_held 2 HS3 rfl (by kernel_rfl) (by kernel_rfl) (by kernel_rfl) (fun _ _ _ h => h) (by kernel_rfl) (v := ?v115) ?y115 ?r115
          case y115 => (intro u hu; go_simp; try rfl)
          simp only [Act.put, List.setIfInBounds_toArray, List.set_cons_zero, List.set_cons_succ]
          refine take_held 3 HS3 rfl (by kernel_rfl) (by kernel_rfl) (by kernel_rfl) (fun _ _ _ h => h) (by kernel_rfl) (v := .map (some b)) ?y116 ?r116
          case y116 => (intro u hu; have zz := link_c2 hu.1; go_simp; try rfl)
          simp only [Act.put, List.setIfInBounds_toArray, List.set_cons_zero, List.set_cons_succ]
          refine take_held 4 HS3 rfl (by kernel_rfl) (by kernel_rfl) (by kernel_rfl) (fun _ _ _ h => h) (by kernel_rfl) (v := ?v117) ?y117 ?r117
          case y117 => (intro u hu; go_simp; try rfl)
          simp only [Act.put, List.setIfInBounds_toArray, List.set_cons_zero, List.set_cons_succ]
          refine take_held 5 HS3 rfl (by kernel_rfl) (by kernel_rfl) (by kernel_rfl) (fun _ _ _ h => h) (by kernel_rfl) (v := ?v118) ?y118 ?r118
          case y118 => (intro u hu; go_simp; try rfl)
          simp only [Act.put, List.setIfInBounds_toArray, List.set_cons_zero, List.set_cons_succ]
          refine take_held 6 HS3 rfl (by kernel_rfl) (by kernel_rfl) (by kernel_rfl) (fun _ _ _ h => h) (by kernel_rfl) (v := .agg (tlA t)) ?y119 ?r119
          case y119 => (intro u hu; exact run_load_at 37 (.tmp 43) rfl ⟨wr.heap.size, 0, none⟩ rfl (tlA t) (load_sd hu.2))
          simp only [Act.put, List.setIfInBounds_toArray, List.set_cons_zero, List.set_cons_succ]
          refine take_held 7 HS3 rfl (by kernel_rfl) (by kernel_rfl) (by kernel_rfl) (fun _ _ _ h => h) (by kernel_rfl) (v := ?v120) ?y120 ?r120
          case y120 => (intro u hu; go_simp; try rfl)
          simp only [Act.put, List.setIfInBounds_toArray, List.set_cons_zero, List.set_cons_succ]
          refine take_held 8 HS3 rfl (by kernel_rfl) (by kernel_rfl) (by kernel_rfl) (fun _ _ _ h => h) (by kernel_rfl) (v := .agg (sdA t now)) ?y121 ?r121
          case y121 => (intro u hu; exact run_build_sd _ _ rfl t now rfl rfl)
          simp only [Act.put, List.setIfInBounds_toArray, List.set_cons_zero, List.set_cons_succ]
          have by2 : Below wr.heap.size wr x2 := bx.trans ⟨sy.os, sy.tape, sy.output, by rw [sy.heap]; exact Nat.le_refl _, fun k _ => by rw [sy.heap]⟩
          obtain ⟨w3, hr3, G3, g3⟩ := (G.go by2).store HW.out (by omega) t now
          have O3 := owns_same O (fun j hj => (g3.block j (by have := (own_since O j hj).2; have := by2.size; omega) (fun e => by have := (own_since O j hj).1; cases e; omega)).trans (by2.block j (own_since O j hj).2))
          have lx : wr.heap.size < x2.heap.size := (Array.getElem?_eq_some_iff.1 HS3.2).1
          have ht4 : w3.heap[wr.heap.size]? = some (.cells (sdA t at_) 64 (0, 0)) := (g3.block _ lx (fun e => by cases e; have := G.blt; omega)).trans HS3.2
          refine store_held 9 rfl (by kernel_rfl) (by kernel_rfl) w3 (run_mapUpdate_op 57 _ _ _ rfl _ _ _ rfl rfl rfl hr3) ⟨G3.at_, ht4⟩ ?_
          simp only [Act.put, List.setIfInBounds_toArray, List.set_cons_zero, List.set_cons_succ]
          refine done_held (by kernel_rfl) ?_ _
          have gr3 : w.grownBy w3 (some b) := grown_trans gr (grown_trans (grown_of by2) g3)
          have HG3 : Hid (LkAt w3 p b (n' + 1) rs rsd (upd (dueM now rsd M k) k (some (t, now)))) := G3
          have HO3 : Hid (Own w3 w.heap.size u5 (dueL now rsd M k)) := O3
          have HGR : Hid (w.grownBy w3 (some b)) := gr3
          have s3 : w.heap.size ≤ w3.heap.size := gr3.size
          have hb3 : p < w.heap.size := lp
          obtain ⟨w4, hw4⟩ : ∃ w4, w4 = w3.alloc (.cells (tlA t) 37) := ⟨_, rfl⟩
          have b4 : Below w3.heap.size w3 w4 := by rw [hw4]; exact (Below.refl _ _).alloc (Nat.le_refl _) _
          have hg4 : w4.heap[w3.heap.size]? = some (.cells (tlA t) 37 (0, 0)) := by rw [hw4]; exact World.alloc_heap_new _ _
          have HO4 : Hid (Own w4 w.heap.size u5 (dueL now rsd M k)) := owns_go O3 b4
          have HB4 : Hid (Below w3.heap.size w3 w4) := b4
          have HV : Hid (∀ j, u5.ownBlock = some j → w.heap.size ≤ j) := fun j hj => (own_since O3 j hj).1
          clear G3 g3 hr3 O3 gr3 by2 bx sy HS3 HS2 lx G O gr b2 b4
          go_wp2_with (first
            | (refine wpList_load_at rfl 37 (.tmp 48) rfl ⟨wr.heap.size, 0, none⟩ rfl (tlA t) (load_sd ht4) ?_)
            | (refine wpList_one rfl (.tmp 49) rfl t rfl ?_; rw [← hw4]; clear hw4)
            | (refine wpList_push rfl (.tmp 47) (.tmp 50) rfl w.heap.size u5 (dueL now rsd M k) rfl HO4.out w3.heap.size t (0, 0) rfl hg4 (by have := dueL_len now rsd M k; omega) (by have := HB4.out.size; omega) ?_; intro v5 w5 O5 g5))
          have nb : u5.ownBlock ≠ some b := fun e => by have := HV.out _ e; omega
          have np : u5.ownBlock ≠ some p := fun e => by have := HV.out _ e; omega
          have G4 : LkAt w4 p b (n' + 1) rs rsd (upd (dueM now rsd M k) k (some (t, now))) := HG3.out.go HB4.out
          have G5 : LkAt w5 p b (n' + 1) rs rsd (upd (dueM now rsd M k) k (some (t, now))) := G4.same (g5.block _ G4.lt (fun e => np e.symm)) (g5.block _ G4.blt (fun e => nb e.symm))
          have gr5 : w.grownBy w5 (some b) := by
            have q := grown_trans HGR.out (grown_of HB4.out)
            exact ⟨g5.os.trans q.os, g5.tape.trans q.tape, g5.output.trans q.output, Nat.le_trans q.size g5.size, fun i hi hr => (g5.block i (Nat.lt_of_lt_of_le hi q.size) (fun e => by have := HV.out i e.symm; omega)).trans (q.block i hi hr)⟩
          go_roundw
          case rel => exact ⟨k + 1, n' + 1, by go_num, by omega, by rw [dueL_succ, HM.out]; simpa [due1, HD.out] using O5, by rw [dueM_turn, HM.out]; simpa [wait1, HD.out] using G5, by omega, gr5⟩
          case measure => simp [intOf]; omega
    · obtain rfl : k = N := by omega
      have hlt' : ¬ (k : Int) < rs := by rw [HR.out]; omega
      go_wp2
      go_ret
      exact ⟨_, rfl, O, n', G, by omega, gr⟩
end Go.Proofs.Ytjladfpfhhnagaa.Lk
