/-
  The law's SameStacks, over like stacks.
-/
import Derived.Test.YthdgpadakmdlkaaCodecSameLists
namespace Go.Proofs.Ythdgpadakmdlkaa.Codec
set_option linter.unusedVariables false
set_option linter.unusedSimpArgs false
open Go Go.RowKit

theorem aggCell3 (w : World) : (isAgg 23).run Try.prog w = .ok true w := by unfold isAgg; rw [Sem.run_bind, run_underlying Try.underlying23 w]; rfl
theorem zCell4 : (Try.prog.info? 23).map (·.size) = some 2 := by kernel_rfl
theorem eqCell_self (x y : Int) (w : World) : (Op.equalIn 10000 23 (.agg #[.int .i64 x, .int .i64 y]) (.agg #[.int .i64 x, .int .i64 y])).run Try.prog w = .ok true w := by
  go_simp
theorem gCellT3 : Try.prog.eqGuardType Try.prog.depth 23 = false := by kernel_rfl
theorem two_of_three {a b c : Value} {j : Nat} {z : Value} (h : (#[a, b] : Array Value)[j]? = some z) : (#[a, b, c] : Array Value)[j]? = some z := by
  match j with
  | 0 => exact h
  | 1 => exact h
  | j + 2 => simp at h
set_option maxRecDepth 100000 in
set_option maxHeartbeats 2000000 in
theorem sameStacks_same (F G : Nat → Prop) (v1 v2 : Value) (xs : List TStack) (w : World) (h1 : ListAt 3 stackEl F xs v1 w) (h2 : ListAt 3 stackEl G xs v2 w) (hF : ∀ g, F g → g < w.heap.size) (hG : ∀ g, G g → g < w.heap.size) (hm : xs.length ≤ 140737488355328) (hb : ∀ x ∈ xs, x.2.length ≤ 140737488355328) :
    Calls Try.prog 57 #[v1, v2] w fun e w' => e = .returned (.bool true) ∧ Below w.heap.size w w' := by
  obtain ⟨a1, c1, ys1, rfl, rfl, el1, ce1, _⟩ := h1
  obtain ⟨a2, c2, ys2, hxs, rfl, el2, ce2, _⟩ := h2
  have hll : ys2.length = ys1.length := by have := congrArg List.length hxs; simpa using this.symm
  rw [hll]
  rw [List.length_map] at hm
  have HR : Hid (∀ i, i < ys1.length → ∃ (x : TStack) (u1 u2 : Value) (p1 p2 : Addr), a1 = some p1 ∧ a2 = some p2 ∧ x.2.length ≤ 140737488355328 ∧ p1.block < w.heap.size ∧ p2.block < w.heap.size ∧ ListAt 1 intEl F x.2 u1 w ∧ ListAt 1 intEl G x.2 u2 w ∧
      (∀ j u, (#[.int .i64 x.1.1, .int .i64 x.1.2, u1] : Array Value)[j]? = some u → w.cell? (p1.add (i * 3 + j)) = some u) ∧ (∀ j u, (#[.int .i64 x.1.1, .int .i64 x.1.2, u2] : Array Value)[j]? = some u → w.cell? (p2.add (i * 3 + j)) = some u)) := by
    intro i hi
    obtain ⟨p1, e1, f1, q1⟩ := ce1 i hi
    obtain ⟨p2, e2, f2, q2⟩ := ce2 i (by omega)
    obtain ⟨u1, s1, l1⟩ := el1 _ (List.getElem_mem hi)
    obtain ⟨u2, s2, l2⟩ := el2 _ (List.getElem_mem (show i < ys2.length by omega))
    have hx : (ys1[i]'hi).1 = (ys2[i]'(by omega)).1 := by
      have := congrArg (fun l => l[i]?) hxs
      simp only [List.getElem?_map, List.getElem?_eq_getElem hi, List.getElem?_eq_getElem (show i < ys2.length by omega), Option.map_some, Option.some.injEq] at this
      exact this
    rw [← hx] at s2 l2
    rw [s1] at q1
    rw [s2] at q2
    exact ⟨_, u1, u2, p1, p2, e1, e2, hb _ (List.mem_map.2 ⟨_, List.getElem_mem hi, rfl⟩), hF _ f1, hG _ f2, l1, l2, q1, q2⟩
  clear el1 el2 ce1 ce2 hxs hb
  generalize ys1.length = n at *
  clear hll
  have hl' : ((n : Int) != (n : Int)) = false := by simp
  go_enter Try.func57, Try.ntmps57
  go_wp2_with fail
  go_loopw [5] (fun s5 wr => ∃ i : Nat, s5 = .int .i64 i ∧ i ≤ n ∧ Hid (Below w.heap.size w wr)) (fun s5 _ => n - (intOf s5).toNat)
  case atStart => exact ⟨0, rfl, Nat.zero_le _, Below.refl _ _⟩
  case round =>
    obtain ⟨i, rfl, hi, bw⟩ := hrel
    rcases Nat.lt_or_ge i n with hlt | hge
    · obtain ⟨⟨⟨cx, cy⟩, bs⟩, u1, u2, p1, p2, e1, e2, hbs, f1, f2, l1, l2, q1, q2⟩ := HR.out i hlt
      dsimp only at hbs l1 l2 q1 q2
      subst e1
      subst e2
      have cI := fun (u : World) (hu : Below wr.heap.size wr u) => sameInts_same F G u1 u2 bs u (l1.stable heldIntEl fun g hg => (hu.block g (Nat.lt_of_lt_of_le (hF g hg) bw.out.size)).trans (bw.out.block g (hF g hg))) (l2.stable heldIntEl fun g hg => (hu.block g (Nat.lt_of_lt_of_le (hG g hg) bw.out.size)).trans (bw.out.block g (hG g hg))) hbs
      obtain ⟨va, vc, rfl, _⟩ := l1.form
      obtain ⟨ua, uc, rfl, _⟩ := l2.form
      have K1 : ∀ u, Below wr.heap.size wr u → ∀ j z, (#[.int .i64 cx, .int .i64 cy, .slice va bs.length vc] : Array Value)[j]? = some z → u.cell? ((p1.add (i * 3)).add j) = some z := fun u hu j z hj => by
        rw [add_add, hu.cell (by rw [block_add]; exact Nat.lt_of_lt_of_le f1 bw.out.size), bw.out.cell (by rw [block_add]; exact f1)]
        exact q1 j z hj
      have K2 : ∀ u, Below wr.heap.size wr u → ∀ j z, (#[.int .i64 cx, .int .i64 cy, .slice ua bs.length uc] : Array Value)[j]? = some z → u.cell? ((p2.add (i * 3)).add j) = some z := fun u hu j z hj => by
        rw [add_add, hu.cell (by rw [block_add]; exact Nat.lt_of_lt_of_le f2 bw.out.size), bw.out.cell (by rw [block_add]; exact f2)]
        exact q2 j z hj
      have H1 : ∀ u, Below wr.heap.size wr u → ∀ j z, (#[.int .i64 cx, .int .i64 cy] : Array Value)[j]? = some z → u.cell? ((p1.add (i * 3)).add j) = some z := fun u hu j z hj => K1 u hu j z (two_of_three hj)
      have H2 : ∀ u, Below wr.heap.size wr u → ∀ j z, (#[.int .i64 cx, .int .i64 cy] : Array Value)[j]? = some z → u.cell? ((p2.add (i * 3)).add j) = some z := fun u hu j z hj => K2 u hu j z (two_of_three hj)
      have H3 := fun (u : World) (hu : Below wr.heap.size wr u) => (show u.cell? ⟨(p1.add (i * 3)).block, (p1.add (i * 3)).off + 2, none⟩ = some (.slice va bs.length vc) from K1 u hu 2 _ rfl)
      have H4 := fun (u : World) (hu : Below wr.heap.size wr u) => (show u.cell? ⟨(p2.add (i * 3)).block, (p2.add (i * 3)).off + 2, none⟩ = some (.slice ua bs.length uc) from K2 u hu 2 _ rfl)
      have H1 : Hid _ := H1
      have H2 : Hid _ := H2
      have H3 : Hid _ := H3
      have H4 : Hid _ := H4
      have cI : Hid _ := cI
      have i1 : (i : Int) < (n : Int) := by omega
      have hd : decide ((i : Int) < (n : Int)) = true := decide_eq_true i1
      clear q1 q2 l1 l2 K1 K2 HR
      generalize bs.length = nb at *
      go_upto_region 6 with fail
      go_cut [41] from 17 to 41 (fun rr wx => rr = .bool false ∧ Below wr.heap.size wr wx)
      case first =>
        have S0 : Below wr.heap.size wr wr.drew := below_drewN wr 1
        refine start_held (S := fun u => Below wr.heap.size wr u) 25 rfl (by kernel_rfl) (S0) ?_
        simp only [Array.replicate_succ, Array.replicate_zero, List.push_toArray, List.nil_append, List.cons_append]
        refine take_held 0 S0 rfl (by kernel_rfl) (by kernel_rfl) (by kernel_rfl) (fun _ _ _ h => h) (by kernel_rfl) (v := ?v0) ?y0 ?r0
        case y0 => (intro u hu; go_simp; try rfl)
        simp only [Act.put, List.setIfInBounds_toArray, List.set_cons_zero, List.set_cons_succ]
        refine take_held 1 S0 rfl (by kernel_rfl) (by kernel_rfl) (by kernel_rfl) (fun _ _ _ h => h) (by kernel_rfl) (v := ?v1) ?y1 ?r1
        case y1 => (intro u hu; go_simp; try rfl)
        simp only [Act.put, List.setIfInBounds_toArray, List.set_cons_zero, List.set_cons_succ]
        refine take_held 2 S0 rfl (by kernel_rfl) (by kernel_rfl) (by kernel_rfl) (fun _ _ _ h => h) (by kernel_rfl) (v := ?v2) ?y2 ?r2
        case y2 => (intro u hu; go_simp; try rfl)
        simp only [Act.put, List.setIfInBounds_toArray, List.set_cons_zero, List.set_cons_succ]
        refine take_held 3 S0 rfl (by kernel_rfl) (by kernel_rfl) (by kernel_rfl) (fun _ _ _ h => h) (by kernel_rfl) (v := ?v3) ?y3 ?r3
        case y3 => (intro u hu; go_simp; try rfl)
        simp only [Act.put, List.setIfInBounds_toArray, List.set_cons_zero, List.set_cons_succ]
        refine take_held 4 S0 rfl (by kernel_rfl) (by kernel_rfl) (by kernel_rfl) (fun _ _ _ h => h) (by kernel_rfl) (v := .agg #[.int .i64 cx, .int .i64 cy]) ?y4 ?r4
        case y4 => (intro u hu; exact run_load_at 23 _ rfl (p1.add (i * 3)) #[.int .i64 cx, .int .i64 cy] rfl (run_loadVar_at _ _ _ _ (H1.out u hu) (aggCell3 _) zCell4))
        simp only [Act.put, List.setIfInBounds_toArray, List.set_cons_zero, List.set_cons_succ]
        refine take_held 5 S0 rfl (by kernel_rfl) (by kernel_rfl) (by kernel_rfl) (fun _ _ _ h => h) (by kernel_rfl) (v := ?v5) ?y5 ?r5
        case y5 => (intro u hu; go_simp; try rfl)
        simp only [Act.put, List.setIfInBounds_toArray, List.set_cons_zero, List.set_cons_succ]
        refine take_held 6 S0 rfl (by kernel_rfl) (by kernel_rfl) (by kernel_rfl) (fun _ _ _ h => h) (by kernel_rfl) (v := ?v6) ?y6 ?r6
        case y6 => (intro u hu; go_simp; try rfl)
        simp only [Act.put, List.setIfInBounds_toArray, List.set_cons_zero, List.set_cons_succ]
        refine take_held 7 S0 rfl (by kernel_rfl) (by kernel_rfl) (by kernel_rfl) (fun _ _ _ h => h) (by kernel_rfl) (v := ?v7) ?y7 ?r7
        case y7 => (intro u hu; go_simp; try rfl)
        simp only [Act.put, List.setIfInBounds_toArray, List.set_cons_zero, List.set_cons_succ]
        refine take_held 8 S0 rfl (by kernel_rfl) (by kernel_rfl) (by kernel_rfl) (fun _ _ _ h => h) (by kernel_rfl) (v := ?v8) ?y8 ?r8
        case y8 => (intro u hu; go_simp; try rfl)
        simp only [Act.put, List.setIfInBounds_toArray, List.set_cons_zero, List.set_cons_succ]
        refine take_held 9 S0 rfl (by kernel_rfl) (by kernel_rfl) (by kernel_rfl) (fun _ _ _ h => h) (by kernel_rfl) (v := .agg #[.int .i64 cx, .int .i64 cy]) ?y9 ?r9
        case y9 => (intro u hu; exact run_load_at 23 _ rfl (p2.add (i * 3)) #[.int .i64 cx, .int .i64 cy] rfl (run_loadVar_at _ _ _ _ (H2.out u hu) (aggCell3 _) zCell4))
        simp only [Act.put, List.setIfInBounds_toArray, List.set_cons_zero, List.set_cons_succ]
        refine take_held 10 S0 rfl (by kernel_rfl) (by kernel_rfl) (by kernel_rfl) (fun _ _ _ h => h) (by kernel_rfl) (v := .bool false) ?y10 ?r10
        case y10 => (intro u hu; exact run_neq_op3 23 23 _ _ rfl #[.int .i64 cx, .int .i64 cy] #[.int .i64 cx, .int .i64 cy] rfl rfl true (eqCell_self cx cy u) gCellT3)
        simp only [Act.put, List.setIfInBounds_toArray, List.set_cons_zero, List.set_cons_succ]
        refine take_held 11 S0 rfl (by kernel_rfl) (by kernel_rfl) (by kernel_rfl) (fun _ _ _ h => h) (by kernel_rfl) (v := ?v11) ?y11 ?r11
        case y11 => (intro u hu; go_simp; try rfl)
        simp only [Act.put, List.setIfInBounds_toArray, List.set_cons_zero, List.set_cons_succ]
        refine take_held 12 S0 rfl (by kernel_rfl) (by kernel_rfl) (by kernel_rfl) (fun _ _ _ h => h) (by kernel_rfl) (v := ?v12) ?y12 ?r12
        case y12 => (intro u hu; go_simp; try rfl)
        simp only [Act.put, List.setIfInBounds_toArray, List.set_cons_zero, List.set_cons_succ]
        refine take_held 13 S0 rfl (by kernel_rfl) (by kernel_rfl) (by kernel_rfl) (fun _ _ _ h => h) (by kernel_rfl) (v := ?v13) ?y13 ?r13
        case y13 => (intro u hu; go_simp; try rfl)
        simp only [Act.put, List.setIfInBounds_toArray, List.set_cons_zero, List.set_cons_succ]
        refine take_held 14 S0 rfl (by kernel_rfl) (by kernel_rfl) (by kernel_rfl) (fun _ _ _ h => h) (by kernel_rfl) (v := ?v14) ?y14 ?r14
        case y14 => (intro u hu; go_simp; try rfl)
        simp only [Act.put, List.setIfInBounds_toArray, List.set_cons_zero, List.set_cons_succ]
        refine take_held 15 S0 rfl (by kernel_rfl) (by kernel_rfl) (by kernel_rfl) (fun _ _ _ h => h) (by kernel_rfl) (v := ?v15) ?y15 ?r15
        case y15 => (intro u hu; go_simp; try rfl)
        simp only [Act.put, List.setIfInBounds_toArray, List.set_cons_zero, List.set_cons_succ]
        refine take_held 16 S0 rfl (by kernel_rfl) (by kernel_rfl) (by kernel_rfl) (fun _ _ _ h => h) (by kernel_rfl) (v := ?v16) ?y16 ?r16
        case y16 => (intro u hu; have zz0 := H3.out u hu; go_simp; try rfl)
        simp only [Act.put, List.setIfInBounds_toArray, List.set_cons_zero, List.set_cons_succ]
        refine take_held 17 S0 rfl (by kernel_rfl) (by kernel_rfl) (by kernel_rfl) (fun _ _ _ h => h) (by kernel_rfl) (v := ?v17) ?y17 ?r17
        case y17 => (intro u hu; go_simp; try rfl)
        simp only [Act.put, List.setIfInBounds_toArray, List.set_cons_zero, List.set_cons_succ]
        refine take_held 18 S0 rfl (by kernel_rfl) (by kernel_rfl) (by kernel_rfl) (fun _ _ _ h => h) (by kernel_rfl) (v := ?v18) ?y18 ?r18
        case y18 => (intro u hu; go_simp; try rfl)
        simp only [Act.put, List.setIfInBounds_toArray, List.set_cons_zero, List.set_cons_succ]
        refine take_held 19 S0 rfl (by kernel_rfl) (by kernel_rfl) (by kernel_rfl) (fun _ _ _ h => h) (by kernel_rfl) (v := ?v19) ?y19 ?r19
        case y19 => (intro u hu; go_simp; try rfl)
        simp only [Act.put, List.setIfInBounds_toArray, List.set_cons_zero, List.set_cons_succ]
        refine take_held 20 S0 rfl (by kernel_rfl) (by kernel_rfl) (by kernel_rfl) (fun _ _ _ h => h) (by kernel_rfl) (v := ?v20) ?y20 ?r20
        case y20 => (intro u hu; go_simp; try rfl)
        simp only [Act.put, List.setIfInBounds_toArray, List.set_cons_zero, List.set_cons_succ]
        refine take_held 21 S0 rfl (by kernel_rfl) (by kernel_rfl) (by kernel_rfl) (fun _ _ _ h => h) (by kernel_rfl) (v := ?v21) ?y21 ?r21
        case y21 => (intro u hu; have zz0 := H4.out u hu; go_simp; try rfl)
        simp only [Act.put, List.setIfInBounds_toArray, List.set_cons_zero, List.set_cons_succ]
        refine call_held 22 rfl (by kernel_rfl) (by kernel_rfl) 60 #[.slice va nb vc, .slice ua nb uc] (by go_simp) _ (cI.out _ S0) ?_
        rintro e6 x6 ⟨rfl, l6⟩
        have S6 : Below wr.heap.size wr x6 := bcat S0 l6 (Nat.le_refl _)
        refine Or.inl ⟨_, rfl, S6, ?_⟩
        simp only [Act.put, List.setIfInBounds_toArray, List.set_cons_zero, List.set_cons_succ]
        refine take_held 23 S6 rfl (by kernel_rfl) (by kernel_rfl) (by kernel_rfl) (fun _ _ _ h => h) (by kernel_rfl) (v := ?v22) ?y22 ?r22
        case y22 => (intro u hu; go_simp; try rfl)
        simp only [Act.put, List.setIfInBounds_toArray, List.set_cons_zero, List.set_cons_succ]
        refine take_held 24 S6 rfl (by kernel_rfl) (by kernel_rfl) (by kernel_rfl) (fun _ _ _ h => h) (by kernel_rfl) (v := ?v23) ?y23 ?r23
        case y23 => (intro u hu; go_simp; try rfl)
        simp only [Act.put, List.setIfInBounds_toArray, List.set_cons_zero, List.set_cons_succ]
        refine done_held (by kernel_rfl) ?_ _
        go_wp2_with fail
        go_meet
        exact ⟨rfl, S6⟩
      case rest =>
      obtain ⟨rfl, B6⟩ := hcut
      go_wp2_with fail
      go_roundw
      case measure => simp only [intOf]; omega
      case rel => exact ⟨i + 1, by go_num, hlt, bcat bw.out B6 (Nat.le_refl _)⟩
    · obtain rfl : i = n := by omega
      have hd : decide ((i : Int) < (i : Int)) = false := decide_eq_false (by omega)
      go_wp2
      go_ret
      exact ⟨rfl, bw.out⟩
end Go.Proofs.Ythdgpadakmdlkaa.Codec
