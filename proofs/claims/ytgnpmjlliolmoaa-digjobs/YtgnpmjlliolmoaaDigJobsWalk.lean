/-
  The jobs by which a bin comes to a port are what the chapter says.
-/
import Derived.Test.YtgnpmjlliolmoaaDigAwake
import Derived.Test.YtgnpmjlliolmoaaDigRefLate
import Derived.Test.YtgnpmjlliolmoaaDigSameJobs
import Derived.Test.YtgnpmjlliolmoaaDigSameStacks
namespace Go.Proofs.Ytgnpmjlliolmoaa.Dig
set_option linter.unusedVariables false
set_option linter.unusedSimpArgs false
open Go Go.RowKit Go.Shelf Go.Proofs Go.Proofs.Ytgnpmjlliolmoaa.Grid Go.Proofs.Ytgnpmjlliolmoaa.Srt
attribute [local go_sem] Oper.semAt_some

theorem piles_lenJ {stks : List Stk} {m : Nat} (h : ∀ s ∈ stks, s.2.length ≤ m) (x : Cell) : (pileOf stks x).length ≤ m := by
  unfold pileOf
  split
  · rename_i s hs
    exact h s (List.mem_of_find?_eq_some hs)
  · exact Nat.zero_le _
/- How many jobs there can be. -/
theorem jobs_few {ports : List Cell} {stks : List Stk} {height : Int} {L tl : List Cell} {back : Bool} {bin : Int} {port : Cell} {r : List Jb} {e : Int} (h : JobsR ports stks height L tl back bin port r e) : r.length ≤ 1000000 := by
  rcases h with ⟨_, rfl, _⟩ | ⟨_, ⟨_, rfl, _⟩ | ⟨x, j, _, ⟨_, rfl, _⟩ | ⟨_, P, _, ⟨_, rfl, _⟩ | ⟨q1, q2, rfl, _⟩⟩⟩⟩
  · simp
  · simp
  · simp
  · simp
  · unfold jobsP
    have e1 := awaysP_len ((pileOf stks x).drop (j + 1)) x P ((pileOf stks x).drop (j + 1)).length
    split <;> simp only [List.length_append, List.length_reverse, List.length_map, List.length_cons, List.length_nil, e1] <;> omega
/- Jobs, whether the config may be or not. -/
theorem jobs_all {F : Nat → Prop} {c : Conf} {v1 v2 v3 v4 : Value} {w : World} (hA : ConfAt F c v1 v2 v3 v4 w) (hF : ∀ b, F b → b < w.heap.size) (l1 : c.blocked.length ≤ 8796093022208) (l2 : c.ports.length ≤ 8796093022208) (l3 : c.robots.length ≤ 5864062014805) (l4 : c.stacks.length ≤ 3518437208880) (Fs : Nat → Prop) (stks : List Stk) (sa : Option Addr) (sn sc : Nat) (hS : ListAt 3 stackElC Fs stks (.slice sa sn sc) w) (hFs : ∀ b, Fs b → b < w.heap.size) (hsn : sn ≤ 1000000) (hp : ∀ x, (pileOf stks x).length ≤ 17592186044416) (Ft : Nat → Prop) (tl : List Cell) (ta : Option Addr) (tn tc : Nat) (hT : ListAt 2 cellEl Ft tl (.slice ta tn tc) w) (hFt : ∀ b, Ft b → b < w.heap.size) (htn : tn ≤ 1000000) (bin : Int) (port : Cell) :
    Calls Try.prog 8 #[.agg #[.int .i64 c.W, .int .i64 c.H, .int .i64 c.height, v1, v2, v3, v4, .int .i64 c.unit, .int .i64 c.accel, .int .i64 c.speed, .int .i64 c.turn, .int .i64 c.hoist, .int .i64 c.queue, .int .i64 c.resend, .int .i64 c.budget, .bool c.back], .slice sa sn sc, .slice ta tn tc, .int .i64 bin, .agg #[.int .i64 port.1, .int .i64 port.2]] w fun e w' => ∃ rv, e = .returned rv ∧ (∃ r a cp ee, rv = .tuple #[.slice a r.length cp, .int .i64 ee] ∧ (newP c = none → r = [] ∧ ee = 5) ∧ (∀ G, newP c = some G → JobsR c.ports stks c.height (stkUpTo c.W G.uses G.uses.length) tl c.back bin port r ee) ∧ w'.ownsRow w.heap.size 45 9 (.slice a r.length cp) r.length (rowL jobL r)) ∧ Below w.heap.size w w' := by
  cases hN : newP c with
  | none =>
    refine (jobs_none hA hF l1 l2 l3 l4 hN _ _ bin port).mono ?_
    rintro e w' ⟨r, rfl, rfl, b⟩
    exact ⟨_, rfl, ⟨[], none, 0, 5, rfl, fun _ => ⟨rfl, rfl⟩, (fun G h => by cases h), World.ownsRow_nil _ _ _ _⟩, b⟩
  | some G =>
    refine (jobs_some hA hF l1 l2 l3 l4 hN Fs stks sa sn sc hS hFs hsn hp Ft tl ta tn tc hT hFt htn bin port).mono ?_
    rintro e w' ⟨rv, rfl, ⟨r, v, ee, rfl, hJ, own⟩, b⟩
    obtain ⟨a, cp, rfl, _⟩ := own_form own
    exact ⟨_, rfl, ⟨r, a, cp, ee, rfl, (fun h => by cases h), (fun G' h => by cases h; exact hJ), own⟩, b⟩
/- The chapter's Jobs answers the same. -/
theorem refJobs_same {F : Nat → Prop} {c : Conf} {v1 v2 v3 v4 : Value} {w : World} (hA : ConfAt F c v1 v2 v3 v4 w) (hF : ∀ b, F b → b < w.heap.size) (l1 : c.blocked.length ≤ 8796093022208) (l2 : c.ports.length ≤ 8796093022208) (l3 : c.robots.length ≤ 5864062014805) (l4 : c.stacks.length ≤ 3518437208880) (l5 : ∀ s ∈ c.stacks, s.2.length ≤ 17592186044416) {G : GS} (hN : newP c = some G)
    (Fs : Nat → Prop) (stks : List Stk) (sa : Option Addr) (sn sc : Nat) (hS : ListAt 3 stackEl Fs stks (.slice sa sn sc) w) (hFs : ∀ b, Fs b → b < w.heap.size) (hsn : sn ≤ 1000000) (hp : ∀ x, (pileOf stks x).length ≤ 17592186044416)
    (Ft : Nat → Prop) (tl : List Cell) (ta : Option Addr) (tn tc : Nat) (hT : ListAt 2 cellEl Ft tl (.slice ta tn tc) w) (hFt : ∀ b, Ft b → b < w.heap.size) (htn : tn ≤ 1000000) (bin : Int) (port : Cell) {r : List Jb} {ee : Int}
    (hJ : JobsR c.ports stks c.height (stkUpTo c.W G.uses G.uses.length) tl c.back bin port r ee) :
    Calls Try.prog 11 #[.agg #[.int .i64 c.W, .int .i64 c.H, .int .i64 c.height, v1, v2, v3, v4, .int .i64 c.unit, .int .i64 c.accel, .int .i64 c.speed, .int .i64 c.turn, .int .i64 c.hoist, .int .i64 c.queue, .int .i64 c.resend, .int .i64 c.budget, .bool c.back], .slice sa sn sc, .slice ta tn tc, .int .i64 bin, .agg #[.int .i64 port.1, .int .i64 port.2]] w fun e w' => ∃ rv, e = .returned rv ∧ (∃ a cp, rv = .tuple #[.slice a r.length cp, .int .i64 ee] ∧ w'.ownsRow w.heap.size 45 9 (.slice a r.length cp) r.length (rowL jobL r)) ∧ Below w.heap.size w w' := by
  by_cases hs : ee ≠ 0 ∧ ee ≠ 14
  · obtain ⟨rfl, cE⟩ := refJobs_no hA hF l1 l2 l3 l4 l5 hN Fs stks sa sn sc hS hFs hsn hp Ft tl ta tn tc hT hFt htn bin port hJ hs.1 hs.2
    refine cE.mono ?_
    rintro e w' ⟨r, rfl, rfl, b⟩
    exact ⟨_, rfl, ⟨none, 0, rfl, World.ownsRow_nil _ _ _ _⟩, b⟩
  · rcases hJ with ⟨q0, rfl, rfl⟩ | ⟨q0, ⟨q1, rfl, rfl⟩ | ⟨x, j, hAt, ⟨q2, rfl, rfl⟩ | ⟨q2, P, hP, hend⟩⟩⟩
    · exact absurd ⟨by decide, by decide⟩ hs
    · exact absurd ⟨by decide, by decide⟩ hs
    · exact absurd ⟨by decide, by decide⟩ hs
    · have hli := limited_sides (new_some hN).1.1
      have hPl := places_len hP (Nat.le_trans (stkUpTo_len _ _ _) (uses_len hN)) (by omega)
      obtain ⟨n0, hn, e0, hFd⟩ := fd_at hAt
      refine (refJobs_late hA hF l1 l2 l3 l4 l5 hN Fs stks sa sn sc hS hFs hsn hp Ft tl ta tn tc hT hFt htn bin port n0 j hFd hn (by omega) x e0 q2 P hP hPl).mono ?_
      rintro e w' ⟨rv, rfl, ⟨v, rr, e2, rfl, hc, own⟩, b⟩
      obtain ⟨rfl, rfl⟩ : rr = r ∧ e2 = ee := by
        rcases hend with ⟨a1, rfl, rfl⟩ | ⟨a1, _, rfl, rfl⟩
        · rcases hc with ⟨_, rfl, rfl⟩ | ⟨a2, _, _⟩
          · exact ⟨rfl, rfl⟩
          · omega
        · rcases hc with ⟨a2, _, _⟩ | ⟨_, rfl, rfl⟩
          · omega
          · exact ⟨rfl, rfl⟩
      obtain ⟨a, cp, rfl, _⟩ := own_form own
      exact ⟨_, rfl, ⟨a, cp, rfl, own⟩, b⟩
set_option maxRecDepth 100000 in
set_option maxHeartbeats 4000000 in
theorem jobs_all_law (c : Conf) (v1 v2 v3 v4 : Value) (w : World) (hA : ConfAt (Old w) c v1 v2 v3 v4 w) (l1 : c.blocked.length ≤ 8796093022208) (l2 : c.ports.length ≤ 8796093022208) (l3 : c.robots.length ≤ 5864062014805) (l4 : c.stacks.length ≤ 3518437208880) (l5 : ∀ s ∈ c.stacks, s.2.length ≤ 17592186044416) (stks : List Stk) (sa : Option Addr) (sn sc : Nat) (hS : ListAt 3 stackEl (Old w) stks (.slice sa sn sc) w) (hSb : ∀ s ∈ stks, s.2.length ≤ 17592186044416) (hSl : stks.length ≤ 3518437208880) (tl : List Cell) (ta : Option Addr) (tn tc : Nat) (hT : ListAt 2 cellEl (Old w) tl (.slice ta tn tc) w) (bin : Int) (fx fy : Int) :
    Calls Try.prog 3 #[.agg #[.int .i64 c.W, .int .i64 c.H, .int .i64 c.height, v1, v2, v3, v4, .int .i64 c.unit, .int .i64 c.accel, .int .i64 c.speed, .int .i64 c.turn, .int .i64 c.hoist, .int .i64 c.queue, .int .i64 c.resend, .int .i64 c.budget, .bool c.back], .slice sa sn sc, .slice ta tn tc, .int .i64 bin, .agg #[.int .i64 fx, .int .i64 fy]] w fun e w' => e = .returned (.bool true) ∧ Below w.heap.size w w' := by
  obtain ⟨port, hf⟩ : ∃ port : Cell, port = (fx, fy) := ⟨_, rfl⟩
  rw [show fx = port.1 by rw [hf], show fy = port.2 by rw [hf]]
  clear hf
  obtain ⟨w2, hw2⟩ : ∃ w2, w2 = (w.alloc (.cells #[.int .i64 c.W, .int .i64 c.H, .int .i64 c.height, v1, v2, v3, v4, .int .i64 c.unit, .int .i64 c.accel, .int .i64 c.speed, .int .i64 c.turn, .int .i64 c.hoist, .int .i64 c.queue, .int .i64 c.resend, .int .i64 c.budget, .bool c.back] 26)).alloc (.cells #[.int .i64 port.1, .int .i64 port.2] 28) := ⟨_, rfl⟩
  have b2 : Below w.heap.size w w2 := by rw [hw2]; exact below_two _ _ _
  have hc2 : w2.heap[w.heap.size]? = some (.cells #[.int .i64 c.W, .int .i64 c.H, .int .i64 c.height, v1, v2, v3, v4, .int .i64 c.unit, .int .i64 c.accel, .int .i64 c.speed, .int .i64 c.turn, .int .i64 c.hoist, .int .i64 c.queue, .int .i64 c.resend, .int .i64 c.budget, .bool c.back] 26 (0, 0)) := by rw [hw2]; exact (alloc_old _ _ _ (by simp)).trans (heap_alloc_new w _)
  have hf2 : w2.heap[w.heap.size + 1]? = some (.cells #[.int .i64 port.1, .int .i64 port.2] 28 (0, 0)) := by rw [hw2]; exact heap_new2 _ _ _
  have hO : ∀ b, Old w b → b < w.heap.size := fun b h => h
  have HA : Hid (∀ u, Below w.heap.size w u → ConfAt (Old w) c v1 v2 v3 v4 u) := fun u b => hA.go hO b
  have HT : Hid (∀ u, Below w.heap.size w u → ListAt 2 cellEl (Old w) tl (.slice ta tn tc) u) := fun u b => hT.go heldCell hO b
  have HS : Hid (∀ u, Below w.heap.size w u → ListAt 3 stackEl (Old w) stks (.slice sa sn sc) u) := fun u b => hS.go heldStack hO b
  have HTn : Hid (tl.length = tn) := by obtain ⟨a, cap, e, _⟩ := hT.form; injection e with _ e2 _; exact e2.symm
  have HSn : Hid (stks.length = sn) := by obtain ⟨a, cap, e, _⟩ := hS.form; injection e with _ e2 _; exact e2.symm
  have HPl : Hid (∀ x, (pileOf stks x).length ≤ 17592186044416) := piles_lenJ hSb
  have HSb : Hid (∀ s ∈ stks, s.2.length ≤ 17592186044416) := hSb
  have HL5 : Hid (∀ s ∈ c.stacks, s.2.length ≤ 17592186044416) := l5
  have HBw : Hid (Below w.heap.size w w2) := b2
  have HK2 : Hid (w2.heap[w.heap.size]? = some (.cells #[.int .i64 c.W, .int .i64 c.H, .int .i64 c.height, v1, v2, v3, v4, .int .i64 c.unit, .int .i64 c.accel, .int .i64 c.speed, .int .i64 c.turn, .int .i64 c.hoist, .int .i64 c.queue, .int .i64 c.resend, .int .i64 c.budget, .bool c.back] 26 (0, 0)) ∧ w2.heap[w.heap.size + 1]? = some (.cells #[.int .i64 port.1, .int .i64 port.2] 28 (0, 0))) := ⟨hc2, hf2⟩
  clear hA hT hS hSb l5
  go_enter Try.func3, Try.ntmps3
  go_upto_region 1 with fail
  rw [← hw2]
  clear hw2
  by_cases h1 : (100 : Int) < (sn : Int)
  · have hd1 := decide_eq_true h1
    go_wp2_with (go_at_call 6; refine (awake14_any _).mono ?_; rintro e w9 ⟨rw9, rfl, rfl, b9⟩)
    go_ret
    exact ⟨rfl, bcat HBw.out b9 (Nat.le_refl _)⟩
  · have hd1 := decide_eq_false h1
    by_cases h2 : (100 : Int) < (tn : Int)
    · have hd2 := decide_eq_true h2
      go_wp2_with (go_at_call 6; refine (awake14_any _).mono ?_; rintro e w9 ⟨rw9, rfl, rfl, b9⟩)
      go_ret
      exact ⟨rfl, bcat HBw.out b9 (Nat.le_refl _)⟩
    · have hd2 := decide_eq_false h2
      have cS := copyStacksC_any (Old w) stks (.slice sa sn sc) w2 (HS.out _ b2) (fun b hb => Nat.lt_of_lt_of_le (hO b hb) b2.size) hSl HSb.out
      go_upto_region 4 with (go_at_call 7; refine cS.mono ?_; rintro e w3 ⟨rs, rfl, hS3, b3⟩; obtain ⟨ka, kc, hks, _⟩ := hS3.form; rw [HSn.out] at hks; subst hks)
      have B3 := bcat HBw.out b3 (Nat.le_refl _)
      have HS3 : Hid (∀ u, Below w3.heap.size w3 u → ListAt 3 stackElC (Since w2.heap.size w3) stks (.slice ka sn kc) u) := fun u b => hS3.go heldStackC (fun q h => h.2) b
      have hT3 := HT.out _ B3
      have e1 : (([] : List Cell).length + tl.length) * 16 ≤ 140737488355328 := by have := HTn.out; simp only [List.length_nil]; omega
      have e2 : ([] : List Cell).length + tl.length ≤ maxLen := by have := HTn.out; unfold maxLen; simp only [List.length_nil]; omega
      clear hS3 cS hd1 hd2
      go_upto_region 5 with (at_builtin; refine wpList_app kindCell rfl (.const (.slice none 0 0)) (.tmp 28) rfl w3.heap.size _ ([] : List Cell) rfl (World.ownsRow_nil _ _ _ _) _ _ tl rfl hT3 e1 e2 (Nat.le_refl _) ?_; intro vt w4 own4 g4 at4)
      rw [List.nil_append] at own4
      have b4 : Below w3.heap.size w3 w4 := below_none g4
      have B4 := bcat B3 b4 (Nat.le_refl _)
      have b24 := bcat b3 b4 (Nat.le_refl _)
      obtain ⟨qa, qc, hvt, _⟩ := own_form own4
      have hT4 := list_of_own kindCell.len own4
      subst hvt
      have HT4 : Hid (∀ u, Below w4.heap.size w4 u → ListAt 2 cellEl (Since w3.heap.size w4) tl (.slice qa tl.length qc) u) := fun u b => hT4.go heldCell (fun q h => h.2) b
      have hc4 := (b24.block _ (lt_of_heap HK2.out.1)).trans HK2.out.1
      have hf4 := (b24.block _ (lt_of_heap HK2.out.2)).trans HK2.out.2
      have HCr : Hid (∀ u, Below w4.heap.size w4 u → ∀ j z, #[.int .i64 c.W, .int .i64 c.H, .int .i64 c.height, v1, v2, v3, v4, .int .i64 c.unit, .int .i64 c.accel, .int .i64 c.speed, .int .i64 c.turn, .int .i64 c.hoist, .int .i64 c.queue, .int .i64 c.resend, .int .i64 c.budget, .bool c.back][j]? = some z → u.cell? ((⟨w.heap.size, 0, none⟩ : Addr).add j) = some z) := fun u hu => row_below hc4 hu
      have HFr : Hid (∀ u, Below w4.heap.size w4 u → ∀ j z, #[.int .i64 port.1, .int .i64 port.2][j]? = some z → u.cell? ((⟨w.heap.size + 1, 0, none⟩ : Addr).add j) = some z) := fun u hu => row_below hf4 hu
      have HK4 : Hid (w4.heap[w.heap.size]? = some (.cells #[.int .i64 c.W, .int .i64 c.H, .int .i64 c.height, v1, v2, v3, v4, .int .i64 c.unit, .int .i64 c.accel, .int .i64 c.speed, .int .i64 c.turn, .int .i64 c.hoist, .int .i64 c.queue, .int .i64 c.resend, .int .i64 c.budget, .bool c.back] 26 (0, 0)) ∧ w4.heap[w.heap.size + 1]? = some (.cells #[.int .i64 port.1, .int .i64 port.2] 28 (0, 0))) := ⟨hc4, hf4⟩
      have HB4 : Hid (Below w.heap.size w w4) := B4
      have Hb4 : Hid (Below w3.heap.size w3 w4) := b4
      have S0 : Below w4.heap.size w4 w4.drew := (Below.refl _ _).drew
      obtain ⟨tq, htq⟩ : ∃ tq, tl.length = tq := ⟨_, rfl⟩
      rw [htq] at HT4 ⊢
      have HTq : Hid (tl.length = tq) := htq
      have hTq : tq ≤ 100 := by have := HTn.out; omega
      clear own4 g4 at4 hT3 hT4 e1 e2 hc2 hf2 b2 b3 b4 b24 B3 B4 hc4 hf4 htq
      refine start_held (S := fun u => Below w4.heap.size w4 u) 12 rfl (by kernel_rfl) S0 ?_
      simp only [Array.replicate_succ, Array.replicate_zero, List.push_toArray, List.nil_append, List.cons_append]
      refine take_held 0 S0 rfl (by kernel_rfl) (by kernel_rfl) (by kernel_rfl) (fun _ _ _ h => h) (by kernel_rfl) (v := .agg #[.int .i64 c.W, .int .i64 c.H, .int .i64 c.height, v1, v2, v3, v4, .int .i64 c.unit, .int .i64 c.accel, .int .i64 c.speed, .int .i64 c.turn, .int .i64 c.hoist, .int .i64 c.queue, .int .i64 c.resend, .int .i64 c.budget, .bool c.back]) ?y0 ?r0
      case y0 => (intro u hu; exact run_load_op 26 _ rfl ⟨w.heap.size, 0, none⟩ _ rfl (HCr.out u hu) (aggConf u) info_conf)
      simp only [Act.put, List.setIfInBounds_toArray, List.set_cons_zero, List.set_cons_succ]
      refine take_held 2 S0 rfl (by kernel_rfl) (by kernel_rfl) (by kernel_rfl) (fun _ _ _ h => h) (by kernel_rfl) (v := ?v1) ?y1 ?r1
      case y1 => (intro u hu; go_simp; try rfl)
      simp only [Act.put, List.setIfInBounds_toArray, List.set_cons_zero, List.set_cons_succ]
      refine take_held 3 S0 rfl (by kernel_rfl) (by kernel_rfl) (by kernel_rfl) (fun _ _ _ h => h) (by kernel_rfl) (v := ?v2) ?y2 ?r2
      case y2 => (intro u hu; go_simp; try rfl)
      simp only [Act.put, List.setIfInBounds_toArray, List.set_cons_zero, List.set_cons_succ]
      refine take_held 4 S0 rfl (by kernel_rfl) (by kernel_rfl) (by kernel_rfl) (fun _ _ _ h => h) (by kernel_rfl) (v := ?v3) ?y3 ?r3
      case y3 => (intro u hu; go_simp; try rfl)
      simp only [Act.put, List.setIfInBounds_toArray, List.set_cons_zero, List.set_cons_succ]
      refine take_held 5 S0 rfl (by kernel_rfl) (by kernel_rfl) (by kernel_rfl) (fun _ _ _ h => h) (by kernel_rfl) (v := .agg #[.int .i64 port.1, .int .i64 port.2]) ?y4 ?r4
      case y4 => (intro u hu; exact run_load_op 28 _ rfl ⟨w.heap.size + 1, 0, none⟩ _ rfl (HFr.out u hu) (aggCell u) infoCell2)
      simp only [Act.put, List.setIfInBounds_toArray, List.set_cons_zero, List.set_cons_succ]
      refine wpAnyH_ready (rs := [1]) (by kernel_rfl) (by simp) (AllReadyH.cons ((nth_eq _ 1).trans rfl) ?_ AllReadyH.nil)
      intro K1 hK1
      have A0 := bcat HB4.out S0 (Nat.le_refl _)
      refine call_in hK1 (by kernel_rfl) 9 #[.agg #[.int .i64 c.W, .int .i64 c.H, .int .i64 c.height, v1, v2, v3, v4, .int .i64 c.unit, .int .i64 c.accel, .int .i64 c.speed, .int .i64 c.turn, .int .i64 c.hoist, .int .i64 c.queue, .int .i64 c.resend, .int .i64 c.budget, .bool c.back]] (by go_simp) _ (copyConf_any (Old w) c v1 v2 v3 v4 w4.drew (HA.out _ A0) (fun b hb => Nat.lt_of_lt_of_le (hO b hb) A0.size) l1 l2 l3 l4 HL5.out) ?_
      rintro rc x1 ⟨⟨k1, k2, k3, k4, rfl, hC1⟩, b1⟩
      have S1 : Below w4.heap.size w4 x1 := bcat S0 b1 (Nat.le_refl _)
      refine ⟨S1, ?_⟩
      simp only [Act.put, List.setIfInBounds_toArray, List.set_cons_zero, List.set_cons_succ]
      refine wpAnyH_ready (rs := [6]) (by kernel_rfl) (by simp) (AllReadyH.cons ((nth_eq _ 6).trans rfl) ?_ AllReadyH.nil)
      intro K2 hK2
      refine call_in hK2 (by kernel_rfl) 8 #[.agg #[.int .i64 c.W, .int .i64 c.H, .int .i64 c.height, k1, k2, k3, k4, .int .i64 c.unit, .int .i64 c.accel, .int .i64 c.speed, .int .i64 c.turn, .int .i64 c.hoist, .int .i64 c.queue, .int .i64 c.resend, .int .i64 c.budget, .bool c.back], .slice ka sn kc, .slice qa tq qc, .int .i64 bin, .agg #[.int .i64 port.1, .int .i64 port.2]] (by go_simp) _ (jobs_all hC1 (fun q h => h.2) l1 l2 l3 l4 _ stks ka sn kc (HS3.out _ (bcat Hb4.out S1 (Nat.le_refl _))) (fun q h => Nat.lt_of_lt_of_le h.2 (bcat Hb4.out S1 (Nat.le_refl _)).size) (by omega) HPl.out _ tl qa tq qc (HT4.out _ S1) (fun q h => Nat.lt_of_lt_of_le h.2 S1.size) (by omega) bin port) ?_
      rintro rj x2 ⟨⟨r, a6, c6, ee, rfl, hQ1, hQ2, own6⟩, b2⟩
      have S2 : Below w4.heap.size w4 x2 := bcat S1 b2 (Nat.le_refl _)
      refine ⟨S2, ?_⟩
      simp only [Act.put, List.setIfInBounds_toArray, List.set_cons_zero, List.set_cons_succ]
      refine take_held 7 S2 rfl (by kernel_rfl) (by kernel_rfl) (by kernel_rfl) (fun _ _ _ h => h) (by kernel_rfl) (v := ?v5) ?y5 ?r5
      case y5 => (intro u hu; go_simp; try rfl)
      simp only [Act.put, List.setIfInBounds_toArray, List.set_cons_zero, List.set_cons_succ]
      refine take_held 8 S2 rfl (by kernel_rfl) (by kernel_rfl) (by kernel_rfl) (fun _ _ _ h => h) (by kernel_rfl) (v := ?v6) ?y6 ?r6
      case y6 => (intro u hu; go_simp; try rfl)
      simp only [Act.put, List.setIfInBounds_toArray, List.set_cons_zero, List.set_cons_succ]
      refine take_held 9 S2 rfl (by kernel_rfl) (by kernel_rfl) (by kernel_rfl) (fun _ _ _ h => h) (by kernel_rfl) (v := ?v7) ?y7 ?r7
      case y7 => (intro u hu; go_simp; try rfl)
      simp only [Act.put, List.setIfInBounds_toArray, List.set_cons_zero, List.set_cons_succ]
      refine take_held 10 S2 rfl (by kernel_rfl) (by kernel_rfl) (by kernel_rfl) (fun _ _ _ h => h) (by kernel_rfl) (v := ?v8) ?y8 ?r8
      case y8 => (intro u hu; go_simp; try rfl)
      simp only [Act.put, List.setIfInBounds_toArray, List.set_cons_zero, List.set_cons_succ]
      refine take_held 11 S2 rfl (by kernel_rfl) (by kernel_rfl) (by kernel_rfl) (fun _ _ _ h => h) (by kernel_rfl) (v := ?v9) ?y9 ?r9
      case y9 => (intro u hu; go_simp; try rfl)
      simp only [Act.put, List.setIfInBounds_toArray, List.set_cons_zero, List.set_cons_succ]
      refine done_held (by kernel_rfl) ?_ _
      have HT6 : Hid (Below w4.heap.size w4 x2) := S2
      have B6 := bcat HB4.out S2 (Nat.le_refl _)
      have hc6 := (S2.block _ (lt_of_heap HK4.out.1)).trans HK4.out.1
      have hf6 := (S2.block _ (lt_of_heap HK4.out.2)).trans HK4.out.2
      have HO6 : Hid (x2.ownsRow x1.heap.size 45 9 (.slice a6 r.length c6) r.length (rowL jobL r)) := own6
      clear S0 S1 S2 HCr HFr own6 b1 b2 hC1 A0 HB4 hK1 hK2 K1 K2
      rcases hn : newP c with _ | G
      · obtain ⟨rfl, rfl⟩ := hQ1 hn
        have cM := mayR_call (HA.out _ B6) (fun b hb => Nat.lt_of_lt_of_le (hO b hb) B6.size) l1 l2 l3 l4 HL5.out
        rw [hn] at cM
        simp only [Option.isSome_none] at cM
        clear hQ1 hQ2
        go_wp2_with (first
          | (refine wpList_load_row rfl 26 (.tmp 5) rfl w.heap.size rfl 26 _ (0, 0) _ hc6 Try.underlying26 rfl info_conf ?_)
          | (go_at_call 10; refine cM.mono ?_; rintro e w7 ⟨rm, rfl, rfl, b7⟩)
          | (go_at_call 6; refine (awake14_any _).mono ?_; rintro e w9 ⟨rw9, rfl, rfl, b9⟩))
        go_ret
        exact ⟨rfl, bcat (bcat B6 b7 (Nat.le_refl _)) b9 (Nat.le_refl _)⟩
      · have HJ : Hid (JobsR c.ports stks c.height (stkUpTo c.W G.uses G.uses.length) tl c.back bin port r ee) := hQ2 G hn
        have cM := mayR_call (HA.out _ B6) (fun b hb => Nat.lt_of_lt_of_le (hO b hb) B6.size) l1 l2 l3 l4 HL5.out
        rw [hn] at cM
        simp only [Option.isSome_some] at cM
        clear hQ1 hQ2
        go_upto_region 8 with (first
          | (refine wpList_load_row rfl 26 (.tmp 5) rfl w.heap.size rfl 26 _ (0, 0) _ hc6 Try.underlying26 rfl info_conf ?_)
          | (go_at_call 10; refine cM.mono ?_; rintro e w7 ⟨rm, rfl, rfl, b7⟩))
        have B7 := bcat B6 b7 (Nat.le_refl _)
        have hc7 := (b7.block _ (lt_of_heap hc6)).trans hc6
        have hf7 := (b7.block _ (lt_of_heap hf6)).trans hf6
        have cR := refJobs_same (HA.out _ B7) (fun b hb => Nat.lt_of_lt_of_le (hO b hb) B7.size) l1 l2 l3 l4 HL5.out hn (Old w) stks sa sn sc (HS.out _ B7) (fun b hb => Nat.lt_of_lt_of_le (hO b hb) B7.size) (by omega) HPl.out (Old w) tl ta tn tc (HT.out _ B7) (fun b hb => Nat.lt_of_lt_of_le (hO b hb) B7.size) (by omega) bin port HJ.out
        have hrl := jobs_few HJ.out
        obtain ⟨rn, hrn⟩ : ∃ rn, r.length = rn := ⟨_, rfl⟩
        have HRn : Hid (r.length = rn) := hrn
        rw [hrn] at cR ⊢
        clear cM hc6 hf6
        go_upto_region 9 with (first
          | (refine wpList_load_row rfl 26 (.tmp 5) rfl w.heap.size rfl 26 _ (0, 0) _ hc7 Try.underlying26 rfl info_conf ?_)
          | (refine wpList_load_row rfl 28 (.tmp 9) rfl (w.heap.size + 1) rfl 28 #[.int .i64 port.1, .int .i64 port.2] (0, 0) _ hf7 Try.underlying28 rfl infoCell2 ?_)
          | (go_at_call 11; refine cR.mono ?_; rintro e w8 ⟨rv8, rfl, ⟨a8, c8, rfl, own8⟩, b8⟩))
        have B8 := bcat B7 b8 (Nat.le_refl _)
        have b68 := bcat b7 b8 (Nat.le_refl _)
        have T8 := bcat HT6.out b68 (Nat.le_refl _)
        have L1 := list_of_own kindJob.len (owns_go HO6.out b68)
        rw [hrn] at L1
        have L2 := list_of_own (f := jobL) (xs := r) kindJob.len (by rw [hrn]; exact own8)
        have cJ := sameJobs_same _ _ (.slice a6 rn c6) (.slice a8 rn c8) r w8 L1 L2 (by omega)
        have cSt := fun (u : World) (bu : Below w8.heap.size w8 u) => sameStacks_any _ (Old w) stks stks (.slice ka sn kc) (.slice sa sn sc) u (stk_plain (HS3.out _ (bcat (bcat Hb4.out T8 (Nat.le_refl _)) bu (Nat.le_refl _)))) (HS.out _ (bcat B8 bu (Nat.le_refl _))) (fun q h => Nat.lt_of_lt_of_le h.2 (bcat (bcat Hb4.out T8 (Nat.le_refl _)) bu (Nat.le_refl _)).size) (fun b hb => Nat.lt_of_lt_of_le (hO b hb) (bcat B8 bu (Nat.le_refl _)).size) (by have := HSn.out; omega) (by have := HSn.out; omega) (fun s h => Nat.le_trans (HSb.out s h) (by omega)) (fun s h => Nat.le_trans (HSb.out s h) (by omega))
        have cCe := fun (u : World) (bu : Below w8.heap.size w8 u) => sameCells_any _ (Old w) tl tl (.slice qa tq qc) (.slice ta tn tc) u (HT4.out _ (bcat T8 bu (Nat.le_refl _))) (HT.out _ (bcat B8 bu (Nat.le_refl _))) (fun q h => Nat.lt_of_lt_of_le h.2 (bcat T8 bu (Nat.le_refl _)).size) (fun b hb => Nat.lt_of_lt_of_le (hO b hb) (bcat B8 bu (Nat.le_refl _)).size) (by have := HTn.out; omega) (by have := HTn.out; omega)
        simp only [decide_true] at cSt cCe
        clear hc7 hf7 cR own8 L1 L2
        go_wp2_with (first
          | (go_at_call 12; refine cJ.mono ?_; rintro e x1 ⟨rfl, b1⟩; have cSt1 := cSt x1 b1)
          | (go_at_call 13; refine cSt1.mono ?_; rintro e x2 ⟨rs2, rfl, rfl, b2⟩; have cCe2 := cCe x2 (bcat b1 b2 (Nat.le_refl _)))
          | (go_at_call 14; refine cCe2.mono ?_; rintro e x3 ⟨rs3, rfl, rfl, b3⟩)
          | (go_at_call 6; refine (awake14_any _).mono ?_; rintro e w9 ⟨rw9, rfl, rfl, b9⟩))
        go_ret
        exact ⟨rfl, bcat (bcat (bcat (bcat B8 b1 (Nat.le_refl _)) b2 (Nat.le_refl _)) b3 (Nat.le_refl _)) b9 (Nat.le_refl _)⟩
end Go.Proofs.Ytgnpmjlliolmoaa.Dig
