/-
  At: a cell's bins, in memory of their own.
-/
import Derived.Test.YtabbdclpjghdbaaStkOTell
namespace Go.Proofs.Ytabbdclpjghdbaa.Stk
set_option linter.unusedVariables false
set_option linter.unusedSimpArgs false
open Go Go.RowKit Go.Shelf Go.Proofs Go.Proofs.Ytabbdclpjghdbaa.Grid
attribute [local go_sem] Oper.semAt_some

set_option maxRecDepth 100000 in
set_option maxHeartbeats 4000000 in
theorem at_no {K : Sk} {c : Conf} {us : List Int} {ps : List Pile} {ls : List Int} {w : World} (h : StAt K c us ps ls w) (x y : Int) (ho : openU c.W c.H us (x, y) = false) : Calls Try.prog 22 #[.pointer (some ⟨K.s, 0, none⟩), .agg #[.int .i64 x, .int .i64 y]] w fun e w' => e = .returned (.slice none 0 0) ∧ Below w.heap.size w w' := by
  obtain ⟨w0, hw0⟩ : ∃ w0, w0 = w.alloc (.cells #[.int .i64 x, .int .i64 y] 39) := ⟨_, rfl⟩
  have B : Below w.heap.size w w0 := by rw [hw0]; exact below_new (Below.refl _ _) _
  have eB : w0.heap[w.heap.size]? = some (.cells #[.int .i64 x, .int .i64 y] 39 (0, 0)) := by rw [hw0]; exact heap_alloc_new w _
  have S0 := h.go B
  have cO := fun u (b : Below w0.heap.size w0 u) => ret_of (open_any K.g K.u c.W c.H us K.vp x y u (S0.grid.go b))
  rw [ho] at cO
  have Sc0 := S0.c0
  clear h S0
  go_enter Try.func22, Try.ntmps22
  go_wp2
  rw [← hw0]
  obtain ⟨IH, hIH⟩ : ∃ I : World → Prop, I = Below w0.heap.size w0 := ⟨_, rfl⟩
  have kI : ∀ u, IH u → Below w0.heap.size w0 u := fun u hu => by rw [hIH] at hu; exact hu
  have hS : IH w0.drew := by rw [hIH]; exact (Below.refl _ _).drew
  have D0 : Below w0.heap.size w0 w0.drew := (Below.refl _ _).drew
  have HX : Hid (∀ u, IH u → ∀ j z, #[Value.int .i64 x, .int .i64 y][j]? = some z → u.cell? ((⟨w.heap.size, 0, none⟩ : Addr).add j) = some z) := fun u hu => row_below eB (kI u hu)
  have z0 : ∀ u, IH u → u.cell? ⟨K.s, 0, none⟩ = some (.pointer (some ⟨K.g, 0, none⟩)) := fun u hu => cell_below Sc0 (kI u hu)
  clear hw0
  refine start_held (S := IH) 7 rfl (by kernel_rfl) (hS) ?_
  simp only [Array.replicate_succ, Array.replicate_zero, List.push_toArray, List.nil_append, List.cons_append]
  refine take_held 0 (by assumption) rfl (by kernel_rfl) (by kernel_rfl) (by kernel_rfl) (fun _ _ _ h => h) (by kernel_rfl) (v := ?v0) ?y0 ?r0
  case y0 => (intro u hu; go_simp; try rfl)
  simp only [Act.put, List.setIfInBounds_toArray, List.set_cons_zero, List.set_cons_succ]
  refine take_held 1 (by assumption) rfl (by kernel_rfl) (by kernel_rfl) (by kernel_rfl) (fun _ _ _ h => h) (by kernel_rfl) (v := ?v1) ?y1 ?r1
  case y1 => (intro u hu; go_simp; try rfl)
  simp only [Act.put, List.setIfInBounds_toArray, List.set_cons_zero, List.set_cons_succ]
  refine take_held 2 (by assumption) rfl (by kernel_rfl) (by kernel_rfl) (by kernel_rfl) (fun _ _ _ h => h) (by kernel_rfl) (v := ?v2) ?y2 ?r2
  case y2 => (intro u hu; go_simp; try rfl)
  simp only [Act.put, List.setIfInBounds_toArray, List.set_cons_zero, List.set_cons_succ]
  refine take_held 3 (by assumption) rfl (by kernel_rfl) (by kernel_rfl) (by kernel_rfl) (fun _ _ _ h => h) (by kernel_rfl) (v := ?v3) ?y3 ?r3
  case y3 => (intro u hu; have zz0 := z0 u hu; go_simp; try rfl)
  simp only [Act.put, List.setIfInBounds_toArray, List.set_cons_zero, List.set_cons_succ]
  refine take_held 4 (by assumption) rfl (by kernel_rfl) (by kernel_rfl) (by kernel_rfl) (fun _ _ _ h => h) (by kernel_rfl) (v := .agg #[.int .i64 x, .int .i64 y]) ?y4 ?r4
  case y4 => (intro u hu; exact run_load_op 39 _ rfl ⟨w.heap.size, 0, none⟩ _ rfl (HX.out u hu) (aggCell u) infoCell2)
  simp only [Act.put, List.setIfInBounds_toArray, List.set_cons_zero, List.set_cons_succ]
  refine wpAnyH_ready (rs := [5]) (by kernel_rfl) (by simp) (AllReadyH.cons ((nth_eq _ 5).trans rfl) ?_ AllReadyH.nil)
  intro K' hK
  refine call_in hK (by kernel_rfl) 43 #[.pointer (some ⟨K.g, 0, none⟩), .agg #[.int .i64 x, .int .i64 y]] (by go_simp) _ (cO _ D0) ?_
  rintro v w5 ⟨rfl, b5⟩
  have D5 := bcat D0 b5 (Nat.le_refl _)
  have hS5 : IH w5 := by rw [hIH]; exact D5
  refine ⟨hS5, ?_⟩
  simp only [Act.put, List.setIfInBounds_toArray, List.set_cons_zero, List.set_cons_succ]
  refine take_held 6 (by assumption) rfl (by kernel_rfl) (by kernel_rfl) (by kernel_rfl) (fun _ _ _ h => h) (by kernel_rfl) (v := ?v5) ?y5 ?r5
  case y5 => (intro u hu; go_simp; try rfl)
  simp only [Act.put, List.setIfInBounds_toArray, List.set_cons_zero, List.set_cons_succ]
  refine done_held (by kernel_rfl) ?_ _
  go_wp2
  go_ret
  exact ⟨rfl, bcat B D5 (Nat.le_refl _)⟩
set_option maxRecDepth 100000 in
set_option maxHeartbeats 4000000 in
theorem at_yes {K : Sk} {c : Conf} {us : List Int} {ps : List Pile} {ls : List Int} {w : World} (h : StAt K c us ps ls w) (x y : Int) (ho : openU c.W c.H us (x, y) = true) {k : Nat} {p : Pile} (hk : number c.W c.H (x, y) = (k : Nat)) (hp : ps[k]? = some p) : Calls Try.prog 22 #[.pointer (some ⟨K.s, 0, none⟩), .agg #[.int .i64 x, .int .i64 y]] w fun e w' => ∃ v, e = .returned v ∧ w'.ownsRow w.heap.size 3 1 v p.2.2.length (rowL intL p.2.2) ∧ Below w.heap.size w w' := by
  obtain ⟨w0, hw0⟩ : ∃ w0, w0 = w.alloc (.cells #[.int .i64 x, .int .i64 y] 39) := ⟨_, rfl⟩
  have B : Below w.heap.size w w0 := by rw [hw0]; exact below_new (Below.refl _ _) _
  have eB : w0.heap[w.heap.size]? = some (.cells #[.int .i64 x, .int .i64 y] 39 (0, 0)) := by rw [hw0]; exact heap_alloc_new w _
  have S0 := h.go B
  have cO := fun u (b : Below w0.heap.size w0 u) => ret_of (open_any K.g K.u c.W c.H us K.vp x y u (S0.grid.go b))
  rw [ho] at cO
  have hlt := (List.getElem?_eq_some_iff.1 hp).1
  have cP := fun u (b : Below w0.heap.size w0 u) => pile_any (S0.go b) x y hk hlt
  have zv := fun u (b : Below w0.heap.size w0 u) => (S0.go b).pv hp
  have hsm := h.small _ _ hp
  have L1 := list_of_own kindInt.len (S0.own _ _ hp)
  obtain ⟨a, cap, ev, _⟩ := h.form hp
  rw [ev] at zv L1
  have HL : Hid (ListAt 1 intEl (Since K.b1 w0) p.2.2 (.slice a p.2.2.length cap) w0) := L1
  clear ev L1
  obtain ⟨n, hn⟩ : ∃ n, p.2.2.length = n := ⟨_, rfl⟩
  have Hn : Hid (p.2.2.length = n) := hn
  rw [hn] at zv HL hsm
  rw [hn]
  clear hp hn
  have Sc0 := S0.c0
  clear h S0
  go_enter Try.func22, Try.ntmps22
  go_wp2
  rw [← hw0]
  obtain ⟨IH, hIH⟩ : ∃ I : World → Prop, I = Below w0.heap.size w0 := ⟨_, rfl⟩
  have kI : ∀ u, IH u → Below w0.heap.size w0 u := fun u hu => by rw [hIH] at hu; exact hu
  have hS : IH w0.drew := by rw [hIH]; exact (Below.refl _ _).drew
  have D0 : Below w0.heap.size w0 w0.drew := (Below.refl _ _).drew
  have HX : Hid (∀ u, IH u → ∀ j z, #[Value.int .i64 x, .int .i64 y][j]? = some z → u.cell? ((⟨w.heap.size, 0, none⟩ : Addr).add j) = some z) := fun u hu => row_below eB (kI u hu)
  have z0 : ∀ u, IH u → u.cell? ⟨K.s, 0, none⟩ = some (.pointer (some ⟨K.g, 0, none⟩)) := fun u hu => cell_below Sc0 (kI u hu)
  clear hw0
  refine start_held (S := IH) 7 rfl (by kernel_rfl) (hS) ?_
  simp only [Array.replicate_succ, Array.replicate_zero, List.push_toArray, List.nil_append, List.cons_append]
  refine take_held 0 (by assumption) rfl (by kernel_rfl) (by kernel_rfl) (by kernel_rfl) (fun _ _ _ h => h) (by kernel_rfl) (v := ?v6) ?y6 ?r6
  case y6 => (intro u hu; go_simp; try rfl)
  simp only [Act.put, List.setIfInBounds_toArray, List.set_cons_zero, List.set_cons_succ]
  refine take_held 1 (by assumption) rfl (by kernel_rfl) (by kernel_rfl) (by kernel_rfl) (fun _ _ _ h => h) (by kernel_rfl) (v := ?v7) ?y7 ?r7
  case y7 => (intro u hu; go_simp; try rfl)
  simp only [Act.put, List.setIfInBounds_toArray, List.set_cons_zero, List.set_cons_succ]
  refine take_held 2 (by assumption) rfl (by kernel_rfl) (by kernel_rfl) (by kernel_rfl) (fun _ _ _ h => h) (by kernel_rfl) (v := ?v8) ?y8 ?r8
  case y8 => (intro u hu; go_simp; try rfl)
  simp only [Act.put, List.setIfInBounds_toArray, List.set_cons_zero, List.set_cons_succ]
  refine take_held 3 (by assumption) rfl (by kernel_rfl) (by kernel_rfl) (by kernel_rfl) (fun _ _ _ h => h) (by kernel_rfl) (v := ?v9) ?y9 ?r9
  case y9 => (intro u hu; have zz0 := z0 u hu; go_simp; try rfl)
  simp only [Act.put, List.setIfInBounds_toArray, List.set_cons_zero, List.set_cons_succ]
  refine take_held 4 (by assumption) rfl (by kernel_rfl) (by kernel_rfl) (by kernel_rfl) (fun _ _ _ h => h) (by kernel_rfl) (v := .agg #[.int .i64 x, .int .i64 y]) ?y10 ?r10
  case y10 => (intro u hu; exact run_load_op 39 _ rfl ⟨w.heap.size, 0, none⟩ _ rfl (HX.out u hu) (aggCell u) infoCell2)
  simp only [Act.put, List.setIfInBounds_toArray, List.set_cons_zero, List.set_cons_succ]
  refine wpAnyH_ready (rs := [5]) (by kernel_rfl) (by simp) (AllReadyH.cons ((nth_eq _ 5).trans rfl) ?_ AllReadyH.nil)
  intro K' hK
  refine call_in hK (by kernel_rfl) 43 #[.pointer (some ⟨K.g, 0, none⟩), .agg #[.int .i64 x, .int .i64 y]] (by go_simp) _ (cO _ D0) ?_
  rintro v w5 ⟨rfl, b5⟩
  have D5 := bcat D0 b5 (Nat.le_refl _)
  have hS5 : IH w5 := by rw [hIH]; exact D5
  refine ⟨hS5, ?_⟩
  simp only [Act.put, List.setIfInBounds_toArray, List.set_cons_zero, List.set_cons_succ]
  refine take_held 6 (by assumption) rfl (by kernel_rfl) (by kernel_rfl) (by kernel_rfl) (fun _ _ _ h => h) (by kernel_rfl) (v := ?v11) ?y11 ?r11
  case y11 => (intro u hu; go_simp; try rfl)
  simp only [Act.put, List.setIfInBounds_toArray, List.set_cons_zero, List.set_cons_succ]
  refine done_held (by kernel_rfl) ?_ _
  have e5 := (D5.block _ (lt_of_heap eB)).trans eB
  go_wp2_with (first
    | (refine wpList_load_row rfl 39 (.tmp 3) rfl w.heap.size rfl 39 #[.int .i64 x, .int .i64 y] (0, 0) _ e5 Try.underlying39 rfl infoCell2 ?_)
    | (go_at_call 31; refine (cP _ D5).mono ?_; rintro e w6 ⟨r6, rfl, rfl, b6⟩; have D6 := bcat D5 b6 (Nat.le_refl _); have yv := zv _ D6)
    | (go_at_call 47; refine (clone_ints _ p.2.2 _ _ (HL.out.go heldInt since_lt D6) (fun q hq => Nat.lt_of_lt_of_le (since_lt q hq) D6.size) (by rw [Hn.out]; omega)).mono ?_; rintro e w7 ⟨v7, rfl, own7, b7⟩))
  go_ret
  have B6 := bcat B D6 (Nat.le_refl _)
  exact ⟨_, rfl, by rw [Hn.out] at own7; exact owns_less own7 B6.size, bcat B6 b7 (Nat.le_refl _)⟩
/- A bin that stands once is found where it stands. -/
theorem found_one {ps : List Pile} {ls : List Int} (hd : (allB ps ls).Nodup) {bin : Int} {x : Cell} {up : Int} (h : Found ps bin x up) {i j : Nat} {p : Pile} (hp : ps[i]? = some p) (hj : p.2.2[j]? = some bin) : x = p.1 ∧ up = (p.2.2.length : Int) - 1 - (j : Nat) := by
  obtain ⟨i', j', p', hp', rfl, hj', rfl, _, _⟩ := h
  have hf : (ps.flatMap (fun p => p.2.2)).Nodup := by unfold allB at hd; exact (List.nodup_append.1 hd).1
  obtain ⟨h1, h2⟩ := List.getElem?_eq_some_iff.1 hp
  obtain ⟨h1', h2'⟩ := List.getElem?_eq_some_iff.1 hp'
  have hf := List.pairwise_flatMap.1 hf
  by_cases e : i' = i
  · subst e
    rw [hp] at hp'
    cases hp'
    have hnd := hf.1 p (List.mem_of_getElem? hp)
    obtain ⟨a1, a2⟩ := List.getElem?_eq_some_iff.1 hj
    obtain ⟨b1, b2⟩ := List.getElem?_eq_some_iff.1 hj'
    have : j' = j := by
      rcases Nat.lt_trichotomy j' j with q | q | q
      · exact absurd (b2.trans a2.symm) (List.pairwise_iff_getElem.1 hnd j' j b1 a1 q)
      · exact q
      · exact absurd (a2.trans b2.symm) (List.pairwise_iff_getElem.1 hnd j j' a1 b1 q)
    subst this
    exact ⟨rfl, rfl⟩
  · exfalso
    have hpw := List.pairwise_iff_getElem.1 hf.2
    rcases Nat.lt_or_gt_of_ne e with q | q
    · have := hpw i' i h1' h1 q
      rw [h2, h2'] at this
      exact this _ (List.mem_of_getElem? hj') _ (List.mem_of_getElem? hj) rfl
    · have := hpw i i' h1 h1' q
      rw [h2, h2'] at this
      exact this _ (List.mem_of_getElem? hj) _ (List.mem_of_getElem? hj') rfl
/- A stack that was handed in: its cell is a stack's, its bins are all that were placed there, and they are no more than may stand there. -/
theorem placed_one {c : Conf} {G : GS} (hN : newP c = some G) {s : Stk} (hs : s ∈ c.stacks) : placed c.stacks s.1 = s.2 ∧ stackedR c s.1 ∧ (s.2.length : Int) ≤ c.height := by
  obtain ⟨hm, _⟩ := new_some hN
  have hst := hm.2.2.2.2.2.2.2.2.2.1
  have hnd := hm.2.2.2.2.2.2.2.2.2.2.1
  obtain ⟨q1, q2⟩ := hst s hs
  refine ⟨?_, q1, q2⟩
  obtain ⟨i, hi, ei⟩ := List.getElem_of_mem hs
  have h1 : placed (c.stacks.take (i + 1)) s.1 = s.2 := by
    rw [placed_next _ _ hi, ei, if_pos rfl, ← ei, placed_none hi hnd, List.nil_append]
  have h2 : ∀ k, i + 1 ≤ k → k ≤ c.stacks.length → placed (c.stacks.take k) s.1 = s.2 := fun k hk1 hk2 => by
    induction k with
    | zero => omega
    | succ k ih =>
      by_cases q : i + 1 = k + 1
      · rw [← q]; exact h1
      · rw [placed_next _ _ (by omega), ih (by omega) (by omega), if_neg, List.append_nil]
        intro e2
        refine List.pairwise_iff_getElem.1 hnd i k (by rw [List.length_map]; exact hi) (by rw [List.length_map]; omega) (by omega) ?_
        rw [List.getElem_map, List.getElem_map, ei, e2]
  have := h2 c.stacks.length (by omega) (Nat.le_refl _)
  rwa [List.take_length] at this
end Go.Proofs.Ytabbdclpjghdbaa.Stk
