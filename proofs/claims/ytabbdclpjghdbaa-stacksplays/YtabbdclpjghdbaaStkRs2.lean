/-
  What the chapter's own stacks tell.
-/
import Derived.Test.YtabbdclpjghdbaaStkRs
namespace Go.Proofs.Ytabbdclpjghdbaa.Stk
set_option linter.unusedVariables false
set_option linter.unusedSimpArgs false
open Go Go.RowKit Go.Shelf Go.Proofs Go.Proofs.Ytabbdclpjghdbaa.Grid
attribute [local go_sem] Oper.semAt_some

/- The first pile at a cell; none. -/
def Hs (qs : List Pile) (x : Cell) (i : Nat) (p : Pile) : Prop := qs[i]? = some p ∧ p.1 = x ∧ ∀ (j : Nat) (q : Pile), j < i → qs[j]? = some q → q.1 ≠ x
def No (qs : List Pile) (x : Cell) : Prop := ∀ (j : Nat) (q : Pile), qs[j]? = some q → q.1 ≠ x
theorem PlAt.sl {w : World} {K : Rk} {q : Pile} (h : PlAt w K q) : ∃ a cap, q.2.1 = .slice a q.2.2.length cap := by
  obtain ⟨a, cap, e, _⟩ := h
  exact ⟨a, cap, e⟩
theorem hs_or (qs : List Pile) (x : Cell) : No qs x ∨ ∃ i p, Hs qs x i p := by
  induction qs with
  | nil => exact Or.inl fun j q h => by simp at h
  | cons a l ih =>
    by_cases e : a.1 = x
    · exact Or.inr ⟨0, a, rfl, e, fun j q h => by omega⟩
    · rcases ih with k | ⟨i, p, h1, h2, h3⟩
      · refine Or.inl fun j q h => ?_
        cases j with
        | zero => simp at h; subst h; exact e
        | succ j => exact k j q (by simpa using h)
      · refine Or.inr ⟨i + 1, p, by simpa using h1, h2, fun j q hj hq => ?_⟩
        cases j with
        | zero => simp at hq; subst hq; exact e
        | succ j => exact h3 j q (by omega) (by simpa using hq)
set_option maxRecDepth 100000 in
set_option maxHeartbeats 2000000 in
theorem rat_no {K : Rk} {cs : Array Value} {vc : Value} {qs : List Pile} {ls : List Int} {w : World} (h : RsAt w K cs vc qs ls) (x y : Int) (hn : No qs (x, y)) : Calls Try.prog 23 #[.pointer (some ⟨K.s, 0, none⟩), .agg #[.int .i64 x, .int .i64 y]] w fun e w' => ∃ v, e = .returned v ∧ v = .slice none 0 0 ∧ Below w.heap.size w w' := by
  have b0 : Below w.heap.size w (w.alloc (.cells #[.int .i64 x, .int .i64 y] 39)) := below_new (Below.refl _ _) _
  have eB := heap_alloc_new w (.cells #[.int .i64 x, .int .i64 y] 39)
  have cP := fun u (b : Below w.heap.size w u) => place_no (h.go b) x y hn
  clear h hn
  go_enter Try.func23, Try.ntmps23
  go_wp2_with (first
    | (refine wpList_load_row rfl 39 (.tmp 3) rfl w.heap.size rfl 39 #[.int .i64 x, .int .i64 y] (0, 0) _ eB Try.underlying39 rfl infoCell2 ?_)
    | (go_at_call 44; refine (cP _ b0).mono ?_; rintro e w1 ⟨r1, rfl, rfl, b1⟩))
  go_ret
  exact ⟨_, rfl, rfl, bcat b0 b1 (Nat.le_refl _)⟩
set_option maxRecDepth 100000 in
set_option maxHeartbeats 2000000 in
theorem rat_yes {K : Rk} {cs : Array Value} {vc : Value} {qs : List Pile} {ls : List Int} {w : World} (h : RsAt w K cs vc qs ls) (x y : Int) {p : Pile} {i : Nat} (hi : Hs qs (x, y) i p) : Calls Try.prog 23 #[.pointer (some ⟨K.s, 0, none⟩), .agg #[.int .i64 x, .int .i64 y]] w fun e w' => ∃ v, e = .returned v ∧ v = p.2.1 ∧ Below w.heap.size w w' := by
  have b0 : Below w.heap.size w (w.alloc (.cells #[.int .i64 x, .int .i64 y] 39)) := below_new (Below.refl _ _) _
  have eB := heap_alloc_new w (.cells #[.int .i64 x, .int .i64 y] 39)
  have cP := fun u (b : Below w.heap.size w u) => place_yes (h.go b) x y hi.1 hi.2.1 hi.2.2
  have z16 := fun u (b : Below w.heap.size w u) => (h.go b).c16
  have zv := fun u (b : Below w.heap.size w u) => (h.go b).pv hi.1
  obtain ⟨av, capv, hvc, hav⟩ := h.form
  have hlt := (List.getElem?_eq_some_iff.1 hi.1).1
  obtain rfl := hav i hlt
  have hm := h.many
  subst hvc
  generalize qs.length = n at *
  clear h hi hav
  go_enter Try.func23, Try.ntmps23
  go_wp2_with (first
    | (refine wpList_load_row rfl 39 (.tmp 3) rfl w.heap.size rfl 39 #[.int .i64 x, .int .i64 y] (0, 0) _ eB Try.underlying39 rfl infoCell2 ?_)
    | (go_at_call 44; refine (cP _ b0).mono ?_; rintro e w1 ⟨r1, rfl, rfl, b1⟩; have B1 := bcat b0 b1 (Nat.le_refl _); have k16 := z16 _ B1; have yv := zv _ B1))
  go_ret
  exact ⟨_, rfl, rfl, B1⟩
set_option maxRecDepth 100000 in
set_option maxHeartbeats 2000000 in
theorem rheight_no {K : Rk} {cs : Array Value} {vc : Value} {qs : List Pile} {ls : List Int} {w : World} (h : RsAt w K cs vc qs ls) (x y : Int) (hn : No qs (x, y)) : Calls Try.prog 18 #[.pointer (some ⟨K.s, 0, none⟩), .agg #[.int .i64 x, .int .i64 y]] w fun e w' => ∃ v, e = .returned v ∧ v = .int .i64 (-1) ∧ Below w.heap.size w w' := by
  have b0 : Below w.heap.size w (w.alloc (.cells #[.int .i64 x, .int .i64 y] 39)) := below_new (Below.refl _ _) _
  have eB := heap_alloc_new w (.cells #[.int .i64 x, .int .i64 y] 39)
  have cP := fun u (b : Below w.heap.size w u) => place_no (h.go b) x y hn
  clear h hn
  go_enter Try.func18, Try.ntmps18
  go_wp2_with (first
    | (refine wpList_load_row rfl 39 (.tmp 3) rfl w.heap.size rfl 39 #[.int .i64 x, .int .i64 y] (0, 0) _ eB Try.underlying39 rfl infoCell2 ?_)
    | (go_at_call 44; refine (cP _ b0).mono ?_; rintro e w1 ⟨r1, rfl, rfl, b1⟩))
  go_ret
  exact ⟨_, rfl, rfl, bcat b0 b1 (Nat.le_refl _)⟩
set_option maxRecDepth 100000 in
set_option maxHeartbeats 2000000 in
theorem rheight_yes {K : Rk} {cs : Array Value} {vc : Value} {qs : List Pile} {ls : List Int} {w : World} (h : RsAt w K cs vc qs ls) (x y : Int) {p : Pile} {i : Nat} (hi : Hs qs (x, y) i p) : Calls Try.prog 18 #[.pointer (some ⟨K.s, 0, none⟩), .agg #[.int .i64 x, .int .i64 y]] w fun e w' => ∃ v, e = .returned v ∧ v = .int .i64 p.2.2.length ∧ Below w.heap.size w w' := by
  have b0 : Below w.heap.size w (w.alloc (.cells #[.int .i64 x, .int .i64 y] 39)) := below_new (Below.refl _ _) _
  have eB := heap_alloc_new w (.cells #[.int .i64 x, .int .i64 y] 39)
  have cP := fun u (b : Below w.heap.size w u) => place_yes (h.go b) x y hi.1 hi.2.1 hi.2.2
  have cA := fun u (b : Below w.heap.size w u) => rat_yes (h.go b) x y hi
  obtain ⟨a, cap, ev⟩ := (h.pl i p hi.1).sl
  rw [ev] at cA
  have hsm := h.small i p hi.1
  generalize p.2.2.length = n at *
  clear h hi ev
  go_enter Try.func18, Try.ntmps18
  go_wp2_with (first
    | (have X' := B1; refine wpList_load_row rfl 39 (.tmp 3) rfl w.heap.size rfl 39 #[.int .i64 x, .int .i64 y] (0, 0) _ e1 Try.underlying39 rfl infoCell2 ?_)
    | (refine wpList_load_row rfl 39 (.tmp 3) rfl w.heap.size rfl 39 #[.int .i64 x, .int .i64 y] (0, 0) _ eB Try.underlying39 rfl infoCell2 ?_)
    | (go_at_call 44; refine (cP _ b0).mono ?_; rintro e w1 ⟨r1, rfl, rfl, b1⟩; have e1 := (b1.block _ (lt_of_heap eB)).trans eB; have B1 := bcat b0 b1 (Nat.le_refl _))
    | (go_at_call 23; refine (cA _ B1).mono ?_; rintro e w2 ⟨r2, rfl, rfl, b2⟩))
  go_ret
  exact ⟨_, rfl, rfl, bcat B1 b2 (Nat.le_refl _)⟩
set_option maxRecDepth 100000 in
set_option maxHeartbeats 2000000 in
theorem rtop_no {K : Rk} {cs : Array Value} {vc : Value} {qs : List Pile} {ls : List Int} {w : World} (h : RsAt w K cs vc qs ls) (x y : Int) (hn : No qs (x, y)) : Calls Try.prog 20 #[.pointer (some ⟨K.s, 0, none⟩), .agg #[.int .i64 x, .int .i64 y]] w fun e w' => ∃ v, e = .returned v ∧ v = .int .i64 0 ∧ Below w.heap.size w w' := by
  have b0 : Below w.heap.size w (w.alloc (.cells #[.int .i64 x, .int .i64 y] 39)) := below_new (Below.refl _ _) _
  have eB := heap_alloc_new w (.cells #[.int .i64 x, .int .i64 y] 39)
  have cA := fun u (b : Below w.heap.size w u) => rat_no (h.go b) x y hn
  clear h hn
  go_enter Try.func20, Try.ntmps20
  go_wp2_with (first
    | (refine wpList_load_row rfl 39 (.tmp 3) rfl w.heap.size rfl 39 #[.int .i64 x, .int .i64 y] (0, 0) _ eB Try.underlying39 rfl infoCell2 ?_)
    | (go_at_call 23; refine (cA _ b0).mono ?_; rintro e w1 ⟨r1, rfl, rfl, b1⟩))
  go_ret
  exact ⟨_, rfl, rfl, bcat b0 b1 (Nat.le_refl _)⟩
set_option maxRecDepth 100000 in
set_option maxHeartbeats 2000000 in
theorem rtop_yes {K : Rk} {cs : Array Value} {vc : Value} {qs : List Pile} {ls : List Int} {w : World} (h : RsAt w K cs vc qs ls) (x y : Int) {p : Pile} {i : Nat} (hi : Hs qs (x, y) i p) : Calls Try.prog 20 #[.pointer (some ⟨K.s, 0, none⟩), .agg #[.int .i64 x, .int .i64 y]] w fun e w' => ∃ v, e = .returned v ∧ v = .int .i64 (topP p.2.2) ∧ Below w.heap.size w w' := by
  have b0 : Below w.heap.size w (w.alloc (.cells #[.int .i64 x, .int .i64 y] 39)) := below_new (Below.refl _ _) _
  have eB := heap_alloc_new w (.cells #[.int .i64 x, .int .i64 y] 39)
  have cA := fun u (b : Below w.heap.size w u) => rat_yes (h.go b) x y hi
  have hpl := fun u (b : Below w.heap.size w u) => (h.go b).pl i p hi.1
  have hsm := h.small i p hi.1
  by_cases hz : p.2.2.length = 0
  · have HT : Hid (topP p.2.2 = 0) := by show topP p.2.2 = 0; rw [List.eq_nil_of_length_eq_zero hz]; rfl
    obtain ⟨a, cap, ev⟩ := (h.pl i p hi.1).sl
    rw [ev, hz] at cA
    rw [HT.out]
    clear h hi ev hpl hsm
    go_enter Try.func20, Try.ntmps20
    go_wp2_with (first
      | (refine wpList_load_row rfl 39 (.tmp 3) rfl w.heap.size rfl 39 #[.int .i64 x, .int .i64 y] (0, 0) _ eB Try.underlying39 rfl infoCell2 ?_)
      | (go_at_call 23; refine (cA _ b0).mono ?_; rintro e w1 ⟨r1, rfl, rfl, b1⟩))
    go_ret
    exact ⟨_, rfl, rfl, bcat b0 b1 (Nat.le_refl _)⟩
  · obtain ⟨n, hn⟩ : ∃ n, p.2.2.length = n + 1 := ⟨p.2.2.length - 1, by omega⟩
    have zc : ∃ ad cap, p.2.1 = .slice (some ad) (n + 1) cap ∧ ∀ u, Below w.heap.size w u → u.cell? (ad.add n) = some (.int .i64 (p.2.2.getD n 0)) := by
      obtain ⟨a, cap, ev, _, _, _, _, hc⟩ := h.pl i p hi.1
      obtain ⟨ad, rfl, _⟩ := hc n (by omega)
      refine ⟨ad, cap, by rw [ev, hn], fun u b => ?_⟩
      obtain ⟨a', cap', ev', _, _, _, _, hc'⟩ := hpl u b
      obtain ⟨ad', ha', hcc⟩ := hc' n (by omega)
      rw [ev] at ev'
      injection ev' with e1 e2 e3
      rw [← e1] at ha'
      cases ha'
      rw [List.getD_eq_getElem?_getD, List.getElem?_eq_getElem (by omega)]
      exact hcc
    obtain ⟨ad, cap, ev, zc⟩ := zc
    have HT : Hid (topP p.2.2 = p.2.2.getD n 0) := by show topP p.2.2 = _; unfold topP; rw [hn]; rfl
    rw [HT.out]
    rw [ev] at cA
    rw [hn] at hsm
    generalize p.2.2.getD n 0 = tx at *
    clear h hi hpl ev hn hz
    go_enter Try.func20, Try.ntmps20
    go_wp2_with (first
      | (refine wpList_load_row rfl 39 (.tmp 3) rfl w.heap.size rfl 39 #[.int .i64 x, .int .i64 y] (0, 0) _ eB Try.underlying39 rfl infoCell2 ?_)
      | (go_at_call 23; refine (cA _ b0).mono ?_; rintro e w1 ⟨r1, rfl, rfl, b1⟩; have B1 := bcat b0 b1 (Nat.le_refl _); have yc := zc _ B1))
    go_ret
    exact ⟨_, rfl, rfl, B1⟩
set_option maxRecDepth 100000 in
set_option maxHeartbeats 2000000 in
theorem rload_any {K : Rk} {cs : Array Value} {vc : Value} {qs : List Pile} {ls : List Int} {w : World} (h : RsAt w K cs vc qs ls) (r : Int) : Calls Try.prog 50 #[.pointer (some ⟨K.s, 0, none⟩), .int .i64 r] w fun e w' => ∃ v, e = .returned v ∧ v = .int .i64 (loadP ls r) ∧ w' = w := by
  have k17 := h.c17
  have zl := fun k (hk : k < ls.length) => h.lc hk
  have hm := h.few
  unfold loadP
  by_cases h0 : r < 0
  · have HT : Hid (thereB ls r = false) := by show thereB ls r = false; unfold thereB; simp; omega
    rw [HT.out]
    simp only [Bool.false_eq_true, if_false]
    clear h zl k17 hm
    go_enter Try.func50, Try.ntmps50
    go_wp2_with fail
    go_ret
    exact ⟨_, rfl, rfl, rfl⟩
  · obtain ⟨k, rfl⟩ : ∃ k : Nat, r = k := ⟨r.toNat, by omega⟩
    by_cases hk : k < ls.length
    · have HT : Hid (thereB ls (k : Int) = true) := by show thereB ls (k : Int) = true; unfold thereB; simp; omega
      have zk := zl k hk
      rw [HT.out]
      simp only [Int.toNat_natCast, if_true]
      generalize ls.getD k 0 = x at *
      have h3 : ¬ ((ls.length : Int) ≤ (k : Int)) := by omega
      generalize ls.length = M at *
      clear h zl
      go_enter Try.func50, Try.ntmps50
      go_wp2_with fail
      go_ret
      exact ⟨_, rfl, rfl, rfl⟩
    · have HT : Hid (thereB ls (k : Int) = false) := by show thereB ls (k : Int) = false; unfold thereB; simp; omega
      rw [HT.out]
      simp only [Bool.false_eq_true, if_false]
      have h3 : ((ls.length : Int) ≤ (k : Int)) := by omega
      generalize ls.length = M at *
      clear h zl
      go_enter Try.func50, Try.ntmps50
      go_wp2_with fail
      go_ret
      exact ⟨_, rfl, rfl, rfl⟩
end Go.Proofs.Ytabbdclpjghdbaa.Stk
