/-
  The chapter's Lift.
-/
import Derived.Test.YtabbdclpjghdbaaStkRs2
namespace Go.Proofs.Ytabbdclpjghdbaa.Stk
set_option linter.unusedVariables false
set_option linter.unusedSimpArgs false
open Go Go.RowKit Go.Shelf Go.Proofs Go.Proofs.Ytabbdclpjghdbaa.Grid
attribute [local go_sem] Oper.semAt_some

/- What a lift, a drop turns: the row of cells and the loads. -/
structure RTurn (K : Rk) (qs qs' : List Pile) (w w' : World) : Prop where
  os : w'.os = w.os
  tape : w'.tape = w.tape
  output : w'.output = w.output
  size : w.heap.size ≤ w'.heap.size
  keep : ∀ b, b < w.heap.size → b ≠ K.rb → b ≠ K.lb → w'.heap[b]? = w.heap[b]?
  foot : ∀ b, RB K qs' b → RB K qs b ∨ w.heap.size ≤ b
theorem RTurn.of_below {K : Rk} {qs : List Pile} {w w' : World} (h : Below w.heap.size w w') : RTurn K qs qs w w' := ⟨h.os, h.tape, h.output, h.size, fun b hb _ _ => h.block b hb, fun b hb => Or.inl hb⟩
theorem RTurn.trans {K : Rk} {qs qs1 qs2 : List Pile} {w w1 w2 : World} (h : RTurn K qs qs1 w w1) (k : RTurn K qs1 qs2 w1 w2) : RTurn K qs qs2 w w2 :=
  ⟨k.os.trans h.os, k.tape.trans h.tape, k.output.trans h.output, Nat.le_trans h.size k.size,
    fun b hb h1 h2 => (k.keep b (Nat.lt_of_lt_of_le hb h.size) h1 h2).trans (h.keep b hb h1 h2),
    fun b hb => (k.foot b hb).elim (fun q => h.foot b q) (fun q => Or.inr (Nat.le_trans h.size q))⟩
theorem RTurn.lb_ {K : Rk} {qs qs' : List Pile} {w0 w : World} (h : RTurn K qs qs' w0 w) (r : Nat) (v : Value) : RTurn K qs qs' w0 (w.setCell ⟨K.lb, r, none⟩ v) :=
  ⟨h.os, h.tape, h.output, by simpa using h.size, fun b hb h1 h2 => (heap_setCell_other _ _ _ _ h2).trans (h.keep b hb h1 h2), h.foot⟩
theorem rb_set {K : Rk} {qs : List Pile} {i : Nat} {x : Pile} {b : Nat} (h : RB K (qs.set i x) b) : RB K qs b ∨ ∃ a n c, x.2.1 = .slice (some a) n c ∧ a.block = b := by
  rcases h with h | h | h | ⟨j, q, a, n, c, hq, hv, hb⟩
  · exact Or.inl (Or.inl h)
  · exact Or.inl (Or.inr (Or.inl h))
  · exact Or.inl (Or.inr (Or.inr (Or.inl h)))
  · rw [List.getElem?_set] at hq
    split at hq
    · split at hq
      · cases hq
        exact Or.inr ⟨a, n, c, hv, hb⟩
      · cases hq
    · exact Or.inl (Or.inr (Or.inr (Or.inr ⟨j, q, a, n, c, hq, hv, hb⟩)))
theorem RTurn.rb_ {K : Rk} {qs : List Pile} {w0 w : World} (h : RTurn K qs qs w0 w) (i o : Nat) (x : Pile) (v : Value) (hx : ∀ a n c, x.2.1 = .slice (some a) n c → RB K qs a.block ∨ w0.heap.size ≤ a.block) : RTurn K qs (qs.set i x) w0 (w.setCell ⟨K.rb, o, none⟩ v) :=
  ⟨h.os, h.tape, h.output, by simpa using h.size, fun b hb h1 h2 => (heap_setCell_other _ _ _ _ h1).trans (h.keep b hb h1 h2), fun b hb => (rb_set hb).elim Or.inl fun ⟨a, n, c, e1, e2⟩ => by rw [← e2]; exact hx a n c e1⟩
section
variable {K : Rk} {cs : Array Value} {vc : Value} {qs : List Pile} {ls : List Int} {w : World}
theorem PlAt.set_ {q : Pile} (h : PlAt w K q) (b o : Nat) (v : Value) (hb : b = K.rb ∨ b = K.lb) : PlAt (w.setCell ⟨b, o, none⟩ v) K q := h.same (by simp) fun a n c hv => by
  obtain ⟨a', cap, h1, _, _, _, h5, _⟩ := h
  have h1' := h1.symm.trans hv
  injection h1' with e1 e2 e3
  have q := h5 a e1
  rcases hb with rfl | rfl
  · exact heap_setCell_other _ _ _ _ q.2.2.1
  · exact heap_setCell_other _ _ _ _ q.2.2.2.1
theorem RsAt.load (h : RsAt w K cs vc qs ls) (r : Nat) (x : Int) : RsAt (w.setCell ⟨K.lb, r, none⟩ (.int .i64 x)) K cs vc qs (ls.set r x) :=
  have e0 : ∀ b, b ≠ K.lb → (w.setCell ⟨K.lb, r, none⟩ (.int .i64 x)).heap[b]? = w.heap[b]? := fun b h1 => heap_setCell_other _ _ _ _ h1
  { h with
    hd := by rw [List.length_set]; exact (e0 _ h.sl).trans h.hd
    row := by
      rcases h.row with q | ⟨q1, q2, q3, cur, q4, q5⟩
      · exact Or.inl q
      · exact Or.inr ⟨q1, q2, q3, cur, (e0 _ h.rl).trans q4, q5⟩
    lds := by
      rw [heap_setCell_same _ _ _ _ _ _ h.lds, List.map_set]
      simp
    pl := fun i q hq => (h.pl i q hq).set_ _ _ _ (Or.inr rfl)
    few := by rw [List.length_set]; exact h.few
    lr := by simpa using h.lr }
theorem RsAt.put (h : RsAt w K cs vc qs ls) {i : Nat} {p : Pile} (hq : qs[i]? = some p) (v' : Value) (bs' : List Int) (hpl : PlAt w K (p.1, v', bs')) (h8 : bs'.length ≤ 8) : RsAt (w.setCell ⟨K.rb, i * 3 + 2, none⟩ v') K cs vc (qs.set i (p.1, v', bs')) ls := by
  have e0 : ∀ b, b ≠ K.rb → (w.setCell ⟨K.rb, i * 3 + 2, none⟩ v').heap[b]? = w.heap[b]? := fun b h1 => heap_setCell_other _ _ _ _ h1
  have hil := (List.getElem?_eq_some_iff.1 hq).1
  have hg : ∀ (j : Nat) (q : Pile), (qs.set i (p.1, v', bs'))[j]? = some q → (j = i ∧ q = (p.1, v', bs')) ∨ (j ≠ i ∧ qs[j]? = some q) := fun j q hj => by
    rw [List.getElem?_set] at hj
    split at hj
    · rename_i e
      first
      | (rw [if_pos hil] at hj; cases hj)
      | cases hj
      exact Or.inl ⟨e.symm, rfl⟩
    · rename_i e
      exact Or.inr ⟨fun e2 => e e2.symm, hj⟩
  exact { h with
    hd := (e0 _ h.sr).trans h.hd
    row := by
      rcases h.row with ⟨q1, _⟩ | ⟨q1, q2, q3, cur, q4, q5⟩
      · rw [q1] at hq; simp at hq
      · have q6 := q5 i p 2 _ hq rfl
        have hlt := (Array.getElem?_eq_some_iff.1 q6).1
        refine Or.inr ⟨by rw [List.length_set]; exact q1, by rw [List.length_set]; exact q2, q3, cur.setIfInBounds (i * 3 + 2) v', by rw [heap_setCell_same _ _ _ _ _ _ q4], fun j q k u hj hk => ?_⟩
        have h3 : k < 3 := by have := (List.getElem?_eq_some_iff.1 hk).1; rw [pileL_len] at this; exact this
        rcases hg j q hj with ⟨e1, e2⟩ | ⟨e1, e2⟩
        · rw [e1]
          rw [e2] at hk
          by_cases hk2 : k = 2
          · subst hk2
            rw [Array.getElem?_setIfInBounds_self_of_lt hlt]
            simpa [pileL] using hk
          · rw [Array.getElem?_setIfInBounds_ne (by omega)]
            refine q5 i p k u hq ?_
            match k, hk2, h3 with
            | 0, _, _ => simpa [pileL] using hk
            | 1, _, _ => simpa [pileL] using hk
            | k + 2, h1, h2 => omega
        · rw [Array.getElem?_setIfInBounds_ne (by omega)]
          exact q5 j q k u e2 hk
    lds := (e0 _ h.rl.symm).trans h.lds
    pl := fun j q hj => by
      rcases hg j q hj with ⟨_, e2⟩ | ⟨_, e2⟩
      · rw [e2]; exact hpl.set_ _ _ _ (Or.inl rfl)
      · exact (h.pl j q e2).set_ _ _ _ (Or.inl rfl)
    many := by rw [List.length_set]; exact h.many
    small := fun j q hj => by
      rcases hg j q hj with ⟨_, e2⟩ | ⟨_, e2⟩
      · rw [e2]; exact h8
      · exact h.small j q e2
    lr := by simpa using h.lr }
theorem plZ (h : RsAt w K cs vc qs ls) (x y : Int) : ∃ Z : Int, (∀ u, Below w.heap.size w u → Calls Try.prog 44 #[.pointer (some ⟨K.s, 0, none⟩), .agg #[.int .i64 x, .int .i64 y]] u fun e w' => ∃ v, e = .returned v ∧ v = .int .i64 Z ∧ Below u.heap.size u w') ∧ -1 ≤ Z ∧ (No qs (x, y) → Z = -1) := by
  rcases hs_or qs (x, y) with hn | ⟨i, p, hi⟩
  · exact ⟨-1, fun u b => place_no (h.go b) x y hn, by omega, fun _ => rfl⟩
  · exact ⟨i, fun u b => place_yes (h.go b) x y hi.1 hi.2.1 hi.2.2, by omega, fun hn => absurd hi.2.1 (hn i p hi.1)⟩
end
theorem loadP_bad {ls : List Int} {r : Int} (h : thereB ls r = true) : ∃ k : Nat, r = k ∧ k < ls.length ∧ loadP ls r = ls.getD k 0 := by
  have h2 := h
  unfold thereB at h2
  simp only [Bool.and_eq_true, decide_eq_true_eq] at h2
  refine ⟨r.toNat, by omega, by omega, ?_⟩
  unfold loadP
  rw [h]
  simp
set_option maxRecDepth 100000 in
set_option maxHeartbeats 2000000 in
theorem rlift_arg {K : Rk} {cs : Array Value} {vc : Value} {qs : List Pile} {ls : List Int} {w : World} (h : RsAt w K cs vc qs ls) (r x y : Int) (hb : thereB ls r = false ∨ No qs (x, y)) : Calls Try.prog 14 #[.pointer (some ⟨K.s, 0, none⟩), .int .i64 r, .agg #[.int .i64 x, .int .i64 y]] w fun e w' => e = .returned (.tuple #[.int .i64 0, .int .i64 1]) ∧ Below w.heap.size w w' := by
  obtain ⟨w0, hw0⟩ : ∃ w0, w0 = w.alloc (.cells #[.int .i64 x, .int .i64 y] 39) := ⟨_, rfl⟩
  have b0 : Below w.heap.size w w0 := by rw [hw0]; exact below_new (Below.refl _ _) _
  have eB : w0.heap[w.heap.size]? = some (.cells #[.int .i64 x, .int .i64 y] 39 (0, 0)) := by rw [hw0]; exact heap_alloc_new w _
  obtain ⟨Z, cP, hZ, hZn⟩ := plZ h x y
  have z16 := fun u (b : Below w.heap.size w u) => (h.go b).c16
  have z17 := fun u (b : Below w.heap.size w u) => (h.go b).c17
  have hm := h.few
  have HW0 : Hid (w0 = w.alloc (.cells #[.int .i64 x, .int .i64 y] 39)) := hw0
  have hZ2 : thereB ls r = true → Z = -1 := fun ht => hZn (hb.resolve_left (by rw [ht]; simp))
  have ht : thereB ls r = (decide (0 ≤ r) && decide (r < ls.length)) := rfl
  generalize ls.length = M at *
  clear h hb hZn hw0
  by_cases h0 : r < 0
  · clear ht hZ2
    go_enter Try.func14, Try.ntmps14
    go_wp2_with (first
      | (have X' := HW0; refine boxAt rfl 39 (.tmp 2) rfl #[.int .i64 x, .int .i64 y] rfl ?_; rw [← HW0.out]; clear HW0)
      | (refine wpList_load_row rfl 39 (.tmp 5) rfl w.heap.size rfl 39 #[.int .i64 x, .int .i64 y] (0, 0) _ eB Try.underlying39 rfl infoCell2 ?_)
      | (go_at_call 44; refine (cP _ b0).mono ?_; rintro e w1 ⟨r1, rfl, rfl, b1⟩; have B1 := bcat b0 b1 (Nat.le_refl _); have k16 := z16 _ B1; have k17 := z17 _ B1))
    exact bodyPost_ret (v := .tuple #[.int .i64 0, .int .i64 1]) (by simp [results, Try.results14, go_sem]) rfl ⟨rfl, B1⟩
  · by_cases h1 : r < (M : Int)
    · have h2 : Z = -1 := hZ2 (by rw [ht]; simp; omega)
      have h3 : ¬ ((M : Int) ≤ r) := by omega
      subst h2
      clear ht hZ2
      go_enter Try.func14, Try.ntmps14
      go_wp2_with (first
        | (have X' := HW0; refine boxAt rfl 39 (.tmp 2) rfl #[.int .i64 x, .int .i64 y] rfl ?_; rw [← HW0.out]; clear HW0)
        | (refine wpList_load_row rfl 39 (.tmp 5) rfl w.heap.size rfl 39 #[.int .i64 x, .int .i64 y] (0, 0) _ eB Try.underlying39 rfl infoCell2 ?_)
        | (go_at_call 44; refine (cP _ b0).mono ?_; rintro e w1 ⟨r1, rfl, rfl, b1⟩; have B1 := bcat b0 b1 (Nat.le_refl _); have k16 := z16 _ B1; have k17 := z17 _ B1))
      exact bodyPost_ret (v := .tuple #[.int .i64 0, .int .i64 1]) (by simp [results, Try.results14, go_sem]) rfl ⟨rfl, B1⟩
    · have h3 : (M : Int) ≤ r := by omega
      clear ht hZ2
      go_enter Try.func14, Try.ntmps14
      go_wp2_with (first
        | (have X' := HW0; refine boxAt rfl 39 (.tmp 2) rfl #[.int .i64 x, .int .i64 y] rfl ?_; rw [← HW0.out]; clear HW0)
        | (refine wpList_load_row rfl 39 (.tmp 5) rfl w.heap.size rfl 39 #[.int .i64 x, .int .i64 y] (0, 0) _ eB Try.underlying39 rfl infoCell2 ?_)
        | (go_at_call 44; refine (cP _ b0).mono ?_; rintro e w1 ⟨r1, rfl, rfl, b1⟩; have B1 := bcat b0 b1 (Nat.le_refl _); have k16 := z16 _ B1; have k17 := z17 _ B1))
      exact bodyPost_ret (v := .tuple #[.int .i64 0, .int .i64 1]) (by simp [results, Try.results14, go_sem]) rfl ⟨rfl, B1⟩
set_option maxRecDepth 100000 in
set_option maxHeartbeats 2000000 in
theorem rlift_state {K : Rk} {cs : Array Value} {vc : Value} {qs : List Pile} {ls : List Int} {w : World} (h : RsAt w K cs vc qs ls) (r x y : Int) (ht : thereB ls r = true) {i : Nat} {p : Pile} (hi : Hs qs (x, y) i p) (hl : loadP ls r ≠ 0) : Calls Try.prog 14 #[.pointer (some ⟨K.s, 0, none⟩), .int .i64 r, .agg #[.int .i64 x, .int .i64 y]] w fun e w' => e = .returned (.tuple #[.int .i64 0, .int .i64 8]) ∧ Below w.heap.size w w' := by
  obtain ⟨w0, hw0⟩ : ∃ w0, w0 = w.alloc (.cells #[.int .i64 x, .int .i64 y] 39) := ⟨_, rfl⟩
  have b0 : Below w.heap.size w w0 := by rw [hw0]; exact below_new (Below.refl _ _) _
  have eB : w0.heap[w.heap.size]? = some (.cells #[.int .i64 x, .int .i64 y] 39 (0, 0)) := by rw [hw0]; exact heap_alloc_new w _
  have cP := fun u (b : Below w.heap.size w u) => place_yes (h.go b) x y hi.1 hi.2.1 hi.2.2
  have z16 := fun u (b : Below w.heap.size w u) => (h.go b).c16
  have z17 := fun u (b : Below w.heap.size w u) => (h.go b).c17
  have zv := fun u (b : Below w.heap.size w u) => (h.go b).pv hi.1
  obtain ⟨k, rfl, hk, hlk⟩ := loadP_bad ht
  have zl := fun u (b : Below w.heap.size w u) => (h.go b).lc hk
  rw [hlk] at hl
  have hm := h.few
  have hmq := h.many
  have HW0 : Hid (w0 = w.alloc (.cells #[.int .i64 x, .int .i64 y] 39)) := hw0
  obtain ⟨av, capv, hvc, hav⟩ := h.form
  have hlt := (List.getElem?_eq_some_iff.1 hi.1).1
  obtain rfl := hav i hlt
  subst hvc
  have hl2 : (ls.getD k 0 == 0) = false := by rw [beq_eq_false_iff_ne]; exact hl
  generalize hlv : ls.getD k 0 = lv at *
  clear hlv
  generalize ls.length = M at *
  generalize qs.length = N at *
  have h3 : ¬ ((M : Int) ≤ (k : Int)) := by omega
  clear h hi hav hw0 ht hlk
  go_enter Try.func14, Try.ntmps14
  go_wp2_with (first
    | (have X' := HW0; refine boxAt rfl 39 (.tmp 2) rfl #[.int .i64 x, .int .i64 y] rfl ?_; rw [← HW0.out]; clear HW0)
    | (refine wpList_load_row rfl 39 (.tmp 5) rfl w.heap.size rfl 39 #[.int .i64 x, .int .i64 y] (0, 0) _ eB Try.underlying39 rfl infoCell2 ?_)
    | (go_at_call 44; refine (cP _ b0).mono ?_; rintro e w1 ⟨r1, rfl, rfl, b1⟩; have B1 := bcat b0 b1 (Nat.le_refl _); have k16 := z16 _ B1; have k17 := z17 _ B1; have yv := zv _ B1; have yl := zl _ B1))
  exact bodyPost_ret (v := .tuple #[.int .i64 0, .int .i64 8]) (by simp [results, Try.results14, go_sem]) rfl ⟨rfl, B1⟩
set_option maxRecDepth 100000 in
set_option maxHeartbeats 2000000 in
theorem rlift_none {K : Rk} {cs : Array Value} {vc : Value} {qs : List Pile} {ls : List Int} {w : World} (h : RsAt w K cs vc qs ls) (r x y : Int) (ht : thereB ls r = true) {i : Nat} {p : Pile} (hi : Hs qs (x, y) i p) (hl : loadP ls r = 0) (he : p.2.2 = []) : Calls Try.prog 14 #[.pointer (some ⟨K.s, 0, none⟩), .int .i64 r, .agg #[.int .i64 x, .int .i64 y]] w fun e w' => e = .returned (.tuple #[.int .i64 0, .int .i64 3]) ∧ Below w.heap.size w w' := by
  obtain ⟨w0, hw0⟩ : ∃ w0, w0 = w.alloc (.cells #[.int .i64 x, .int .i64 y] 39) := ⟨_, rfl⟩
  have b0 : Below w.heap.size w w0 := by rw [hw0]; exact below_new (Below.refl _ _) _
  have eB : w0.heap[w.heap.size]? = some (.cells #[.int .i64 x, .int .i64 y] 39 (0, 0)) := by rw [hw0]; exact heap_alloc_new w _
  have cP := fun u (b : Below w.heap.size w u) => place_yes (h.go b) x y hi.1 hi.2.1 hi.2.2
  have z16 := fun u (b : Below w.heap.size w u) => (h.go b).c16
  have z17 := fun u (b : Below w.heap.size w u) => (h.go b).c17
  have zv := fun u (b : Below w.heap.size w u) => (h.go b).pv hi.1
  obtain ⟨k, rfl, hk, hlk⟩ := loadP_bad ht
  have zl := fun u (b : Below w.heap.size w u) => (h.go b).lc hk
  rw [hlk] at hl
  have hm := h.few
  have hmq := h.many
  have HW0 : Hid (w0 = w.alloc (.cells #[.int .i64 x, .int .i64 y] 39)) := hw0
  obtain ⟨av, capv, hvc, hav⟩ := h.form
  have hlt := (List.getElem?_eq_some_iff.1 hi.1).1
  obtain rfl := hav i hlt
  subst hvc
  obtain ⟨a, cap, ev⟩ := (h.pl i p hi.1).sl
  rw [he] at ev
  rw [ev] at zv
  rw [hl] at zl
  clear ev
  generalize hlv : ls.getD k 0 = lv at *
  clear hlv
  generalize ls.length = M at *
  generalize qs.length = N at *
  have h3 : ¬ ((M : Int) ≤ (k : Int)) := by omega
  clear h hi hav hw0 ht hlk
  go_enter Try.func14, Try.ntmps14
  go_wp2_with (first
    | (have X' := HW0; refine boxAt rfl 39 (.tmp 2) rfl #[.int .i64 x, .int .i64 y] rfl ?_; rw [← HW0.out]; clear HW0)
    | (refine wpList_load_row rfl 39 (.tmp 5) rfl w.heap.size rfl 39 #[.int .i64 x, .int .i64 y] (0, 0) _ eB Try.underlying39 rfl infoCell2 ?_)
    | (go_at_call 44; refine (cP _ b0).mono ?_; rintro e w1 ⟨r1, rfl, rfl, b1⟩; have B1 := bcat b0 b1 (Nat.le_refl _); have k16 := z16 _ B1; have k17 := z17 _ B1; have yv := zv _ B1; have yl := zl _ B1))
  exact bodyPost_ret (v := .tuple #[.int .i64 0, .int .i64 3]) (by simp [results, Try.results14, go_sem]) rfl ⟨rfl, B1⟩
/- What stays as it is under a lift. -/
structure LfS (K : Rk) (vc : Value) (m : Nat) (ad : Addr) (n : Nat) (tp : Int) (u : World) : Prop where
  c16 : u.cell? ⟨K.s, 16, none⟩ = some vc
  c17 : u.cell? ⟨K.s, 17, none⟩ = some (.slice (some ⟨K.lb, 0, none⟩) m m)
  tpc : u.cell? (ad.add n) = some (.int .i64 tp)
theorem cell_other {w : World} {b o : Nat} {v : Value} {p : Addr} (h : p.block ≠ b) : (w.setCell ⟨b, o, none⟩ v).cell? p = w.cell? p := cell_blk (heap_setCell_other _ _ _ _ h)
theorem LfS.drew {K : Rk} {vc : Value} {m : Nat} {ad : Addr} {n : Nat} {tp : Int} {u : World} (h : LfS K vc m ad n tp u) : LfS K vc m ad n tp u.drew := ⟨h.c16, h.c17, h.tpc⟩
theorem add_block (a : Addr) (n : Nat) : (a.add n).block = a.block := by unfold Addr.add; split <;> rfl
theorem LfS.set_ {K : Rk} {vc : Value} {m : Nat} {ad : Addr} {n : Nat} {tp : Int} {u : World} (h : LfS K vc m ad n tp u) (b o : Nat) (v : Value) (h1 : K.s ≠ b) (h2 : ad.block ≠ b) : LfS K vc m ad n tp (u.setCell ⟨b, o, none⟩ v) :=
  ⟨(cell_other h1).trans h.c16, (cell_other h1).trans h.c17, (cell_other (by rw [add_block]; exact h2)).trans h.tpc⟩
theorem RsAt.froz {K : Rk} {cs : Array Value} {vc : Value} {qs : List Pile} {ls : List Int} {w : World} (h : RsAt w K cs vc qs ls) {i : Nat} {p : Pile} (hq : qs[i]? = some p) : w.frozen? ⟨K.rb, i * 3 + 2, none⟩ = false := by
  rcases h.row with ⟨q1, _⟩ | ⟨_, _, _, cur, q4, _⟩
  · rw [q1] at hq; simp at hq
  · simp [World.frozen?, q4]
/- A pile with a bin on it: where it lies, its top, and what it is without it. -/
theorem PlAt.top {w : World} {K : Rk} {q : Pile} (h : PlAt w K q) {n : Nat} (hn : q.2.2.length = n + 1) : ∃ ad cap, q.2.1 = .slice (some ad) (n + 1) cap ∧ n + 1 ≤ cap ∧ cap ≤ maxLen ∧ w.cell? (ad.add n) = some (.int .i64 (topP q.2.2)) ∧ (ad.block ≠ K.s ∧ ad.block ≠ K.rb ∧ ad.block ≠ K.lb) ∧ PlAt w K (q.1, .slice (some ad) n n, q.2.2.dropLast) := by
  obtain ⟨a, cap, h1, h2, h3, h4, h5, h6⟩ := h
  obtain ⟨ad, rfl, hc⟩ := h6 n (by omega)
  have hb := h5 ad rfl
  refine ⟨ad, cap, by rw [h1, hn], by omega, h4, ?_, ⟨hb.2.1, hb.2.2.1, hb.2.2.2.1⟩, ?_⟩
  · have e1 : q.2.2.getD (q.2.2.length - 1) 0 = q.2.2[n]'(by omega) := by
      rw [List.getD_eq_getElem?_getD, show q.2.2.length - 1 = n by omega, List.getElem?_eq_getElem (by omega)]
      rfl
    unfold topP
    rw [hc, e1]
  · refine ⟨some ad, n, (by show Value.slice (some ad) n n = .slice (some ad) q.2.2.dropLast.length n; rw [List.length_dropLast, hn]; rfl), (fun e => by cases e), (by show q.2.2.dropLast.length ≤ n; rw [List.length_dropLast, hn]; exact Nat.le_refl _), by omega, (fun x hx => by cases hx; exact hb), fun j hj => ?_⟩
    have hj2 : j < q.2.2.length := by have hj' : j < q.2.2.dropLast.length := hj; rw [List.length_dropLast] at hj'; omega
    obtain ⟨x, hx, hcx⟩ := h6 j hj2
    exact ⟨x, hx, by rw [hcx, List.getElem_dropLast]⟩
set_option maxRecDepth 100000 in
set_option maxHeartbeats 2000000 in
theorem rlift_ok {K : Rk} {cs : Array Value} {vc : Value} {qs : List Pile} {ls : List Int} {w : World} (h : RsAt w K cs vc qs ls) (r x y : Int) (ht : thereB ls r = true) {i : Nat} {p : Pile} (hi : Hs qs (x, y) i p) (hl : loadP ls r = 0) (hz : p.2.2 ≠ []) : Calls Try.prog 14 #[.pointer (some ⟨K.s, 0, none⟩), .int .i64 r, .agg #[.int .i64 x, .int .i64 y]] w fun e w' => ∃ v', e = .returned (.tuple #[.int .i64 (topP p.2.2), .int .i64 0]) ∧ RsAt w' K cs vc (qs.set i (p.1, v', p.2.2.dropLast)) (ls.set r.toNat (topP p.2.2)) ∧ RTurn K qs (qs.set i (p.1, v', p.2.2.dropLast)) w w' := by
  obtain ⟨w0, hw0⟩ : ∃ w0, w0 = w.alloc (.cells #[.int .i64 x, .int .i64 y] 39) := ⟨_, rfl⟩
  have b0 : Below w.heap.size w w0 := by rw [hw0]; exact below_new (Below.refl _ _) _
  have eB : w0.heap[w.heap.size]? = some (.cells #[.int .i64 x, .int .i64 y] 39 (0, 0)) := by rw [hw0]; exact heap_alloc_new w _
  have cP := fun u (b : Below w.heap.size w u) => place_yes (h.go b) x y hi.1 hi.2.1 hi.2.2
  have z16 := fun u (b : Below w.heap.size w u) => (h.go b).c16
  have z17 := fun u (b : Below w.heap.size w u) => (h.go b).c17
  have zv := fun u (b : Below w.heap.size w u) => (h.go b).pv hi.1
  obtain ⟨k, rfl, hk, hlk⟩ := loadP_bad ht
  have zl := fun u (b : Below w.heap.size w u) => (h.go b).lc hk
  rw [hlk] at hl
  rw [hl] at zl
  have hm := h.few
  have hmq := h.many
  have HW0 : Hid (w0 = w.alloc (.cells #[.int .i64 x, .int .i64 y] 39)) := hw0
  have HKL : Hid (k < ls.length) := hk
  have HI : Hid (qs[i]? = some p) := hi.1
  obtain ⟨n, hn⟩ : ∃ n, p.2.2.length = n + 1 := ⟨p.2.2.length - 1, by have : p.2.2.length ≠ 0 := fun e => hz (List.eq_nil_of_length_eq_zero e); omega⟩
  have hsm := h.small i p hi.1
  rw [hn] at hsm
  obtain ⟨ad, cap, ev, hc1, hc2, hc3, hbk, _⟩ := (h.pl i p hi.1).top hn
  have zc := fun u (b : Below w.heap.size w u) => cell_below hc3 b
  have HPut : Hid (∀ u L, RsAt u K cs vc qs L → RsAt (u.setCell ⟨K.rb, i * 3 + 2, none⟩ (.slice (some ad) n n)) K cs vc (qs.set i (p.1, .slice (some ad) n n, p.2.2.dropLast)) L) := fun u L hu => by
    obtain ⟨ad2, cap2, ev2, _, _, _, _, hp2⟩ := (hu.pl i p hi.1).top hn
    rw [ev] at ev2
    injection ev2 with e1 e2 e3
    cases e1
    exact hu.put hi.1 _ _ hp2 (by rw [List.length_dropLast]; omega)
  have HXB : Hid (∀ a n' c, (p.1, Value.slice (some ad) n n, p.2.2.dropLast).2.1 = .slice (some a) n' c → RB K qs a.block ∨ w.heap.size ≤ a.block) := fun a n' c e => Or.inl (Or.inr (Or.inr (Or.inr ⟨i, p, a, n + 1, cap, hi.1, by injection e with e1 e2 e3; rw [ev, e1], rfl⟩)))
  have HNE : Hid (K.lb ≠ K.s ∧ K.rb ≠ K.s ∧ ad.block ≠ K.rb ∧ ad.block ≠ K.lb) := ⟨h.sl.symm, h.sr.symm, hbk.2.1, hbk.2.2⟩
  rw [ev] at zv
  obtain ⟨av, capv, hvc, hav⟩ := h.form
  have hlt := (List.getElem?_eq_some_iff.1 hi.1).1
  obtain rfl := hav i hlt
  subst hvc
  have HRR : Hid (∀ u, Below w.heap.size w u → RsAt u K cs (.slice (some ⟨K.rb, 0, none⟩) qs.length capv) qs ls) := fun u b => h.go b
  simp only [Int.toNat_natCast]
  generalize topP p.2.2 = tp at *
  generalize hML : ls.length = M at *
  have HML : Hid (ls.length = M) := hML
  have HKX : Hid (k < ls.length) := by show k < ls.length; rw [hML]; exact hk
  generalize qs.length = N at *
  have h3 : ¬ ((M : Int) ≤ (k : Int)) := by omega
  clear h hi hav hw0 ht hlk hl hz ev hn hML hc3 hbk
  go_enter Try.func14, Try.ntmps14
  go_upto_region 9 with (first
    | (have X' := HW0; refine boxAt rfl 39 (.tmp 2) rfl #[.int .i64 x, .int .i64 y] rfl ?_; rw [← HW0.out]; clear HW0)
    | (refine wpList_load_row rfl 39 (.tmp 5) rfl w.heap.size rfl 39 #[.int .i64 x, .int .i64 y] (0, 0) _ eB Try.underlying39 rfl infoCell2 ?_)
    | (go_at_call 44; refine (cP _ b0).mono ?_; rintro e w1 ⟨r1, rfl, rfl, b1⟩; have B1 := bcat b0 b1 (Nat.le_refl _); have k16 := z16 _ B1; have k17 := z17 _ B1; have yv := zv _ B1; have yl := zl _ B1))
  have HS0 : Hid (LfS K (.slice (some ⟨K.rb, 0, none⟩) N capv) M ad n tp w1) := ⟨k16, k17, zc _ B1⟩
  have HR : Hid (RsAt w1 K cs (.slice (some ⟨K.rb, 0, none⟩) N capv) qs ls) := HRR.out _ B1
  clear k16 k17 yv yl z16 z17 zv zl cP
  refine start_held (S := LfS K (.slice (some ⟨K.rb, 0, none⟩) N capv) M ad n tp) 13 rfl (by kernel_rfl) (HS0.out.drew) ?_
  simp only [Array.replicate_succ, Array.replicate_zero, List.push_toArray, List.nil_append, List.cons_append]
  have hS0 : LfS K (.slice (some ⟨K.rb, 0, none⟩) N capv) M ad n tp w1.drew := HS0.out.drew
  have HR0 : Hid (RsAt w1.drew K cs (.slice (some ⟨K.rb, 0, none⟩) N capv) qs ls) := HR.out.go (Below.refl _ _).drew
  have HT0 : Hid (RTurn K qs qs w w1.drew) := (RTurn.of_below B1).trans (RTurn.of_below (Below.refl _ _).drew)
  generalize w1.drew = x0 at *
  refine take_held 0 hS0 rfl (by kernel_rfl) (by kernel_rfl) (by kernel_rfl) (fun _ _ _ h => h) (by kernel_rfl) (v := ?v5000) ?y5000 ?r5000
  case y5000 => (intro u hu; go_simp; try rfl)
  simp only [Act.put, List.setIfInBounds_toArray, List.set_cons_zero, List.set_cons_succ]
  refine take_held 1 hS0 rfl (by kernel_rfl) (by kernel_rfl) (by kernel_rfl) (fun _ _ _ h => h) (by kernel_rfl) (v := ?v5001) ?y5001 ?r5001
  case y5001 => (intro u hu; go_simp; try rfl)
  simp only [Act.put, List.setIfInBounds_toArray, List.set_cons_zero, List.set_cons_succ]
  refine take_held 2 hS0 rfl (by kernel_rfl) (by kernel_rfl) (by kernel_rfl) (fun _ _ _ h => h) (by kernel_rfl) (v := ?v5002) ?y5002 ?r5002
  case y5002 => (intro u hu; go_simp; try rfl)
  simp only [Act.put, List.setIfInBounds_toArray, List.set_cons_zero, List.set_cons_succ]
  refine take_held 3 hS0 rfl (by kernel_rfl) (by kernel_rfl) (by kernel_rfl) (fun _ _ _ h => h) (by kernel_rfl) (v := ?v5003) ?y5003 ?r5003
  case y5003 => (intro u hu; have zz0 := (fun (u : World) (hu : LfS K (.slice (some ⟨K.rb, 0, none⟩) N capv) M ad n tp u) => hu.c17) u hu; go_simp; try rfl)
  simp only [Act.put, List.setIfInBounds_toArray, List.set_cons_zero, List.set_cons_succ]
  refine take_held 4 hS0 rfl (by kernel_rfl) (by kernel_rfl) (by kernel_rfl) (fun _ _ _ h => h) (by kernel_rfl) (v := ?v5004) ?y5004 ?r5004
  case y5004 => (intro u hu; go_simp; try rfl)
  simp only [Act.put, List.setIfInBounds_toArray, List.set_cons_zero, List.set_cons_succ]
  refine take_held 5 hS0 rfl (by kernel_rfl) (by kernel_rfl) (by kernel_rfl) (fun _ _ _ h => h) (by kernel_rfl) (v := ?v5005) ?y5005 ?r5005
  case y5005 => (intro u hu; go_simp; try rfl)
  simp only [Act.put, List.setIfInBounds_toArray, List.set_cons_zero, List.set_cons_succ]
  refine take_held 6 hS0 rfl (by kernel_rfl) (by kernel_rfl) (by kernel_rfl) (fun _ _ _ h => h) (by kernel_rfl) (v := ?v5006) ?y5006 ?r5006
  case y5006 => (intro u hu; go_simp; try rfl)
  simp only [Act.put, List.setIfInBounds_toArray, List.set_cons_zero, List.set_cons_succ]
  refine take_held 7 hS0 rfl (by kernel_rfl) (by kernel_rfl) (by kernel_rfl) (fun _ _ _ h => h) (by kernel_rfl) (v := ?v5007) ?y5007 ?r5007
  case y5007 => (intro u hu; go_simp; try rfl)
  simp only [Act.put, List.setIfInBounds_toArray, List.set_cons_zero, List.set_cons_succ]
  refine take_held 8 hS0 rfl (by kernel_rfl) (by kernel_rfl) (by kernel_rfl) (fun _ _ _ h => h) (by kernel_rfl) (v := .int .i64 (n : Int)) ?y5008 ?r5008
  case y5008 => (intro u hu; have hw : IntKind.i64.wrap (n : Int) = (n : Int) := (by rw [IntKind.wrap_i64]; omega); go_simp; try first | rfl | exact hw)
  simp only [Act.put, List.setIfInBounds_toArray, List.set_cons_zero, List.set_cons_succ]
  refine take_held 9 hS0 rfl (by kernel_rfl) (by kernel_rfl) (by kernel_rfl) (fun _ _ _ h => h) (by kernel_rfl) (v := .pointer (some (ad.add n))) ?y5009 ?r5009
  case y5009 => (intro u hu; have hq : (n : Int) < (n : Int) + 1 := (by omega); go_simp; try rfl)
  simp only [Act.put, List.setIfInBounds_toArray, List.set_cons_zero, List.set_cons_succ]
  refine take_held 10 hS0 rfl (by kernel_rfl) (by kernel_rfl) (by kernel_rfl) (fun _ _ _ h => h) (by kernel_rfl) (v := ?v5010) ?y5010 ?r5010
  case y5010 => (intro u hu; have zz0 := (fun (u : World) (hu : LfS K (.slice (some ⟨K.rb, 0, none⟩) N capv) M ad n tp u) => hu.tpc) u hu; go_simp; try rfl)
  simp only [Act.put, List.setIfInBounds_toArray, List.set_cons_zero, List.set_cons_succ]
  refine take_held 11 hS0 rfl (by kernel_rfl) (by kernel_rfl) (by kernel_rfl) (fun _ _ _ h => h) (by kernel_rfl) (v := ?v5011) ?y5011 ?r5011
  case y5011 => (intro u hu; go_simp; try rfl)
  simp only [Act.put, List.setIfInBounds_toArray, List.set_cons_zero, List.set_cons_succ]
  refine wpAnyH_ready (rs := [12]) (by kernel_rfl) (by simp) (AllReadyH.cons ((nth_eq _ 12).trans rfl) ?_ AllReadyH.nil)
  intro K1 hK1
  obtain ⟨x1, hx1⟩ : ∃ zw, zw = x0.setCell ⟨K.lb, k, none⟩ (.int .i64 tp) := ⟨_, rfl⟩
  have hS1 := (show LfS K (.slice (some ⟨K.rb, 0, none⟩) N capv) M ad n tp x1 by rw [hx1]; exact hS0.set_ _ _ _ HNE.out.1.symm HNE.out.2.2.2)
  refine skip_in hK1 (by kernel_rfl) x1 (by rw [hx1]; have zc := HR0.out.lc HKX.out; have zf : x0.frozen? ⟨K.lb, k, none⟩ = false := (by simp [World.frozen?, HR0.out.lds]); go_simp; try rfl) hS1 ?_
  simp only [Act.put, List.setIfInBounds_toArray, List.set_cons_zero, List.set_cons_succ]
  refine done_held (by kernel_rfl) ?_ _
  have HR1 : Hid (RsAt x1 K cs (.slice (some ⟨K.rb, 0, none⟩) N capv) qs (ls.set k tp)) := by rw [hx1]; exact HR0.out.load k tp
  have HT1 : Hid (RTurn K qs qs w x1) := by rw [hx1]; exact HT0.out.lb_ k _
  have HS1 : Hid (LfS K (.slice (some ⟨K.rb, 0, none⟩) N capv) M ad n tp x1) := hS1
  clear hS1 hx1
  go_upto_region 10 with fail
  refine start_held (S := LfS K (.slice (some ⟨K.rb, 0, none⟩) N capv) M ad n tp) 16 rfl (by kernel_rfl) (HS1.out.drew) ?_
  simp only [Array.replicate_succ, Array.replicate_zero, List.push_toArray, List.nil_append, List.cons_append]
  have hS0 : LfS K (.slice (some ⟨K.rb, 0, none⟩) N capv) M ad n tp x1.drew := HS1.out.drew
  have HR2 : Hid (RsAt x1.drew K cs (.slice (some ⟨K.rb, 0, none⟩) N capv) qs (ls.set k tp)) := HR1.out.go (Below.refl _ _).drew
  have HT2 : Hid (RTurn K qs qs w x1.drew) := HT1.out.trans (RTurn.of_below (Below.refl _ _).drew)
  generalize x1.drew = y0 at *
  refine take_held 0 hS0 rfl (by kernel_rfl) (by kernel_rfl) (by kernel_rfl) (fun _ _ _ h => h) (by kernel_rfl) (v := ?v5012) ?y5012 ?r5012
  case y5012 => (intro u hu; go_simp; try rfl)
  simp only [Act.put, List.setIfInBounds_toArray, List.set_cons_zero, List.set_cons_succ]
  refine take_held 1 hS0 rfl (by kernel_rfl) (by kernel_rfl) (by kernel_rfl) (fun _ _ _ h => h) (by kernel_rfl) (v := ?v5013) ?y5013 ?r5013
  case y5013 => (intro u hu; go_simp; try rfl)
  simp only [Act.put, List.setIfInBounds_toArray, List.set_cons_zero, List.set_cons_succ]
  refine take_held 2 hS0 rfl (by kernel_rfl) (by kernel_rfl) (by kernel_rfl) (fun _ _ _ h => h) (by kernel_rfl) (v := ?v5014) ?y5014 ?r5014
  case y5014 => (intro u hu; go_simp; try rfl)
  simp only [Act.put, List.setIfInBounds_toArray, List.set_cons_zero, List.set_cons_succ]
  refine take_held 3 hS0 rfl (by kernel_rfl) (by kernel_rfl) (by kernel_rfl) (fun _ _ _ h => h) (by kernel_rfl) (v := ?v5015) ?y5015 ?r5015
  case y5015 => (intro u hu; have zz0 := (fun (u : World) (hu : LfS K (.slice (some ⟨K.rb, 0, none⟩) N capv) M ad n tp u) => hu.c16) u hu; go_simp; try rfl)
  simp only [Act.put, List.setIfInBounds_toArray, List.set_cons_zero, List.set_cons_succ]
  refine take_held 4 hS0 rfl (by kernel_rfl) (by kernel_rfl) (by kernel_rfl) (fun _ _ _ h => h) (by kernel_rfl) (v := ?v5016) ?y5016 ?r5016
  case y5016 => (intro u hu; go_simp; try rfl)
  simp only [Act.put, List.setIfInBounds_toArray, List.set_cons_zero, List.set_cons_succ]
  refine take_held 5 hS0 rfl (by kernel_rfl) (by kernel_rfl) (by kernel_rfl) (fun _ _ _ h => h) (by kernel_rfl) (v := ?v5017) ?y5017 ?r5017
  case y5017 => (intro u hu; go_simp; try rfl)
  simp only [Act.put, List.setIfInBounds_toArray, List.set_cons_zero, List.set_cons_succ]
  refine take_held 6 hS0 rfl (by kernel_rfl) (by kernel_rfl) (by kernel_rfl) (fun _ _ _ h => h) (by kernel_rfl) (v := ?v5018) ?y5018 ?r5018
  case y5018 => (intro u hu; go_simp; try rfl)
  simp only [Act.put, List.setIfInBounds_toArray, List.set_cons_zero, List.set_cons_succ]
  refine take_held 7 hS0 rfl (by kernel_rfl) (by kernel_rfl) (by kernel_rfl) (fun _ _ _ h => h) (by kernel_rfl) (v := ?v5019) ?y5019 ?r5019
  case y5019 => (intro u hu; go_simp; try rfl)
  simp only [Act.put, List.setIfInBounds_toArray, List.set_cons_zero, List.set_cons_succ]
  refine take_held 8 hS0 rfl (by kernel_rfl) (by kernel_rfl) (by kernel_rfl) (fun _ _ _ h => h) (by kernel_rfl) (v := .int .i64 (n : Int)) ?y5020 ?r5020
  case y5020 => (intro u hu; have hw : IntKind.i64.wrap (n : Int) = (n : Int) := (by rw [IntKind.wrap_i64]; omega); go_simp; try first | rfl | exact hw)
  simp only [Act.put, List.setIfInBounds_toArray, List.set_cons_zero, List.set_cons_succ]
  refine take_held 9 hS0 rfl (by kernel_rfl) (by kernel_rfl) (by kernel_rfl) (fun _ _ _ h => h) (by kernel_rfl) (v := ?v5021) ?y5021 ?r5021
  case y5021 => (intro u hu; go_simp; try rfl)
  simp only [Act.put, List.setIfInBounds_toArray, List.set_cons_zero, List.set_cons_succ]
  refine take_held 10 hS0 rfl (by kernel_rfl) (by kernel_rfl) (by kernel_rfl) (fun _ _ _ h => h) (by kernel_rfl) (v := ?v5022) ?y5022 ?r5022
  case y5022 => (intro u hu; go_simp; try rfl)
  simp only [Act.put, List.setIfInBounds_toArray, List.set_cons_zero, List.set_cons_succ]
  refine take_held 11 hS0 rfl (by kernel_rfl) (by kernel_rfl) (by kernel_rfl) (fun _ _ _ h => h) (by kernel_rfl) (v := .int .i64 (n : Int)) ?y5023 ?r5023
  case y5023 => (intro u hu; have hw : IntKind.i64.wrap (n : Int) = (n : Int) := (by rw [IntKind.wrap_i64]; omega); go_simp; try first | rfl | exact hw)
  simp only [Act.put, List.setIfInBounds_toArray, List.set_cons_zero, List.set_cons_succ]
  refine take_held 12 hS0 rfl (by kernel_rfl) (by kernel_rfl) (by kernel_rfl) (fun _ _ _ h => h) (by kernel_rfl) (v := .slice (some ad) n n) ?y5024 ?r5024
  case y5024 => (intro u hu; have hq : n ≤ cap := (by omega); go_simp; try rfl)
  simp only [Act.put, List.setIfInBounds_toArray, List.set_cons_zero, List.set_cons_succ]
  refine take_held 13 hS0 rfl (by kernel_rfl) (by kernel_rfl) (by kernel_rfl) (fun _ _ _ h => h) (by kernel_rfl) (v := ?v5025) ?y5025 ?r5025
  case y5025 => (intro u hu; go_simp; try rfl)
  simp only [Act.put, List.setIfInBounds_toArray, List.set_cons_zero, List.set_cons_succ]
  refine take_held 14 hS0 rfl (by kernel_rfl) (by kernel_rfl) (by kernel_rfl) (fun _ _ _ h => h) (by kernel_rfl) (v := ?v5026) ?y5026 ?r5026
  case y5026 => (intro u hu; go_simp; try rfl)
  simp only [Act.put, List.setIfInBounds_toArray, List.set_cons_zero, List.set_cons_succ]
  refine wpAnyH_ready (rs := [15]) (by kernel_rfl) (by simp) (AllReadyH.cons ((nth_eq _ 15).trans rfl) ?_ AllReadyH.nil)
  intro K30 hK30
  obtain ⟨x30, hx30⟩ : ∃ zw, zw = y0.setCell ⟨K.rb, i * 3 + 2, none⟩ (.slice (some ad) n n) := ⟨_, rfl⟩
  have hS30 := (show LfS K (.slice (some ⟨K.rb, 0, none⟩) N capv) M ad n tp x30 by rw [hx30]; exact hS0.set_ _ _ _ HNE.out.2.1.symm HNE.out.2.2.1)
  refine skip_in hK30 (by kernel_rfl) x30 (by rw [hx30]; have zc := HR2.out.pv HI.out; have zf : y0.frozen? ⟨K.rb, i * 3 + 2, none⟩ = false := HR2.out.froz HI.out; go_simp; try rfl) hS30 ?_
  simp only [Act.put, List.setIfInBounds_toArray, List.set_cons_zero, List.set_cons_succ]
  refine done_held (by kernel_rfl) ?_ _
  have HR3 : Hid (RsAt x30 K cs (.slice (some ⟨K.rb, 0, none⟩) N capv) (qs.set i (p.1, .slice (some ad) n n, p.2.2.dropLast)) (ls.set k tp)) := by rw [hx30]; exact HPut.out _ _ HR2.out
  have HT3 : Hid (RTurn K qs (qs.set i (p.1, .slice (some ad) n n, p.2.2.dropLast)) w x30) := by rw [hx30]; exact HT2.out.rb_ i _ _ _ HXB.out
  have k17 : x30.cell? ⟨K.s, 17, none⟩ = some (.slice (some ⟨K.lb, 0, none⟩) M M) := by have q := HR3.out.c17; rw [List.length_set, HML.out] at q; exact q
  have klb : x30.cell? ⟨K.lb, k, none⟩ = some (.int .i64 tp) := by
    have q := HR3.out.lc (r := k) (by rw [List.length_set]; exact HKX.out)
    rw [List.getD_eq_getElem?_getD, List.getElem?_set_self HKX.out] at q
    exact q
  clear hS30 hx30
  go_wp2_with fail
  exact bodyPost_ret (v := .tuple #[.int .i64 tp, .int .i64 0]) (by simp [results, Try.results14, go_sem]) rfl ⟨_, rfl, HR3.out, HT3.out⟩
end Go.Proofs.Ytabbdclpjghdbaa.Stk
