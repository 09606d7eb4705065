/-
  The chapter's Drop.
-/
import Derived.Test.YtabbdclpjghdbaaStkRs4
namespace Go.Proofs.Ytabbdclpjghdbaa.Stk
set_option linter.unusedVariables false
set_option linter.unusedSimpArgs false
open Go Go.RowKit Go.Shelf Go.Proofs Go.Proofs.Ytabbdclpjghdbaa.Grid
attribute [local go_sem] Oper.semAt_some

set_option maxRecDepth 100000 in
set_option maxHeartbeats 2000000 in
theorem rdrop_arg {K : Rk} {cs : Array Value} {vc : Value} {qs : List Pile} {ls : List Int} {w : World} (h : RsAt w K cs vc qs ls) (r x y : Int) (hb : thereB ls r = false ∨ No qs (x, y)) : Calls Try.prog 16 #[.pointer (some ⟨K.s, 0, none⟩), .int .i64 r, .agg #[.int .i64 x, .int .i64 y]] w fun e w' => e = .returned (.int .i64 1) ∧ Below w.heap.size w w' := by
  obtain ⟨w0, hw0⟩ : ∃ w0, w0 = w.alloc (.cells #[.int .i64 x, .int .i64 y] 39) := ⟨_, rfl⟩
  have b0 : Below w.heap.size w w0 := by rw [hw0]; exact below_new (Below.refl _ _) _
  have eB : w0.heap[w.heap.size]? = some (.cells #[.int .i64 x, .int .i64 y] 39 (0, 0)) := by rw [hw0]; exact heap_alloc_new w _
  obtain ⟨Z, cP, hZ, hZn⟩ := plZ h x y
  have z16 := fun u (b : Below w.heap.size w u) => (h.go b).c16
  have z17 := fun u (b : Below w.heap.size w u) => (h.go b).c17
  have hm := h.few
  have HW0 : Hid (w0 = w.alloc (.cells #[.int .i64 x, .int .i64 y] 39)) := hw0
  have hZ2 : thereB ls r = true → Z = -1 := fun ht => hZn (hb.resolve_left (by rw [ht]; simp))
  have ht : thereB ls r = (decide (0 ≤ r) && decide (r < ls.length)) := rfl
  generalize ls.length = M at *
  clear h hb hZn hw0
  by_cases h0 : r < 0
  · clear ht hZ2
    go_enter Try.func16, Try.ntmps16
    go_wp2_with (first
      | (have X' := HW0; refine boxAt rfl 39 (.tmp 2) rfl #[.int .i64 x, .int .i64 y] rfl ?_; rw [← HW0.out]; clear HW0)
      | (refine wpList_load_row rfl 39 (.tmp 5) rfl w.heap.size rfl 39 #[.int .i64 x, .int .i64 y] (0, 0) _ eB Try.underlying39 rfl infoCell2 ?_)
      | (go_at_call 44; refine (cP _ b0).mono ?_; rintro e w1 ⟨r1, rfl, rfl, b1⟩; have B1 := bcat b0 b1 (Nat.le_refl _); have k16 := z16 _ B1; have k17 := z17 _ B1))
    go_ret
    exact ⟨rfl, B1⟩
  · by_cases h1 : r < (M : Int)
    · have h2 : Z = -1 := hZ2 (by rw [ht]; simp; omega)
      have h3 : ¬ ((M : Int) ≤ r) := by omega
      subst h2
      clear ht hZ2
      go_enter Try.func16, Try.ntmps16
      go_wp2_with (first
        | (have X' := HW0; refine boxAt rfl 39 (.tmp 2) rfl #[.int .i64 x, .int .i64 y] rfl ?_; rw [← HW0.out]; clear HW0)
        | (refine wpList_load_row rfl 39 (.tmp 5) rfl w.heap.size rfl 39 #[.int .i64 x, .int .i64 y] (0, 0) _ eB Try.underlying39 rfl infoCell2 ?_)
        | (go_at_call 44; refine (cP _ b0).mono ?_; rintro e w1 ⟨r1, rfl, rfl, b1⟩; have B1 := bcat b0 b1 (Nat.le_refl _); have k16 := z16 _ B1; have k17 := z17 _ B1))
      go_ret
      exact ⟨rfl, B1⟩
    · have h3 : (M : Int) ≤ r := by omega
      clear ht hZ2
      go_enter Try.func16, Try.ntmps16
      go_wp2_with (first
        | (have X' := HW0; refine boxAt rfl 39 (.tmp 2) rfl #[.int .i64 x, .int .i64 y] rfl ?_; rw [← HW0.out]; clear HW0)
        | (refine wpList_load_row rfl 39 (.tmp 5) rfl w.heap.size rfl 39 #[.int .i64 x, .int .i64 y] (0, 0) _ eB Try.underlying39 rfl infoCell2 ?_)
        | (go_at_call 44; refine (cP _ b0).mono ?_; rintro e w1 ⟨r1, rfl, rfl, b1⟩; have B1 := bcat b0 b1 (Nat.le_refl _); have k16 := z16 _ B1; have k17 := z17 _ B1))
      go_ret
      exact ⟨rfl, B1⟩
set_option maxRecDepth 100000 in
set_option maxHeartbeats 2000000 in
theorem rdrop_state {K : Rk} {cs : Array Value} {vc : Value} {qs : List Pile} {ls : List Int} {w : World} (h : RsAt w K cs vc qs ls) (r x y : Int) (ht : thereB ls r = true) {i : Nat} {p : Pile} (hi : Hs qs (x, y) i p) (hl : loadP ls r = 0) : Calls Try.prog 16 #[.pointer (some ⟨K.s, 0, none⟩), .int .i64 r, .agg #[.int .i64 x, .int .i64 y]] w fun e w' => e = .returned (.int .i64 8) ∧ Below w.heap.size w w' := by
  obtain ⟨w0, hw0⟩ : ∃ w0, w0 = w.alloc (.cells #[.int .i64 x, .int .i64 y] 39) := ⟨_, rfl⟩
  have b0 : Below w.heap.size w w0 := by rw [hw0]; exact below_new (Below.refl _ _) _
  have eB : w0.heap[w.heap.size]? = some (.cells #[.int .i64 x, .int .i64 y] 39 (0, 0)) := by rw [hw0]; exact heap_alloc_new w _
  have cP := fun u (b : Below w.heap.size w u) => place_yes (h.go b) x y hi.1 hi.2.1 hi.2.2
  have z16 := fun u (b : Below w.heap.size w u) => (h.go b).c16
  have z17 := fun u (b : Below w.heap.size w u) => (h.go b).c17
  have zv := fun u (b : Below w.heap.size w u) => (h.go b).pv hi.1
  obtain ⟨k, rfl, hk, hlk⟩ := loadP_bad ht
  have zl := fun u (b : Below w.heap.size w u) => (h.go b).lc hk
  rw [hlk] at hl
  have hm := h.few
  have hmq := h.many
  have HW0 : Hid (w0 = w.alloc (.cells #[.int .i64 x, .int .i64 y] 39)) := hw0
  obtain ⟨av, capv, hvc, hav⟩ := h.form
  have hlt := (List.getElem?_eq_some_iff.1 hi.1).1
  obtain rfl := hav i hlt
  subst hvc
  rw [hl] at zl
  generalize hlv : ls.getD k 0 = lv at *
  clear hlv
  generalize ls.length = M at *
  generalize qs.length = N at *
  have h3 : ¬ ((M : Int) ≤ (k : Int)) := by omega
  clear h hi hav hw0 ht hlk
  go_enter Try.func16, Try.ntmps16
  go_wp2_with (first
    | (have X' := HW0; refine boxAt rfl 39 (.tmp 2) rfl #[.int .i64 x, .int .i64 y] rfl ?_; rw [← HW0.out]; clear HW0)
    | (refine wpList_load_row rfl 39 (.tmp 5) rfl w.heap.size rfl 39 #[.int .i64 x, .int .i64 y] (0, 0) _ eB Try.underlying39 rfl infoCell2 ?_)
    | (go_at_call 44; refine (cP _ b0).mono ?_; rintro e w1 ⟨r1, rfl, rfl, b1⟩; have B1 := bcat b0 b1 (Nat.le_refl _); have k16 := z16 _ B1; have k17 := z17 _ B1; have yv := zv _ B1; have yl := zl _ B1))
  go_ret
  exact ⟨rfl, B1⟩
set_option maxRecDepth 100000 in
set_option maxHeartbeats 2000000 in
theorem rdrop_full {K : Rk} {cs : Array Value} {vc : Value} {qs : List Pile} {ls : List Int} {w : World} (h : RsAt w K cs vc qs ls) (r x y : Int) {RM : Int} (cR : ∀ u, Below w.heap.size w u → Calls Try.prog 46 #[.pointer (some ⟨K.s, 0, none⟩), .agg #[.int .i64 x, .int .i64 y]] u fun e w' => ∃ v, e = .returned v ∧ v = .int .i64 RM ∧ Below u.heap.size u w') (ht : thereB ls r = true) {i : Nat} {p : Pile} (hi : Hs qs (x, y) i p) (hl : loadP ls r ≠ 0) (hf : RM ≤ p.2.2.length) : Calls Try.prog 16 #[.pointer (some ⟨K.s, 0, none⟩), .int .i64 r, .agg #[.int .i64 x, .int .i64 y]] w fun e w' => e = .returned (.int .i64 2) ∧ Below w.heap.size w w' := by
  obtain ⟨w0, hw0⟩ : ∃ w0, w0 = w.alloc (.cells #[.int .i64 x, .int .i64 y] 39) := ⟨_, rfl⟩
  have b0 : Below w.heap.size w w0 := by rw [hw0]; exact below_new (Below.refl _ _) _
  have eB : w0.heap[w.heap.size]? = some (.cells #[.int .i64 x, .int .i64 y] 39 (0, 0)) := by rw [hw0]; exact heap_alloc_new w _
  have cP := fun u (b : Below w.heap.size w u) => place_yes (h.go b) x y hi.1 hi.2.1 hi.2.2
  have z16 := fun u (b : Below w.heap.size w u) => (h.go b).c16
  have z17 := fun u (b : Below w.heap.size w u) => (h.go b).c17
  have zv := fun u (b : Below w.heap.size w u) => (h.go b).pv hi.1
  obtain ⟨k, rfl, hk, hlk⟩ := loadP_bad ht
  have zl := fun u (b : Below w.heap.size w u) => (h.go b).lc hk
  rw [hlk] at hl
  have hl2 : (ls.getD k 0 == 0) = false := by rw [beq_eq_false_iff_ne]; exact hl
  have hm := h.few
  have hmq := h.many
  have HW0 : Hid (w0 = w.alloc (.cells #[.int .i64 x, .int .i64 y] 39)) := hw0
  obtain ⟨av, capv, hvc, hav⟩ := h.form
  have hlt := (List.getElem?_eq_some_iff.1 hi.1).1
  obtain rfl := hav i hlt
  subst hvc
  obtain ⟨a, cap, ev⟩ := (h.pl i p hi.1).sl
  rw [ev] at zv
  clear ev
  generalize p.2.2.length = n at *
  generalize ls.getD k 0 = lv at *
  generalize ls.length = M at *
  generalize qs.length = N at *
  have h3 : ¬ ((M : Int) ≤ (k : Int)) := by omega
  clear h hi hav hw0 ht hlk hl
  go_enter Try.func16, Try.ntmps16
  go_wp2_with (first
    | (have X' := HW0; refine boxAt rfl 39 (.tmp 2) rfl #[.int .i64 x, .int .i64 y] rfl ?_; rw [← HW0.out]; clear HW0)
    | (have X2 := HE1; refine wpList_load_row rfl 39 (.tmp 5) rfl w.heap.size rfl 39 #[.int .i64 x, .int .i64 y] (0, 0) _ HE1.out Try.underlying39 rfl infoCell2 ?_)
    | (refine wpList_load_row rfl 39 (.tmp 5) rfl w.heap.size rfl 39 #[.int .i64 x, .int .i64 y] (0, 0) _ eB Try.underlying39 rfl infoCell2 ?_)
    | (go_at_call 44; refine (cP _ b0).mono ?_; rintro e w1 ⟨r1, rfl, rfl, b1⟩; have B1 := bcat b0 b1 (Nat.le_refl _); have k16 := z16 _ B1; have k17 := z17 _ B1; have yv := zv _ B1; have yl := zl _ B1; have HE1 : Hid (w1.heap[w.heap.size]? = _) := (b1.block _ (lt_of_heap eB)).trans eB)
    | (go_at_call 46; refine (cR _ B1).mono ?_; rintro e w2 ⟨r2, rfl, rfl, b2⟩; have B2 := bcat B1 b2 (Nat.le_refl _)))
  go_ret
  exact ⟨rfl, B2⟩
theorem hfit8 : ∀ n, n < 8 → Builtin.nextslicecap (n + 1) n * 8 ≤ 281474976710656 := by decide
theorem cell_new {u : World} {m : Nat} {xs : List Value} {Z : Array Value} {t : TypeId} (hu : u.heap[m]? = some (.cells (xs.toArray ++ Z) t (0, 0))) {j : Nat} (hj : j < xs.length) : u.cell? ((⟨m, 0, none⟩ : Addr).add j) = some (xs[j]'hj) := by
  have e : (⟨m, 0, none⟩ : Addr).add j = ⟨m, j, none⟩ := by unfold Addr.add; split <;> simp_all
  rw [e, cell_of hu, Array.getElem?_append_left (by simpa using hj), List.getElem?_toArray, List.getElem?_eq_getElem hj]
/- A bin put on a pile whose capacity is its length: a new row. -/
theorem app_full {w : World} {K : Rk} {q : Pile} (h : PlAt w K q) {a : Option Addr} {n cap : Nat} (hv : q.2.1 = .slice a n cap) (h8 : n < 8) {g : Nat} {lv : Int} (hz : w.cell? ⟨g, 0, none⟩ = some (.int .i64 lv)) (hs : K.s < w.heap.size) (hr : K.rb < w.heap.size) (hl : K.lb < w.heap.size) (hB : K.B ≤ w.heap.size) (ty : TypeId) :
    ∃ v' w', (Builtin.append_ #[48, 48] ty #[.slice a n n, .slice (some ⟨g, 0, none⟩) 1 1]).run Try.prog w = .ok v' w' ∧ Below w.heap.size w w' ∧ PlAt w' K (q.1, v', q.2.2 ++ [lv]) ∧ (∀ a n c, v' = .slice (some a) n c → w.heap.size ≤ a.block) ∧ ∃ gg c, v' = .slice (some gg) (n + 1) c := by
  obtain ⟨i, z, hi, hz0, hs1, hby, _⟩ := kindInt.info
  obtain ⟨a0, cap0, h1, h2, h3, h4, h5, h6⟩ := h
  rw [hv] at h1
  injection h1 with e1 e2 e3
  have hnew : ∀ (j : Nat) (v : Value), [Value.int .i64 lv][j]? = some v → w.cell? ((⟨g, 0, none⟩ : Addr).add j) = some v := fun j v hj => by
    match j with
    | 0 =>
      have e : (⟨g, 0, none⟩ : Addr).add 0 = ⟨g, 0, none⟩ := by unfold Addr.add; split <;> simp_all
      rw [e, hz]
      simpa using hj
    | j + 1 => simp at hj
  have fin : ∀ (Z : Array Value) (c : Nat), n + 1 ≤ c → c ≤ maxLen → PlAt (w.drew.alloc (.cells (((q.2.2 ++ [lv]).map (Value.int .i64)).toArray ++ Z) 3)) K (q.1, .slice (some ⟨w.heap.size, 0, none⟩) (n + 1) c, q.2.2 ++ [lv]) := fun Z c c1 c2 => by
    have hlen : (q.2.2 ++ [lv]).length = n + 1 := by rw [List.length_append, ← e2]; rfl
    refine ⟨some ⟨w.heap.size, 0, none⟩, c, ?_, (fun e => by cases e), ?_, c2, (fun x hx => by cases hx; exact ⟨hB, by show w.heap.size ≠ K.s; omega, by show w.heap.size ≠ K.rb; omega, by show w.heap.size ≠ K.lb; omega, by show w.heap.size < _; simp⟩), fun j hj => ?_⟩
    · show Value.slice _ (n + 1) c = .slice _ (q.2.2 ++ [lv]).length c
      rw [hlen]
    · show (q.2.2 ++ [lv]).length ≤ c
      rw [hlen]; exact c1
    · refine ⟨_, rfl, ?_⟩
      have hj2 : j < (q.2.2 ++ [lv]).length := hj
      have hc := cell_new (u := w.drew.alloc (.cells (((q.2.2 ++ [lv]).map (Value.int .i64)).toArray ++ Z) 3)) (m := w.heap.size) (xs := (q.2.2 ++ [lv]).map (Value.int .i64)) (Z := Z) (t := 3) (World.alloc_heap_new _ _) (j := j) (by rw [List.length_map]; exact hj2)
      rw [hc, List.getElem_map]
  have bel : ∀ o, Below w.heap.size w (w.drew.alloc o) := fun o => (Below.refl _ _).drew.alloc (Nat.le_refl _) _
  cases a with
  | none =>
    have h2' := h2 e1.symm
    have hb : q.2.2 = [] := List.eq_nil_of_length_eq_zero h2'.1
    obtain rfl : n = 0 := by omega
    have hrun := run_append_nil (P := Try.prog) (w := w) 48 ty 3 i z kindInt.ty hi hz0 ⟨g, 0, none⟩ 1 1 [.int .i64 lv] (by rw [hs1]; rfl) hnew (by omega) (by omega) (by rw [hby]; omega)
    refine ⟨_, _, hrun, bel _, ?_, (fun a n c e => by injection e with e1 _ _; cases e1; exact Nat.le_refl _), _, _, rfl⟩
    have f := fin (Builtin.zeroCells z.cells (grownCap w 1 0 3 - 1)) (grownCap w 1 0 3) (grownCap_ge _ _ _ _) (grownCap_le_maxLen _ _ _ _ (by unfold maxLen; omega))
    rw [hb] at f ⊢
    exact f
  | some ad =>
    have hrun := run_append_grow (P := Try.prog) (w := w) 48 ty 3 i z kindInt.ty hi hz0 ad n n (q.2.2.map (Value.int .i64)) (by rw [List.length_map, hs1, ← e2]; omega) (fun j v hj => by
      obtain ⟨hj1, hj2⟩ := List.getElem?_eq_some_iff.1 hj
      rw [List.length_map] at hj1
      obtain ⟨x, hx, hc⟩ := h6 j hj1
      rw [← e1] at hx
      cases hx
      rw [hc, ← hj2, List.getElem_map]) ⟨g, 0, none⟩ 1 1 [.int .i64 lv] (by rw [hs1]; rfl) hnew (by omega) (by omega) (by rw [hby]; exact hfit8 n h8)
    refine ⟨_, _, hrun, bel _, ?_, (fun a n c e => by injection e with e1 _ _; cases e1; exact Nat.le_refl _), _, _, rfl⟩
    have f := fin (Builtin.zeroCells z.cells (grownCap w (n + 1) n 3 - (n + 1))) (grownCap w (n + 1) n 3) (grownCap_ge _ _ _ _) (grownCap_le_maxLen _ _ _ _ (by unfold maxLen; omega))
    have e4 : ((q.2.2.map (Value.int .i64)).toArray ++ [Value.int .i64 lv].toArray) = ((q.2.2 ++ [lv]).map (Value.int .i64)).toArray := by simp
    rw [e4]
    exact f
/- What stays as it is under a drop. -/
structure DfS (K : Rk) (vc : Value) (m k : Nat) (lv : Int) (u : World) : Prop where
  c16 : u.cell? ⟨K.s, 16, none⟩ = some vc
  c17 : u.cell? ⟨K.s, 17, none⟩ = some (.slice (some ⟨K.lb, 0, none⟩) m m)
  lbc : u.cell? ⟨K.lb, k, none⟩ = some (.int .i64 lv)
theorem DfS.of {K : Rk} {cs : Array Value} {vc : Value} {qs : List Pile} {ls : List Int} {u : World} (h : RsAt u K cs vc qs ls) {k : Nat} (hk : k < ls.length) {lv : Int} (hl : ls.getD k 0 = lv) {m : Nat} (hm : ls.length = m) : DfS K vc m k lv u := ⟨h.c16, by rw [h.c17, hm], by rw [h.lc hk, hl]⟩
theorem PlAt.slc {w : World} {K : Rk} {q : Pile} (h : PlAt w K q) : ∃ a cap, q.2.1 = .slice a q.2.2.length cap ∧ (a = none → q.2.2.length = 0 ∧ cap = 0) ∧ q.2.2.length ≤ cap := by
  obtain ⟨a, cap, e, e2, e3, _⟩ := h
  exact ⟨a, cap, e, e2, e3⟩
theorem RsAt.dfs {K : Rk} {cs : Array Value} {vc : Value} {qs : List Pile} {ls : List Int} {u : World} (h : RsAt u K cs vc qs ls) {k : Nat} (hk : k < ls.length) {lv : Int} (hl : ls.getD k 0 = lv) {m : Nat} (hm : ls.length = m) : DfS K vc m k lv u := DfS.of h hk hl hm
set_option maxRecDepth 100000 in
set_option maxHeartbeats 8000000 in
theorem rdrop_ok {K : Rk} {cs : Array Value} {vc : Value} {qs : List Pile} {ls : List Int} {w : World} (h : RsAt w K cs vc qs ls) (r x y : Int) {RM : Int} (cR : ∀ u, Below w.heap.size w u → Calls Try.prog 46 #[.pointer (some ⟨K.s, 0, none⟩), .agg #[.int .i64 x, .int .i64 y]] u fun e w' => ∃ v, e = .returned v ∧ v = .int .i64 RM ∧ Below u.heap.size u w') (hr8 : RM ≤ 8) (ht : thereB ls r = true) {i : Nat} {p : Pile} (hi : Hs qs (x, y) i p) (hl : loadP ls r ≠ 0) (hf : (p.2.2.length : Int) < RM) : Calls Try.prog 16 #[.pointer (some ⟨K.s, 0, none⟩), .int .i64 r, .agg #[.int .i64 x, .int .i64 y]] w fun e w' => ∃ v', e = .returned (.int .i64 0) ∧ RsAt w' K cs vc (qs.set i (p.1, v', p.2.2 ++ [loadP ls r])) (ls.set r.toNat 0) ∧ RTurn K qs (qs.set i (p.1, v', p.2.2 ++ [loadP ls r])) w w' := by
  obtain ⟨w0, hw0⟩ : ∃ w0, w0 = w.alloc (.cells #[.int .i64 x, .int .i64 y] 39) := ⟨_, rfl⟩
  have b0 : Below w.heap.size w w0 := by rw [hw0]; exact below_new (Below.refl _ _) _
  have eB : w0.heap[w.heap.size]? = some (.cells #[.int .i64 x, .int .i64 y] 39 (0, 0)) := by rw [hw0]; exact heap_alloc_new w _
  have cP := fun u (b : Below w.heap.size w u) => place_yes (h.go b) x y hi.1 hi.2.1 hi.2.2
  have z16 := fun u (b : Below w.heap.size w u) => (h.go b).c16
  have z17 := fun u (b : Below w.heap.size w u) => (h.go b).c17
  have zv := fun u (b : Below w.heap.size w u) => (h.go b).pv hi.1
  obtain ⟨k, rfl, hk, hlk⟩ := loadP_bad ht
  have zl := fun u (b : Below w.heap.size w u) => (h.go b).lc hk
  rw [hlk] at hl ⊢
  have hl2 : (ls.getD k 0 == 0) = false := by rw [beq_eq_false_iff_ne]; exact hl
  have hm := h.few
  have hmq := h.many
  have HW0 : Hid (w0 = w.alloc (.cells #[.int .i64 x, .int .i64 y] 39)) := hw0
  have HI : Hid (qs[i]? = some p) := hi.1
  obtain ⟨av, capv, hvc, hav⟩ := h.form
  have hlt := (List.getElem?_eq_some_iff.1 hi.1).1
  obtain rfl := hav i hlt
  subst hvc
  have HRR : Hid (∀ u, Below w.heap.size w u → RsAt u K cs (.slice (some ⟨K.rb, 0, none⟩) qs.length capv) qs ls) := fun u b => h.go b
  have h7 : p.2.2.length < 8 := by omega
  have HL8 : Hid ((p.2.2 ++ [ls.getD k 0]).length ≤ 8) := by show (p.2.2 ++ [ls.getD k 0]).length ≤ 8; rw [List.length_append]; show p.2.2.length + 1 ≤ 8; omega
  obtain ⟨a, cap, ev, hnone, hcap⟩ := (h.pl i p hi.1).slc
  rw [ev] at zv
  have HEV : Hid (p.2.1 = .slice a p.2.2.length cap) := ev
  simp only [Int.toNat_natCast]
  generalize p.2.2.length = n at *
  generalize hLV : ls.getD k 0 = lv at *
  have HLV : Hid (ls.getD k 0 = lv) := hLV
  generalize hML : ls.length = M at *
  have HML : Hid (ls.length = M) := hML
  have HKX : Hid (k < ls.length) := by show k < ls.length; rw [hML]; exact hk
  generalize qs.length = N at *
  have h3 : ¬ ((M : Int) ≤ (k : Int)) := by omega
  clear h hi hav hw0 ht hlk hl ev hML hLV
  cases a with
  | none =>
    obtain ⟨rfl, rfl⟩ := hnone rfl
    clear hnone
    go_enter Try.func16, Try.ntmps16
    go_upto_region 9 with (first
      | (have X' := HW0; refine boxAt rfl 39 (.tmp 2) rfl #[.int .i64 x, .int .i64 y] rfl ?_; rw [← HW0.out]; clear HW0)
      | (have X2 := HE1; refine wpList_load_row rfl 39 (.tmp 5) rfl w.heap.size rfl 39 #[.int .i64 x, .int .i64 y] (0, 0) _ HE1.out Try.underlying39 rfl infoCell2 ?_)
      | (refine wpList_load_row rfl 39 (.tmp 5) rfl w.heap.size rfl 39 #[.int .i64 x, .int .i64 y] (0, 0) _ eB Try.underlying39 rfl infoCell2 ?_)
      | (go_at_call 44; refine (cP _ b0).mono ?_; rintro e w1 ⟨r1, rfl, rfl, b1⟩; have B1 := bcat b0 b1 (Nat.le_refl _); have k16 := z16 _ B1; have k17 := z17 _ B1; have yv := zv _ B1; have yl := zl _ B1; have HE1 : Hid (w1.heap[w.heap.size]? = _) := (b1.block _ (lt_of_heap eB)).trans eB)
      | (go_at_call 46; refine (cR _ B1).mono ?_; rintro e w2 ⟨r2, rfl, rfl, b2⟩; have B2 := bcat B1 b2 (Nat.le_refl _)))
    have HR : Hid (RsAt w2 K cs (.slice (some ⟨K.rb, 0, none⟩) N capv) qs ls) := HRR.out _ B2
    have HB2 : Hid (Below w.heap.size w w2) := B2
    clear k16 k17 yv yl z16 z17 zv zl cP cR B2 b2 B1 b1
    refine start_held (S := DfS K (.slice (some ⟨K.rb, 0, none⟩) N capv) M k lv) 23 rfl (by kernel_rfl) ((DfS.of (HR.out.go (Below.refl _ _).drew) HKX.out HLV.out HML.out)) ?_
    simp only [Array.replicate_succ, Array.replicate_zero, List.push_toArray, List.nil_append, List.cons_append]
    have HR0 : Hid (RsAt w2.drew K cs (.slice (some ⟨K.rb, 0, none⟩) N capv) qs ls) := HR.out.go (Below.refl _ _).drew
    have HT0 : Hid (RTurn K qs qs w w2.drew) := (RTurn.of_below HB2.out).trans (RTurn.of_below (Below.refl _ _).drew)
    have hS0 : DfS K (.slice (some ⟨K.rb, 0, none⟩) N capv) M k lv w2.drew := (DfS.of HR0.out HKX.out HLV.out HML.out)
    generalize w2.drew = x0 at *
    refine take_held 0 hS0 rfl (by kernel_rfl) (by kernel_rfl) (by kernel_rfl) (fun _ _ _ h => h) (by kernel_rfl) (v := ?v5000) ?y5000 ?r5000
    case y5000 => (intro u hu; go_simp; try rfl)
    simp only [Act.put, List.setIfInBounds_toArray, List.set_cons_zero, List.set_cons_succ]
    refine take_held 1 hS0 rfl (by kernel_rfl) (by kernel_rfl) (by kernel_rfl) (fun _ _ _ h => h) (by kernel_rfl) (v := ?v5001) ?y5001 ?r5001
    case y5001 => (intro u hu; go_simp; try rfl)
    simp only [Act.put, List.setIfInBounds_toArray, List.set_cons_zero, List.set_cons_succ]
    refine take_held 2 hS0 rfl (by kernel_rfl) (by kernel_rfl) (by kernel_rfl) (fun _ _ _ h => h) (by kernel_rfl) (v := ?v5002) ?y5002 ?r5002
    case y5002 => (intro u hu; go_simp; try rfl)
    simp only [Act.put, List.setIfInBounds_toArray, List.set_cons_zero, List.set_cons_succ]
    refine take_held 3 hS0 rfl (by kernel_rfl) (by kernel_rfl) (by kernel_rfl) (fun _ _ _ h => h) (by kernel_rfl) (v := ?v5003) ?y5003 ?r5003
    case y5003 => (intro u hu; have zz0 := (fun (u : World) (hu : DfS K (.slice (some ⟨K.rb, 0, none⟩) N capv) M k lv u) => hu.c16) u hu; go_simp; try rfl)
    simp only [Act.put, List.setIfInBounds_toArray, List.set_cons_zero, List.set_cons_succ]
    refine take_held 4 hS0 rfl (by kernel_rfl) (by kernel_rfl) (by kernel_rfl) (fun _ _ _ h => h) (by kernel_rfl) (v := ?v5004) ?y5004 ?r5004
    case y5004 => (intro u hu; go_simp; try rfl)
    simp only [Act.put, List.setIfInBounds_toArray, List.set_cons_zero, List.set_cons_succ]
    refine take_held 5 hS0 rfl (by kernel_rfl) (by kernel_rfl) (by kernel_rfl) (fun _ _ _ h => h) (by kernel_rfl) (v := ?v5005) ?y5005 ?r5005
    case y5005 => (intro u hu; go_simp; try rfl)
    simp only [Act.put, List.setIfInBounds_toArray, List.set_cons_zero, List.set_cons_succ]
    refine take_held 6 hS0 rfl (by kernel_rfl) (by kernel_rfl) (by kernel_rfl) (fun _ _ _ h => h) (by kernel_rfl) (v := ?v5006) ?y5006 ?r5006
    case y5006 => (intro u hu; go_simp; try rfl)
    simp only [Act.put, List.setIfInBounds_toArray, List.set_cons_zero, List.set_cons_succ]
    refine take_held 7 hS0 rfl (by kernel_rfl) (by kernel_rfl) (by kernel_rfl) (fun _ _ _ h => h) (by kernel_rfl) (v := ?v5007) ?y5007 ?r5007
    case y5007 => (intro u hu; go_simp; try rfl)
    simp only [Act.put, List.setIfInBounds_toArray, List.set_cons_zero, List.set_cons_succ]
    refine take_held 8 hS0 rfl (by kernel_rfl) (by kernel_rfl) (by kernel_rfl) (fun _ _ _ h => h) (by kernel_rfl) (v := ?v5008) ?y5008 ?r5008
    case y5008 => (intro u hu; go_simp; try rfl)
    simp only [Act.put, List.setIfInBounds_toArray, List.set_cons_zero, List.set_cons_succ]
    refine take_held 9 hS0 rfl (by kernel_rfl) (by kernel_rfl) (by kernel_rfl) (fun _ _ _ h => h) (by kernel_rfl) (v := ?v5009) ?y5009 ?r5009
    case y5009 => (intro u hu; go_simp; try rfl)
    simp only [Act.put, List.setIfInBounds_toArray, List.set_cons_zero, List.set_cons_succ]
    refine take_held 10 hS0 rfl (by kernel_rfl) (by kernel_rfl) (by kernel_rfl) (fun _ _ _ h => h) (by kernel_rfl) (v := .slice none 0 0) ?y5010 ?r5010
    case y5010 => (intro u hu; go_simp; try rfl)
    simp only [Act.put, List.setIfInBounds_toArray, List.set_cons_zero, List.set_cons_succ]
    refine take_held 11 hS0 rfl (by kernel_rfl) (by kernel_rfl) (by kernel_rfl) (fun _ _ _ h => h) (by kernel_rfl) (v := ?v5011) ?y5011 ?r5011
    case y5011 => (intro u hu; go_simp; try rfl)
    simp only [Act.put, List.setIfInBounds_toArray, List.set_cons_zero, List.set_cons_succ]
    refine take_held 12 hS0 rfl (by kernel_rfl) (by kernel_rfl) (by kernel_rfl) (fun _ _ _ h => h) (by kernel_rfl) (v := ?v5012) ?y5012 ?r5012
    case y5012 => (intro u hu; go_simp; try rfl)
    simp only [Act.put, List.setIfInBounds_toArray, List.set_cons_zero, List.set_cons_succ]
    refine take_held 13 hS0 rfl (by kernel_rfl) (by kernel_rfl) (by kernel_rfl) (fun _ _ _ h => h) (by kernel_rfl) (v := ?v5013) ?y5013 ?r5013
    case y5013 => (intro u hu; go_simp; try rfl)
    simp only [Act.put, List.setIfInBounds_toArray, List.set_cons_zero, List.set_cons_succ]
    refine take_held 14 hS0 rfl (by kernel_rfl) (by kernel_rfl) (by kernel_rfl) (fun _ _ _ h => h) (by kernel_rfl) (v := ?v5014) ?y5014 ?r5014
    case y5014 => (intro u hu; have zz0 := (fun (u : World) (hu : DfS K (.slice (some ⟨K.rb, 0, none⟩) N capv) M k lv u) => hu.c17) u hu; go_simp; try rfl)
    simp only [Act.put, List.setIfInBounds_toArray, List.set_cons_zero, List.set_cons_succ]
    refine take_held 15 hS0 rfl (by kernel_rfl) (by kernel_rfl) (by kernel_rfl) (fun _ _ _ h => h) (by kernel_rfl) (v := ?v5015) ?y5015 ?r5015
    case y5015 => (intro u hu; go_simp; try rfl)
    simp only [Act.put, List.setIfInBounds_toArray, List.set_cons_zero, List.set_cons_succ]
    refine take_held 16 hS0 rfl (by kernel_rfl) (by kernel_rfl) (by kernel_rfl) (fun _ _ _ h => h) (by kernel_rfl) (v := ?v5016) ?y5016 ?r5016
    case y5016 => (intro u hu; go_simp; try rfl)
    simp only [Act.put, List.setIfInBounds_toArray, List.set_cons_zero, List.set_cons_succ]
    refine take_held 17 hS0 rfl (by kernel_rfl) (by kernel_rfl) (by kernel_rfl) (fun _ _ _ h => h) (by kernel_rfl) (v := ?v5017) ?y5017 ?r5017
    case y5017 => (intro u hu; have zz0 := (fun (u : World) (hu : DfS K (.slice (some ⟨K.rb, 0, none⟩) N capv) M k lv u) => hu.lbc) u hu; go_simp; try rfl)
    simp only [Act.put, List.setIfInBounds_toArray, List.set_cons_zero, List.set_cons_succ]
    refine wpAnyH_ready (rs := [18]) (by kernel_rfl) (by simp) (AllReadyH.cons ((nth_eq _ 18).trans rfl) ?_ AllReadyH.nil)
    intro K1 hK1
    obtain ⟨x1, hx1⟩ : ∃ zw, zw = x0.alloc (.cells #[.int .i64 lv] 3) := ⟨_, rfl⟩
    have hS1 := (DfS.of (HR0.out.go (show Below x0.heap.size x0 x1 by rw [hx1]; exact (Below.refl _ _).alloc (Nat.le_refl _) _)) HKX.out HLV.out HML.out)
    have bx1 : Below x0.heap.size x0 x1 := by rw [hx1]; exact (Below.refl _ _).alloc (Nat.le_refl _) _
    have hz1 : x1.cell? ⟨x0.heap.size, 0, none⟩ = some (.int .i64 lv) := by rw [hx1, cell_of (World.alloc_heap_new _ _)]; rfl
    have HR1 : Hid (RsAt x1 K cs (.slice (some ⟨K.rb, 0, none⟩) N capv) qs ls) := HR0.out.go bx1
    have HT1 : Hid (RTurn K qs qs w x1) := HT0.out.trans (RTurn.of_below bx1)
    refine value_in hK1 (by kernel_rfl) (.slice (some ⟨x0.heap.size, 0, none⟩) 1 1) x1 (by rw [hx1]; go_simp; try rfl) hS1 ?_
    simp only [Act.put, List.setIfInBounds_toArray, List.set_cons_zero, List.set_cons_succ]
    refine wpAnyH_ready (rs := [19]) (by kernel_rfl) (by simp) (AllReadyH.cons ((nth_eq _ 19).trans rfl) ?_ AllReadyH.nil)
    intro K2 hK2
    obtain ⟨v9, x2, hrun9, bb9, pl9, nw9, gg, c9, rfl⟩ := app_full (HR1.out.pl i p HI.out) HEV.out h7 hz1 HR1.out.slt HR1.out.lr HR1.out.llt (Nat.le_of_lt (Nat.lt_of_le_of_lt HR1.out.bs HR1.out.slt)) 48
    have HR2 : Hid (RsAt x2 K cs (.slice (some ⟨K.rb, 0, none⟩) N capv) qs ls) := HR1.out.go bb9
    have HT2 : Hid (RTurn K qs qs w x2) := HT1.out.trans (RTurn.of_below bb9)
    have HPL : Hid (PlAt x2 K (p.1, (Value.slice (some gg) (0 + 1) c9), p.2.2 ++ [lv])) := pl9
    have HNW : Hid (∀ a m c, (Value.slice (some gg) (0 + 1) c9) = .slice (some a) m c → w.heap.size ≤ a.block) := fun a n c e => Nat.le_trans HT1.out.size (nw9 a n c e)
    have hS2 : DfS K (.slice (some ⟨K.rb, 0, none⟩) N capv) M k lv x2 := (DfS.of HR2.out HKX.out HLV.out HML.out)
    refine value_in hK2 (by kernel_rfl) (Value.slice (some gg) (0 + 1) c9) x2 (run_append_op _ _ rfl _ _ _ rfl rfl hrun9) hS2 ?_
    clear pl9 nw9 hrun9 bb9
    simp only [Act.put, List.setIfInBounds_toArray, List.set_cons_zero, List.set_cons_succ]
    refine take_held 20 hS2 rfl (by kernel_rfl) (by kernel_rfl) (by kernel_rfl) (fun _ _ _ h => h) (by kernel_rfl) (v := ?v5018) ?y5018 ?r5018
    case y5018 => (intro u hu; go_simp; try rfl)
    simp only [Act.put, List.setIfInBounds_toArray, List.set_cons_zero, List.set_cons_succ]
    refine take_held 21 hS2 rfl (by kernel_rfl) (by kernel_rfl) (by kernel_rfl) (fun _ _ _ h => h) (by kernel_rfl) (v := ?v5019) ?y5019 ?r5019
    case y5019 => (intro u hu; go_simp; try rfl)
    simp only [Act.put, List.setIfInBounds_toArray, List.set_cons_zero, List.set_cons_succ]
    refine wpAnyH_ready (rs := [22]) (by kernel_rfl) (by simp) (AllReadyH.cons ((nth_eq _ 22).trans rfl) ?_ AllReadyH.nil)
    intro K3 hK3
    obtain ⟨x3, hx3⟩ : ∃ zw, zw = x2.setCell ⟨K.rb, i * 3 + 2, none⟩ (Value.slice (some gg) (0 + 1) c9) := ⟨_, rfl⟩
    have hS3 := (show DfS K (.slice (some ⟨K.rb, 0, none⟩) N capv) M k lv x3 by rw [hx3]; exact (HR2.out.put HI.out _ _ HPL.out HL8.out).dfs HKX.out HLV.out HML.out)
    refine skip_in hK3 (by kernel_rfl) x3 (by rw [hx3]; have zc := HR2.out.pv HI.out; have zf : x2.frozen? ⟨K.rb, i * 3 + 2, none⟩ = false := HR2.out.froz HI.out; go_simp; try rfl) hS3 ?_
    simp only [Act.put, List.setIfInBounds_toArray, List.set_cons_zero, List.set_cons_succ]
    refine done_held (by kernel_rfl) ?_ _
    have HR3 : Hid (RsAt x3 K cs (.slice (some ⟨K.rb, 0, none⟩) N capv) (qs.set i (p.1, (Value.slice (some gg) (0 + 1) c9), p.2.2 ++ [lv])) ls) := by rw [hx3]; exact HR2.out.put HI.out _ _ HPL.out HL8.out
    have HT3 : Hid (RTurn K qs (qs.set i (p.1, (Value.slice (some gg) (0 + 1) c9), p.2.2 ++ [lv])) w x3) := by rw [hx3]; exact HT2.out.rb_ i _ _ _ fun a n c e => Or.inr (HNW.out a n c e)
    have HR4 : Hid (RsAt (x3.setCell ⟨K.lb, k, none⟩ (.int .i64 0)) K cs (.slice (some ⟨K.rb, 0, none⟩) N capv) (qs.set i (p.1, (Value.slice (some gg) (0 + 1) c9), p.2.2 ++ [lv])) (ls.set k 0)) := HR3.out.load k 0
    have HT4 : Hid (RTurn K qs (qs.set i (p.1, (Value.slice (some gg) (0 + 1) c9), p.2.2 ++ [lv])) w (x3.setCell ⟨K.lb, k, none⟩ (.int .i64 0))) := HT3.out.lb_ k _
    have k17 := hS3.c17
    have klb := hS3.lbc
    have kf : x3.frozen? ⟨K.lb, k, none⟩ = false := by simp [World.frozen?, HR3.out.lds]
    clear hS3 hx3
    go_wp2_with fail
    go_ret
    exact ⟨_, rfl, HR4.out, HT4.out⟩
  | some ad =>
    clear hnone
    go_enter Try.func16, Try.ntmps16
    go_upto_region 9 with (first
      | (have X' := HW0; refine boxAt rfl 39 (.tmp 2) rfl #[.int .i64 x, .int .i64 y] rfl ?_; rw [← HW0.out]; clear HW0)
      | (have X2 := HE1; refine wpList_load_row rfl 39 (.tmp 5) rfl w.heap.size rfl 39 #[.int .i64 x, .int .i64 y] (0, 0) _ HE1.out Try.underlying39 rfl infoCell2 ?_)
      | (refine wpList_load_row rfl 39 (.tmp 5) rfl w.heap.size rfl 39 #[.int .i64 x, .int .i64 y] (0, 0) _ eB Try.underlying39 rfl infoCell2 ?_)
      | (go_at_call 44; refine (cP _ b0).mono ?_; rintro e w1 ⟨r1, rfl, rfl, b1⟩; have B1 := bcat b0 b1 (Nat.le_refl _); have k16 := z16 _ B1; have k17 := z17 _ B1; have yv := zv _ B1; have yl := zl _ B1; have HE1 : Hid (w1.heap[w.heap.size]? = _) := (b1.block _ (lt_of_heap eB)).trans eB)
      | (go_at_call 46; refine (cR _ B1).mono ?_; rintro e w2 ⟨r2, rfl, rfl, b2⟩; have B2 := bcat B1 b2 (Nat.le_refl _)))
    have HR : Hid (RsAt w2 K cs (.slice (some ⟨K.rb, 0, none⟩) N capv) qs ls) := HRR.out _ B2
    have HB2 : Hid (Below w.heap.size w w2) := B2
    clear k16 k17 yv yl z16 z17 zv zl cP cR B2 b2 B1 b1
    refine start_held (S := DfS K (.slice (some ⟨K.rb, 0, none⟩) N capv) M k lv) 23 rfl (by kernel_rfl) ((DfS.of (HR.out.go (Below.refl _ _).drew) HKX.out HLV.out HML.out)) ?_
    simp only [Array.replicate_succ, Array.replicate_zero, List.push_toArray, List.nil_append, List.cons_append]
    have HR0 : Hid (RsAt w2.drew K cs (.slice (some ⟨K.rb, 0, none⟩) N capv) qs ls) := HR.out.go (Below.refl _ _).drew
    have HT0 : Hid (RTurn K qs qs w w2.drew) := (RTurn.of_below HB2.out).trans (RTurn.of_below (Below.refl _ _).drew)
    have hS0 : DfS K (.slice (some ⟨K.rb, 0, none⟩) N capv) M k lv w2.drew := (DfS.of HR0.out HKX.out HLV.out HML.out)
    generalize w2.drew = x0 at *
    refine take_held 0 hS0 rfl (by kernel_rfl) (by kernel_rfl) (by kernel_rfl) (fun _ _ _ h => h) (by kernel_rfl) (v := ?v5020) ?y5020 ?r5020
    case y5020 => (intro u hu; go_simp; try rfl)
    simp only [Act.put, List.setIfInBounds_toArray, List.set_cons_zero, List.set_cons_succ]
    refine take_held 1 hS0 rfl (by kernel_rfl) (by kernel_rfl) (by kernel_rfl) (fun _ _ _ h => h) (by kernel_rfl) (v := ?v5021) ?y5021 ?r5021
    case y5021 => (intro u hu; go_simp; try rfl)
    simp only [Act.put, List.setIfInBounds_toArray, List.set_cons_zero, List.set_cons_succ]
    refine take_held 2 hS0 rfl (by kernel_rfl) (by kernel_rfl) (by kernel_rfl) (fun _ _ _ h => h) (by kernel_rfl) (v := ?v5022) ?y5022 ?r5022
    case y5022 => (intro u hu; go_simp; try rfl)
    simp only [Act.put, List.setIfInBounds_toArray, List.set_cons_zero, List.set_cons_succ]
    refine take_held 3 hS0 rfl (by kernel_rfl) (by kernel_rfl) (by kernel_rfl) (fun _ _ _ h => h) (by kernel_rfl) (v := ?v5023) ?y5023 ?r5023
    case y5023 => (intro u hu; have zz0 := (fun (u : World) (hu : DfS K (.slice (some ⟨K.rb, 0, none⟩) N capv) M k lv u) => hu.c16) u hu; go_simp; try rfl)
    simp only [Act.put, List.setIfInBounds_toArray, List.set_cons_zero, List.set_cons_succ]
    refine take_held 4 hS0 rfl (by kernel_rfl) (by kernel_rfl) (by kernel_rfl) (fun _ _ _ h => h) (by kernel_rfl) (v := ?v5024) ?y5024 ?r5024
    case y5024 => (intro u hu; go_simp; try rfl)
    simp only [Act.put, List.setIfInBounds_toArray, List.set_cons_zero, List.set_cons_succ]
    refine take_held 5 hS0 rfl (by kernel_rfl) (by kernel_rfl) (by kernel_rfl) (fun _ _ _ h => h) (by kernel_rfl) (v := ?v5025) ?y5025 ?r5025
    case y5025 => (intro u hu; go_simp; try rfl)
    simp only [Act.put, List.setIfInBounds_toArray, List.set_cons_zero, List.set_cons_succ]
    refine take_held 6 hS0 rfl (by kernel_rfl) (by kernel_rfl) (by kernel_rfl) (fun _ _ _ h => h) (by kernel_rfl) (v := ?v5026) ?y5026 ?r5026
    case y5026 => (intro u hu; go_simp; try rfl)
    simp only [Act.put, List.setIfInBounds_toArray, List.set_cons_zero, List.set_cons_succ]
    refine take_held 7 hS0 rfl (by kernel_rfl) (by kernel_rfl) (by kernel_rfl) (fun _ _ _ h => h) (by kernel_rfl) (v := ?v5027) ?y5027 ?r5027
    case y5027 => (intro u hu; go_simp; try rfl)
    simp only [Act.put, List.setIfInBounds_toArray, List.set_cons_zero, List.set_cons_succ]
    refine take_held 8 hS0 rfl (by kernel_rfl) (by kernel_rfl) (by kernel_rfl) (fun _ _ _ h => h) (by kernel_rfl) (v := ?v5028) ?y5028 ?r5028
    case y5028 => (intro u hu; go_simp; try rfl)
    simp only [Act.put, List.setIfInBounds_toArray, List.set_cons_zero, List.set_cons_succ]
    refine take_held 9 hS0 rfl (by kernel_rfl) (by kernel_rfl) (by kernel_rfl) (fun _ _ _ h => h) (by kernel_rfl) (v := ?v5029) ?y5029 ?r5029
    case y5029 => (intro u hu; go_simp; try rfl)
    simp only [Act.put, List.setIfInBounds_toArray, List.set_cons_zero, List.set_cons_succ]
    refine take_held 10 hS0 rfl (by kernel_rfl) (by kernel_rfl) (by kernel_rfl) (fun _ _ _ h => h) (by kernel_rfl) (v := .slice (some ad) n n) ?y5030 ?r5030
    case y5030 => (intro u hu; have hq : n ≤ cap := (by omega); go_simp; try rfl)
    simp only [Act.put, List.setIfInBounds_toArray, List.set_cons_zero, List.set_cons_succ]
    refine take_held 11 hS0 rfl (by kernel_rfl) (by kernel_rfl) (by kernel_rfl) (fun _ _ _ h => h) (by kernel_rfl) (v := ?v5031) ?y5031 ?r5031
    case y5031 => (intro u hu; go_simp; try rfl)
    simp only [Act.put, List.setIfInBounds_toArray, List.set_cons_zero, List.set_cons_succ]
    refine take_held 12 hS0 rfl (by kernel_rfl) (by kernel_rfl) (by kernel_rfl) (fun _ _ _ h => h) (by kernel_rfl) (v := ?v5032) ?y5032 ?r5032
    case y5032 => (intro u hu; go_simp; try rfl)
    simp only [Act.put, List.setIfInBounds_toArray, List.set_cons_zero, List.set_cons_succ]
    refine take_held 13 hS0 rfl (by kernel_rfl) (by kernel_rfl) (by kernel_rfl) (fun _ _ _ h => h) (by kernel_rfl) (v := ?v5033) ?y5033 ?r5033
    case y5033 => (intro u hu; go_simp; try rfl)
    simp only [Act.put, List.setIfInBounds_toArray, List.set_cons_zero, List.set_cons_succ]
    refine take_held 14 hS0 rfl (by kernel_rfl) (by kernel_rfl) (by kernel_rfl) (fun _ _ _ h => h) (by kernel_rfl) (v := ?v5034) ?y5034 ?r5034
    case y5034 => (intro u hu; have zz0 := (fun (u : World) (hu : DfS K (.slice (some ⟨K.rb, 0, none⟩) N capv) M k lv u) => hu.c17) u hu; go_simp; try rfl)
    simp only [Act.put, List.setIfInBounds_toArray, List.set_cons_zero, List.set_cons_succ]
    refine take_held 15 hS0 rfl (by kernel_rfl) (by kernel_rfl) (by kernel_rfl) (fun _ _ _ h => h) (by kernel_rfl) (v := ?v5035) ?y5035 ?r5035
    case y5035 => (intro u hu; go_simp; try rfl)
    simp only [Act.put, List.setIfInBounds_toArray, List.set_cons_zero, List.set_cons_succ]
    refine take_held 16 hS0 rfl (by kernel_rfl) (by kernel_rfl) (by kernel_rfl) (fun _ _ _ h => h) (by kernel_rfl) (v := ?v5036) ?y5036 ?r5036
    case y5036 => (intro u hu; go_simp; try rfl)
    simp only [Act.put, List.setIfInBounds_toArray, List.set_cons_zero, List.set_cons_succ]
    refine take_held 17 hS0 rfl (by kernel_rfl) (by kernel_rfl) (by kernel_rfl) (fun _ _ _ h => h) (by kernel_rfl) (v := ?v5037) ?y5037 ?r5037
    case y5037 => (intro u hu; have zz0 := (fun (u : World) (hu : DfS K (.slice (some ⟨K.rb, 0, none⟩) N capv) M k lv u) => hu.lbc) u hu; go_simp; try rfl)
    simp only [Act.put, List.setIfInBounds_toArray, List.set_cons_zero, List.set_cons_succ]
    refine wpAnyH_ready (rs := [18]) (by kernel_rfl) (by simp) (AllReadyH.cons ((nth_eq _ 18).trans rfl) ?_ AllReadyH.nil)
    intro K1 hK1
    obtain ⟨x1, hx1⟩ : ∃ zw, zw = x0.alloc (.cells #[.int .i64 lv] 3) := ⟨_, rfl⟩
    have hS1 := (DfS.of (HR0.out.go (show Below x0.heap.size x0 x1 by rw [hx1]; exact (Below.refl _ _).alloc (Nat.le_refl _) _)) HKX.out HLV.out HML.out)
    have bx1 : Below x0.heap.size x0 x1 := by rw [hx1]; exact (Below.refl _ _).alloc (Nat.le_refl _) _
    have hz1 : x1.cell? ⟨x0.heap.size, 0, none⟩ = some (.int .i64 lv) := by rw [hx1, cell_of (World.alloc_heap_new _ _)]; rfl
    have HR1 : Hid (RsAt x1 K cs (.slice (some ⟨K.rb, 0, none⟩) N capv) qs ls) := HR0.out.go bx1
    have HT1 : Hid (RTurn K qs qs w x1) := HT0.out.trans (RTurn.of_below bx1)
    refine value_in hK1 (by kernel_rfl) (.slice (some ⟨x0.heap.size, 0, none⟩) 1 1) x1 (by rw [hx1]; go_simp; try rfl) hS1 ?_
    simp only [Act.put, List.setIfInBounds_toArray, List.set_cons_zero, List.set_cons_succ]
    refine wpAnyH_ready (rs := [19]) (by kernel_rfl) (by simp) (AllReadyH.cons ((nth_eq _ 19).trans rfl) ?_ AllReadyH.nil)
    intro K2 hK2
    obtain ⟨v9, x2, hrun9, bb9, pl9, nw9, gg, c9, rfl⟩ := app_full (HR1.out.pl i p HI.out) HEV.out h7 hz1 HR1.out.slt HR1.out.lr HR1.out.llt (Nat.le_of_lt (Nat.lt_of_le_of_lt HR1.out.bs HR1.out.slt)) 48
    have HR2 : Hid (RsAt x2 K cs (.slice (some ⟨K.rb, 0, none⟩) N capv) qs ls) := HR1.out.go bb9
    have HT2 : Hid (RTurn K qs qs w x2) := HT1.out.trans (RTurn.of_below bb9)
    have HPL : Hid (PlAt x2 K (p.1, (Value.slice (some gg) (n + 1) c9), p.2.2 ++ [lv])) := pl9
    have HNW : Hid (∀ a m c, (Value.slice (some gg) (n + 1) c9) = .slice (some a) m c → w.heap.size ≤ a.block) := fun a n c e => Nat.le_trans HT1.out.size (nw9 a n c e)
    have hS2 : DfS K (.slice (some ⟨K.rb, 0, none⟩) N capv) M k lv x2 := (DfS.of HR2.out HKX.out HLV.out HML.out)
    refine value_in hK2 (by kernel_rfl) (Value.slice (some gg) (n + 1) c9) x2 (run_append_op _ _ rfl _ _ _ rfl rfl hrun9) hS2 ?_
    clear pl9 nw9 hrun9 bb9
    simp only [Act.put, List.setIfInBounds_toArray, List.set_cons_zero, List.set_cons_succ]
    refine take_held 20 hS2 rfl (by kernel_rfl) (by kernel_rfl) (by kernel_rfl) (fun _ _ _ h => h) (by kernel_rfl) (v := ?v5038) ?y5038 ?r5038
    case y5038 => (intro u hu; go_simp; try rfl)
    simp only [Act.put, List.setIfInBounds_toArray, List.set_cons_zero, List.set_cons_succ]
    refine take_held 21 hS2 rfl (by kernel_rfl) (by kernel_rfl) (by kernel_rfl) (fun _ _ _ h => h) (by kernel_rfl) (v := ?v5039) ?y5039 ?r5039
    case y5039 => (intro u hu; go_simp; try rfl)
    simp only [Act.put, List.setIfInBounds_toArray, List.set_cons_zero, List.set_cons_succ]
    refine wpAnyH_ready (rs := [22]) (by kernel_rfl) (by simp) (AllReadyH.cons ((nth_eq _ 22).trans rfl) ?_ AllReadyH.nil)
    intro K3 hK3
    obtain ⟨x3, hx3⟩ : ∃ zw, zw = x2.setCell ⟨K.rb, i * 3 + 2, none⟩ (Value.slice (some gg) (n + 1) c9) := ⟨_, rfl⟩
    have hS3 := (show DfS K (.slice (some ⟨K.rb, 0, none⟩) N capv) M k lv x3 by rw [hx3]; exact (HR2.out.put HI.out _ _ HPL.out HL8.out).dfs HKX.out HLV.out HML.out)
    refine skip_in hK3 (by kernel_rfl) x3 (by rw [hx3]; have zc := HR2.out.pv HI.out; have zf : x2.frozen? ⟨K.rb, i * 3 + 2, none⟩ = false := HR2.out.froz HI.out; go_simp; try rfl) hS3 ?_
    simp only [Act.put, List.setIfInBounds_toArray, List.set_cons_zero, List.set_cons_succ]
    refine done_held (by kernel_rfl) ?_ _
    have HR3 : Hid (RsAt x3 K cs (.slice (some ⟨K.rb, 0, none⟩) N capv) (qs.set i (p.1, (Value.slice (some gg) (n + 1) c9), p.2.2 ++ [lv])) ls) := by rw [hx3]; exact HR2.out.put HI.out _ _ HPL.out HL8.out
    have HT3 : Hid (RTurn K qs (qs.set i (p.1, (Value.slice (some gg) (n + 1) c9), p.2.2 ++ [lv])) w x3) := by rw [hx3]; exact HT2.out.rb_ i _ _ _ fun a n c e => Or.inr (HNW.out a n c e)
    have HR4 : Hid (RsAt (x3.setCell ⟨K.lb, k, none⟩ (.int .i64 0)) K cs (.slice (some ⟨K.rb, 0, none⟩) N capv) (qs.set i (p.1, (Value.slice (some gg) (n + 1) c9), p.2.2 ++ [lv])) (ls.set k 0)) := HR3.out.load k 0
    have HT4 : Hid (RTurn K qs (qs.set i (p.1, (Value.slice (some gg) (n + 1) c9), p.2.2 ++ [lv])) w (x3.setCell ⟨K.lb, k, none⟩ (.int .i64 0))) := HT3.out.lb_ k _
    have k17 := hS3.c17
    have klb := hS3.lbc
    have kf : x3.frozen? ⟨K.lb, k, none⟩ = false := by simp [World.frozen?, HR3.out.lds]
    clear hS3 hx3
    go_wp2_with fail
    go_ret
    exact ⟨_, rfl, HR4.out, HT4.out⟩
end Go.Proofs.Ytabbdclpjghdbaa.Stk
