/-
  New, Cells, there, of, First, Slots; copies of lists.
-/
import Derived.Test.YtddkgkafgjdheaaResvMem
namespace Go.Proofs.Ytddkgkafgjdheaa.Rs
set_option linter.unusedVariables false
set_option linter.unusedSimpArgs false
open Go Go.RowKit Go.Shelf Go.Proofs Hp
attribute [local go_sem] Oper.semAt_some

/- A cell's slots; of one that is not there none. -/
def rowOf (ls : List (List Sl)) (c : Int) : List Sl := if 0 ≤ c then ls.getD c.toNat [] else []
def isThere (n : Nat) (c : Int) : Bool := decide (0 ≤ c) && decide (c < (n : Int))
theorem cells_any (F : Nat → Prop) (b : Nat) (ls : List (List Sl)) (w : World) (h : TAt F w b ls) : Calls Try.prog 14 #[.pointer (some ⟨b, 0, none⟩)] w fun e w' => e = .returned (.int .i64 (ls.length : Nat)) ∧ w' = w := by
  obtain ⟨v, vals, h⟩ := h
  obtain ⟨a, cap, rfl, _⟩ := own_form h.row
  have h1 := h.head
  generalize ls.length = n at *
  clear h
  go_enter Try.func14, Try.ntmps14
  go_wp2
  go_ret
  exact ⟨rfl, rfl⟩
theorem there_any (F : Nat → Prop) (b : Nat) (ls : List (List Sl)) (c : Int) (w : World) (h : TAt F w b ls) : Calls Try.prog 47 #[.pointer (some ⟨b, 0, none⟩), .int .i64 c] w fun e w' => e = .returned (.bool (isThere ls.length c)) ∧ w' = w := by
  have cC := cells_any F b ls w h
  have ht : isThere ls.length c = (decide (0 ≤ c) && decide (c < (ls.length : Int))) := rfl
  generalize isThere ls.length c = r at *
  generalize ls.length = n at *
  clear h
  by_cases h0 : 0 ≤ c
  · by_cases h1 : c < (n : Int)
    · obtain rfl : r = true := by rw [ht]; simp [h0, h1]
      clear ht
      go_enter Try.func47, Try.ntmps47
      go_wp2_with (go_at_call 14; refine cC.mono ?_; rintro e w1 ⟨rfl, rfl⟩)
      go_ret
      exact ⟨rfl, rfl⟩
    · obtain rfl : r = false := by rw [ht]; simp [h1]
      clear ht
      have h2 : decide (c < (n : Int)) = false := decide_eq_false h1
      go_enter Try.func47, Try.ntmps47
      go_wp2_with (go_at_call 14; refine cC.mono ?_; rintro e w1 ⟨rfl, rfl⟩)
      go_ret
      first | exact ⟨rfl, rfl⟩ | exact ⟨ret_bool h2, rfl⟩
  · obtain rfl : r = false := by rw [ht]; simp [h0]
    clear ht
    go_enter Try.func47, Try.ntmps47
    go_wp2_with (go_at_call 14; refine cC.mono ?_; rintro e w1 ⟨rfl, rfl⟩)
    go_ret
    exact ⟨rfl, rfl⟩
theorem rowOf_in {ls : List (List Sl)} {c : Int} (h : isThere ls.length c = true) : ∃ i, ∃ hi : i < ls.length, c = (i : Nat) ∧ rowOf ls c = ls[i] := by
  simp only [isThere, Bool.and_eq_true, decide_eq_true_eq] at h
  refine ⟨c.toNat, by omega, by omega, ?_⟩
  unfold rowOf
  rw [if_pos h.1, List.getD_eq_getElem?_getD, List.getElem?_eq_getElem (by omega)]
  rfl
theorem rowOf_out {ls : List (List Sl)} {c : Int} (h : isThere ls.length c = false) : rowOf ls c = [] := by
  simp only [isThere, Bool.and_eq_false_iff, decide_eq_false_iff_not] at h
  unfold rowOf
  by_cases h0 : 0 ≤ c
  · rw [if_pos h0, List.getD_eq_getElem?_getD, List.getElem?_eq_none (by omega)]; rfl
  · rw [if_neg h0]
theorem of_any (F : Nat → Prop) (b : Nat) (v : Value) (vals : List Value) (ls : List (List Sl)) (c : Int) (w : World) (h : TIn F w b v vals ls) : Calls Try.prog 41 #[.pointer (some ⟨b, 0, none⟩), .int .i64 c] w fun e w' => ∃ v', e = .returned v' ∧ w' = w ∧ RowAt slL (fun k => F k ∧ k ≠ b ∧ v.ownBlock ≠ some k) w v' (rowOf ls c) := by
  have cT := there_any F b ls c w ⟨v, vals, h⟩
  cases ht : isThere ls.length c with
  | true =>
    obtain ⟨i, hi, rfl, e⟩ := rowOf_in ht
    rw [ht] at cT
    rw [e]
    have hv : i < vals.length := by rw [h.len]; exact hi
    have hE := h.each i hi hv
    obtain ⟨g, cap, rfl, _, _, _, _, _, _, hc⟩ := h.form (by omega)
    have h1 := h.head
    have h2 := hc i hv
    have hi2 : (i : Int) < (ls.length : Int) := by omega
    obtain ⟨a, ca, ea, _⟩ := hE.form
    generalize vals[i] = u at *
    generalize ls[i] = l at *
    generalize ls.length = n at *
    subst ea
    clear h hc ht e hv hi
    go_enter Try.func41, Try.ntmps41
    go_wp2_with (go_at_call 47; refine cT.mono ?_; rintro e w1 ⟨rfl, rfl⟩)
    go_ret
    exact ⟨_, rfl, rfl, hE⟩
  | false =>
    rw [ht] at cT
    rw [rowOf_out ht]
    clear h ht
    go_enter Try.func41, Try.ntmps41
    go_wp2_with (go_at_call 47; refine cT.mono ?_; rintro e w1 ⟨rfl, rfl⟩)
    go_ret
    exact ⟨_, rfl, rfl, RowAt.nil _ _ _⟩
def firstP : List Sl → Int × Bool
  | [] => (0, false)
  | s :: _ => (s.r, true)
set_option maxRecDepth 100000 in
theorem first_any (F : Nat → Prop) (b : Nat) (ls : List (List Sl)) (c : Int) (w : World) (h : TAt F w b ls) : Calls Try.prog 29 #[.pointer (some ⟨b, 0, none⟩), .int .i64 c] w fun e w' => e = .returned (.tuple #[.int .i64 (firstP (rowOf ls c)).1, .bool (firstP (rowOf ls c)).2]) ∧ w' = w := by
  obtain ⟨v, vals, h⟩ := h
  have cO := of_any F b v vals ls c w h
  generalize rowOf ls c = l at *
  clear h
  rcases l with _ | ⟨s, l⟩
  · go_enter Try.func29, Try.ntmps29
    go_wp2_with (go_at_call 41; refine cO.mono ?_; rintro e w1 ⟨v', rfl, rfl, R⟩; obtain ⟨a, cap, rfl, _⟩ := R.form; simp only [List.length_nil])
    refine bodyPost_ret (results_tmp2 Try.results29 _ _ _) rfl ?_
    exact ⟨rfl, rfl⟩
  · have hn : (((s :: l).length : Int) == 0) = false := by rw [beq_eq_false_iff_ne]; have : 0 < (s :: l).length := (by simp); omega
    have hp : (0 : Int) < ((s :: l).length : Int) := by have : 0 < (s :: l).length := (by simp); omega
    have hf : firstP (s :: l) = (s.r, true) := rfl
    rw [hf]
    have hR : ∀ v', RowAt slL (fun k => F k ∧ k ≠ b ∧ v.ownBlock ≠ some k) w v' (s :: l) → ∃ g o cap, v' = .slice (some ⟨g, o, none⟩) (s :: l).length cap ∧ w.cell? ⟨g, o + 2, none⟩ = some (.int .i64 s.r) := fun v' R => by
      obtain ⟨g, o, cap, rfl, _, _, _, R⟩ := R.has (by simp)
      have r := R.at slL_len 0 (by simp) 2 (.int .i64 s.r) rfl
      rw [Nat.zero_mul, Nat.add_zero] at r
      exact ⟨g, o, cap, rfl, r⟩
    have cO' : Calls Try.prog 41 #[.pointer (some ⟨b, 0, none⟩), .int .i64 c] w fun e w' => ∃ v', e = .returned v' ∧ w' = w ∧ ∃ g o cap, v' = .slice (some ⟨g, o, none⟩) (s :: l).length cap ∧ w.cell? ⟨g, o + 2, none⟩ = some (.int .i64 s.r) := cO.mono (fun e w' ⟨v', e1, e2, R⟩ => ⟨v', e1, e2, hR v' R⟩)
    clear hR cO hf
    generalize (s :: l).length = n at *
    go_enter Try.func29, Try.ntmps29
    go_wp2_with (go_at_call 41; refine cO'.mono ?_; rintro e w1 ⟨v', rfl, rfl, g, o, cap, rfl, r⟩)
    refine bodyPost_ret (results_tmp2 Try.results29 _ _ _) rfl ?_
    exact ⟨rfl, rfl⟩
set_option maxHeartbeats 1000000 in
theorem clone_any (F : Nat → Prop) (l : List Sl) (v : Value) (w : World) (hL : RowAt slL F w v l) (hm : l.length ≤ 1000000000) :
    Calls Try.prog 40 #[v] w fun e w' => ∃ v', e = .returned v' ∧ w'.ownsRow w.heap.size 40 3 v' l.length (rowL slL l) ∧ Below w.heap.size w w' := by
  have hu := fun w a l c => eql_nil w 37 40 a l c Try.underlying37
  rcases id hL with ⟨rfl, rfl⟩ | ⟨g, o, cap, rfl, h1, h2, h3, h4⟩
  · go_enter Try.func40, Try.ntmps40
    go_wp2
    go_ret
    exact ⟨_, rfl, World.ownsRow_nil _ _ _ _, Below.refl _ _⟩
  · have hL' := fun o => (hL.go slL_len ((Below.refl w.heap.size w).alloc (Nat.le_refl _) o)).lay
    generalize hn : l.length = n at *
    have HN : Hid (l.length = n) := hn
    clear hn h3 h4 hL
    go_enter Try.func40, Try.ntmps40
    go_wp2_with (at_builtin; refine wpList_app kindSl rfl _ _ rfl w.heap.size (.slice (some ⟨w.heap.size, 0, none⟩) 0 0) [] rfl (World.ownsRow_made w #[] 0 (Nat.le_refl _) (by decide) (by decide)) _ l rfl (by rw [HN.out]; exact hL' _) (by rw [HN.out]; simp; omega) (by rw [HN.out]; unfold maxLen; simp; omega) (by simp) ?_; intro v' w1 hown hgrow hat)
    rw [List.nil_append] at hown
    go_ret
    exact ⟨_, rfl, by rw [← HN.out]; exact hown, ((Below.refl w.heap.size w).alloc (Nat.le_refl _) (.cells #[] 40)).grown hgrow (by simp) (fun k hk => by cases hk; exact Nat.le_refl _)⟩
theorem slots_any (F : Nat → Prop) (b : Nat) (ls : List (List Sl)) (c : Int) (w : World) (h : TAt F w b ls) (hm : (rowOf ls c).length ≤ 1000000000) : Calls Try.prog 18 #[.pointer (some ⟨b, 0, none⟩), .int .i64 c] w fun e w' => ∃ v', e = .returned v' ∧ w'.ownsRow w.heap.size 40 3 v' (rowOf ls c).length (rowL slL (rowOf ls c)) ∧ Below w.heap.size w w' := by
  obtain ⟨v, vals, h⟩ := h
  have cO := of_any F b v vals ls c w h
  generalize rowOf ls c = l at *
  clear h
  go_enter Try.func18, Try.ntmps18
  go_wp2_with (first | (go_at_call 41; refine cO.mono ?_; rintro e w1 ⟨v', rfl, rfl, R⟩) | (go_at_call 40; refine (clone_any _ l v' _ R hm).mono ?_; rintro e w2 ⟨v2, rfl, o2, b2⟩))
  go_ret
  exact ⟨_, rfl, o2, b2⟩
theorem new_bad (n : Int) (w : World) (h : n < 1 ∨ 256 < n) : Calls Try.prog 12 #[.int .i64 n] w fun e w' => e = .returned (.tuple #[.pointer none, .int .i64 1]) ∧ w' = w := by
  rcases h with h | h
  · go_enter Try.func12, Try.ntmps12
    go_wp2
    refine bodyPost_ret (results_tmp2 Try.results12 _ _ _) rfl ?_
    exact ⟨rfl, rfl⟩
  · have h' : ¬ n < 1 := by omega
    go_enter Try.func12, Try.ntmps12
    go_wp2
    refine bodyPost_ret (results_tmp2 Try.results12 _ _ _) rfl ?_
    exact ⟨rfl, rfl⟩
def bareRow (n : Nat) : Array Value := (List.replicate n (Value.slice none 0 0)).toArray
theorem run_made (n : Nat) (h : n ≤ 1000000) (w : World) :
    (Instr.makeSlice 66 (.int .i64 n) (.int .i64 n)).run Try.prog w = .ok (.slice (some ⟨w.heap.size, 0, none⟩) n n) (w.alloc (.cells (bareRow n) 37)) := by
  obtain ⟨i0, hi, hz0, hz1, hz2⟩ := info_parts infoRow
  have hr := run_make (P := Try.prog) w 66 37 i0 _ Try.underlying66 hi hz0 .i64 .i64 n n (by omega) (Int.le_refl _) (by rw [hz2]; omega) (by omega)
  rw [hz1, show (Value.slice none 0 0).cells = #[Value.slice none 0 0] from rfl, Int.toNat_natCast, Nat.mul_one] at hr
  unfold bareRow
  rw [hr, ← toList_madeCells_one, Array.toArray_toList]
theorem wpList_made {ops : Array Oper} {rest : List Oper} {o : Oper} {a : Act} {w : World} {Q : Exit → Act → World → Prop} (hg : o.guard = none) (l c : Operand) (hop : o.op = Op.makeSlice 66 l c)
    (n : Nat) (hl : a.eval l = .int .i64 n) (hc : a.eval c = .int .i64 n) (hb : n ≤ 1000000)
    (hK : wpList Try.prog ops Q rest (a.put o.dst (.slice (some ⟨w.heap.size, 0, none⟩) n n)) (w.alloc (.cells (bareRow n) 37))) : wpList Try.prog ops Q (o :: rest) a w := by
  refine wpList_plain hg fun K hK' => ?_
  unfold Oper.wp
  simp [execOp, hop, hl, hc, run_made n hb w, Result.andThen]
  exact hK' _ _ hK
/- An empty table. -/
theorem bare_at (n : Nat) (w : World) (T : TypeId) (hm : n ≤ 1000000) (F : Nat → Prop) (hF : ∀ k, F k ↔ k = w.heap.size ∨ k = w.heap.size + 1) :
    TAt F ((w.alloc (.cells (bareRow n) 37)).alloc (.cells #[.slice (some ⟨w.heap.size, 0, none⟩) n n] T)) (w.heap.size + 1) (List.replicate n []) := by
  have o1 : (w.alloc (.cells (bareRow n) 37)).ownsRow w.heap.size 37 1 (.slice (some ⟨w.heap.size, 0, none⟩) n n) n (List.replicate n (Value.slice none 0 0)) := by
    have := World.ownsRow_lit (base := w.heap.size) (e := 37) (size := 1) w (bareRow n) n (Nat.le_refl _) (by unfold maxLen; omega) (by simp [bareRow])
    simpa [bareRow] using this
  refine ⟨.slice (some ⟨w.heap.size, 0, none⟩) n n, List.replicate n (.slice none 0 0), ?_, ?_, ?_, ?_, ?_, ?_, ?_, ?_⟩
  · simp
  · intro o; simp
  · rw [List.length_replicate]
    exact owns_go (owns_base (Nat.zero_le _) o1) ((Below.refl _ _).alloc (Nat.le_refl _) _)
  · simp
  · exact (hF _).2 (Or.inr rfl)
  · intro k hk
    cases hk
    exact ⟨(hF _).2 (Or.inl rfl), Nat.ne_of_lt (Nat.lt_succ_self _)⟩
  · intro k hk
    simp only [World.size_alloc]
    rcases (hF k).1 hk with rfl | rfl <;> omega
  · intro i h1 h2
    simp only [List.getElem_replicate]
    exact RowAt.nil _ _ _
theorem new_any (n : Nat) (w : World) (h0 : 0 < n) (h1 : n ≤ 256) : Calls Try.prog 12 #[.int .i64 n] w fun e w' => ∃ b, e = .returned (.tuple #[.pointer (some ⟨b, 0, none⟩), .int .i64 0]) ∧ ∃ F, TAt F w' b (List.replicate n []) ∧ Below w.heap.size w w' ∧ ∀ k, F k → w.heap.size ≤ k := by
  have a1 : ¬ ((n : Int) < 1) := by omega
  have a2 : ¬ ((n : Int) > 256) := by omega
  go_enter Try.func12, Try.ntmps12
  go_wp2_with (refine wpList_made rfl _ _ rfl n rfl rfl (by omega) ?_)
  refine bodyPost_ret (results_tmp2 Try.results12 _ _ _) rfl ?_
  refine ⟨w.heap.size + 1, rfl, (fun k => k = w.heap.size ∨ k = w.heap.size + 1), ?_, ?_, ?_⟩
  · exact bare_at n w _ (by omega) (fun k => k = w.heap.size ∨ k = w.heap.size + 1) (fun k => Iff.rfl)
  · exact ((Below.refl _ _).alloc (Nat.le_refl _) _).alloc (by simp) _
  · rintro k (rfl | rfl) <;> omega
theorem refNew_any (n : Nat) (w : World) (h0 : 0 < n) (h1 : n ≤ 256) : Calls Try.prog 15 #[.int .i64 n] w fun e w' => ∃ b, e = .returned (.pointer (some ⟨b, 0, none⟩)) ∧ ∃ F, TAt F w' b (List.replicate n []) ∧ Below w.heap.size w w' ∧ ∀ k, F k → w.heap.size ≤ k := by
  have a1 : ¬ ((n : Int) < 1) := by omega
  have a2 : ¬ ((n : Int) > 256) := by omega
  go_enter Try.func15, Try.ntmps15
  go_wp2_with (refine wpList_made rfl _ _ rfl n rfl rfl (by omega) ?_)
  go_ret
  refine ⟨w.heap.size + 1, rfl, (fun k => k = w.heap.size ∨ k = w.heap.size + 1), ?_, ?_, ?_⟩
  · exact bare_at n w _ (by omega) (fun k => k = w.heap.size ∨ k = w.heap.size + 1) (fun k => Iff.rfl)
  · exact ((Below.refl _ _).alloc (Nat.le_refl _) _).alloc (by simp) _
  · rintro k (rfl | rfl) <;> omega
end Go.Proofs.Ytddkgkafgjdheaa.Rs
