/-
  How a run ends that is stopped.
-/
import Derived.Test.YtjblplaaogbkiaaKinMeth
namespace Go.Proofs.Ytjblplaaogbkiaa.Kin
set_option linter.unusedVariables false
set_option linter.unusedSimpArgs false
open Go Go.RowKit Go.Shelf Go.Proofs
attribute [local go_sem] Oper.semAt_some

/- How many cells, and in how many further ticks. -/
def cellsS (u a p s : Nat) : Nat := (p + brk a s + u - 1) / u
def ticksS (u a v p s : Nat) : Nat := (runs a v 0 (cellsS u a p s * u - p) s).length
def stopC (u a v : Nat) (n t : Int) : Nat := if t < 1 ∨ (profI u a v n).length = 0 then 0 else if ((profI u a v n).length : Int) ≤ t then n.toNat else cellsS u a (atI u a v n t) (velI u a v n t)
def stopT (u a v : Nat) (n t : Int) : Nat := if t < 1 ∨ (profI u a v n).length = 0 then 0 else if ((profI u a v n).length : Int) ≤ t then 0 else ticksS u a v (atI u a v n t) (velI u a v n t)
theorem cells_bd {u a p s : Nat} (hu : 1 ≤ u) : p + brk a s ≤ cellsS u a p s * u ∧ cellsS u a p s * u < p + brk a s + u := by
  unfold cellsS
  have h1 := Nat.div_mul_le_self (p + brk a s + u - 1) u
  have h2 := Nat.lt_div_mul_add (a := p + brk a s + u - 1) (b := u) (by omega)
  omega
theorem prof_zero {u a v : Nat} (ok : Ok u a v) {n : Int} : (profI u a v n).length = 0 ↔ n < 1 ∨ 16 < n := by
  by_cases hn : 1 ≤ n ∧ n ≤ 16
  · obtain ⟨m, rfl⟩ := Int.eq_ofNat_of_zero_le (show 0 ≤ n by omega)
    rw [profI_in (by omega) (by omega), prof_len]
    have := (spd_bd ok (n := m) (by omega) (by omega)).1
    omega
  · rw [profI_out (by omega)]
    simp
    omega
/- What has been counted so far. -/
theorem cnt_own {T N k0 : Nat} {w1 : World} (hT : T ≤ w1.heap.size) (hN : T < N) : OwnFrom N (fun (pre : List Spd) V => Boxed V T 3 (.int .i64 (pre.length : Nat)) ∧ Below T w1 V) := by
  intro pre X Y row h hg hr
  exact ⟨box_kept h.1 hg (fun r e => (hr r e).2), h.2.grown hg (Nat.le_trans hT h.2.size) (fun k e => by have := (hr k e).1; omega)⟩
set_option maxRecDepth 100000 in
set_option maxHeartbeats 2000000 in
theorem stop_low (b u a v : Nat) (n t : Int) (w : World) (h : KinAt w b u a v) (ok : Ok u a v) (ht : t < 1 ∨ (profI u a v n).length = 0) :
    Calls Try.prog 28 #[.pointer (some ⟨b, 0, none⟩), .int .i64 n, .int .i64 t] w fun e w' => e = .returned (.tuple #[.int .i64 0, .int .i64 0]) ∧ KGo b u a v w w' := by
  have cT := time_any b u a v n w h ok
  by_cases h1 : t < 1
  · clear ht
    refine (callsIn_wide (n := 9)).1 ?_
    refine callsIn_of_wp_marks Try.func28 rfl trivial ?_ rfl
    simp only [Try.ntmps28, List.size_toArray, List.length_cons, List.length_nil, Nat.reduceAdd, Nat.reduceSub, Array.replicate_succ, Array.replicate_zero, List.push_toArray, List.append_toArray, List.nil_append, List.cons_append]
    gi_wp2_with (refine ⟨trivial, ?_⟩; gi_at_call 21; refine (callsIn_wide.2 cT).mono ?_; rintro e w1 ⟨rfl, g1⟩)
    refine ⟨.tuple #[.int .i64 0, .int .i64 0], by simp [results, Try.results28, go_sem], rfl, g1⟩
  · have h0 : (profI u a v n).length = 0 := by rcases ht with h | h <;> first | exact (h1 h).elim | exact h
    have hd1 : decide (t < 1) = false := decide_eq_false h1
    rw [h0] at cT
    clear ht h0
    refine (callsIn_wide (n := 9)).1 ?_
    refine callsIn_of_wp_marks Try.func28 rfl trivial ?_ rfl
    simp only [Try.ntmps28, List.size_toArray, List.length_cons, List.length_nil, Nat.reduceAdd, Nat.reduceSub, Array.replicate_succ, Array.replicate_zero, List.push_toArray, List.append_toArray, List.nil_append, List.cons_append]
    gi_wp2_with (refine ⟨trivial, ?_⟩; gi_at_call 21; refine (callsIn_wide.2 cT).mono ?_; rintro e w1 ⟨rfl, g1⟩)
    refine ⟨.tuple #[.int .i64 0, .int .i64 0], by simp [results, Try.results28, go_sem], rfl, g1⟩
set_option maxRecDepth 100000 in
set_option maxHeartbeats 2000000 in
theorem stop_end (b u a v : Nat) (n t : Int) (w : World) (h : KinAt w b u a v) (ok : Ok u a v) (ht : ¬ t < 1) (h0 : (profI u a v n).length ≠ 0) (hl : ((profI u a v n).length : Int) ≤ t) :
    Calls Try.prog 28 #[.pointer (some ⟨b, 0, none⟩), .int .i64 n, .int .i64 t] w fun e w' => e = .returned (.tuple #[.int .i64 n, .int .i64 0]) ∧ KGo b u a v w w' := by
  have cT := time_any b u a v n w h ok
  have hd1 : decide (t < 1) = false := decide_eq_false ht
  generalize (profI u a v n).length = k at *
  have hd2 : ((k : Int) == 0) = false := by rw [beq_eq_false_iff_ne]; omega
  refine (callsIn_wide (n := 9)).1 ?_
  refine callsIn_of_wp_marks Try.func28 rfl trivial ?_ rfl
  simp only [Try.ntmps28, List.size_toArray, List.length_cons, List.length_nil, Nat.reduceAdd, Nat.reduceSub, Array.replicate_succ, Array.replicate_zero, List.push_toArray, List.append_toArray, List.nil_append, List.cons_append]
  gi_wp2_with (refine ⟨trivial, ?_⟩; gi_at_call 21; refine (callsIn_wide.2 cT).mono ?_; rintro e w1 ⟨rfl, g1⟩)
  refine ⟨.tuple #[.int .i64 n, .int .i64 0], by simp [results, Try.results28, go_sem], rfl, g1⟩
set_option maxRecDepth 100000 in
set_option maxHeartbeats 4000000 in
theorem stop_mid (b u a v : Nat) (n t : Int) (w : World) (h : KinAt w b u a v) (ok : Ok u a v) (ht : ¬ t < 1) (ht2 : t ≤ 9223372036854775807) (h0 : (profI u a v n).length ≠ 0) (hl : ¬ ((profI u a v n).length : Int) ≤ t) (p s : Nat) (hp : atI u a v n t = p) (hs : velI u a v n t = s) (hp2 : p ≤ 16000) (hs1 : 1 ≤ s) (hsv : s ≤ v) :
    Calls Try.prog 28 #[.pointer (some ⟨b, 0, none⟩), .int .i64 n, .int .i64 t] w fun e w' => e = .returned (.tuple #[.int .i64 (cellsS u a p s : Nat), .int .i64 (ticksS u a v p s : Nat)]) ∧ KGo b u a v w w' := by
  have cT := time_any b u a v n w h ok
  have cA := fun (w1 : World) (h1 : KinAt w1 b u a v) => at_any b u a v n t w1 h1 ok
  have cS := fun (w1 : World) (h1 : KinAt w1 b u a v) => speed_any b u a v n t w1 h1 ok ht2
  rw [hp] at cA
  rw [hs] at cS
  have hd1 : decide (t < 1) = false := decide_eq_false ht
  obtain ⟨u1, u2, a1, a2, v1, v2⟩ := ok
  generalize (profI u a v n).length = k at *
  have hd2 : ((k : Int) == 0) = false := by rw [beq_eq_false_iff_ne]; omega
  have hu0 : ¬ (u : Int) = 0 := by omega
  have hB := brk_bound (m := 1000) a1 (show s ≤ 1000 by omega)
  obtain ⟨q1, q2⟩ := cells_bd (u := u) (a := a) (p := p) (s := s) u1
  have cB := fun (w1 : World) (h1 : KAt w1 b u a v) => brake_any b u a v s w1 h1 a1 a2 v2
  rw [cutS_nat hsv] at cB
  have EC : Hid (((p : Int) + (brk a s : Nat) + u - 1) / u = (cellsS u a p s : Nat)) := by
    unfold Hid cellsS
    rw [Int.natCast_ediv]
    congr 1
    omega
  have ET : Hid (ticksS u a v p s = (runs a v 0 (cellsS u a p s * u - p) s).length) := rfl
  generalize brk a s = B at *
  generalize cellsS u a p s = C at *
  generalize ticksS u a v p s = T at *
  clear hp hs
  refine (callsIn_wide (n := 9)).1 ?_
  refine callsIn_of_wp_marks Try.func28 rfl trivial ?_ rfl
  simp only [Try.ntmps28, List.size_toArray, List.length_cons, List.length_nil, Nat.reduceAdd, Nat.reduceSub, Array.replicate_succ, Array.replicate_zero, List.push_toArray, List.append_toArray, List.nil_append, List.cons_append]
  gi_wp2_with (first
    | (refine ⟨trivial, ?_⟩; gi_at_call 21; refine (callsIn_wide.2 cT).mono ?_; rintro e w1 ⟨rfl, g1⟩)
    | (refine ⟨trivial, ?_⟩; gi_at_call 23; refine (callsIn_wide.2 (cA w1 g1.kin)).mono ?_; rintro e w2 ⟨rfl, g2⟩)
    | (refine ⟨trivial, ?_⟩; gi_at_call 25; refine (callsIn_wide.2 (cS w2 g2.kin)).mono ?_; rintro e w3 ⟨rfl, g3⟩))
  have G3 := (g1.trans g2).trans g3
  refine wpIn_wide.2 ?_
  have ne : Nonempty (Cls (fun w' => Below w3.heap.size w3 w')) := ⟨⟨w3, Below.refl _ _⟩⟩
  have r0 : ∀ z : Cls (fun w' => Below w3.heap.size w3 w'), z.w.cell? ⟨b, 0, none⟩ = some (.int .i64 u) := fun z => (G3.kin.nums.go z.h).unit
  refine wp_region_cls (fun w' => Below w3.heap.size w3 w') (by kernel_rfl) (by kernel_rfl) (Below.refl _ _).drew ?_
  repeat (go_big_quiet_step ((go_at_call 15; exact cls_call (cB _ (G3.kin.nums.go (Cls.h _))) (fun w' hw => bcat (Cls.h _) hw))))
  refine wpQuiet_nil ?_
  rintro w4 ⟨⟨_, b4⟩, rfl⟩
  rw [EC.out]
  have K4 := G3.kin.nums.go b4
  have c4 := K4.unit
  have lt4 := K4.lt
  obtain ⟨L, hL⟩ : ∃ L, C * u - p = L := ⟨_, rfl⟩
  have m1 : (C : Int) * (u : Int) ≤ 2000000 := by rw [← Int.natCast_mul]; omega
  have m2 : 0 ≤ (C : Int) * (u : Int) := by rw [← Int.natCast_mul]; omega
  have EL : Hid ((C : Int) * (u : Int) - (p : Int) = (L : Int)) := by unfold Hid; rw [← Int.natCast_mul]; omega
  have hL2 : L ≤ 1000000 + 1000 := by omega
  rw [hL] at ET
  clear EC hL r0 ne
  have w5a : (w4.alloc (.cells #[.int .i64 0] 3)).cell? ⟨b, 0, none⟩ = some (.int .i64 u) := by rw [World.cell?_alloc_past _ _ _ lt4]; exact c4
  gi_wp2_with (refine ⟨trivial, ?_⟩; gi_at_call 38; refine (callsIn_wide.2 (steps_any b _ _ _ _)).mono ?_; rintro e V ⟨rfl, hV⟩; have HV : Hid (V = _) := hV; clear hV)
  have hV := HV.out
  clear HV
  rw [EL.out] at hV
  have sV : V.heap.size = w4.heap.size + 5 := by rw [hV]; simp
  obtain ⟨w5, hw5⟩ : ∃ w5, w4.alloc (.cells #[.int .i64 0] 3) = w5 := ⟨_, rfl⟩
  have s5 : w5.heap.size = w4.heap.size + 1 := by rw [← hw5]; simp
  have t5 : Boxed w5 w4.heap.size 3 (.int .i64 0) := by rw [← hw5]; exact Boxed.new _ _ _
  have b5 : Below w4.heap.size w4 w5 := by rw [← hw5]; exact (Below.refl _ _).alloc (Nat.le_refl _) _
  rw [hw5] at hV
  have bV : Below w5.heap.size w5 V := by rw [hV]; exact (((((Below.refl _ w5).alloc (Nat.le_refl _) _).alloc (by simp) _).alloc (by simp; omega) _).alloc (by simp; omega) _)
  have kV : Boxed V (w4.heap.size + 1) 22 (.pointer (some ⟨b, 0, none⟩)) := by
    rw [hV, ← s5]
    exact (((Boxed.new w5 _ _).alloc _).alloc _).alloc _
  have lV : Boxed V (w4.heap.size + 2) 3 (.int .i64 (L : Int)) := by
    rw [hV]
    have := Boxed.new (w5.alloc (.cells #[.pointer (some ⟨b, 0, none⟩)] 22)) 3 (.int .i64 (L : Int))
    rw [World.size_alloc, s5] at this
    exact (this.alloc _).alloc _
  have sV2 : Boxed V (w4.heap.size + 3) 3 (.int .i64 (s : Int)) := by
    rw [hV]
    have := Boxed.new ((w5.alloc (.cells #[.pointer (some ⟨b, 0, none⟩)] 22)).alloc (.cells #[.int .i64 (L : Int)] 3)) 3 (.int .i64 (s : Int))
    rw [World.size_alloc, World.size_alloc, s5] at this
    exact this.alloc _
  have rV : Boxed V (w4.heap.size + 4) 3 (.int .i64 ((0 : Nat) : Int)) := by
    rw [hV]
    have := Boxed.new (((w5.alloc (.cells #[.pointer (some ⟨b, 0, none⟩)] 22)).alloc (.cells #[.int .i64 (L : Int)] 3)).alloc (.cells #[.int .i64 (s : Int)] 3)) 3 (.int .i64 0)
    rw [World.size_alloc, World.size_alloc, World.size_alloc, s5] at this
    exact this
  have tV : Boxed V w4.heap.size 3 (.int .i64 0) := (bV.block _ t5.lt).trans t5
  have b4V := bcat b5 bV
  try rw [hw5]
  try rw [s5]
  clear hV hw5
  refine wpIn_rangeFunc_ownG rfl (by omega) (gf := 41) (lb := #[.pointer (some ⟨w4.heap.size + 2, 0, none⟩), .pointer (some ⟨w4.heap.size + 3, 0, none⟩), .pointer (some ⟨w4.heap.size + 1, 0, none⟩), .pointer (some ⟨w4.heap.size + 4, 0, none⟩)]) rfl trivial (enters_of Try.func41 (by kernel_rfl) rfl)
    (steps_stops 8 b u a v (w4.heap.size + 1) (w4.heap.size + 2) (w4.heap.size + 3) (w4.heap.size + 4) L s 0 a1 a2 v1 v2 (by omega) (by omega) (by omega) (by omega) (by omega) V (K4.go b4V) kV lV.cell sV2.cell rV) Kp.trans ?kb (Below.refl _ _) (fun _ => rfl)
    (fun pre V' => Boxed V' w4.heap.size 3 (.int .i64 (pre.length : Nat)) ∧ Below w4.heap.size w4 V') (fun _ _ _ => False)
    (cnt_own (k0 := 0) (Nat.le_refl _) (by omega)) (fun _ _ _ _ _ hs _ _ => hs)
    ⟨tV, b4V⟩
    ?a1 ?assign ?body ?done ?stop
  case kb =>
    intro W' l o o' hl ho _ _
    have hlt := (Array.getElem?_eq_some_iff.1 ho).1
    have hg := grownBy_putObj' W' l o'
    exact ⟨fun o _ => cell_same (hg.block _ (by omega) (fun e => by cases e; omega)), hg.block _ (by omega) (fun e => by cases e; omega), hg.block _ (by omega) (fun e => by cases e; omega)⟩
  case assign =>
    intro l q V' K hK
    simp only [encq]
    gi_wp2
    exact hK
  case body =>
    rintro l pre q V' ⟨hI, hB'⟩ hlt
    have hrl := (runs_len (a := a) (v := v) (rise := 0) (left := L) (s := s) a1 v1 (by omega)).1
    have hpl : pre.length ≤ 2000000 := by omega
    have hcP := hI.cell
    have hfP := hI.frozen
    gi_wp2
    have hle : ((pre.length : Nat) : Int) + 1 = (((pre ++ [q]).length : Nat) : Int) := by simp
    rw [hle]
    refine ⟨(KeepsOthers.setCell _ _ _).from _, ⟨fun o _ => cell_same (Below.heap_setCell _ _ _ _ (by show b ≠ w4.heap.size; omega)), Below.heap_setCell _ _ _ _ (by show w4.heap.size + 1 ≠ w4.heap.size; omega), Below.heap_setCell _ _ _ _ (by show w4.heap.size + 4 ≠ w4.heap.size; omega)⟩, hI.set _, hB'.setCell (p := ⟨w4.heap.size, 0, none⟩) (Nat.le_refl _) _⟩
  case done =>
    rintro D ys V' hD hys ⟨hI, hB'⟩ hKD
    have hlen : ys.length = T := by
      have := congrArg List.length hys
      rw [List.length_map] at this
      rw [ET.out]
      exact this
    rw [hlen] at hI
    gi_wp2
    refine wpIn_wide.2 ?_
    have ne : Nonempty (Cls (fun w' => Below V'.heap.size V' w')) := ⟨⟨V', Below.refl _ _⟩⟩
    have r0 : ∀ z : Cls (fun w' => Below V'.heap.size V' w'), z.w.cell? ⟨w4.heap.size, 0, none⟩ = some (.int .i64 T) := fun z => (z.h.cell (p := ⟨w4.heap.size, 0, none⟩) hI.lt).trans hI.cell
    refine wp_region_cls (fun w' => Below V'.heap.size V' w') (by kernel_rfl) (by kernel_rfl) (Below.refl _ _).drew ?_
    repeat (go_big_quiet_step (fail))
    refine wpQuiet_nil ?_
    rintro w6 ⟨⟨_, b6⟩, rfl⟩
    have hK6 : w6.heap[D]? = some (.deferred (some [])) := (b6.block D (Array.getElem?_eq_some_iff.1 hKD).1).trans hKD
    clear r0 ne
    gi_wp2
    refine ⟨by simp, .inl ⟨_, _, rfl, run_takeDeferred hK6, ?_⟩⟩
    refine ⟨.tuple #[.int .i64 C, .int .i64 T], by simp [results, Try.results28, go_sem], rfl, ?_⟩
    have bX : Below w4.heap.size w4 w6 := hB'.trans (b6.mono hB'.size)
    have gX := grownBy_putObj' w6 D (.deferred none)
    exact (G3.then b4).then (bX.grown gX bX.size (fun k e => by cases e; omega))
  case stop =>
    rintro D c pre V' _ _ h _
    exact h.elim
/- Stop, at any arguments. -/
theorem vel_bd {u a v n t : Nat} (ok : Ok u a v) (h1 : 1 ≤ t) (h2 : t ≤ (spd u a v n).length) : 1 ≤ vel u a v n t ∧ vel u a v n t ≤ v := by
  obtain ⟨m, rfl⟩ : ∃ m, t = m + 1 := ⟨t - 1, by omega⟩
  rw [vel_succ (by omega)]
  have st := spd_step (u := u) (n := n) ok.a1 ok.v1 (i := m) (by omega)
  exact ⟨st.pos, st.top⟩
theorem stop_any (b u a v : Nat) (n t : Int) (w : World) (h : KinAt w b u a v) (ok : Ok u a v) (ht2 : t ≤ 9223372036854775807) :
    Calls Try.prog 28 #[.pointer (some ⟨b, 0, none⟩), .int .i64 n, .int .i64 t] w fun e w' => e = .returned (.tuple #[.int .i64 (stopC u a v n t : Nat), .int .i64 (stopT u a v n t : Nat)]) ∧ KGo b u a v w w' := by
  unfold stopC stopT
  by_cases h1 : t < 1 ∨ (profI u a v n).length = 0
  · rw [if_pos h1, if_pos h1]
    exact stop_low b u a v n t w h ok h1
  · rw [if_neg h1, if_neg h1]
    have hz : ¬ (profI u a v n).length = 0 := fun e => h1 (Or.inr e)
    have hn := (not_congr (prof_zero ok)).1 hz
    have ht : ¬ t < 1 := fun e => h1 (Or.inl e)
    by_cases h2 : ((profI u a v n).length : Int) ≤ t
    · rw [if_pos h2, if_pos h2]
      have := stop_end b u a v n t w h ok ht hz h2
      rw [show ((n.toNat : Nat) : Int) = n by omega]
      exact this
    · rw [if_neg h2, if_neg h2]
      have hv : 1 ≤ velI u a v n t ∧ velI u a v n t ≤ v := by
        obtain ⟨m, rfl⟩ := Int.eq_ofNat_of_zero_le (show 0 ≤ n by omega)
        obtain ⟨t', rfl⟩ := Int.eq_ofNat_of_zero_le (show 0 ≤ t by omega)
        rw [velI_in ok (by omega) (by omega)]
        rw [profI_in (by omega) (by omega), prof_len] at h2
        exact vel_bd ok (by omega) (by omega)
      exact stop_mid b u a v n t w h ok ht ht2 hz h2 _ _ rfl rfl (atI_le ok n t).2 hv.1 hv.2
end Go.Proofs.Ytjblplaaogbkiaa.Kin
