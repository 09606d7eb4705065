/-
  The chapter's own answers, further: how many ticks, the place, the speed, the stop.
-/
import Derived.Test.YtjblplaaogbkiaaKinRef
import Derived.Test.YtjblplaaogbkiaaKinFacts
namespace Go.Proofs.Ytjblplaaogbkiaa.Kin
set_option linter.unusedVariables false
set_option linter.unusedSimpArgs false
open Go Go.RowKit Go.Shelf Go.Proofs
attribute [local go_sem] Oper.semAt_some

theorem box_cell {w w3 : World} {u a v : Nat} (b3 : Below (w.alloc (.cells #[.int .i64 u, .int .i64 a, .int .i64 v] 24)).heap.size (w.alloc (.cells #[.int .i64 u, .int .i64 a, .int .i64 v] 24)) w3) : w3.cell? ⟨w.heap.size, 0, none⟩ = some (.int .i64 u) ∧ w3.cell? ⟨w.heap.size, 1, none⟩ = some (.int .i64 a) ∧ w3.cell? ⟨w.heap.size, 2, none⟩ = some (.int .i64 v) :=
  ⟨(b3.cell (p := ⟨w.heap.size, 0, none⟩) (by simp)).trans (by simp), (b3.cell (p := ⟨w.heap.size, 1, none⟩) (by simp)).trans (by simp), (b3.cell (p := ⟨w.heap.size, 2, none⟩) (by simp)).trans (by simp)⟩
set_option maxHeartbeats 2000000 in
theorem refProfile_any (u a v : Nat) (n : Int) (w : World) (ok : Ok u a v) :
    Calls Try.prog 20 #[.agg #[.int .i64 u, .int .i64 a, .int .i64 v], .int .i64 n] w fun e w' => ∃ x, e = .returned x ∧ w'.ownsRow w.heap.size 3 1 x (profI u a v n).length (ints (profI u a v n)) ∧ Below w.heap.size w w' := by
  by_cases hn : 1 ≤ n ∧ n ≤ 16
  · obtain ⟨m, rfl⟩ := Int.eq_ofNat_of_zero_le (show 0 ≤ n by omega)
    rw [profI_in (by omega) (by omega), prof_len]
    exact refProfile_in u a v m w ok (by omega) (by omega)
  · rw [profI_out (by omega)]
    have bb : Below w.heap.size w (w.alloc (.cells #[.int .i64 u, .int .i64 a, .int .i64 v] 24)) := (Below.refl _ _).alloc (Nat.le_refl _) _
    clear ok
    by_cases h1 : n < 1
    · go_enter Try.func20, Try.ntmps20
      go_wp2
      go_ret
      exact ⟨_, rfl, World.ownsRow_nil _ _ _ _, bb⟩
    · have h2 : 16 < n := by omega
      have h3 : decide (n < 1) = false := decide_eq_false h1
      go_enter Try.func20, Try.ntmps20
      go_wp2
      go_ret
      exact ⟨_, rfl, World.ownsRow_nil _ _ _ _, bb⟩
set_option maxHeartbeats 2000000 in
theorem refTime_any (u a v : Nat) (n : Int) (w : World) (ok : Ok u a v) :
    Calls Try.prog 22 #[.agg #[.int .i64 u, .int .i64 a, .int .i64 v], .int .i64 n] w fun e w' => e = .returned (.int .i64 ((profI u a v n).length : Nat)) ∧ Below w.heap.size w w' := by
  have cP := fun w1 => refProfile_any u a v n w1 ok
  generalize (profI u a v n).length = k at *
  generalize ints (profI u a v n) = xs at *
  have bb : Below w.heap.size w (w.alloc (.cells #[.int .i64 u, .int .i64 a, .int .i64 v] 24)) := (Below.refl _ _).alloc (Nat.le_refl _) _
  go_enter Try.func22, Try.ntmps22
  go_wp2_with (go_at_call 20; refine (cP _).mono ?_; rintro e w3 ⟨x, rfl, r3, b3⟩; obtain ⟨xa, xc, rfl, _⟩ := own_form r3)
  go_ret
  exact ⟨rfl, bb.trans (b3.mono bb.size)⟩
set_option maxHeartbeats 4000000 in
theorem refAt_any (u a v : Nat) (n t : Int) (w : World) (ok : Ok u a v) :
    Calls Try.prog 24 #[.agg #[.int .i64 u, .int .i64 a, .int .i64 v], .int .i64 n, .int .i64 t] w fun e w' => e = .returned (.int .i64 (atI u a v n t : Nat)) ∧ Below w.heap.size w w' := by
  have cP := fun w1 => refProfile_any u a v n w1 ok
  have bb : Below w.heap.size w (w.alloc (.cells #[.int .i64 u, .int .i64 a, .int .i64 v] 24)) := (Below.refl _ _).alloc (Nat.le_refl _) _
  by_cases ht : t < 1
  · rw [atI_low ht]
    generalize (profI u a v n).length = k at *
    generalize ints (profI u a v n) = xs at *
    go_enter Try.func24, Try.ntmps24
    go_wp2_with (go_at_call 20; refine (cP _).mono ?_; rintro e w3 ⟨x, rfl, r3, b3⟩; obtain ⟨xa, xc, rfl, _⟩ := own_form r3)
    go_ret
    exact ⟨rfl, bb.trans (b3.mono bb.size)⟩
  · have hd1 : decide (t < 1) = false := decide_eq_false ht
    by_cases h0 : (profI u a v n).length = 0
    · have e0 : atI u a v n t = 0 := atI_out ((prof_zero ok).1 h0)
      rw [e0]
      rw [h0] at cP
      generalize ints (profI u a v n) = xs at *
      clear h0 e0
      go_enter Try.func24, Try.ntmps24
      go_wp2_with (go_at_call 20; refine (cP _).mono ?_; rintro e w3 ⟨x, rfl, r3, b3⟩; obtain ⟨xa, xc, rfl, _⟩ := own_form r3)
      go_ret
      exact ⟨rfl, bb.trans (b3.mono bb.size)⟩
    · have hn := (not_congr (prof_zero ok)).1 h0
      obtain ⟨m, rfl⟩ := Int.eq_ofNat_of_zero_le (show 0 ≤ n by omega)
      obtain ⟨T, rfl⟩ := Int.eq_ofNat_of_zero_le (show 0 ≤ t by omega)
      rw [atI_in ok (by omega) (by omega)]
      have hl := spd_bd ok (n := m) (by omega) (by omega)
      rw [timeI (by omega) (by omega), profI_in (by omega) (by omega)] at cP
      have hd2 : (((spd u a v m).length : Int) == 0) = false := by rw [beq_eq_false_iff_ne]; omega
      have hnu := mul_small (n := m) (by omega) ok.u2
      obtain ⟨X, hX⟩ : ∃ X, m * u = X := ⟨_, rfl⟩
      have eX : (m : Int) * (u : Int) = (X : Int) := by rw [← Int.natCast_mul, hX]
      rw [hX] at hnu
      by_cases hle : (spd u a v m).length ≤ T
      · have e0 : pos u a v m T = X := by rw [← hX]; exact pos_end ok.a1 ok.v1 hle
        rw [e0]
        generalize (spd u a v m).length = k at *
        generalize ints (prof u a v m) = xs at *
        have hle2 : (k : Int) ≤ T := by omega
        clear e0 hX
        go_enter Try.func24, Try.ntmps24
        go_wp2_with (go_at_call 20; refine (cP _).mono ?_; rintro e w3 ⟨x, rfl, r3, b3⟩; obtain ⟨xa, xc, rfl, _⟩ := own_form r3; have c0 := (box_cell b3).1)
        go_ret
        exact ⟨rfl, bb.trans (b3.mono bb.size)⟩
      · obtain ⟨j, rfl⟩ : ∃ j, T = j + 1 := ⟨T - 1, by omega⟩
        have cP' : ∀ w1 : World, Calls Try.prog 20 #[.agg #[.int .i64 u, .int .i64 a, .int .i64 v], .int .i64 m] w1 fun e w' => ∃ g c, e = .returned (.slice (some ⟨g, 0, none⟩) (spd u a v m).length c) ∧ w'.cell? ⟨g, j, none⟩ = some (.int .i64 (pos u a v m (j + 1) : Nat)) ∧ Below w1.heap.size w1 w' := by
          intro w1
          refine (cP w1).mono ?_
          rintro e w' ⟨x, rfl, r1, b1⟩
          rcases r1.2 with ⟨_, q⟩ | ⟨g, c, cur, rfl, _⟩
          · omega
          · refine ⟨g, c, rfl, ?_, b1⟩
            rw [r1.cellAt j (by omega)]
            unfold ints
            rw [List.getElem?_map, prof_get (by omega)]
            rfl
        generalize pos u a v m (j + 1) = z at *
        generalize (spd u a v m).length = k at *
        have hle2 : ¬ ((k : Int) ≤ (j : Int) + 1) := by omega
        have hd3 : decide ((j : Int) + 1 < 1) = false := decide_eq_false (by omega)
        clear cP hX ok
        go_enter Try.func24, Try.ntmps24
        go_wp2_with (go_at_call 20; refine (cP' _).mono ?_; rintro e w3 ⟨g, c, rfl, cz, b3⟩)
        go_ret
        exact ⟨rfl, bb.trans (b3.mono bb.size)⟩
set_option maxHeartbeats 4000000 in
theorem refSpeed_any (u a v : Nat) (n t : Int) (w : World) (ok : Ok u a v) (ht2 : t ≤ 9223372036854775807) :
    Calls Try.prog 26 #[.agg #[.int .i64 u, .int .i64 a, .int .i64 v], .int .i64 n, .int .i64 t] w fun e w' => e = .returned (.int .i64 (velI u a v n t : Nat)) ∧ Below w.heap.size w w' := by
  have bb : Below w.heap.size w (w.alloc (.cells #[.int .i64 u, .int .i64 a, .int .i64 v] 24)) := (Below.refl _ _).alloc (Nat.le_refl _) _
  by_cases ht : t < 1
  · have e : velI u a v n t = 0 := if_pos ht
    rw [e]
    go_enter Try.func26, Try.ntmps26
    go_wp2
    go_ret
    exact ⟨rfl, bb⟩
  · have e : velI u a v n t = atI u a v n t - atI u a v n (t - 1) := if_neg ht
    have hm := atI_mono ok n (show t - 1 ≤ t by omega)
    have hb := (atI_le ok n t).2
    have c1 := fun w1 => refAt_any u a v n t w1 ok
    have c2 := fun w1 => refAt_any u a v n (t - 1) w1 ok
    rw [e]
    generalize atI u a v n t = p at *
    generalize atI u a v n (t - 1) = q at *
    clear e
    obtain ⟨s, hs⟩ : ∃ s, t - 1 = s := ⟨_, rfl⟩
    rw [hs] at c2
    go_enter Try.func26, Try.ntmps26
    go_wp2
    obtain ⟨w2, hw2⟩ : ∃ w2, w.alloc (.cells #[.int .i64 u, .int .i64 a, .int .i64 v] 24) = w2 := ⟨_, rfl⟩
    have hC : w2.heap[w.heap.size]? = some (.cells #[.int .i64 u, .int .i64 a, .int .i64 v] 24 (0, 0)) := by rw [← hw2]; exact World.alloc_heap_new _ _
    rw [hw2] at bb ⊢
    clear hw2
    have lt2 : w.heap.size < w2.heap.size := (Array.getElem?_eq_some_iff.1 hC).1
    have cz : ∀ (z : Cls (fun w' => Below w2.heap.size w2 w')) (o : Nat), z.w.cell? ⟨w.heap.size, o, none⟩ = w2.cell? ⟨w.heap.size, o, none⟩ := fun z o => cell_same (z.h.block _ lt2)
    have d0 : ∀ (z : Cls (fun w' => Below w2.heap.size w2 w')), z.w.cell? ⟨w.heap.size, 0, none⟩ = some (.int .i64 u) := fun z => (cz z 0).trans (cell_of hC 0)
    have d1 : ∀ (z : Cls (fun w' => Below w2.heap.size w2 w')), z.w.cell? ⟨w.heap.size, 1, none⟩ = some (.int .i64 a) := fun z => (cz z 1).trans (cell_of hC 1)
    have d2 : ∀ (z : Cls (fun w' => Below w2.heap.size w2 w')), z.w.cell? ⟨w.heap.size, 2, none⟩ = some (.int .i64 v) := fun z => (cz z 2).trans (cell_of hC 2)
    have ne : Nonempty (Cls (fun w' => Below w2.heap.size w2 w')) := ⟨⟨w2, Below.refl _ _⟩⟩
    clear cz
    refine wp_region_cls (fun w' => Below w2.heap.size w2 w') (by kernel_rfl) (by kernel_rfl) (Below.refl _ _).drew ?_
    repeat (go_big_quiet_step (first | (go_at_call_of 24 t; exact cls_call (c1 _) (fun w' hw => bcat (Cls.h _) hw)) | (go_at_call_of 24 s; exact cls_call (c2 _) (fun w' hw => bcat (Cls.h _) hw))))
    refine wpQuiet_nil ?_
    rintro z ⟨⟨_, bz⟩, rfl⟩
    clear d0 d1 d2 ne
    go_wp2
    go_ret
    exact ⟨ret_int (by omega), bb.trans (bz.mono bb.size)⟩
end Go.Proofs.Ytjblplaaogbkiaa.Kin
