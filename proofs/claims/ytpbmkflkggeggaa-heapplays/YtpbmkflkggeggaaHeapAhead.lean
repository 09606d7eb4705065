/-
  Which of two items comes ahead.
-/
import Derived.Test.YtpbmkflkggeggaaHeapMem
namespace Go.Proofs.Ytpbmkflkggeggaa.Hp
set_option linter.unusedVariables false
set_option linter.unusedSimpArgs false
open Go Go.RowKit Go.Shelf Go.Proofs
attribute [local go_sem] Oper.semAt_some
set_option maxHeartbeats 2000000 in
theorem ahead_any (B b : Nat) (v : Value) (l : List It) (c : Nat) (w : World) (h : HAt B w b v l c) (i j : Nat) (hi : i < l.length) (hj : j < l.length) :
    Calls Try.prog 46 #[.pointer (some ⟨b, 0, none⟩), .int .i64 i, .int .i64 j] w fun e w' => e = .returned (.bool (ahB l[i] l[j])) ∧ Below w.heap.size w w' := by
  obtain ⟨g, cap, rfl, hgb, hgl, hBg, hlc, hcm, hfz, hc⟩ := h.form (by omega)
  obtain ⟨i0, i1, i2⟩ := hc i hi
  obtain ⟨j0, j1, j2⟩ := hc j hj
  have hbl := h.lt
  have h0 := h.less
  have h1 := h.items
  have hi' : (i : Int) < (l.length : Int) := by omega
  have hj' : (j : Int) < (l.length : Int) := by omega
  clear hc h
  generalize l[i] = a at *
  generalize l[j] = z at *
  clear hi hj
  generalize l.length = n at *
  by_cases ht : a.t < z.t
  · have ht' : (a.t : Int) < (z.t : Int) := by omega
    have hres : ahB a z = !(decide (z.k < a.k)) := if_pos ht
    rw [hres]
    have cL := fun w1 => less_any z.k a.k z.n a.n w1
    generalize decide (z.k < a.k) = r at *
    clear ht hres
    go_enter Try.func46, Try.ntmps46
    go_wp2
    go_region
    · go_wp2
      obtain ⟨W1, hW1⟩ : ∃ W1, ((w.alloc (.cells #[.int .i64 a.k, .int .i64 a.n, .int .i64 (a.t : Nat)] 65)).alloc (.cells #[.int .i64 z.k, .int .i64 z.n, .int .i64 (z.t : Nat)] 65)).drew = W1 := ⟨_, rfl⟩
      rw [hW1]
      have bW : Below w.heap.size w W1 := by rw [← hW1]; exact (((Below.refl _ _).alloc (Nat.le_refl _) _).alloc (by simp) _).drew
      have p0 : W1.cell? ⟨w.heap.size, 0, none⟩ = some (.int .i64 a.k) := by rw [← hW1]; simp
      have p1 : W1.cell? ⟨w.heap.size, 1, none⟩ = some (.int .i64 a.n) := by rw [← hW1]; simp
      have q0 : W1.cell? ⟨w.heap.size + 1, 0, none⟩ = some (.int .i64 z.k) := by rw [← hW1]; simp
      have q1 : W1.cell? ⟨w.heap.size + 1, 1, none⟩ = some (.int .i64 z.n) := by rw [← hW1]; simp
      have l0 : W1.cell? ⟨b, 0, none⟩ = some LessV := (bW.cell (p := ⟨b, 0, none⟩) hbl).trans h0
      unfold LessV at l0
      clear hW1
      refine wp_region_cls (fun w' => Below W1.heap.size W1 w') (by kernel_rfl) (by kernel_rfl) (Below.refl _ _).drew ?_
      have P0 := fun u : Cls (fun w' => Below W1.heap.size W1 w') => (u.h.cell (p := ⟨w.heap.size, 0, none⟩) (World.block_lt_of_cell? W1 _ p0)).trans p0
      have P1 := fun u : Cls (fun w' => Below W1.heap.size W1 w') => (u.h.cell (p := ⟨w.heap.size, 1, none⟩) (World.block_lt_of_cell? W1 _ p1)).trans p1
      have Q0 := fun u : Cls (fun w' => Below W1.heap.size W1 w') => (u.h.cell (p := ⟨w.heap.size + 1, 0, none⟩) (World.block_lt_of_cell? W1 _ q0)).trans q0
      have Q1 := fun u : Cls (fun w' => Below W1.heap.size W1 w') => (u.h.cell (p := ⟨w.heap.size + 1, 1, none⟩) (World.block_lt_of_cell? W1 _ q1)).trans q1
      have L0 := fun u : Cls (fun w' => Below W1.heap.size W1 w') => (u.h.cell (p := ⟨b, 0, none⟩) (World.block_lt_of_cell? W1 _ l0)).trans l0
      have ne : Nonempty (Cls (fun w' => Below W1.heap.size W1 w')) := ⟨⟨W1, Below.refl _ _⟩⟩
      repeat (go_big_quiet_step ((go_at_call 12; exact cls_call (cL _) (fun w' hw => bcat (Cls.h _) hw))))
      refine wpQuiet_nil ?_
      rintro V ⟨⟨_, hV⟩, rfl⟩
      clear P0 P1 Q0 Q1 L0 ne
      go_wp2
      go_ret
      exact ⟨rfl, bcat bW hV⟩

    · go_wp2
      obtain ⟨W1, hW1⟩ : ∃ W1, ((w.alloc (.cells #[.int .i64 z.k, .int .i64 z.n, .int .i64 (z.t : Nat)] 65)).alloc (.cells #[.int .i64 a.k, .int .i64 a.n, .int .i64 (a.t : Nat)] 65)).drew = W1 := ⟨_, rfl⟩
      rw [hW1]
      have bW : Below w.heap.size w W1 := by rw [← hW1]; exact (((Below.refl _ _).alloc (Nat.le_refl _) _).alloc (by simp) _).drew
      have p0 : W1.cell? ⟨w.heap.size, 0, none⟩ = some (.int .i64 z.k) := by rw [← hW1]; simp
      have p1 : W1.cell? ⟨w.heap.size, 1, none⟩ = some (.int .i64 z.n) := by rw [← hW1]; simp
      have q0 : W1.cell? ⟨w.heap.size + 1, 0, none⟩ = some (.int .i64 a.k) := by rw [← hW1]; simp
      have q1 : W1.cell? ⟨w.heap.size + 1, 1, none⟩ = some (.int .i64 a.n) := by rw [← hW1]; simp
      have l0 : W1.cell? ⟨b, 0, none⟩ = some LessV := (bW.cell (p := ⟨b, 0, none⟩) hbl).trans h0
      unfold LessV at l0
      clear hW1
      refine wp_region_cls (fun w' => Below W1.heap.size W1 w') (by kernel_rfl) (by kernel_rfl) (Below.refl _ _).drew ?_
      have P0 := fun u : Cls (fun w' => Below W1.heap.size W1 w') => (u.h.cell (p := ⟨w.heap.size, 0, none⟩) (World.block_lt_of_cell? W1 _ p0)).trans p0
      have P1 := fun u : Cls (fun w' => Below W1.heap.size W1 w') => (u.h.cell (p := ⟨w.heap.size, 1, none⟩) (World.block_lt_of_cell? W1 _ p1)).trans p1
      have Q0 := fun u : Cls (fun w' => Below W1.heap.size W1 w') => (u.h.cell (p := ⟨w.heap.size + 1, 0, none⟩) (World.block_lt_of_cell? W1 _ q0)).trans q0
      have Q1 := fun u : Cls (fun w' => Below W1.heap.size W1 w') => (u.h.cell (p := ⟨w.heap.size + 1, 1, none⟩) (World.block_lt_of_cell? W1 _ q1)).trans q1
      have L0 := fun u : Cls (fun w' => Below W1.heap.size W1 w') => (u.h.cell (p := ⟨b, 0, none⟩) (World.block_lt_of_cell? W1 _ l0)).trans l0
      have ne : Nonempty (Cls (fun w' => Below W1.heap.size W1 w')) := ⟨⟨W1, Below.refl _ _⟩⟩
      repeat (go_big_quiet_step ((go_at_call 12; exact cls_call (cL _) (fun w' hw => bcat (Cls.h _) hw))))
      refine wpQuiet_nil ?_
      rintro V ⟨⟨_, hV⟩, rfl⟩
      clear P0 P1 Q0 Q1 L0 ne
      go_wp2
      go_ret
      exact ⟨rfl, bcat bW hV⟩

  · have ht' : ¬ (a.t : Int) < (z.t : Int) := by omega
    have hres : ahB a z = decide (a.k < z.k) := if_neg ht
    rw [hres]
    have cL := fun w1 => less_any a.k z.k a.n z.n w1
    generalize decide (a.k < z.k) = r at *
    clear ht hres
    go_enter Try.func46, Try.ntmps46
    go_wp2
    go_region
    · go_wp2
      obtain ⟨W1, hW1⟩ : ∃ W1, ((w.alloc (.cells #[.int .i64 a.k, .int .i64 a.n, .int .i64 (a.t : Nat)] 65)).alloc (.cells #[.int .i64 z.k, .int .i64 z.n, .int .i64 (z.t : Nat)] 65)).drew = W1 := ⟨_, rfl⟩
      rw [hW1]
      have bW : Below w.heap.size w W1 := by rw [← hW1]; exact (((Below.refl _ _).alloc (Nat.le_refl _) _).alloc (by simp) _).drew
      have p0 : W1.cell? ⟨w.heap.size, 0, none⟩ = some (.int .i64 a.k) := by rw [← hW1]; simp
      have p1 : W1.cell? ⟨w.heap.size, 1, none⟩ = some (.int .i64 a.n) := by rw [← hW1]; simp
      have q0 : W1.cell? ⟨w.heap.size + 1, 0, none⟩ = some (.int .i64 z.k) := by rw [← hW1]; simp
      have q1 : W1.cell? ⟨w.heap.size + 1, 1, none⟩ = some (.int .i64 z.n) := by rw [← hW1]; simp
      have l0 : W1.cell? ⟨b, 0, none⟩ = some LessV := (bW.cell (p := ⟨b, 0, none⟩) hbl).trans h0
      unfold LessV at l0
      clear hW1
      refine wp_region_cls (fun w' => Below W1.heap.size W1 w') (by kernel_rfl) (by kernel_rfl) (Below.refl _ _).drew ?_
      have P0 := fun u : Cls (fun w' => Below W1.heap.size W1 w') => (u.h.cell (p := ⟨w.heap.size, 0, none⟩) (World.block_lt_of_cell? W1 _ p0)).trans p0
      have P1 := fun u : Cls (fun w' => Below W1.heap.size W1 w') => (u.h.cell (p := ⟨w.heap.size, 1, none⟩) (World.block_lt_of_cell? W1 _ p1)).trans p1
      have Q0 := fun u : Cls (fun w' => Below W1.heap.size W1 w') => (u.h.cell (p := ⟨w.heap.size + 1, 0, none⟩) (World.block_lt_of_cell? W1 _ q0)).trans q0
      have Q1 := fun u : Cls (fun w' => Below W1.heap.size W1 w') => (u.h.cell (p := ⟨w.heap.size + 1, 1, none⟩) (World.block_lt_of_cell? W1 _ q1)).trans q1
      have L0 := fun u : Cls (fun w' => Below W1.heap.size W1 w') => (u.h.cell (p := ⟨b, 0, none⟩) (World.block_lt_of_cell? W1 _ l0)).trans l0
      have ne : Nonempty (Cls (fun w' => Below W1.heap.size W1 w')) := ⟨⟨W1, Below.refl _ _⟩⟩
      repeat (go_big_quiet_step ((go_at_call 12; exact cls_call (cL _) (fun w' hw => bcat (Cls.h _) hw))))
      refine wpQuiet_nil ?_
      rintro V ⟨⟨_, hV⟩, rfl⟩
      clear P0 P1 Q0 Q1 L0 ne
      go_wp2
      go_ret
      exact ⟨rfl, bcat bW hV⟩

    · go_wp2
      obtain ⟨W1, hW1⟩ : ∃ W1, ((w.alloc (.cells #[.int .i64 z.k, .int .i64 z.n, .int .i64 (z.t : Nat)] 65)).alloc (.cells #[.int .i64 a.k, .int .i64 a.n, .int .i64 (a.t : Nat)] 65)).drew = W1 := ⟨_, rfl⟩
      rw [hW1]
      have bW : Below w.heap.size w W1 := by rw [← hW1]; exact (((Below.refl _ _).alloc (Nat.le_refl _) _).alloc (by simp) _).drew
      have p0 : W1.cell? ⟨w.heap.size, 0, none⟩ = some (.int .i64 z.k) := by rw [← hW1]; simp
      have p1 : W1.cell? ⟨w.heap.size, 1, none⟩ = some (.int .i64 z.n) := by rw [← hW1]; simp
      have q0 : W1.cell? ⟨w.heap.size + 1, 0, none⟩ = some (.int .i64 a.k) := by rw [← hW1]; simp
      have q1 : W1.cell? ⟨w.heap.size + 1, 1, none⟩ = some (.int .i64 a.n) := by rw [← hW1]; simp
      have l0 : W1.cell? ⟨b, 0, none⟩ = some LessV := (bW.cell (p := ⟨b, 0, none⟩) hbl).trans h0
      unfold LessV at l0
      clear hW1
      refine wp_region_cls (fun w' => Below W1.heap.size W1 w') (by kernel_rfl) (by kernel_rfl) (Below.refl _ _).drew ?_
      have P0 := fun u : Cls (fun w' => Below W1.heap.size W1 w') => (u.h.cell (p := ⟨w.heap.size, 0, none⟩) (World.block_lt_of_cell? W1 _ p0)).trans p0
      have P1 := fun u : Cls (fun w' => Below W1.heap.size W1 w') => (u.h.cell (p := ⟨w.heap.size, 1, none⟩) (World.block_lt_of_cell? W1 _ p1)).trans p1
      have Q0 := fun u : Cls (fun w' => Below W1.heap.size W1 w') => (u.h.cell (p := ⟨w.heap.size + 1, 0, none⟩) (World.block_lt_of_cell? W1 _ q0)).trans q0
      have Q1 := fun u : Cls (fun w' => Below W1.heap.size W1 w') => (u.h.cell (p := ⟨w.heap.size + 1, 1, none⟩) (World.block_lt_of_cell? W1 _ q1)).trans q1
      have L0 := fun u : Cls (fun w' => Below W1.heap.size W1 w') => (u.h.cell (p := ⟨b, 0, none⟩) (World.block_lt_of_cell? W1 _ l0)).trans l0
      have ne : Nonempty (Cls (fun w' => Below W1.heap.size W1 w')) := ⟨⟨W1, Below.refl _ _⟩⟩
      repeat (go_big_quiet_step ((go_at_call 12; exact cls_call (cL _) (fun w' hw => bcat (Cls.h _) hw))))
      refine wpQuiet_nil ?_
      rintro V ⟨⟨_, hV⟩, rfl⟩
      clear P0 P1 Q0 Q1 L0 ne
      go_wp2
      go_ret
      exact ⟨rfl, bcat bW hV⟩

end Go.Proofs.Ytpbmkflkggeggaa.Hp
