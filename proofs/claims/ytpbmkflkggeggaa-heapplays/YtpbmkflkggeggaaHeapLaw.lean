/-
  Things that are made; the first sentence of the layer; a number within bounds.
-/
import Derived.Test.YtpbmkflkggeggaaHeapCalls
namespace Go.Proofs.Ytpbmkflkggeggaa.Hp
set_option linter.unusedVariables false
set_option linter.unusedSimpArgs false
open Go Go.RowKit Go.Shelf Go.Proofs
attribute [local go_sem] Oper.semAt_some

theorem results_cell {fn : Func} {p : Tmp} {ty : TypeId} (h : fn.results = #[.cell p ty]) (tmps : Array Value) (w : World) (N : Nat) (v : Value)
    (hp : tmps.getD p undef = .pointer (some ⟨N, 0, none⟩)) (hg : (loadVar ty ⟨N, 0, none⟩).run Try.prog w = .ok v w) :
    (results fn tmps).run Try.prog w = .ok v w := by
  have hp' : tmps[p]?.getD undef = .pointer (some ⟨N, 0, none⟩) := by simpa using hp
  simp [results, h, hp', asAddr, hg]
theorem of_any (k n : Int) (w : World) : Calls Try.prog 27 #[.int .i64 k, .int .i64 n] w fun e w' => e = .returned (.agg #[.int .i64 k, .int .i64 n]) ∧ Below w.heap.size w w' := by
  go_enter Try.func27, Try.ntmps27
  go_wp2
  refine bodyPost_ret (results_cell Try.results27 _ _ w.heap.size _ rfl (by go_simp)) rfl ⟨rfl, (Below.refl _ _).alloc (Nat.le_refl _) _⟩
theorem ins_nil (x : It) : ins x [] = [x] := rfl
theorem ins_behind {x y : It} {l : List It} (h : Bf y x) : ins x (y :: l) = y :: ins x l := by rw [ins, if_pos h]
theorem ins_ahead {x y : It} {l : List It} (h : ¬ Bf y x) : ins x (y :: l) = x :: y :: l := by rw [ins, if_neg h]
theorem awake_ins : ins (⟨1, 3, 2⟩ : It) (ins ⟨1, 2, 1⟩ (ins ⟨2, 1, 0⟩ [])) = [⟨1, 2, 1⟩, ⟨1, 3, 2⟩, ⟨2, 1, 0⟩] := by
  rw [ins_nil, ins_ahead (by simp [Bf, Ranked.K, Ranked.T]), ins_behind (by simp [Bf, Ranked.K, Ranked.T]), ins_ahead (by simp [Bf, Ranked.K, Ranked.T])]
/- What a box holds stays when a heap is turned. -/
theorem Tn.box {b : Nat} {v v' : Value} {w w' : World} (t : Tn b v v' w w') {k : Nat} (hk : k < w.heap.size) (hb : k ≠ b) (hv : v.ownBlock ≠ some k) : (∀ o, w'.cell? ⟨k, o, none⟩ = w.cell? ⟨k, o, none⟩) ∧ (∀ o, w'.frozen? ⟨k, o, none⟩ = w.frozen? ⟨k, o, none⟩) :=
  ⟨fun o => cell_same (t.block k hk hb hv), fun o => frozen_same (t.block k hk hb hv)⟩
set_option maxRecDepth 100000 in
set_option maxHeartbeats 4000000 in
theorem awake_any (w : World) : Calls Try.prog 10 #[] w fun e w' => e = .returned (.bool true) ∧ Below w.heap.size w w' := by
  obtain ⟨B, hB⟩ : ∃ B, w.heap.size = B := ⟨_, rfl⟩
  rw [hB]
  go_enter Try.func10, Try.ntmps10
  go_wp2_with fail
  go_at_call 11
  refine (new_any B _ (by omega)).mono ?_
  rintro e w1 ⟨rfl, G1, b1⟩
  rw [hB] at G1 b1 ⊢
  go_wp2_with fail
  go_at_call 27
  refine (of_any _ _ _).mono ?_
  rintro e w2 ⟨rfl, b2⟩
  go_wp2_with fail
  go_at_call 14
  refine (push_any B B _ _ _ _ _ _ (G1.go b2) (by simp) (by omega)).mono ?_
  rintro e w3 ⟨rfl, v3, G3, t3⟩
  have c3 := (b1.trans (b2.mono (by have := b1.size; omega))).trans (t3.past (G1.go b2) (by have := b1.size; have := b2.size; omega))
  go_wp2_with fail
  go_at_call 27
  refine (of_any _ _ _).mono ?_
  rintro e w4 ⟨rfl, b4⟩
  go_wp2_with fail
  go_at_call 14
  refine (push_any B B _ _ _ _ _ _ (G3.go b4) (by simp [ins]) (by omega)).mono ?_
  rintro e w5 ⟨rfl, v5, G5, t5⟩
  have c5 := (c3.trans (b4.mono (by have := c3.size; omega))).trans (t5.past (G3.go b4) (by have := c3.size; have := b4.size; omega))
  go_wp2_with fail
  go_at_call 27
  refine (of_any _ _ _).mono ?_
  rintro e w6 ⟨rfl, b6⟩
  go_wp2_with fail
  go_at_call 14
  refine (push_any B B _ _ _ _ _ _ (G5.go b6) (by rw [(ins_perm _ _).length_eq]; simp [ins]) (by omega)).mono ?_
  rintro e w7 ⟨rfl, v7, G7, t7⟩
  have c7 := (c5.trans (b6.mono (by have := c5.size; omega))).trans (t7.past (G5.go b6) (by have := c5.size; have := b6.size; omega))
  rw [awake_ins] at G7
  clear G1 G3 G5 t3 t5 t7 b1 b2 b4 b6 c3 c5
  go_wp2_with fail
  go_at_call 16
  refine (pop_some B B _ _ _ _ _ G7 (by simp)).mono ?_
  rintro e w8 ⟨rfl, v8, G8, t8⟩
  have c8 := c7.trans (t8.past G7 (by have := c7.size; omega))
  obtain ⟨X8, hX8⟩ : ∃ X, w8.alloc (.cells #[.int .i64 1, .int .i64 2] 27) = X := ⟨_, rfl⟩
  have bX8 : Below w8.heap.size w8 X8 := by rw [← hX8]; exact (Below.refl _ _).alloc (Nat.le_refl _) _
  have p0 : X8.cell? ⟨w8.heap.size, 0, none⟩ = some (.int .i64 1) := by rw [← hX8]; simp
  have p1 : X8.cell? ⟨w8.heap.size, 1, none⟩ = some (.int .i64 2) := by rw [← hX8]; simp
  have pl : w8.heap.size < X8.heap.size := by rw [← hX8]; simp
  have pb : w8.heap.size ≠ B := by have := G8.lt; omega
  have pv : v8.ownBlock ≠ some w8.heap.size := fun e => by have := (G8.own _ e).2.1; omega
  have GX8 := G8.go bX8
  have cX8 := c8.trans (bX8.mono (by have := c8.size; omega))
  clear G7 t8 c7
  go_wp2_with fail
  try rw [hX8]
  go_at_call 16
  refine (pop_some B B _ _ _ _ _ GX8 (by simp)).mono ?_
  rintro e w9 ⟨rfl, v9, G9, t9⟩
  have c9 := cX8.trans (t9.past GX8 (by have := cX8.size; omega))
  have bp := t9.box pl pb pv
  have q0 := (bp.1 0).trans p0
  have q1 := (bp.1 1).trans p1
  have ql := Nat.lt_of_lt_of_le pl t9.size
  clear G8 GX8 bX8 c8 cX8 p0 p1 pl pv t9 bp hX8
  obtain ⟨X9, hX9⟩ : ∃ X, w9.alloc (.cells #[.int .i64 1, .int .i64 3] 27) = X := ⟨_, rfl⟩
  have bX9 : Below w9.heap.size w9 X9 := by rw [← hX9]; exact (Below.refl _ _).alloc (Nat.le_refl _) _
  have r0 : X9.cell? ⟨w9.heap.size, 0, none⟩ = some (.int .i64 1) := by rw [← hX9]; simp
  have r1 : X9.cell? ⟨w9.heap.size, 1, none⟩ = some (.int .i64 3) := by rw [← hX9]; simp
  have s0 := (bX9.cell (p := ⟨w8.heap.size, 0, none⟩) ql).trans q0
  have s1 := (bX9.cell (p := ⟨w8.heap.size, 1, none⟩) ql).trans q1
  have GX9 := G9.go bX9
  have cX9 := c9.trans (bX9.mono (by have := c9.size; omega))
  clear G9 c9
  go_wp2_with fail
  try rw [hX9]
  clear hX9 bX9 q0 q1
  refine wp_region_cls (fun w' => Below X9.heap.size X9 w') (by kernel_rfl) (by kernel_rfl) (Below.refl _ _).drew ?_
  have S0 := fun u : Cls (fun w' => Below X9.heap.size X9 w') => (u.h.cell (p := ⟨w8.heap.size, 0, none⟩) (World.block_lt_of_cell? X9 _ s0)).trans s0
  have S1 := fun u : Cls (fun w' => Below X9.heap.size X9 w') => (u.h.cell (p := ⟨w8.heap.size, 1, none⟩) (World.block_lt_of_cell? X9 _ s1)).trans s1
  have R0 := fun u : Cls (fun w' => Below X9.heap.size X9 w') => (u.h.cell (p := ⟨w9.heap.size, 0, none⟩) (World.block_lt_of_cell? X9 _ r0)).trans r0
  have R1 := fun u : Cls (fun w' => Below X9.heap.size X9 w') => (u.h.cell (p := ⟨w9.heap.size, 1, none⟩) (World.block_lt_of_cell? X9 _ r1)).trans r1
  have cL := fun u : Cls (fun w' => Below X9.heap.size X9 w') => (len_any B B _ _ _ u.w (GX9.go u.h)).mono (R' := fun e w' => e = .returned (.int .i64 1) ∧ Below u.w.heap.size u.w w') (by rintro e w' ⟨rfl, rfl⟩; exact ⟨rfl, Below.refl _ _⟩)
  have ne : Nonempty (Cls (fun w' => Below X9.heap.size X9 w')) := ⟨⟨X9, Below.refl _ _⟩⟩
  repeat (go_big_quiet_step (first | (go_at_call 27; exact cls_call (of_any _ _ _) (fun w' hw => bcat (Cls.h _) hw)) | (go_at_call 26; exact cls_call (cL _) (fun w' hw => bcat (Cls.h _) hw))))
  refine wpQuiet_nil ?_
  rintro V ⟨⟨_, hV⟩, rfl⟩
  clear S0 S1 R0 R1 cL ne
  go_wp2
  go_ret
  exact ⟨rfl, cX9.trans (hV.mono (by have := cX9.size; omega))⟩
end Go.Proofs.Ytpbmkflkggeggaa.Hp
