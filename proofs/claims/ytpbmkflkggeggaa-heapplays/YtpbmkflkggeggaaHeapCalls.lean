/-
  Pop, Peek, Len, New.
-/
import Derived.Test.YtpbmkflkggeggaaHeapTake
import Derived.Test.YtpbmkflkggeggaaHeapPush
namespace Go.Proofs.Ytpbmkflkggeggaa.Hp
set_option linter.unusedVariables false
set_option linter.unusedSimpArgs false
open Go Go.RowKit Go.Shelf Go.Proofs
attribute [local go_sem] Oper.semAt_some

theorem HpAt.small {B : Nat} {w : World} {b : Nat} {v : Value} {s : List It} {c : Nat} (h : HpAt B w b v s c) : v.ownBlock ≠ some b := by obtain ⟨l, h, _⟩ := h; exact h.apart
theorem eql_less (u : World) : (binOp .eql 28 (.func (.func 12) #[] #[]) .nilFunc).run Try.prog u = .ok (.bool false) u := by kernel_rfl
set_option maxRecDepth 100000 in
theorem new_any (B : Nat) (w : World) (hB : B ≤ w.heap.size) : Calls Try.prog 11 #[LessV] w fun e w' => e = .returned (.pointer (some ⟨w.heap.size, 0, none⟩)) ∧ HpAt B w' w.heap.size (.slice none 0 0) [] 0 ∧ Below w.heap.size w w' := by
  unfold LessV
  have eq0 := eql_less
  go_enter Try.func11, Try.ntmps11
  go_wp2
  go_ret
  refine ⟨rfl, ⟨[], ⟨by simp [LessV], by simp, by simp, fun o => by simp, World.ownsRow_nil _ _ _ _, fun e => (by cases e), hB⟩, Holds.nil 0⟩, (Below.refl _ _).alloc (Nat.le_refl _) _⟩
theorem len_any (B b : Nat) (v : Value) (s : List It) (c : Nat) (w : World) (h : HpAt B w b v s c) : Calls Try.prog 26 #[.pointer (some ⟨b, 0, none⟩)] w fun e w' => e = .returned (.int .i64 (s.length : Nat)) ∧ w' = w := by
  obtain ⟨l, h, hh⟩ := h
  obtain ⟨va, vc, rfl, _⟩ := own_form h.row
  have h1 := h.items
  rw [← hh.len]
  generalize l.length = n at *
  clear h hh
  go_enter Try.func26, Try.ntmps26
  go_wp2
  go_ret
  exact ⟨rfl, rfl⟩
theorem peek_none (B b : Nat) (v : Value) (c : Nat) (w : World) (h : HpAt B w b v [] c) : Calls Try.prog 18 #[.pointer (some ⟨b, 0, none⟩)] w fun e w' => e = .returned (.tuple #[.agg #[.int .i64 0, .int .i64 0], .bool false]) ∧ Below w.heap.size w w' := by
  obtain ⟨l, h, hh⟩ := h
  obtain ⟨va, vc, rfl, _⟩ := own_form h.row
  have h1 := h.items
  rw [hh.len] at h1
  simp only [List.length_nil] at h1
  have hbl := h.lt
  clear h hh
  go_enter Try.func18, Try.ntmps18
  go_wp2
  refine bodyPost_ret (results_cell_tmp Try.results18 _ _ w.heap.size _ rfl (by go_simp)) rfl ⟨rfl, ?_⟩
  exact ((Below.refl _ _).alloc (Nat.le_refl _) _).alloc (by simp) _
theorem peek_some (B b : Nat) (v : Value) (x : It) (s : List It) (c : Nat) (w : World) (h : HpAt B w b v (x :: s) c) : Calls Try.prog 18 #[.pointer (some ⟨b, 0, none⟩)] w fun e w' => e = .returned (.tuple #[.agg #[.int .i64 x.k, .int .i64 x.n], .bool true]) ∧ Below w.heap.size w w' := by
  obtain ⟨l, h, hh⟩ := h
  have hl0 : 0 < l.length := by rw [hh.len]; simp
  obtain ⟨g, cap, rfl, hgb, hgl, hBg, hlc, hcm, hfz, hc⟩ := h.form hl0
  obtain ⟨i0, i1, i2⟩ := hc 0 hl0
  simp only [Nat.zero_mul, Nat.zero_add] at i0 i1 i2
  rw [hh.first hl0] at i0 i1
  have h1 := h.items
  have hbl := h.lt
  have hl1 : (0 : Int) < (l.length : Int) := by omega
  have hl2 : ((l.length : Int) == 0) = false := by rw [beq_eq_false_iff_ne]; omega
  clear h hh hc hfz i2
  generalize l.length = n at *
  go_enter Try.func18, Try.ntmps18
  go_wp2
  refine bodyPost_ret (results_cell_tmp Try.results18 _ _ w.heap.size _ rfl (by go_simp)) rfl ⟨rfl, ?_⟩
  exact (Below.refl _ _).alloc (Nat.le_refl _) _
theorem pop_none (B b : Nat) (v : Value) (c : Nat) (w : World) (h : HpAt B w b v [] c) : Calls Try.prog 16 #[.pointer (some ⟨b, 0, none⟩)] w fun e w' => e = .returned (.tuple #[.agg #[.int .i64 0, .int .i64 0], .bool false]) ∧ Below w.heap.size w w' := by
  obtain ⟨l, h, hh⟩ := h
  obtain rfl : l = [] := List.eq_nil_of_length_eq_zero hh.len
  have b0 : Below w.heap.size w (w.alloc (.cells #[.int .i64 0, .int .i64 0] 27)) := (Below.refl _ _).alloc (Nat.le_refl _) _
  have cT := take_none B b v c _ (h.go b0)
  have hbl := h.lt
  clear h hh
  go_enter Try.func16, Try.ntmps16
  go_wp2_with fail
  go_at_call 38
  refine cT.mono ?_
  rintro e w1 ⟨rfl, b1⟩
  have e0 : w1.heap[w.heap.size]? = (w.alloc (.cells #[.int .i64 0, .int .i64 0] 27)).heap[w.heap.size]? := b1.block _ (by simp)
  have y0 : w1.cell? ⟨w.heap.size, 0, none⟩ = some (.int .i64 0) := (cell_same e0).trans (by simp)
  have y1 : w1.cell? ⟨w.heap.size, 1, none⟩ = some (.int .i64 0) := (cell_same e0).trans (by simp)
  have z0 : w1.frozen? ⟨w.heap.size, 0, none⟩ = false := (frozen_same e0).trans (by simp)
  have z1 : w1.frozen? ⟨w.heap.size, 1, none⟩ = false := (frozen_same e0).trans (by simp)
  have s1 : w.heap.size < w1.heap.size := by have := b1.size; simp at this; omega
  go_wp2
  refine bodyPost_ret (results_cell_tmp Try.results16 _ _ w.heap.size _ rfl (by go_simp)) rfl ⟨rfl, ?_⟩
  have b2 := bcat b0 b1
  exact (((b2.setCell (p := ⟨w.heap.size, 0, none⟩) (Nat.le_refl _) _).setCell (p := ⟨w.heap.size, 1, none⟩) (Nat.le_refl _) _).alloc (by simp [World.setCell]; omega) _)
set_option maxHeartbeats 2000000 in
theorem pop_some (B b : Nat) (v : Value) (x : It) (s : List It) (c : Nat) (w : World) (h : HpAt B w b v (x :: s) c) (hm : s.length < 1000000) : Calls Try.prog 16 #[.pointer (some ⟨b, 0, none⟩)] w fun e w' => e = .returned (.tuple #[.agg #[.int .i64 x.k, .int .i64 x.n], .bool true]) ∧ ∃ v', HpAt B w' b v' s c ∧ Tn b v v' w w' := by
  obtain ⟨l, h, hh⟩ := h
  have hl0 : 0 < l.length := by rw [hh.len]; simp
  have b0 : Below w.heap.size w (w.alloc (.cells #[.int .i64 0, .int .i64 0] 27)) := (Below.refl _ _).alloc (Nat.le_refl _) _
  have cT := take_any B b v l c _ (h.go b0) (by rw [hh.len]; simp; omega) hl0 hh.heap
  rw [hh.first hl0] at cT
  have hbl := h.lt
  have HH : Hid (∀ l', l'.Perm (outL l hl0) → Heap l' → Holds l' s c) := fun l' p q => hh.out hl0 p q
  have ho : Hid (∀ k, v.ownBlock = some k → k < w.heap.size) := fun k hk => (own_since h.row k hk).2
  clear h hh
  go_enter Try.func16, Try.ntmps16
  go_wp2_with fail
  go_at_call 38
  refine cT.mono ?_
  rintro e w1 ⟨rfl, l1, v1, h1, p1, q1, t1⟩
  have e0 : w1.heap[w.heap.size]? = (w.alloc (.cells #[.int .i64 0, .int .i64 0] 27)).heap[w.heap.size]? := t1.block _ (by simp) (by omega) (fun e => by have := ho.out _ e; omega)
  have y0 : w1.cell? ⟨w.heap.size, 0, none⟩ = some (.int .i64 0) := (cell_same e0).trans (by simp)
  have y1 : w1.cell? ⟨w.heap.size, 1, none⟩ = some (.int .i64 0) := (cell_same e0).trans (by simp)
  have z0 : w1.frozen? ⟨w.heap.size, 0, none⟩ = false := (frozen_same e0).trans (by simp)
  have z1 : w1.frozen? ⟨w.heap.size, 1, none⟩ = false := (frozen_same e0).trans (by simp)
  have s1 : w.heap.size < w1.heap.size := by have := t1.size; simp at this; omega
  go_wp2
  refine bodyPost_ret (results_cell_tmp Try.results16 _ _ w.heap.size _ rfl (by go_simp)) rfl ⟨rfl, v1, ?_⟩
  have s9 : ((w1.setCell ⟨w.heap.size, 0, none⟩ (.int .i64 x.k)).setCell ⟨w.heap.size, 1, none⟩ (.int .i64 x.n)).heap.size = w1.heap.size := by simp [World.setCell]
  have bl : ∀ k, k ≠ w.heap.size → k < w1.heap.size → (((w1.setCell ⟨w.heap.size, 0, none⟩ (.int .i64 x.k)).setCell ⟨w.heap.size, 1, none⟩ (.int .i64 x.n)).alloc (.cells #[.int .i64 x.k, .int .i64 x.n, .int .i64 (x.t : Nat)] 65)).heap[k]? = w1.heap[k]? := fun k hk hl =>
    (((Below.refl _ _).alloc (Nat.le_refl _) _).block k (by rw [s9]; exact hl)).trans ((Below.heap_setCell _ _ _ k hk).trans (Below.heap_setCell _ _ _ k hk))
  have t2 := (Tn.below (b := b) (v := v) b0).trans t1
  have ho1 : ∀ k, v1.ownBlock = some k → k ≠ w.heap.size := fun k hk => by
    rcases t1.own k hk with q | q
    · have := ho.out k q; omega
    · simp at q; omega
  refine ⟨⟨l1, h1.same (bl b (by omega) h1.lt) (fun k hk => bl k (ho1 k hk) (own_since h1.row k hk).2), HH.out l1 p1 q1⟩, ⟨t2.os, t2.tape, t2.output, ?_, fun k hk hb hv => (bl k (by omega) (Nat.lt_of_lt_of_le hk t2.size)).trans (t2.block k hk hb hv), t2.own⟩⟩
  have := ((Below.refl _ ((w1.setCell ⟨w.heap.size, 0, none⟩ (.int .i64 x.k)).setCell ⟨w.heap.size, 1, none⟩ (.int .i64 x.n))).alloc (Nat.le_refl _) (.cells #[.int .i64 x.k, .int .i64 x.n, .int .i64 (x.t : Nat)] 65)).size
  rw [s9] at this
  exact Nat.le_trans t2.size this
end Go.Proofs.Ytpbmkflkggeggaa.Hp
