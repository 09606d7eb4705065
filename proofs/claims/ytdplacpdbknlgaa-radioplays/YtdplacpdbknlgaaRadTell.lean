/-
  All that is under way, told to the law.
-/
import Derived.Test.YtdplacpdbknlgaaRadAll
namespace Go.Proofs.Ytdplacpdbknlgaa.Lk
set_option linter.unusedVariables false
set_option linter.unusedSimpArgs false
open Go Go.RowKit Go.Shelf Go.Proofs
attribute [local go_sem] Oper.semAt_some

theorem ownT_base {w : World} {b b' : Nat} {v : Value} {l : List Tl} (hb : b' ≤ b) (h : Own w b v l) : Own w b' v l := owns_base hb h
set_option maxRecDepth 100000 in
set_option maxHeartbeats 1000000 in
theorem allIt_any {B : Nat} {w : World} {p : Nat} {v : Value} {l : List Tl} (h : RdAt 57 B w p v l) :
    Calls Try.prog 23 #[.pointer (some ⟨p, 0, none⟩)] w fun e w' => ∃ ub vu, e = .returned (.func (.func 27) #[] #[.pointer (some ⟨ub, 0, none⟩)]) ∧ w'.heap[ub]? = some (.cells #[vu] 27 (0, 0)) ∧ Own w' w.heap.size vu l ∧ (∀ k, vu.ownBlock = some k → k < ub) ∧ w.heap.size ≤ ub ∧ Below w.heap.size w w' := by
  have c0 := h.c0
  have hl := h.len
  obtain ⟨n, hn⟩ : ∃ n, l.length = n := ⟨_, rfl⟩
  obtain ⟨a, cap, rfl⟩ := own_slice h.own hn
  have cc := cloneT_any (Lies.of_own h.own) (by omega)
  have HN : Hid (l.length = n) := hn
  clear h hl hn
  go_enter Try.func23, Try.ntmps23
  go_wp2_with (first
    | (go_at_call 26; refine cc.mono ?_; rintro e w1 ⟨v1, rfl, O1, b1⟩; obtain ⟨a1, c1, rfl⟩ := own_slice O1 HN.out; have HO : Hid (Own w1 w.heap.size (.slice a1 n c1) l) := O1; have HB : Hid (Below w.heap.size w w1) := b1; clear cc O1 b1))
  go_ret
  have bb : Below w1.heap.size w1 (w1.alloc (.cells #[.slice a1 n c1] 27)) := (Below.refl _ _).alloc (Nat.le_refl _) _
  have bt := HB.out.trans (bb.mono HB.out.size)
  exact ⟨_, _, rfl, World.alloc_heap_new _ _, owns_go HO.out bb, fun k hk => (HO.out.lt k hk).2, HB.out.size, bt⟩
theorem eqlF (u : World) (p : Value) : (binOp .eql 63 (.func (.func 27) #[] #[p]) .nilFunc).run Try.prog u = .ok (.bool false) u := by kernel_rfl
set_option maxRecDepth 100000 in
set_option maxHeartbeats 2000000 in
theorem allT_any {B : Nat} {w : World} {p : Nat} {v : Value} {l : List Tl} (h : RdAt 57 B w p v l) (mo : Nat) (hmo : 1 ≤ mo) (hm2 : mo ≤ 1000000) :
    Calls Try.prog 17 #[.pointer (some ⟨p, 0, none⟩), .int .i64 mo] w fun e w' => ∃ m, e = .returned (.tuple #[m, .bool true]) ∧ Own w' w.heap.size m (l.take mo) ∧ Below w.heap.size w w' := by
  have hl := h.len
  obtain ⟨w1, hw1⟩ : ∃ w1, w.alloc (.cells #[.int .i64 mo] 3) = w1 := ⟨_, rfl⟩
  have b1 : Below w.heap.size w w1 := by rw [← hw1]; exact (Below.refl _ _).alloc (Nat.le_refl _) _
  have hx1 : w1.heap[w.heap.size]? = some (.cells #[.int .i64 mo] 3 (0, 0)) := by rw [← hw1]; exact World.alloc_heap_new _ _
  have s1 : w1.heap.size = w.heap.size + 1 := by rw [← hw1]; simp
  have cI := allIt_any (h.go b1)
  have hm1 : ¬ (mo : Int) < 1 := by omega
  obtain ⟨mb, hmb⟩ : ∃ mb, w.heap.size = mb := ⟨_, rfl⟩
  have HMB : Hid (w.heap.size = mb) := hmb
  have HX1 : Hid (w1.heap[mb]? = some (.cells #[.int .i64 mo] 3 (0, 0)) ∧ Below w.heap.size w w1 ∧ w1.heap.size = mb + 1) := ⟨by rw [← hmb]; exact hx1, b1, by rw [← hmb]; exact s1⟩
  have HK : Hid (∀ {w2 w3 w4 : World} {ub : Nat} {vu : Value}, w2.heap[ub]? = some (.cells #[vu] 27 (0, 0)) → Own w2 w1.heap.size vu l → (∀ k, vu.ownBlock = some k → k < ub) → w1.heap.size ≤ ub → Below w1.heap.size w1 w2 → w2.alloc (.cells #[.slice none 0 0] 27) = w3 → w3.alloc (.cells #[.bool true] 4) = w4 →
      w4.heap[mb]? = some (.cells #[.int .i64 mo] 3 (0, 0)) ∧ Calls Try.prog 27 #[.func (.func 24) #[] #[.pointer (some ⟨w3.heap.size, 0, none⟩), .pointer (some ⟨w2.heap.size, 0, none⟩), .pointer (some ⟨mb, 0, none⟩)], .pointer (some ⟨ub, 0, none⟩)] w4 fun e w' => e = .returned (.tuple #[]) ∧ ∃ m', Tq w (w2.heap.size + 2) mb w2.heap.size w3.heap.size (mo : Int) (l.take mo) m' w') := by
    intro w2 w3 w4 ub vu hu O2 hv hub b2 e3 e4
    have s2 := b2.size
    have b23 : Below w2.heap.size w2 w3 := by rw [← e3]; exact (Below.refl _ _).alloc (Nat.le_refl _) _
    have b34 : Below w3.heap.size w3 w4 := by rw [← e4]; exact (Below.refl _ _).alloc (Nat.le_refl _) _
    have s3 : w3.heap.size = w2.heap.size + 1 := by rw [← e3]; simp
    have s4 : w4.heap.size = w2.heap.size + 2 := by rw [← e4]; simp [s3]
    have b24 : Below w2.heap.size w2 w4 := b23.trans (b34.mono (by omega))
    have L3 : w3.heap[w2.heap.size]? = some (.cells #[.slice none 0 0] 27 (0, 0)) := by rw [← e3]; exact World.alloc_heap_new _ _
    have K4 : w4.heap[w3.heap.size]? = some (.cells #[.bool true] 4 (0, 0)) := by rw [← e4]; exact World.alloc_heap_new _ _
    have M4 : w4.heap[mb]? = some (.cells #[.int .i64 mo] 3 (0, 0)) := (b24.block _ (by omega)).trans ((b2.block _ (by omega)).trans (by rw [← hmb]; exact hx1))
    have lu : ub < w2.heap.size := (Array.getElem?_eq_some_iff.1 hu).1
    refine ⟨M4, each_any (m0 := .slice none 0 0) ⟨(b1.trans (b2.mono (by omega))).trans (b24.mono (by omega)), M4, (b34.block _ (by omega)).trans L3, K4, World.ownsRow_nil _ _ _ _, ⟨by omega, by omega⟩, ⟨by omega, by omega⟩, ⟨by omega, by omega⟩, ⟨by omega, by omega, by omega⟩, by omega⟩ hmo ((b24.block _ lu).trans hu) (owns_go O2 b24) ⟨by omega, by omega, by omega⟩ (fun k hk => by have := hv k hk; omega) hl⟩
  clear h hl b1 hx1 s1
  go_enter Try.func17, Try.ntmps17
  go_wp2_with (first
    | (go_at_call 23; refine cI.mono ?_; rintro e w2 ⟨ub, vu, rfl, hu, O2, hv, hub, b2⟩; have ef := eqlF; obtain ⟨w3, hw3⟩ : ∃ w3, w2.alloc (.cells #[.slice none 0 0] 27) = w3 := ⟨_, rfl⟩; obtain ⟨w4, hw4⟩ : ∃ w4, w3.alloc (.cells #[.bool true] 4) = w4 := ⟨_, rfl⟩; obtain ⟨M4, cE⟩ := HK.out hu O2 hv hub b2 hw3 hw4; have cm4 := cell0 M4; clear cI hu O2 hv b2 M4)
    | (go_at_call 27; refine cE.mono ?_; rintro e w5 ⟨rfl, m5, T5⟩; have cl5 := cell0 T5.bl; have ck5 := cell0 T5.bk; have HT : Hid (Tq w (w2.heap.size + 2) mb w2.heap.size w3.heap.size (mo : Int) (l.take mo) m5 w5) := T5; clear T5 cE))
  refine start_any (S := fun u => u.cell? ⟨w2.heap.size, 0, none⟩ = some m5 ∧ u.cell? ⟨w3.heap.size, 0, none⟩ = some (.bool true)) 4 rfl (by kernel_rfl) (fun u su => ⟨(cell_block (by rw [su.heap])).trans cl5, (cell_block (by rw [su.heap])).trans ck5⟩) ?_
  intro x0 sx
  have HS1 : x0.cell? ⟨w2.heap.size, 0, none⟩ = some m5 ∧ x0.cell? ⟨w3.heap.size, 0, none⟩ = some (.bool true) := ⟨(cell_block (by rw [sx.heap])).trans cl5, (cell_block (by rw [sx.heap])).trans ck5⟩
  simp only [Array.replicate_succ, Array.replicate_zero, List.push_toArray, List.nil_append, List.cons_append]
  refine take_held 0 HS1 rfl (by kernel_rfl) (by kernel_rfl) (by kernel_rfl) (fun _ _ _ h => h) (by kernel_rfl) (v := m5) ?y100 ?r100
  case y100 => (intro u hu; have z1 := hu.1; go_simp; try rfl)
  simp only [Act.put, List.setIfInBounds_toArray, List.set_cons_zero, List.set_cons_succ]
  refine take_held 1 HS1 rfl (by kernel_rfl) (by kernel_rfl) (by kernel_rfl) (fun _ _ _ h => h) (by kernel_rfl) (v := .bool true) ?y101 ?r101
  case y101 => (intro u hu; have z1 := hu.2; go_simp; try rfl)
  simp only [Act.put, List.setIfInBounds_toArray, List.set_cons_zero, List.set_cons_succ]
  refine take_held 2 HS1 rfl (by kernel_rfl) (by kernel_rfl) (by kernel_rfl) (fun _ _ _ h => h) (by kernel_rfl) (v := ?v102) ?y102 ?r102
  case y102 => (intro u hu; go_simp; try rfl)
  simp only [Act.put, List.setIfInBounds_toArray, List.set_cons_zero, List.set_cons_succ]
  refine take_held 3 HS1 rfl (by kernel_rfl) (by kernel_rfl) (by kernel_rfl) (fun _ _ _ h => h) (by kernel_rfl) (v := ?v103) ?y103 ?r103
  case y103 => (intro u hu; go_simp; try rfl)
  simp only [Act.put, List.setIfInBounds_toArray, List.set_cons_zero, List.set_cons_succ]
  refine done_held (by kernel_rfl) ?_ _
  have HB : Hid (Below w5.heap.size w5 x0) := sx.below _
  clear HS1 cl5 ck5 sx
  go_wp2_with fail
  go_ret2
  exact ⟨m5, rfl, owns_go (ownT_base (by have := HT.out.lm.2; have := HT.out.lm.1; have := HT.out.ll.2; omega) HT.out.own) HB.out, HT.out.below.trans (HB.out.mono HT.out.below.size)⟩
end Go.Proofs.Ytdplacpdbknlgaa.Lk
