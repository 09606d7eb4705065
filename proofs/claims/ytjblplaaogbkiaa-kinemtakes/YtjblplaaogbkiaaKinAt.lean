/-
  A Kin in memory: its numbers, its sixteen profiles; places: the profile of a run, reckoned when it is first asked for.
-/
import Derived.Test.YtjblplaaogbkiaaKinPlaces
namespace Go.Proofs.Ytjblplaaogbkiaa.Kin
set_option linter.unusedVariables false
set_option linter.unusedSimpArgs false
open Go Go.RowKit Go.Shelf Go.Proofs
attribute [local go_sem] Oper.semAt_some

/- One profile. -/
structure PAt (w : World) (b off : Nat) (ps : List Nat) : Prop where
  lock : w.cell? ⟨b, off + 1, none⟩ = some (.int .i32 0)
  st : (w.cell? ⟨b, off, none⟩ = some (.int .u32 0) ∧ w.cell? ⟨b, off + 3, none⟩ = some (.slice none 0 0)) ∨
    (w.cell? ⟨b, off, none⟩ = some (.int .u32 1) ∧ ∃ x, w.cell? ⟨b, off + 3, none⟩ = some x ∧ w.ownsRow (b + 1) 3 1 x ps.length (ints ps))
structure KinAt (w : World) (b u a v : Nat) : Prop where
  nums : KAt w b u a v
  froz : ∀ o, w.frozen? ⟨b, o, none⟩ = false
  prof : ∀ n, 1 ≤ n → n ≤ 16 → PAt w b (3 + (n - 1) * 4) (prof u a v n)
theorem PAt.keep {w w' : World} {b off : Nat} {ps : List Nat} (h : PAt w b off ps) (h0 : w'.cell? ⟨b, off, none⟩ = w.cell? ⟨b, off, none⟩) (h1 : w'.cell? ⟨b, off + 1, none⟩ = w.cell? ⟨b, off + 1, none⟩) (h3 : w'.cell? ⟨b, off + 3, none⟩ = w.cell? ⟨b, off + 3, none⟩)
    (hb : ∀ k, k < w.heap.size → k ≠ b → w'.heap[k]? = w.heap[k]?) : PAt w' b off ps := by
  refine ⟨h1.trans h.lock, ?_⟩
  rcases h.st with ⟨e0, e3⟩ | ⟨e0, x, e3, hr⟩
  · exact Or.inl ⟨h0.trans e0, h3.trans e3⟩
  · exact Or.inr ⟨h0.trans e0, x, h3.trans e3, owns_same hr fun k hk => hb k (own_since hr k hk).2 (by have := (own_since hr k hk).1; omega)⟩
theorem KinAt.go {w w' : World} {b u a v : Nat} (h : KinAt w b u a v) (hb : Below w.heap.size w w') : KinAt w' b u a v := by
  have lt := h.nums.lt
  have hc : ∀ o, w'.cell? ⟨b, o, none⟩ = w.cell? ⟨b, o, none⟩ := fun o => cell_same (hb.block b lt)
  exact ⟨h.nums.go hb, fun o => (frozen_same (hb.block b lt)).trans (h.froz o), fun n h1 h2 => (h.prof n h1 h2).keep (hc _) (hc _) (hc _) (fun k hk _ => hb.block k hk)⟩
/- What a call of a Kin's method leaves. -/
structure KGo (b u a v : Nat) (w w' : World) : Prop where
  kin : KinAt w' b u a v
  grow : w.grownBy w' (some b)
theorem KGo.refl {w : World} {b u a v : Nat} (h : KinAt w b u a v) : KGo b u a v w w := ⟨h, ⟨rfl, rfl, rfl, Nat.le_refl _, fun _ _ _ => rfl⟩⟩
theorem grown_trans {a b c : World} {r : Option Nat} (h : a.grownBy b r) (k : b.grownBy c r) : a.grownBy c r :=
  ⟨k.os.trans h.os, k.tape.trans h.tape, k.output.trans h.output, Nat.le_trans h.size k.size, fun j hj hn => (k.block j (Nat.lt_of_lt_of_le hj h.size) hn).trans (h.block j hj hn)⟩
theorem KGo.trans {b u a v : Nat} {w w1 w2 : World} (h : KGo b u a v w w1) (k : KGo b u a v w1 w2) : KGo b u a v w w2 := ⟨k.kin, grown_trans h.grow k.grow⟩
theorem KGo.below {b u a v : Nat} {w w' : World} (h : KinAt w b u a v) (hb : Below w.heap.size w w') : KGo b u a v w w' := ⟨h.go hb, ⟨hb.os, hb.tape, hb.output, hb.size, fun k hk _ => hb.block k hk⟩⟩
theorem KGo.then {b u a v : Nat} {w w1 w2 : World} (h : KGo b u a v w w1) (hb : Below w1.heap.size w1 w2) : KGo b u a v w w2 := h.trans (KGo.below h.kin hb)
theorem KGo.drew {b u a v : Nat} {w w1 : World} (h : KGo b u a v w w1) : KGo b u a v w w1.drew := h.then (Below.refl _ _).drew
/- A slice of one's own stays. -/
theorem KGo.row {b u a v base : Nat} {w w' : World} {e : TypeId} {s n : Nat} {x : Value} {xs : List Value} (h : KGo b u a v w w') (hr : w.ownsRow base e s x n xs) (hb : x.ownBlock ≠ some b) : w'.ownsRow base e s x n xs :=
  owns_same hr fun k hk => h.grow.block k (own_since hr k hk).2 (fun e => hb (by rw [hk]; exact e))
theorem KGo.since {b u a v N : Nat} {w w' : World} (h : KGo b u a v w w') (hN : N ≤ b) (hN2 : N ≤ w.heap.size) : Below N w w' := ⟨h.grow.os, h.grow.tape, h.grow.output, h.grow.size, fun k hk => h.grow.block k (by omega) (fun e => by cases e; omega)⟩
set_option maxHeartbeats 1000000 in
theorem places_none (b : Nat) (n : Int) (hn : n < 1 ∨ 16 < n) (w : World) : Calls Try.prog 36 #[.pointer (some ⟨b, 0, none⟩), .int .i64 n] w fun e w' => e = .returned (.slice none 0 0) ∧ Below w.heap.size w w' := by
  have bb : Below w.heap.size w ((w.alloc (.cells #[.pointer (some ⟨b, 0, none⟩)] 22)).alloc (.cells #[.int .i64 n] 3)) := ((Below.refl _ _).alloc (Nat.le_refl _) _).alloc (by simp) _
  by_cases h1 : n < 1
  · go_enter Try.func36, Try.ntmps36
    go_wp2
    go_ret
    exact ⟨rfl, bb⟩
  · have h2 : 16 < n := by omega
    go_enter Try.func36, Try.ntmps36
    go_wp2
    go_ret
    exact ⟨rfl, bb⟩
/- Behind the first time. -/
theorem kin_done {b u a v n off : Nat} {w w1 : World} {x : Value} (h : KinAt w b u a v) (hn1 : 1 ≤ n) (hn : n ≤ 16) (hoff : 3 + (n - 1) * 4 = off) (h1 : OneCell (w.setCell ⟨b, off + 1, none⟩ (.int .i32 1)) b (off + 3) w1) (hx : w1.cell? ⟨b, off + 3, none⟩ = some x)
    (hr : w1.ownsRow w.heap.size 3 1 x (spd u a v n).length (ints (prof u a v n))) :
    KGo b u a v w ((w1.drew.setCell ⟨b, off, none⟩ (.int .u32 1)).setCell ⟨b, off + 1, none⟩ (.int .i32 0)) ∧ ((w1.drew.setCell ⟨b, off, none⟩ (.int .u32 1)).setCell ⟨b, off + 1, none⟩ (.int .i32 0)).cell? ⟨b, off + 3, none⟩ = some x ∧
    ((w1.drew.setCell ⟨b, off, none⟩ (.int .u32 1)).setCell ⟨b, off + 1, none⟩ (.int .i32 0)).ownsRow (b + 1) 3 1 x (spd u a v n).length (ints (prof u a v n)) := by
  have lt := h.nums.lt
  obtain ⟨w', hw'⟩ : ∃ w', (w1.drew.setCell ⟨b, off, none⟩ (.int .u32 1)).setCell ⟨b, off + 1, none⟩ (.int .i32 0) = w' := ⟨_, rfl⟩
  have same : ∀ k, k ≠ b → w'.heap[k]? = w1.heap[k]? := fun k hk => by rw [← hw']; exact (Below.heap_setCell _ _ _ k hk).trans (Below.heap_setCell _ _ _ k hk)
  have sz : w'.heap.size = w1.heap.size := by rw [← hw']; simp [World.setCell]
  have s0 : (w.setCell ⟨b, off + 1, none⟩ (.int .i32 1)).heap.size = w.heap.size := by simp [World.setCell]
  have sw := h1.size
  rw [s0] at sw
  have olds : ∀ k, k < w.heap.size → k ≠ b → w'.heap[k]? = w.heap[k]? := fun k hk hn => (same k hn).trans ((h1.block k (by rw [s0]; exact hk) hn).trans (Below.heap_setCell _ _ _ k hn))
  have c1 : ∀ o, o ≠ off → o ≠ off + 1 → w'.cell? ⟨b, o, none⟩ = w1.cell? ⟨b, o, none⟩ := fun o q1 q2 => by
    rw [← hw']
    refine (World.cell?_setCell_other _ _ _ _ (by intro e; cases e; exact q2 rfl)).trans ?_
    refine (World.cell?_setCell_other _ _ _ _ (by intro e; cases e; exact q1 rfl)).trans ?_
    rw [World.cell?_drew]
  have c2 : ∀ o, o ≠ off → o ≠ off + 1 → o ≠ off + 3 → w'.cell? ⟨b, o, none⟩ = w.cell? ⟨b, o, none⟩ := fun o q1 q2 q3 => (c1 o q1 q2).trans ((h1.cells o q3).trans (World.cell?_setCell_other _ _ _ _ (by intro e; cases e; exact q2 rfl)))
  have fz : ∀ o, w'.frozen? ⟨b, o, none⟩ = false := fun o => by
    rw [← hw', World.frozen?_setCell, World.frozen?_setCell, World.frozen?_drew, h1.froz o, World.frozen?_setCell]
    exact h.froz o
  have hp := h.prof n hn1 hn
  rw [hoff] at hp
  have l1 : (w.setCell ⟨b, off + 1, none⟩ (.int .i32 1)).cell? ⟨b, off + 1, none⟩ = some (.int .i32 1) := World.cell?_setCell_same _ _ _ hp.lock
  have l2 : w1.cell? ⟨b, off + 1, none⟩ = some (.int .i32 1) := (h1.cells _ (by omega)).trans l1
  have d1 : ∃ z, w1.cell? ⟨b, off, none⟩ = some z := by
    rcases hp.st with ⟨e, _⟩ | ⟨e, _⟩
    · exact ⟨_, (h1.cells off (by omega)).trans ((World.cell?_setCell_other _ _ _ _ (by intro e; cases e <;> omega)).trans e)⟩
    · exact ⟨_, (h1.cells off (by omega)).trans ((World.cell?_setCell_other _ _ _ _ (by intro e; cases e <;> omega)).trans e)⟩
  obtain ⟨z, hz⟩ := d1
  have e0 : w'.cell? ⟨b, off, none⟩ = some (.int .u32 1) := by
    rw [← hw']
    refine (World.cell?_setCell_other _ _ _ _ (by intro e; cases e <;> omega)).trans (World.cell?_setCell_same _ _ _ (u := z) ?_)
    rw [World.cell?_drew]
    exact hz
  have e1 : w'.cell? ⟨b, off + 1, none⟩ = some (.int .i32 0) := by
    rw [← hw']
    refine World.cell?_setCell_same _ _ _ (u := .int .i32 1) ((World.cell?_setCell_other _ _ _ _ (by intro e; cases e <;> omega)).trans ?_)
    rw [World.cell?_drew]
    exact l2
  have e3 : w'.cell? ⟨b, off + 3, none⟩ = some x := (c1 _ (by omega) (by omega)).trans hx
  have hr' : w'.ownsRow (b + 1) 3 1 x (spd u a v n).length (ints (prof u a v n)) := owns_same (owns_base (by omega) hr) fun k hk => same k (by have := (own_since hr k hk).1; omega)
  rw [hw']
  refine ⟨⟨⟨⟨(c2 0 (by omega) (by omega) (by omega)).trans h.nums.unit, (c2 1 (by omega) (by omega) (by omega)).trans h.nums.accel, (c2 2 (by omega) (by omega) (by omega)).trans h.nums.speed⟩, fz, fun m m1 m2 => ?_⟩, ?_⟩, e3, hr'⟩
  · by_cases hm : m = n
    · subst hm
      rw [hoff]
      exact ⟨e1, Or.inr ⟨e0, x, e3, by rw [prof_len]; exact hr'⟩⟩
    · exact (h.prof m m1 m2).keep (c2 _ (by omega) (by omega) (by omega)) (c2 _ (by omega) (by omega) (by omega)) (c2 _ (by omega) (by omega) (by omega)) olds
  · refine ⟨?_, ?_, ?_, by omega, fun k hk hn => olds k hk (fun e => hn (by rw [e]))⟩
    · rw [← hw']; exact h1.os
    · rw [← hw']; exact h1.tape
    · rw [← hw']; exact h1.output
set_option maxRecDepth 100000 in
set_option maxHeartbeats 2000000 in
theorem places_any (b u a v n : Nat) (w : World) (h : KinAt w b u a v) (hu2 : u ≤ 1000) (ha : 1 ≤ a) (ha2 : a ≤ 1000) (hv1 : 1 ≤ v) (hv : v ≤ 1000) (hn1 : 1 ≤ n) (hn : n ≤ 16) :
    Calls Try.prog 36 #[.pointer (some ⟨b, 0, none⟩), .int .i64 n] w fun e w' => ∃ x, e = .returned x ∧ w'.ownsRow (b + 1) 3 1 x (spd u a v n).length (ints (prof u a v n)) ∧ KGo b u a v w w' := by
  have lt := h.nums.lt
  obtain ⟨w2, hw2⟩ : ∃ w2, (w.alloc (.cells #[.pointer (some ⟨b, 0, none⟩)] 22)).alloc (.cells #[.int .i64 (n : Int)] 3) = w2 := ⟨_, rfl⟩
  have b2 : Below w.heap.size w w2 := by rw [← hw2]; exact ((Below.refl _ _).alloc (Nat.le_refl _) _).alloc (by simp) _
  have s2 : w2.heap.size = w.heap.size + 2 := by rw [← hw2]; simp
  have k2 : w2.cell? ⟨w.heap.size, 0, none⟩ = some (.pointer (some ⟨b, 0, none⟩)) := by rw [← hw2]; simp
  have n2 : w2.cell? ⟨w.heap.size + 1, 0, none⟩ = some (.int .i64 n) := by rw [← hw2]; simp
  have h2 := h.go b2
  obtain ⟨m, hm⟩ : ∃ m, n = m + 1 := ⟨n - 1, by omega⟩
  have hm1 : n - 1 = m := by omega
  obtain ⟨off, hoff⟩ : ∃ off, 3 + m * 4 = off := ⟨_, rfl⟩
  have HW : Hid (IntKind.i64.wrap ((n : Int) - 1) = (m : Int)) := by unfold Hid; rw [IntKind.wrap_i64]; omega
  have hm16 : (m : Int) < 16 := by omega
  have pA := h2.prof n hn1 hn
  rw [hm1, hoff] at pA
  have hlen := prof_len u a v n
  have HO : Hid (3 + m * 4 = off) := hoff
  have ho3 : 3 ≤ off := by omega
  have HN : Hid (3 + (n - 1) * 4 = off) := by unfold Hid; rw [hm1]; exact hoff
  clear hoff hm hm1
  go_enter Try.func36, Try.ntmps36
  go_wp2
  try rw [hw2]
  clear hw2
  obtain ⟨IH, hIH⟩ : ∃ I : World → Prop, I = Below w2.heap.size w2 := ⟨_, rfl⟩
  have kI : ∀ u, IH u → Below w2.heap.size w2 u := fun u hu => by rw [hIH] at hu; exact hu
  have hS : IH w2.drew := by rw [hIH]; exact (Below.refl _ _).drew
  have L0 : ∀ u, IH u → u.cell? ⟨w.heap.size, 0, none⟩ = some (.pointer (some ⟨b, 0, none⟩)) := fun u hu => ((kI u hu).cell (p := ⟨w.heap.size, 0, none⟩) (World.block_lt_of_cell? w2 _ k2)).trans k2
  have L1 : ∀ u, IH u → u.cell? ⟨w.heap.size + 1, 0, none⟩ = some (.int .i64 n) := fun u hu => ((kI u hu).cell (p := ⟨w.heap.size + 1, 0, none⟩) (World.block_lt_of_cell? w2 _ n2)).trans n2
  refine start_held (S := IH) 8 rfl (by kernel_rfl) hS ?_
  simp only [Array.replicate_succ, Array.replicate_zero, List.push_toArray, List.nil_append, List.cons_append]
  refine take_held 0 (by assumption) rfl (by kernel_rfl) (by kernel_rfl) (by kernel_rfl) (fun _ _ _ h => h) (by kernel_rfl) (v := ?v0) ?y0 ?r0
  case y0 => (intro u hu; have zz0 := L0 u hu; go_simp; try rfl)
  simp only [Act.put, List.setIfInBounds_toArray, List.set_cons_zero, List.set_cons_succ]
  refine take_held 1 (by assumption) rfl (by kernel_rfl) (by kernel_rfl) (by kernel_rfl) (fun _ _ _ h => h) (by kernel_rfl) (v := ?v1) ?y1 ?r1
  case y1 => (intro u hu; have zz0 := L1 u hu; go_simp; try rfl)
  simp only [Act.put, List.setIfInBounds_toArray, List.set_cons_zero, List.set_cons_succ]
  refine take_held 2 (by assumption) rfl (by kernel_rfl) (by kernel_rfl) (by kernel_rfl) (fun _ _ _ h => h) (by kernel_rfl) (v := ?v2) ?y2 ?r2
  case y2 => (intro u hu; have zz := HW.out; go_simp; try rfl)
  simp only [Act.put, List.setIfInBounds_toArray, List.set_cons_zero, List.set_cons_succ]
  refine take_held 3 (by assumption) rfl (by kernel_rfl) (by kernel_rfl) (by kernel_rfl) (fun _ _ _ h => h) (by kernel_rfl) (v := ?v3) ?y3 ?r3
  case y3 => (intro u hu; go_simp; try rfl)
  simp only [Act.put, List.setIfInBounds_toArray, List.set_cons_zero, List.set_cons_succ]
  refine take_held 4 (by assumption) rfl (by kernel_rfl) (by kernel_rfl) (by kernel_rfl) (fun _ _ _ h => h) (by kernel_rfl) (v := ?v4) ?y4 ?r4
  case y4 => (intro u hu; go_simp; try rfl)
  simp only [Act.put, List.setIfInBounds_toArray, List.set_cons_zero, List.set_cons_succ]
  refine take_held 5 (by assumption) rfl (by kernel_rfl) (by kernel_rfl) (by kernel_rfl) (fun _ _ _ h => h) (by kernel_rfl) (v := ?v5) ?y5 ?r5
  case y5 => (intro u hu; have zz := HO.out; go_simp; try rfl)
  simp only [Act.put, List.setIfInBounds_toArray, List.set_cons_zero, List.set_cons_succ]
  refine wpAnyH_ready (rs := [6]) (by kernel_rfl) (by simp) (AllReadyH.cons ((nth_eq _ 6).trans rfl) ?_ AllReadyH.nil)
  intro K' hK
  refine value_in hK (by kernel_rfl) (.pointer (some ⟨w2.heap.size, 0, none⟩)) (w2.drew.alloc (.cells #[.pointer none] 68)) (by go_simp; try rfl) (by rw [hIH]; exact (Below.refl _ _).drew.alloc (Nat.le_refl _) _) ?_
  simp only [Act.put, List.setIfInBounds_toArray, List.set_cons_zero, List.set_cons_succ]
  refine wpAnyH_ready (rs := [7]) (by kernel_rfl) (by simp) (AllReadyH.cons ((nth_eq _ 7).trans rfl) ?_ AllReadyH.nil)
  intro K' hK
  refine skip_in hK (by kernel_rfl) ((w2.drew.alloc (.cells #[.pointer none] 68)).setCell ⟨w2.heap.size, 0, none⟩ (.pointer (some ⟨b, off, none⟩))) (by go_simp; try rfl) (by rw [hIH]; exact ((Below.refl _ _).drew.alloc (Nat.le_refl _) _).setCell (p := ⟨w2.heap.size, 0, none⟩) (Nat.le_refl _) _) ?_
  simp only [Act.put, List.setIfInBounds_toArray, List.set_cons_zero, List.set_cons_succ]
  refine done_held (by kernel_rfl) ?_ _
  obtain ⟨w3, hw3⟩ : ∃ w3, (w2.drew.alloc (.cells #[.pointer none] 68)).setCell ⟨w2.heap.size, 0, none⟩ (.pointer (some ⟨b, off, none⟩)) = w3 := ⟨_, rfl⟩
  have b3 : Below w2.heap.size w2 w3 := by rw [← hw3]; exact ((Below.refl _ _).drew.alloc (Nat.le_refl _) _).setCell (p := ⟨w2.heap.size, 0, none⟩) (Nat.le_refl _) _
  have p3 : w3.cell? ⟨w2.heap.size, 0, none⟩ = some (.pointer (some ⟨b, off, none⟩)) := by
    rw [← hw3]
    exact World.cell?_setCell_same _ _ _ (by have := (Boxed.new w2.drew 68 (.pointer none)).cell; exact this)
  have s3 : w3.heap.size = w.heap.size + 3 := by rw [← hw3]; simp [World.setCell, s2]
  try rw [hw3]
  clear hw3 hIH kI hS L0 L1
  have h3 := h2.go b3
  have k3 : w3.cell? ⟨w.heap.size, 0, none⟩ = some (.pointer (some ⟨b, 0, none⟩)) := (b3.cell (p := ⟨w.heap.size, 0, none⟩) (World.block_lt_of_cell? w2 _ k2)).trans k2
  have n3 : w3.cell? ⟨w.heap.size + 1, 0, none⟩ = some (.int .i64 n) := (b3.cell (p := ⟨w.heap.size + 1, 0, none⟩) (World.block_lt_of_cell? w2 _ n2)).trans n2
  have b03 := bcat b2 b3
  have pA3 : PAt w3 b off (prof u a v n) := by have q := h3.prof n hn1 hn; rw [HN.out] at q; exact q
  have hmf : ∀ (fn : Fn) (first cap : Array Value) (w : World), (Instr.makeFunc fn first cap).run Try.prog w = .ok (.func fn first cap) w := fun _ _ _ _ => rfl
  have e2 : w2.heap.size = w.heap.size + 2 := s2
  rw [e2] at p3 ⊢
  clear k2 n2 pA b2 h2 h b3
  rcases pA3.st with ⟨d0, d3⟩ | ⟨d0, x, d3, hr⟩
  · obtain ⟨w4, hw4⟩ : ∃ w4, w3.setCell ⟨b, off + 1, none⟩ (.int .i32 1) = w4 := ⟨_, rfl⟩
    have c4 : ∀ p : Addr, p.block ≠ b → w4.cell? p = w3.cell? p := fun p hp => by rw [← hw4]; exact World.cell?_setCell_far _ _ _ _ (fun e => hp e.symm)
    have c4b : ∀ o, o ≠ off + 1 → w4.cell? ⟨b, o, none⟩ = w3.cell? ⟨b, o, none⟩ := fun o ho => by rw [← hw4]; exact World.cell?_setCell_other _ _ _ _ (by intro e; cases e; exact ho rfl)
    have s4 : w4.heap.size = w3.heap.size := by rw [← hw4]; simp [World.setCell]
    have hF := callsIn_wide.1 (places1_in b off u a v n w.heap.size (w.heap.size + 1) (w.heap.size + 2) w4 ⟨(c4b 0 (by omega)).trans h3.nums.unit, (c4b 1 (by omega)).trans h3.nums.accel, (c4b 2 (by omega)).trans h3.nums.speed⟩ hu2 ha ha2 hv1 hv hn1 hn
      ((c4 _ (by show w.heap.size ≠ b; omega)).trans k3) ((c4 _ (by show w.heap.size + 1 ≠ b; omega)).trans n3) ((c4 _ (by show w.heap.size + 2 ≠ b; omega)).trans p3) ho3 ((c4b _ (by omega)).trans d3) (by rw [← hw4, World.frozen?_setCell]; exact h3.froz _) (by omega))
    have cD := do_first b off (.pointer (some ⟨w.heap.size, 0, none⟩)) (.pointer (some ⟨w.heap.size + 1, 0, none⟩)) (.pointer (some ⟨w.heap.size + 2, 0, none⟩)) w3 (fun w' => OneCell w4 b (off + 3) w' ∧ ∃ x, w'.cell? ⟨b, off + 3, none⟩ = some x ∧ w'.ownsRow w4.heap.size 3 1 x (spd u a v n).length (ints (prof u a v n)))
      d0 pA3.lock (h3.froz _) (by rw [hw4]; exact hF) (fun w' hw => ⟨(hw.1.cells off (by omega)).trans ((c4b off (by omega)).trans d0), (hw.1.cells (off + 1) (by omega)).trans (by rw [← hw4]; exact World.cell?_setCell_same _ _ _ pA3.lock), (hw.1.froz _).trans (by rw [← hw4, World.frozen?_setCell]; exact h3.froz _), (hw.1.froz _).trans (by rw [← hw4, World.frozen?_setCell]; exact h3.froz _)⟩)
    have cD' : Calls Try.prog 39 #[.pointer (some ⟨b, off, none⟩), .func (.func 40) #[] #[.pointer (some ⟨w.heap.size, 0, none⟩), .pointer (some ⟨w.heap.size + 1, 0, none⟩), .pointer (some ⟨w.heap.size + 2, 0, none⟩)]] w3 fun e w' => e = .returned (.tuple #[]) ∧ ∃ x, w'.cell? ⟨w.heap.size + 2, 0, none⟩ = some (.pointer (some ⟨b, off, none⟩)) ∧ w'.cell? ⟨b, off + 3, none⟩ = some x ∧ KGo b u a v w3 w' ∧ w'.ownsRow (b + 1) 3 1 x (spd u a v n).length (ints (prof u a v n)) := by
      refine cD.mono ?_
      rintro e w' ⟨rfl, w1, ⟨q1, x, q2, q3⟩, rfl⟩
      rw [← hw4] at q1
      rw [s4] at q3
      obtain ⟨r1, r2, r3⟩ := kin_done h3 hn1 hn HN.out q1 q2 q3
      exact ⟨rfl, x, (cell_same (r1.grow.block _ (by omega) (fun e => by cases e; omega))).trans p3, r2, r1, r3⟩
    clear cD hF c4 c4b hw4 s4 d0 d3 pA3 hlen
    go_wp2_with (go_at_call 39; refine cD'.mono ?_; rintro e w5 ⟨rfl, x, p5, x5, g5, r5⟩)
    obtain ⟨xa, xc, rfl, _⟩ := own_form r5
    go_wp2
    go_ret
    exact ⟨_, rfl, r5, (KGo.below (h3.go (Below.refl _ _)) (Below.refl _ _)).trans g5 |> fun q => ⟨q.kin, grown_trans ⟨b03.os, b03.tape, b03.output, b03.size, fun k hk _ => b03.block k hk⟩ q.grow⟩⟩
  · have cD := do_done ⟨b, off, none⟩ (.func (.func 40) #[] #[.pointer (some ⟨w.heap.size, 0, none⟩), .pointer (some ⟨w.heap.size + 1, 0, none⟩), .pointer (some ⟨w.heap.size + 2, 0, none⟩)]) w3 d0
    rw [hlen] at hr
    obtain ⟨xa, xc, rfl, _⟩ := own_form hr
    go_wp2_with (go_at_call 39; refine cD.mono ?_; rintro e w5 ⟨rfl, rfl⟩)
    go_ret
    exact ⟨_, rfl, hr, ⟨h3, ⟨b03.os, b03.tape, b03.output, b03.size, fun k hk _ => b03.block k hk⟩⟩⟩
end Go.Proofs.Ytjblplaaogbkiaa.Kin
