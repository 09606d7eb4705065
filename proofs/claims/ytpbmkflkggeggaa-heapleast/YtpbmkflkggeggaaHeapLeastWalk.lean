/-
  Whatever is pushed and popped in turn: what is popped is never behind anything that is still there, and is there no more.
-/
import Derived.Test.YtpbmkflkggeggaaHeapApart
import Derived.Deep.CutRange
namespace Go.Proofs.Ytpbmkflkggeggaa.Hp
set_option linter.unusedVariables false
set_option linter.unusedSimpArgs false
open Go Go.RowKit Go.Shelf Go.Proofs
attribute [local go_sem] Oper.semAt_some

theorem run_made_op {o : Oper} {a : Act} {w w' : World} {v : Value} (t : TypeId) (l c : Operand) (ho : o.op = .makeSlice t l c) (n : Int) (hl : a.eval l = .int .i64 n) (hc : a.eval c = .int .i64 n)
    (h : (Instr.makeSlice t (.int .i64 n) (.int .i64 n)).run Try.prog w = .ok v w') : (execOp a.eval o).run Try.prog w = .ok (.value v) w' := by
  unfold execOp
  simp only [ho, hl, hc, Sem.run_bind, h, Result.andThen_ok, Sem.run_pure]
theorem wpList_mk {w w' : World} {ops : Array Oper} {rest : List Oper} {o : Oper} {a : Act} {Q : Exit → Act → World → Prop} (hgd : o.guard = none) (x : Operand) (t : TypeId) (ho : o.op = .makeSlice t x x) (n : Int) (hx : a.eval x = .int .i64 n) (v : Value)
    (hr : (Instr.makeSlice t (.int .i64 n) (.int .i64 n)).run Try.prog w = .ok v w') (h : wpList Try.prog ops Q rest (a.put o.dst v) w') : wpList Try.prog ops Q (o :: rest) a w :=
  wpList_plain hgd fun _ hK => by
    unfold Oper.wp
    rw [run_made_op t x x ho n hx hx hr]
    exact hK _ _ h

/- Is the item of that turn there? -/
def inB (s : List It) (k : Nat) : Bool := s.any fun x => x.t == k
structure Lst (ks : List Int) (i : Nat) (s : List It) : Prop where
  mem : ∀ x ∈ s, x.t < i ∧ x.n = (x.t : Int) ∧ x.k = ks.getD x.t 0
  apart : s.Pairwise fun x y => x.t ≠ y.t
theorem Lst.push {ks : List Int} {i : Nat} {s : List It} (h : Lst ks i s) : Lst ks (i + 1) (ins ⟨ks.getD i 0, i, i⟩ s) := by
  refine ⟨fun x hx => ?_, ((ins_perm _ _).pairwise_iff (fun h => fun e => h e.symm)).2 (List.pairwise_cons.2 ⟨fun y hy => ?_, h.apart⟩)⟩
  · rcases List.mem_cons.1 ((ins_perm _ _).mem_iff.1 hx) with rfl | hx
    · exact ⟨Nat.lt_succ_self _, rfl, rfl⟩
    · have := h.mem x hx
      exact ⟨by omega, this.2⟩
  · have := (h.mem y hy).1
    show i ≠ y.t
    omega
theorem Lst.tail {ks : List Int} {i : Nat} {x : It} {s : List It} (h : Lst ks i (x :: s)) : Lst ks i s := ⟨fun y hy => h.mem y (List.mem_cons_of_mem _ hy), (List.pairwise_cons.1 h.apart).2⟩
theorem in_ins (x : It) (s : List It) (k : Nat) : inB (ins x s) k = if k = x.t then true else inB s k := by
  unfold inB
  have : (ins x s).any (fun y => y.t == k) = (x :: s).any (fun y => y.t == k) := by
    rw [Bool.eq_iff_iff, List.any_eq_true, List.any_eq_true]
    exact ⟨fun ⟨y, h1, h2⟩ => ⟨y, (ins_perm x s).mem_iff.1 h1, h2⟩, fun ⟨y, h1, h2⟩ => ⟨y, (ins_perm x s).mem_iff.2 h1, h2⟩⟩
  rw [this, List.any_cons]
  by_cases e : k = x.t
  · simp [e]
  · rw [if_neg e, beq_eq_false_iff_ne.2 (fun q => e q.symm), Bool.false_or]
theorem in_tail {ks : List Int} {i : Nat} {x : It} {s : List It} (h : Lst ks i (x :: s)) (k : Nat) : inB s k = if k = x.t then false else inB (x :: s) k := by
  by_cases e : k = x.t
  · rw [if_pos e]
    unfold inB
    rw [List.any_eq_false]
    intro y hy
    have := (List.pairwise_cons.1 h.apart).1 y hy
    simp only [beq_iff_eq]
    omega
  · rw [if_neg e]
    unfold inB
    rw [List.any_cons, beq_eq_false_iff_ne.2 (fun q => e q.symm), Bool.false_or]
theorem in_mem {s : List It} {k : Nat} (h : inB s k = true) : ∃ y ∈ s, y.t = k := by
  obtain ⟨y, h1, h2⟩ := List.any_eq_true.1 h
  exact ⟨y, h1, by simpa using h2⟩
theorem count_in {s : List It} (hp : s.Pairwise fun x y => x.t ≠ y.t) (j : Nat) : s.countP (fun x => decide (x.t < j + 1)) = s.countP (fun x => decide (x.t < j)) + if inB s j then 1 else 0 := by
  induction s with
  | nil => simp [inB]
  | cons x s ih =>
    have hp' := List.pairwise_cons.1 hp
    have ih := ih hp'.2
    rw [List.countP_cons, List.countP_cons, ih]
    by_cases e : x.t = j
    · have hn : inB s j = false := by
        unfold inB
        rw [List.any_eq_false]
        intro y hy
        have := hp'.1 y hy
        simp only [beq_iff_eq]
        omega
      have hy : inB (x :: s) j = true := by unfold inB; rw [List.any_cons]; simp [e]
      rw [hn, hy]
      simp [e]
    · have hy : inB (x :: s) j = inB s j := by unfold inB; rw [List.any_cons, beq_eq_false_iff_ne.2 e, Bool.false_or]
      rw [hy]
      by_cases h1 : x.t < j
      · have h2 : x.t < j + 1 := by omega
        simp only [h1, h2, decide_true, if_true]
        omega
      · have h2 : ¬ x.t < j + 1 := by omega
        simp only [h1, h2, decide_false, Bool.false_eq_true, if_false]
        omega
theorem count_all {ks : List Int} {i : Nat} {s : List It} (h : Lst ks i s) : s.countP (fun x => decide (x.t < i)) = s.length := by
  rw [List.countP_eq_length]
  intro x hx
  exact decide_eq_true (h.mem x hx).1
theorem count_none (s : List It) : s.countP (fun x => decide (x.t < 0)) = 0 := by
  rw [List.countP_eq_zero]
  intro x _
  simp
theorem count_le {s : List It} (hp : s.Pairwise fun x y => x.t ≠ y.t) : ∀ j, s.countP (fun x => decide (x.t < j)) ≤ j
  | 0 => Nat.le_of_eq (count_none s)
  | j + 1 => by
    have := count_le hp j
    rw [count_in hp j]
    split <;> omega
theorem Lst.len {ks : List Int} {i : Nat} {s : List It} (h : Lst ks i s) : s.length ≤ i := by
  rw [← count_all h]
  exact count_le h.apart i
structure Bl (w : World) (a : Option Addr) (m : Nat) (ps : Nat → Bool) : Prop where
  cell : ∀ i, i < m → ∃ x, a = some x ∧ w.cell? (x.add i) = some (.bool (ps i))
theorem Bl.after {w w' : World} {a : Option Addr} {n : Nat} {zs : Nat → Bool} (h : Bl w a n zs) (hb : Below w.heap.size w w') : Bl w' a n zs :=
  ⟨fun i hi => by
    obtain ⟨x, hx, hc⟩ := h.cell i hi
    exact ⟨x, hx, (hb.cell (World.block_lt_of_cell? w _ hc)).trans hc⟩⟩
set_option maxRecDepth 100000 in
set_option maxHeartbeats 4000000 in
theorem least_big (a a2 : Option Addr) (n cap m cap2 : Nat) (w : World) (hn : 200 < n) : Calls Try.prog 9 #[.slice a n cap, .slice a2 m cap2] w fun e w' => e = .returned (.bool true) ∧ Below w.heap.size w w' := by
  have i0 : (200 : Int) < (n : Int) := by omega
  go_enter Try.func9, Try.ntmps9
  go_wp2_with fail
  go_at_call 10
  refine (awake_any _).mono ?_
  rintro e w1 ⟨rfl, b1⟩
  go_wp2_with fail
  go_at_call 10
  refine (awake_any _).mono ?_
  rintro e w2 ⟨rfl, b2⟩
  go_wp2
  go_ret
  exact ⟨rfl, bcat b1 b2⟩
set_option maxRecDepth 100000 in
set_option maxHeartbeats 8000000 in
theorem leastLaw_all (a a2 : Option Addr) (n cap m cap2 : Nat) (ks : List Int) (ps : Nat → Bool) (w : World) (h : Ks w a n ks) (h2 : Bl w a2 m ps) (hn : n ≤ 200) : Calls Try.prog 9 #[.slice a n cap, .slice a2 m cap2] w fun e w' => e = .returned (.bool true) ∧ Below w.heap.size w w' := by
  have i0 : ¬ (200 : Int) < (n : Int) := by omega
  obtain ⟨B, hB⟩ : ∃ B, w.heap.size = B := ⟨_, rfl⟩
  rw [hB]
  go_enter Try.func9, Try.ntmps9
  go_wp2_with fail
  go_at_call 10
  refine (awake_any _).mono ?_
  rintro e w1 ⟨rfl, b1⟩
  rw [hB] at b1
  go_wp2_with fail
  go_at_call 11
  refine (new_any B _ (by have := b1.size; omega)).mono ?_
  rintro e w2 ⟨rfl, G2, b2⟩
  obtain ⟨b, hb⟩ : ∃ b, w1.heap.size = b := ⟨_, rfl⟩
  rw [hb] at G2 b2 ⊢
  have bB : B ≤ b := by have := b1.size; omega
  have c2 := b1.trans (b2.mono bB)
  have hK : Hid (∀ w', Below B w w' → Ks w' a n ks ∧ Bl w' a2 m ps) := fun w' q => ⟨h.after (by rw [hB]; exact q), h2.after (by rw [hB]; exact q)⟩
  clear b1 b2 h h2
  have cMk := fun w1 => run_mkBool n (by omega) w1
  go_wp2_with (at_make; refine wpList_mk rfl (.tmp 25) 48 rfl n rfl _ (cMk _) ?_)
  obtain ⟨g, hg⟩ : ∃ g, w2.heap.size = g := ⟨_, rfl⟩
  obtain ⟨X3, hX3⟩ : ∃ X, w2.alloc (.cells (madeCells #[.bool false] n) 4) = X := ⟨_, rfl⟩
  have b3 : Below w2.heap.size w2 X3 := by rw [← hX3]; exact (Below.refl _ _).alloc (Nat.le_refl _) _
  have s3 : X3.heap.size = g + 1 := by rw [← hX3]; simp [hg]
  have m3 : Bs X3 g n (fun _ => false) := by rw [← hX3, ← hg]; exact made_bools w2 n
  have G3 := G2.go b3
  have c3 := c2.trans (b3.mono (by have := c2.size; omega))
  have bg := G2.lt
  rw [hg] at bg ⊢
  try rw [hX3]
  clear hX3 b3 c2 cMk G2
  go_loopw [7] (fun ix wr => ∃ (i : Nat) (v : Value) (s : List It), ix = .int .i64 i ∧ i ≤ n ∧ Hid (HpAt B wr b v s i) ∧ Hid (Lst ks i s) ∧ Hid (Bs wr g n (inB s)) ∧ Hid (∀ k, v.ownBlock = some k → k ≠ g) ∧ g < wr.heap.size ∧ Below B w wr) (fun ix wr => n - (intOf ix).toNat)
  case atStart => exact ⟨0, _, [], rfl, Nat.zero_le _, G3, ⟨(fun x hx => by simp at hx), List.Pairwise.nil⟩, m3, (fun k hk => by cases hk), by omega, c3⟩
  case round =>
    clear G3 m3 c3 s3
    obtain ⟨i, v, s, rfl, hi, HG, HL, HS, HV, gl, cr⟩ := hrel
    by_cases hlt : i < n
    · obtain ⟨x, rfl, hx⟩ := (hK.out wr cr).1.cell i hlt
      have hlt' : (i : Int) < (n : Int) := by omega
      have sl := HL.out.len
      go_wp2_with fail
      go_at_call 27
      refine (of_any _ _ _).mono ?_
      rintro e w5 ⟨rfl, b5⟩
      have G5 := HG.out.go b5
      have c5 := cr.trans (b5.mono (by have := cr.size; omega))
      go_wp2_with fail
      go_at_call 14
      refine (push_any B b _ _ _ _ _ _ G5 (by omega) (by omega)).mono ?_
      rintro e w6 ⟨rfl, v6, G6, t6⟩
      have c6 := c5.trans (t6.past G5 (by have := c5.size; omega))
      have z5 := b5.size
      have z6 := t6.size
      have S6 := (HS.out.same (b5.block g gl)).same (t6.block g (by omega) (by omega) (fun e => HV.out g e rfl))
      have V6 : ∀ k, v6.ownBlock = some k → k ≠ g := fun k hk => by
        rcases t6.own k hk with q | q
        · exact HV.out k q
        · omega
      have L6 := HL.out.push
      obtain ⟨s1, hs1⟩ : ∃ s1, ins ⟨ks.getD i 0, i, i⟩ s = s1 := ⟨_, rfl⟩
      have S7 := S6.set i hlt true
      obtain ⟨X, hX⟩ : ∃ X, w6.setCell ⟨g, i, none⟩ (.bool true) = X := ⟨_, rfl⟩
      rw [hX] at S7
      have S8 : Bs X g n (inB s1) := ⟨fun k hk => (S7.cell k hk).trans (by rw [← hs1, in_ins]), S7.froz⟩
      have G6' : HpAt B w6 b v6 (ins ⟨ks.getD i 0, i, i⟩ s) (i + 1) := G6
      clear G6
      have G6 := G6'
      clear G6'
      rw [hs1] at G6 L6
      have ob : ∀ k, k ≠ g → X.heap[k]? = w6.heap[k]? := fun k hk => by rw [← hX]; exact Below.heap_setCell _ _ _ k hk
      have G8 : HpAt B X b v6 s1 (i + 1) := G6.same (ob b (by omega)) (fun k hk => ob k (V6 k hk))
      have c8 : Below B w X := by rw [← hX]; exact c6.setCell (p := ⟨g, i, none⟩) (by show B ≤ g; omega) _
      have zX : X.heap.size = w6.heap.size := by rw [← hX]; simp [World.setCell]
      have f6 := S6.froz i
      have e6 := S6.cell i hlt
      have HS8 : Hid (Bs X g n (inB s1)) := S8
      have HG8 : Hid (HpAt B X b v6 s1 (i + 1)) := G8
      have HL8 : Hid (Lst ks (i + 1) s1) := L6
      have HV8 : Hid (∀ k, v6.ownBlock = some k → k ≠ g) := V6
      have ne : s1 ≠ [] := fun e => by have := (ins_perm (⟨ks.getD i 0, i, i⟩ : It) s).length_eq; rw [hs1, e] at this; simp at this
      clear HG HL HS HV G5 G6 G8 S6 S7 S8 L6 V6 b5 t6 c5 c6 cr hx hs1 ob
      by_cases hpm : i < m
      · obtain ⟨y, rfl, hy⟩ := (hK.out X c8).2.cell i hpm
        have hpm' : ¬ (m : Int) ≤ (i : Int) := by omega
        have hpm2 : (i : Int) < (m : Int) := by omega
        cases hps : ps i with
        | false =>
          rw [hps] at hy
          go_wp2
          try rw [hX]
          go_roundw
          case rel => exact ⟨i + 1, v6, s1, by go_num, by omega, HG8.out, HL8.out, HS8.out, HV8.out, by omega, c8⟩
          case measure => simp [intOf]; omega
        | true =>
          rw [hps] at hy
          cases s1 with
          | nil => exact (ne rfl).elim
          | cons z s1 =>
            obtain ⟨K, N, t⟩ := z
            clear ne
            obtain ⟨ht, hN, hKe⟩ := HL8.out.mem _ (List.mem_cons_self ..)
            simp only at ht hN hKe
            subst hN
            have HKe : Hid (K = ks.getD t 0) := hKe
            clear hKe
            have cPk := peek_some B b v6 ⟨K, (t : Int), t⟩ s1 (i + 1) X HG8.out
            go_wp2_with fail
            try rw [hX]
            go_at_call 18
            refine cPk.mono ?_
            rintro e w7 ⟨rfl, b7⟩
            obtain ⟨Y1, hY1⟩ : ∃ Y, w7.alloc (.cells #[.int .i64 K, .int .i64 (t : Int)] 27) = Y := ⟨_, rfl⟩
            have bY1 : Below w7.heap.size w7 Y1 := by rw [← hY1]; exact (Below.refl _ _).alloc (Nat.le_refl _) _
            have p0 : Y1.cell? ⟨w7.heap.size, 0, none⟩ = some (.int .i64 K) := by rw [← hY1]; simp
            have p1 : Y1.cell? ⟨w7.heap.size, 1, none⟩ = some (.int .i64 (t : Int)) := by rw [← hY1]; simp
            have pl : w7.heap.size < Y1.heap.size := by rw [← hY1]; simp
            have G7 := HG8.out.go b7
            have GY := G7.go bY1
            have zb7 := b7.size
            have cY := (c8.trans (b7.mono (by have := c8.size; omega))).trans (bY1.mono (by have := c8.size; omega))
            have SY := (HS8.out.same (b7.block g (by omega))).same (bY1.block g (by omega))
            have sl1 := HL8.out.tail.len
            go_wp2_with fail
            try rw [hY1]
            go_at_call 16
            refine (pop_some B b _ _ _ _ _ GY (by omega)).mono ?_
            rintro e w9 ⟨rfl, v9, G9, t9⟩
            have c9 := cY.trans (t9.past GY (by have := cY.size; omega))
            have z9 := t9.size
            have S9 := SY.same (t9.block g (by omega) (by omega) (fun e => HV8.out g e rfl))
            have V9 : Hid (∀ k, v9.ownBlock = some k → k ≠ g) := fun k hk => by
              rcases t9.own k hk with q | q
              · exact HV8.out k q
              · omega
            have bp := t9.box pl (by have := G7.lt; omega) (fun e => by have := (G7.own _ e).2.1; omega)
            have r0 := (bp.1 0).trans p0
            have r1 := (bp.1 1).trans p1
            obtain ⟨Y2, hY2⟩ : ∃ Y, w9.alloc (.cells #[.int .i64 K, .int .i64 (t : Int)] 27) = Y := ⟨_, rfl⟩
            have bY2 : Below w9.heap.size w9 Y2 := by rw [← hY2]; exact (Below.refl _ _).alloc (Nat.le_refl _) _
            have x0 : Y2.cell? ⟨w9.heap.size, 0, none⟩ = some (.int .i64 K) := by rw [← hY2]; simp
            have x1 : Y2.cell? ⟨w9.heap.size, 1, none⟩ = some (.int .i64 (t : Int)) := by rw [← hY2]; simp
            have xl : w9.heap.size < Y2.heap.size := by rw [← hY2]; simp
            have q0 := (bY2.cell (p := ⟨w7.heap.size, 0, none⟩) (by show w7.heap.size < _; omega)).trans r0
            have q1 := (bY2.cell (p := ⟨w7.heap.size, 1, none⟩) (by show w7.heap.size < _; omega)).trans r1
            have G10 : Hid (HpAt B Y2 b v9 s1 (i + 1)) := G9.go bY2
            have ord : Hid (Sorted (⟨K, (t : Int), t⟩ :: s1)) := by obtain ⟨l, _, hh⟩ := HG8.out; exact hh.sorted
            have c10 := c9.trans (bY2.mono (by have := c9.size; omega))
            have S10 := S9.same (bY2.block g (by omega))
            have htn : t < n := by omega
            have sx := S10.cell t htn
            have sin : inB (⟨K, (t : Int), t⟩ :: s1) t = true := by unfold inB; rw [List.any_cons]; simp
            rw [sin] at sx
            have sf := S10.froz t
            obtain ⟨px, ex, hkc⟩ := (hK.out Y2 c10).1.cell t htn
            cases ex
            rw [← HKe.out] at hkc
            have it1 : (t : Int) < (n : Int) := by omega
            have it2 : (t : Int) ≤ (i : Int) := by omega
            have it3 : t ≤ i := by omega
            have HS10 : Hid (Bs Y2 g n (inB (⟨K, (t : Int), t⟩ :: s1))) := S10
            have gb : g < w9.heap.size := by omega
            clear G7 GY G9 t9 bp r0 r1 p0 p1 pl S9 SY HS8 HV8 HG8 cPk b7 bY1 bY2 cY c9 c8 f6 e6 zX z5 z6 sl S10 hy
            go_upto_region 13 with fail
            try rw [hY2]
            go_cut [104] from 65 to 104 (fun rr wx => rr = .bool false ∧ wx = Y2.drew)
            case first =>
              obtain ⟨IH, hIH⟩ : ∃ I : World → Prop, I = Below Y2.heap.size Y2 := ⟨_, rfl⟩
              have kI : ∀ u, IH u → Below Y2.heap.size Y2 u := fun u hu => by rw [hIH] at hu; exact hu
              have hS : IH Y2.drew := by rw [hIH]; exact (Below.refl _ _).drew
              have P0 := fun u hu => ((kI u hu).cell (p := ⟨w7.heap.size, 0, none⟩) (World.block_lt_of_cell? Y2 _ q0)).trans q0
              have P1 := fun u hu => ((kI u hu).cell (p := ⟨w7.heap.size, 1, none⟩) (World.block_lt_of_cell? Y2 _ q1)).trans q1
              have X0 := fun u hu => ((kI u hu).cell (p := ⟨w9.heap.size, 0, none⟩) (World.block_lt_of_cell? Y2 _ x0)).trans x0
              have X1 := fun u hu => ((kI u hu).cell (p := ⟨w9.heap.size, 1, none⟩) (World.block_lt_of_cell? Y2 _ x1)).trans x1
              have SS := fun u hu => ((kI u hu).cell (p := ⟨g, t, none⟩) (World.block_lt_of_cell? Y2 _ sx)).trans sx
              have KK := fun u hu => ((kI u hu).cell (World.block_lt_of_cell? Y2 _ hkc)).trans hkc
              refine start_held (S := IH) 40 rfl (by kernel_rfl) (hS) ?_
              simp only [Array.replicate_succ, Array.replicate_zero, List.push_toArray, List.nil_append, List.cons_append]
              refine take_held 0 (by assumption) rfl (by kernel_rfl) (by kernel_rfl) (by kernel_rfl) (fun _ _ _ h => h) (by kernel_rfl) (v := ?v144) ?y144 ?r144
              case y144 => (intro u hu; go_simp; try rfl)
              simp only [Act.put, List.setIfInBounds_toArray, List.set_cons_zero, List.set_cons_succ]
              refine take_held 1 (by assumption) rfl (by kernel_rfl) (by kernel_rfl) (by kernel_rfl) (fun _ _ _ h => h) (by kernel_rfl) (v := ?v145) ?y145 ?r145
              case y145 => (intro u hu; go_simp; try rfl)
              simp only [Act.put, List.setIfInBounds_toArray, List.set_cons_zero, List.set_cons_succ]
              refine take_held 2 (by assumption) rfl (by kernel_rfl) (by kernel_rfl) (by kernel_rfl) (fun _ _ _ h => h) (by kernel_rfl) (v := ?v146) ?y146 ?r146
              case y146 => (intro u hu; go_simp; try rfl)
              simp only [Act.put, List.setIfInBounds_toArray, List.set_cons_zero, List.set_cons_succ]
              refine take_held 3 (by assumption) rfl (by kernel_rfl) (by kernel_rfl) (by kernel_rfl) (fun _ _ _ h => h) (by kernel_rfl) (v := ?v147) ?y147 ?r147
              case y147 => (intro u hu; go_simp; try rfl)
              simp only [Act.put, List.setIfInBounds_toArray, List.set_cons_zero, List.set_cons_succ]
              refine take_held 4 (by assumption) rfl (by kernel_rfl) (by kernel_rfl) (by kernel_rfl) (fun _ _ _ h => h) (by kernel_rfl) (v := ?v148) ?y148 ?r148
              case y148 => (intro u hu; go_simp; try rfl)
              simp only [Act.put, List.setIfInBounds_toArray, List.set_cons_zero, List.set_cons_succ]
              refine take_held 5 (by assumption) rfl (by kernel_rfl) (by kernel_rfl) (by kernel_rfl) (fun _ _ _ h => h) (by kernel_rfl) (v := ?v149) ?y149 ?r149
              case y149 => (intro u hu; go_simp; try rfl)
              simp only [Act.put, List.setIfInBounds_toArray, List.set_cons_zero, List.set_cons_succ]
              refine take_held 6 (by assumption) rfl (by kernel_rfl) (by kernel_rfl) (by kernel_rfl) (fun _ _ _ h => h) (by kernel_rfl) (v := ?v150) ?y150 ?r150
              case y150 => (intro u hu; go_simp; try rfl)
              simp only [Act.put, List.setIfInBounds_toArray, List.set_cons_zero, List.set_cons_succ]
              refine take_held 7 (by assumption) rfl (by kernel_rfl) (by kernel_rfl) (by kernel_rfl) (fun _ _ _ h => h) (by kernel_rfl) (v := ?v151) ?y151 ?r151
              case y151 => (intro u hu; have zz0 := P0 u hu; have zz1 := P1 u hu; go_simp; try rfl)
              simp only [Act.put, List.setIfInBounds_toArray, List.set_cons_zero, List.set_cons_succ]
              refine take_held 8 (by assumption) rfl (by kernel_rfl) (by kernel_rfl) (by kernel_rfl) (fun _ _ _ h => h) (by kernel_rfl) (v := ?v152) ?y152 ?r152
              case y152 => (intro u hu; have zz0 := X0 u hu; have zz1 := X1 u hu; go_simp; try rfl)
              simp only [Act.put, List.setIfInBounds_toArray, List.set_cons_zero, List.set_cons_succ]
              refine take_held 9 (by assumption) rfl (by kernel_rfl) (by kernel_rfl) (by kernel_rfl) (fun _ _ _ h => h) (by kernel_rfl) (v := .bool false) ?y153 ?r153
              case y153 => (intro u hu; go_simp; try simp; try omega)
              simp only [Act.put, List.setIfInBounds_toArray, List.set_cons_zero, List.set_cons_succ]
              refine take_held 10 (by assumption) rfl (by kernel_rfl) (by kernel_rfl) (by kernel_rfl) (fun _ _ _ h => h) (by kernel_rfl) (v := ?v154) ?y154 ?r154
              case y154 => (intro u hu; go_simp; try rfl)
              simp only [Act.put, List.setIfInBounds_toArray, List.set_cons_zero, List.set_cons_succ]
              refine take_held 11 (by assumption) rfl (by kernel_rfl) (by kernel_rfl) (by kernel_rfl) (fun _ _ _ h => h) (by kernel_rfl) (v := ?v155) ?y155 ?r155
              case y155 => (intro u hu; go_simp; try rfl)
              simp only [Act.put, List.setIfInBounds_toArray, List.set_cons_zero, List.set_cons_succ]
              refine take_held 12 (by assumption) rfl (by kernel_rfl) (by kernel_rfl) (by kernel_rfl) (fun _ _ _ h => h) (by kernel_rfl) (v := ?v156) ?y156 ?r156
              case y156 => (intro u hu; go_simp; try rfl)
              simp only [Act.put, List.setIfInBounds_toArray, List.set_cons_zero, List.set_cons_succ]
              refine take_held 13 (by assumption) rfl (by kernel_rfl) (by kernel_rfl) (by kernel_rfl) (fun _ _ _ h => h) (by kernel_rfl) (v := ?v157) ?y157 ?r157
              case y157 => (intro u hu; have zz0 := X1 u hu; go_simp; try rfl)
              simp only [Act.put, List.setIfInBounds_toArray, List.set_cons_zero, List.set_cons_succ]
              refine take_held 14 (by assumption) rfl (by kernel_rfl) (by kernel_rfl) (by kernel_rfl) (fun _ _ _ h => h) (by kernel_rfl) (v := .bool false) ?y158 ?r158
              case y158 => (intro u hu; go_simp; try simp; try omega)
              simp only [Act.put, List.setIfInBounds_toArray, List.set_cons_zero, List.set_cons_succ]
              refine take_held 15 (by assumption) rfl (by kernel_rfl) (by kernel_rfl) (by kernel_rfl) (fun _ _ _ h => h) (by kernel_rfl) (v := ?v159) ?y159 ?r159
              case y159 => (intro u hu; go_simp; try rfl)
              simp only [Act.put, List.setIfInBounds_toArray, List.set_cons_zero, List.set_cons_succ]
              refine take_held 16 (by assumption) rfl (by kernel_rfl) (by kernel_rfl) (by kernel_rfl) (fun _ _ _ h => h) (by kernel_rfl) (v := ?v160) ?y160 ?r160
              case y160 => (intro u hu; go_simp; try rfl)
              simp only [Act.put, List.setIfInBounds_toArray, List.set_cons_zero, List.set_cons_succ]
              refine take_held 17 (by assumption) rfl (by kernel_rfl) (by kernel_rfl) (by kernel_rfl) (fun _ _ _ h => h) (by kernel_rfl) (v := ?v161) ?y161 ?r161
              case y161 => (intro u hu; go_simp; try rfl)
              simp only [Act.put, List.setIfInBounds_toArray, List.set_cons_zero, List.set_cons_succ]
              refine take_held 18 (by assumption) rfl (by kernel_rfl) (by kernel_rfl) (by kernel_rfl) (fun _ _ _ h => h) (by kernel_rfl) (v := ?v162) ?y162 ?r162
              case y162 => (intro u hu; have zz0 := X1 u hu; go_simp; try rfl)
              simp only [Act.put, List.setIfInBounds_toArray, List.set_cons_zero, List.set_cons_succ]
              refine take_held 19 (by assumption) rfl (by kernel_rfl) (by kernel_rfl) (by kernel_rfl) (fun _ _ _ h => h) (by kernel_rfl) (v := ?v163) ?y163 ?r163
              case y163 => (intro u hu; go_simp; try rfl)
              simp only [Act.put, List.setIfInBounds_toArray, List.set_cons_zero, List.set_cons_succ]
              refine take_held 20 (by assumption) rfl (by kernel_rfl) (by kernel_rfl) (by kernel_rfl) (fun _ _ _ h => h) (by kernel_rfl) (v := .bool false) ?y164 ?r164
              case y164 => (intro u hu; go_simp; try simp; try omega; try exact it3)
              simp only [Act.put, List.setIfInBounds_toArray, List.set_cons_zero, List.set_cons_succ]
              refine take_held 21 (by assumption) rfl (by kernel_rfl) (by kernel_rfl) (by kernel_rfl) (fun _ _ _ h => h) (by kernel_rfl) (v := ?v165) ?y165 ?r165
              case y165 => (intro u hu; go_simp; try rfl)
              simp only [Act.put, List.setIfInBounds_toArray, List.set_cons_zero, List.set_cons_succ]
              refine take_held 22 (by assumption) rfl (by kernel_rfl) (by kernel_rfl) (by kernel_rfl) (fun _ _ _ h => h) (by kernel_rfl) (v := ?v166) ?y166 ?r166
              case y166 => (intro u hu; go_simp; try rfl)
              simp only [Act.put, List.setIfInBounds_toArray, List.set_cons_zero, List.set_cons_succ]
              refine take_held 23 (by assumption) rfl (by kernel_rfl) (by kernel_rfl) (by kernel_rfl) (fun _ _ _ h => h) (by kernel_rfl) (v := ?v167) ?y167 ?r167
              case y167 => (intro u hu; go_simp; try rfl)
              simp only [Act.put, List.setIfInBounds_toArray, List.set_cons_zero, List.set_cons_succ]
              refine take_held 24 (by assumption) rfl (by kernel_rfl) (by kernel_rfl) (by kernel_rfl) (fun _ _ _ h => h) (by kernel_rfl) (v := ?v168) ?y168 ?r168
              case y168 => (intro u hu; go_simp; try rfl)
              simp only [Act.put, List.setIfInBounds_toArray, List.set_cons_zero, List.set_cons_succ]
              refine take_held 25 (by assumption) rfl (by kernel_rfl) (by kernel_rfl) (by kernel_rfl) (fun _ _ _ h => h) (by kernel_rfl) (v := ?v169) ?y169 ?r169
              case y169 => (intro u hu; have zz0 := X1 u hu; go_simp; try rfl)
              simp only [Act.put, List.setIfInBounds_toArray, List.set_cons_zero, List.set_cons_succ]
              refine take_held 26 (by assumption) rfl (by kernel_rfl) (by kernel_rfl) (by kernel_rfl) (fun _ _ _ h => h) (by kernel_rfl) (v := ?v170) ?y170 ?r170
              case y170 => (intro u hu; go_simp; try rfl)
              simp only [Act.put, List.setIfInBounds_toArray, List.set_cons_zero, List.set_cons_succ]
              refine take_held 27 (by assumption) rfl (by kernel_rfl) (by kernel_rfl) (by kernel_rfl) (fun _ _ _ h => h) (by kernel_rfl) (v := ?v171) ?y171 ?r171
              case y171 => (intro u hu; have zz0 := SS u hu; go_simp; try rfl)
              simp only [Act.put, List.setIfInBounds_toArray, List.set_cons_zero, List.set_cons_succ]
              refine take_held 28 (by assumption) rfl (by kernel_rfl) (by kernel_rfl) (by kernel_rfl) (fun _ _ _ h => h) (by kernel_rfl) (v := ?v172) ?y172 ?r172
              case y172 => (intro u hu; go_simp; try rfl)
              simp only [Act.put, List.setIfInBounds_toArray, List.set_cons_zero, List.set_cons_succ]
              refine take_held 29 (by assumption) rfl (by kernel_rfl) (by kernel_rfl) (by kernel_rfl) (fun _ _ _ h => h) (by kernel_rfl) (v := ?v173) ?y173 ?r173
              case y173 => (intro u hu; go_simp; try rfl)
              simp only [Act.put, List.setIfInBounds_toArray, List.set_cons_zero, List.set_cons_succ]
              refine take_held 30 (by assumption) rfl (by kernel_rfl) (by kernel_rfl) (by kernel_rfl) (fun _ _ _ h => h) (by kernel_rfl) (v := ?v174) ?y174 ?r174
              case y174 => (intro u hu; go_simp; try rfl)
              simp only [Act.put, List.setIfInBounds_toArray, List.set_cons_zero, List.set_cons_succ]
              refine take_held 31 (by assumption) rfl (by kernel_rfl) (by kernel_rfl) (by kernel_rfl) (fun _ _ _ h => h) (by kernel_rfl) (v := ?v175) ?y175 ?r175
              case y175 => (intro u hu; go_simp; try rfl)
              simp only [Act.put, List.setIfInBounds_toArray, List.set_cons_zero, List.set_cons_succ]
              refine take_held 32 (by assumption) rfl (by kernel_rfl) (by kernel_rfl) (by kernel_rfl) (fun _ _ _ h => h) (by kernel_rfl) (v := ?v176) ?y176 ?r176
              case y176 => (intro u hu; have zz0 := X0 u hu; go_simp; try rfl)
              simp only [Act.put, List.setIfInBounds_toArray, List.set_cons_zero, List.set_cons_succ]
              refine take_held 33 (by assumption) rfl (by kernel_rfl) (by kernel_rfl) (by kernel_rfl) (fun _ _ _ h => h) (by kernel_rfl) (v := ?v177) ?y177 ?r177
              case y177 => (intro u hu; go_simp; try rfl)
              simp only [Act.put, List.setIfInBounds_toArray, List.set_cons_zero, List.set_cons_succ]
              refine take_held 34 (by assumption) rfl (by kernel_rfl) (by kernel_rfl) (by kernel_rfl) (fun _ _ _ h => h) (by kernel_rfl) (v := ?v178) ?y178 ?r178
              case y178 => (intro u hu; go_simp; try rfl)
              simp only [Act.put, List.setIfInBounds_toArray, List.set_cons_zero, List.set_cons_succ]
              refine take_held 35 (by assumption) rfl (by kernel_rfl) (by kernel_rfl) (by kernel_rfl) (fun _ _ _ h => h) (by kernel_rfl) (v := ?v179) ?y179 ?r179
              case y179 => (intro u hu; have zz0 := X1 u hu; go_simp; try rfl)
              simp only [Act.put, List.setIfInBounds_toArray, List.set_cons_zero, List.set_cons_succ]
              refine take_held 36 (by assumption) rfl (by kernel_rfl) (by kernel_rfl) (by kernel_rfl) (fun _ _ _ h => h) (by kernel_rfl) (v := ?v180) ?y180 ?r180
              case y180 => (intro u hu; go_simp; try rfl)
              simp only [Act.put, List.setIfInBounds_toArray, List.set_cons_zero, List.set_cons_succ]
              refine take_held 37 (by assumption) rfl (by kernel_rfl) (by kernel_rfl) (by kernel_rfl) (fun _ _ _ h => h) (by kernel_rfl) (v := ?v181) ?y181 ?r181
              case y181 => (intro u hu; have zz0 := KK u hu; go_simp; try rfl)
              simp only [Act.put, List.setIfInBounds_toArray, List.set_cons_zero, List.set_cons_succ]
              refine take_held 38 (by assumption) rfl (by kernel_rfl) (by kernel_rfl) (by kernel_rfl) (fun _ _ _ h => h) (by kernel_rfl) (v := .bool false) ?y182 ?r182
              case y182 => (intro u hu; go_simp; try simp; try omega)
              simp only [Act.put, List.setIfInBounds_toArray, List.set_cons_zero, List.set_cons_succ]
              refine take_held 39 (by assumption) rfl (by kernel_rfl) (by kernel_rfl) (by kernel_rfl) (fun _ _ _ h => h) (by kernel_rfl) (v := ?v183) ?y183 ?r183
              case y183 => (intro u hu; go_simp; try rfl)
              simp only [Act.put, List.setIfInBounds_toArray, List.set_cons_zero, List.set_cons_succ]
              refine done_held (by kernel_rfl) ?_ _
              go_wp2
              go_meet
              exact ⟨rfl, rfl⟩
            case rest =>
              obtain ⟨rfl, rfl⟩ := hcut
              have S11 := HS10.out.set t htn false
              obtain ⟨Z, hZ⟩ : ∃ Z, (Y2.setCell ⟨g, t, none⟩ (.bool false)).drew = Z := ⟨_, rfl⟩
              have S12 : Hid (Bs Z g n (inB s1)) := by
                have q : Bs Z g n (fun k => if k = t then false else inB (⟨K, (t : Int), t⟩ :: s1) k) := by rw [← hZ]; exact S11.same rfl
                exact ⟨fun k hk => (q.cell k hk).trans (by rw [in_tail HL8.out]), q.froz⟩
              have oZ : ∀ k, k ≠ g → Z.heap[k]? = Y2.heap[k]? := fun k hk => by rw [← hZ]; exact Below.heap_setCell _ _ _ k hk
              have G12 : Hid (HpAt B Z b v9 s1 (i + 1)) := G10.out.same (oZ b (by omega)) (fun k hk => oZ k (V9.out k hk))
              have c12 : Below B w Z := by rw [← hZ]; exact (c10.setCell (p := ⟨g, t, none⟩) (by show B ≤ g; omega) _).drew
              have y0 := (cell_same (o := 0) (oZ w9.heap.size (by omega))).trans x0
              have y1 := (cell_same (o := 1) (oZ w9.heap.size (by omega))).trans x1
              have zZ : Z.heap.size = Y2.heap.size := by rw [← hZ]; simp [World.setCell]
              have L12 : Hid (Lst ks (i + 1) s1) := HL8.out.tail
              go_wp2_with fail
              try rw [hZ]
              clear hZ S11 HS10 G10 oZ x0 x1 q0 q1 sx hkc HL8 c10
              go_loopw [12] (fun kx wq => ∃ k : Nat, kx = .int .i64 k ∧ k ≤ i + 1 ∧ Below Z.heap.size Z wq) (fun kx wq => i + 1 - (intOf kx).toNat)
              case atStart => exact ⟨0, rfl, Nat.zero_le _, Below.refl _ _⟩
              case round =>
                obtain ⟨k, rfl, hk, bq⟩ := hrel
                obtain ⟨wq, rfl⟩ : ∃ wq, wq = wr := ⟨_, rfl⟩
                have cq := c12.trans (bq.mono (by have := c12.size; omega))
                by_cases hki : k ≤ i
                · have hkn : k < n := by omega
                  have hki' : (k : Int) ≤ (i : Int) := by omega
                  have hkn' : (k : Int) < (n : Int) := by omega
                  have sk := (S12.out.same (bq.block g (by omega))).cell k hkn
                  obtain ⟨px, ex, kc⟩ := (hK.out wq cq).1.cell k hkn
                  cases ex
                  have u0 := (bq.cell (p := ⟨w9.heap.size, 0, none⟩) (World.block_lt_of_cell? Z _ y0)).trans y0
                  have u1 := (bq.cell (p := ⟨w9.heap.size, 1, none⟩) (World.block_lt_of_cell? Z _ y1)).trans y1
                  go_upto_region 19 with fail
                  go_cut [141] from 114 to 141 (fun rr wx => rr = .bool false ∧ wx = wq.drew)
                  case first =>
                    obtain ⟨IH, hIH⟩ : ∃ I : World → Prop, I = Below wq.heap.size wq := ⟨_, rfl⟩
                    have kI : ∀ u, IH u → Below wq.heap.size wq u := fun u hu => by rw [hIH] at hu; exact hu
                    have hS : IH wq.drew := by rw [hIH]; exact (Below.refl _ _).drew
                    have X0 := fun u hu => ((kI u hu).cell (p := ⟨w9.heap.size, 0, none⟩) (World.block_lt_of_cell? wq _ u0)).trans u0
                    have X1 := fun u hu => ((kI u hu).cell (p := ⟨w9.heap.size, 1, none⟩) (World.block_lt_of_cell? wq _ u1)).trans u1
                    have KK := fun u hu => ((kI u hu).cell (World.block_lt_of_cell? wq _ kc)).trans kc
                    cases hin : inB s1 k with
                    | false =>
                      rw [hin] at sk
                      have SS := fun u hu => ((kI u hu).cell (p := ⟨g, k, none⟩) (World.block_lt_of_cell? wq _ sk)).trans sk
                      refine start_held (S := IH) 28 rfl (by kernel_rfl) (hS) ?_
                      simp only [Array.replicate_succ, Array.replicate_zero, List.push_toArray, List.nil_append, List.cons_append]
                      refine take_held 0 (by assumption) rfl (by kernel_rfl) (by kernel_rfl) (by kernel_rfl) (fun _ _ _ h => h) (by kernel_rfl) (v := ?v184) ?y184 ?r184
                      case y184 => (intro u hu; go_simp; try rfl)
                      simp only [Act.put, List.setIfInBounds_toArray, List.set_cons_zero, List.set_cons_succ]
                      refine take_held 1 (by assumption) rfl (by kernel_rfl) (by kernel_rfl) (by kernel_rfl) (fun _ _ _ h => h) (by kernel_rfl) (v := ?v185) ?y185 ?r185
                      case y185 => (intro u hu; go_simp; try rfl)
                      simp only [Act.put, List.setIfInBounds_toArray, List.set_cons_zero, List.set_cons_succ]
                      refine take_held 2 (by assumption) rfl (by kernel_rfl) (by kernel_rfl) (by kernel_rfl) (fun _ _ _ h => h) (by kernel_rfl) (v := ?v186) ?y186 ?r186
                      case y186 => (intro u hu; go_simp; try rfl)
                      simp only [Act.put, List.setIfInBounds_toArray, List.set_cons_zero, List.set_cons_succ]
                      refine take_held 3 (by assumption) rfl (by kernel_rfl) (by kernel_rfl) (by kernel_rfl) (fun _ _ _ h => h) (by kernel_rfl) (v := ?v187) ?y187 ?r187
                      case y187 => (intro u hu; have zz0 := SS u hu; go_simp; try rfl)
                      simp only [Act.put, List.setIfInBounds_toArray, List.set_cons_zero, List.set_cons_succ]
                      refine take_held 4 (by assumption) rfl (by kernel_rfl) (by kernel_rfl) (by kernel_rfl) (fun _ _ _ h => h) (by kernel_rfl) (v := ?v188) ?y188 ?r188
                      case y188 => (intro u hu; go_simp; try rfl)
                      simp only [Act.put, List.setIfInBounds_toArray, List.set_cons_zero, List.set_cons_succ]
                      refine skip_held 5 (by assumption) rfl (by kernel_rfl) (by kernel_rfl) (by kernel_rfl) (fun _ _ _ h => h) (by kernel_rfl) ?_
                      simp only [Act.put, List.setIfInBounds_toArray, List.set_cons_zero, List.set_cons_succ]
                      refine skip_held 6 (by assumption) rfl (by kernel_rfl) (by kernel_rfl) (by kernel_rfl) (fun _ _ _ h => h) (by kernel_rfl) ?_
                      simp only [Act.put, List.setIfInBounds_toArray, List.set_cons_zero, List.set_cons_succ]
                      refine skip_held 7 (by assumption) rfl (by kernel_rfl) (by kernel_rfl) (by kernel_rfl) (fun _ _ _ h => h) (by kernel_rfl) ?_
                      simp only [Act.put, List.setIfInBounds_toArray, List.set_cons_zero, List.set_cons_succ]
                      refine skip_held 8 (by assumption) rfl (by kernel_rfl) (by kernel_rfl) (by kernel_rfl) (fun _ _ _ h => h) (by kernel_rfl) ?_
                      simp only [Act.put, List.setIfInBounds_toArray, List.set_cons_zero, List.set_cons_succ]
                      refine skip_held 9 (by assumption) rfl (by kernel_rfl) (by kernel_rfl) (by kernel_rfl) (fun _ _ _ h => h) (by kernel_rfl) ?_
                      simp only [Act.put, List.setIfInBounds_toArray, List.set_cons_zero, List.set_cons_succ]
                      refine skip_held 10 (by assumption) rfl (by kernel_rfl) (by kernel_rfl) (by kernel_rfl) (fun _ _ _ h => h) (by kernel_rfl) ?_
                      simp only [Act.put, List.setIfInBounds_toArray, List.set_cons_zero, List.set_cons_succ]
                      refine skip_held 11 (by assumption) rfl (by kernel_rfl) (by kernel_rfl) (by kernel_rfl) (fun _ _ _ h => h) (by kernel_rfl) ?_
                      simp only [Act.put, List.setIfInBounds_toArray, List.set_cons_zero, List.set_cons_succ]
                      refine skip_held 12 (by assumption) rfl (by kernel_rfl) (by kernel_rfl) (by kernel_rfl) (fun _ _ _ h => h) (by kernel_rfl) ?_
                      simp only [Act.put, List.setIfInBounds_toArray, List.set_cons_zero, List.set_cons_succ]
                      refine skip_held 13 (by assumption) rfl (by kernel_rfl) (by kernel_rfl) (by kernel_rfl) (fun _ _ _ h => h) (by kernel_rfl) ?_
                      simp only [Act.put, List.setIfInBounds_toArray, List.set_cons_zero, List.set_cons_succ]
                      refine skip_held 14 (by assumption) rfl (by kernel_rfl) (by kernel_rfl) (by kernel_rfl) (fun _ _ _ h => h) (by kernel_rfl) ?_
                      simp only [Act.put, List.setIfInBounds_toArray, List.set_cons_zero, List.set_cons_succ]
                      refine skip_held 15 (by assumption) rfl (by kernel_rfl) (by kernel_rfl) (by kernel_rfl) (fun _ _ _ h => h) (by kernel_rfl) ?_
                      simp only [Act.put, List.setIfInBounds_toArray, List.set_cons_zero, List.set_cons_succ]
                      refine skip_held 16 (by assumption) rfl (by kernel_rfl) (by kernel_rfl) (by kernel_rfl) (fun _ _ _ h => h) (by kernel_rfl) ?_
                      simp only [Act.put, List.setIfInBounds_toArray, List.set_cons_zero, List.set_cons_succ]
                      refine skip_held 17 (by assumption) rfl (by kernel_rfl) (by kernel_rfl) (by kernel_rfl) (fun _ _ _ h => h) (by kernel_rfl) ?_
                      simp only [Act.put, List.setIfInBounds_toArray, List.set_cons_zero, List.set_cons_succ]
                      refine skip_held 18 (by assumption) rfl (by kernel_rfl) (by kernel_rfl) (by kernel_rfl) (fun _ _ _ h => h) (by kernel_rfl) ?_
                      simp only [Act.put, List.setIfInBounds_toArray, List.set_cons_zero, List.set_cons_succ]
                      refine skip_held 19 (by assumption) rfl (by kernel_rfl) (by kernel_rfl) (by kernel_rfl) (fun _ _ _ h => h) (by kernel_rfl) ?_
                      simp only [Act.put, List.setIfInBounds_toArray, List.set_cons_zero, List.set_cons_succ]
                      refine skip_held 20 (by assumption) rfl (by kernel_rfl) (by kernel_rfl) (by kernel_rfl) (fun _ _ _ h => h) (by kernel_rfl) ?_
                      simp only [Act.put, List.setIfInBounds_toArray, List.set_cons_zero, List.set_cons_succ]
                      refine skip_held 21 (by assumption) rfl (by kernel_rfl) (by kernel_rfl) (by kernel_rfl) (fun _ _ _ h => h) (by kernel_rfl) ?_
                      simp only [Act.put, List.setIfInBounds_toArray, List.set_cons_zero, List.set_cons_succ]
                      refine skip_held 22 (by assumption) rfl (by kernel_rfl) (by kernel_rfl) (by kernel_rfl) (fun _ _ _ h => h) (by kernel_rfl) ?_
                      simp only [Act.put, List.setIfInBounds_toArray, List.set_cons_zero, List.set_cons_succ]
                      refine skip_held 23 (by assumption) rfl (by kernel_rfl) (by kernel_rfl) (by kernel_rfl) (fun _ _ _ h => h) (by kernel_rfl) ?_
                      simp only [Act.put, List.setIfInBounds_toArray, List.set_cons_zero, List.set_cons_succ]
                      refine skip_held 24 (by assumption) rfl (by kernel_rfl) (by kernel_rfl) (by kernel_rfl) (fun _ _ _ h => h) (by kernel_rfl) ?_
                      simp only [Act.put, List.setIfInBounds_toArray, List.set_cons_zero, List.set_cons_succ]
                      refine skip_held 25 (by assumption) rfl (by kernel_rfl) (by kernel_rfl) (by kernel_rfl) (fun _ _ _ h => h) (by kernel_rfl) ?_
                      simp only [Act.put, List.setIfInBounds_toArray, List.set_cons_zero, List.set_cons_succ]
                      refine skip_held 26 (by assumption) rfl (by kernel_rfl) (by kernel_rfl) (by kernel_rfl) (fun _ _ _ h => h) (by kernel_rfl) ?_
                      simp only [Act.put, List.setIfInBounds_toArray, List.set_cons_zero, List.set_cons_succ]
                      refine take_held 27 (by assumption) rfl (by kernel_rfl) (by kernel_rfl) (by kernel_rfl) (fun _ _ _ h => h) (by kernel_rfl) (v := ?v189) ?y189 ?r189
                      case y189 => (intro u hu; go_simp; try rfl)
                      simp only [Act.put, List.setIfInBounds_toArray, List.set_cons_zero, List.set_cons_succ]
                      refine done_held (by kernel_rfl) ?_ _
                      go_wp2
                      go_meet
                      exact ⟨rfl, rfl⟩
                    | true =>
                      rw [hin] at sk
                      have SS := fun u hu => ((kI u hu).cell (p := ⟨g, k, none⟩) (World.block_lt_of_cell? wq _ sk)).trans sk
                      obtain ⟨y, hy1, hy2⟩ := in_mem hin
                      have hb := (List.pairwise_cons.1 ord.out).1 y hy1
                      have hyk := (L12.out.mem y hy1).2.2
                      rw [hy2] at hyk
                      have hb' : K < ks.getD k 0 ∨ (K = ks.getD k 0 ∧ t < k) := by
                        rcases hb with q | q
                        · exact Or.inl (by rw [← hyk]; exact q)
                        · exact Or.inr ⟨by rw [← hyk]; exact q.1, by rw [← hy2]; exact q.2⟩
                      clear hb hyk hy1 hy2
                      generalize ks.getD k 0 = kv at *
                      rcases hb' with hb1 | ⟨rfl, hb2⟩
                      · have d1 : ¬ kv < K := by omega
                        have d2 : ¬ kv = K := by omega
                        refine start_held (S := IH) 28 rfl (by kernel_rfl) (hS) ?_
                        simp only [Array.replicate_succ, Array.replicate_zero, List.push_toArray, List.nil_append, List.cons_append]
                        refine take_held 0 (by assumption) rfl (by kernel_rfl) (by kernel_rfl) (by kernel_rfl) (fun _ _ _ h => h) (by kernel_rfl) (v := ?v190) ?y190 ?r190
                        case y190 => (intro u hu; go_simp; try rfl)
                        simp only [Act.put, List.setIfInBounds_toArray, List.set_cons_zero, List.set_cons_succ]
                        refine take_held 1 (by assumption) rfl (by kernel_rfl) (by kernel_rfl) (by kernel_rfl) (fun _ _ _ h => h) (by kernel_rfl) (v := ?v191) ?y191 ?r191
                        case y191 => (intro u hu; go_simp; try rfl)
                        simp only [Act.put, List.setIfInBounds_toArray, List.set_cons_zero, List.set_cons_succ]
                        refine take_held 2 (by assumption) rfl (by kernel_rfl) (by kernel_rfl) (by kernel_rfl) (fun _ _ _ h => h) (by kernel_rfl) (v := ?v192) ?y192 ?r192
                        case y192 => (intro u hu; go_simp; try rfl)
                        simp only [Act.put, List.setIfInBounds_toArray, List.set_cons_zero, List.set_cons_succ]
                        refine take_held 3 (by assumption) rfl (by kernel_rfl) (by kernel_rfl) (by kernel_rfl) (fun _ _ _ h => h) (by kernel_rfl) (v := ?v193) ?y193 ?r193
                        case y193 => (intro u hu; have zz0 := SS u hu; go_simp; try rfl)
                        simp only [Act.put, List.setIfInBounds_toArray, List.set_cons_zero, List.set_cons_succ]
                        refine take_held 4 (by assumption) rfl (by kernel_rfl) (by kernel_rfl) (by kernel_rfl) (fun _ _ _ h => h) (by kernel_rfl) (v := ?v194) ?y194 ?r194
                        case y194 => (intro u hu; go_simp; try rfl)
                        simp only [Act.put, List.setIfInBounds_toArray, List.set_cons_zero, List.set_cons_succ]
                        refine take_held 5 (by assumption) rfl (by kernel_rfl) (by kernel_rfl) (by kernel_rfl) (fun _ _ _ h => h) (by kernel_rfl) (v := ?v195) ?y195 ?r195
                        case y195 => (intro u hu; go_simp; try rfl)
                        simp only [Act.put, List.setIfInBounds_toArray, List.set_cons_zero, List.set_cons_succ]
                        refine take_held 6 (by assumption) rfl (by kernel_rfl) (by kernel_rfl) (by kernel_rfl) (fun _ _ _ h => h) (by kernel_rfl) (v := ?v196) ?y196 ?r196
                        case y196 => (intro u hu; go_simp; try rfl)
                        simp only [Act.put, List.setIfInBounds_toArray, List.set_cons_zero, List.set_cons_succ]
                        refine take_held 7 (by assumption) rfl (by kernel_rfl) (by kernel_rfl) (by kernel_rfl) (fun _ _ _ h => h) (by kernel_rfl) (v := ?v197) ?y197 ?r197
                        case y197 => (intro u hu; go_simp; try rfl)
                        simp only [Act.put, List.setIfInBounds_toArray, List.set_cons_zero, List.set_cons_succ]
                        refine take_held 8 (by assumption) rfl (by kernel_rfl) (by kernel_rfl) (by kernel_rfl) (fun _ _ _ h => h) (by kernel_rfl) (v := ?v198) ?y198 ?r198
                        case y198 => (intro u hu; have zz0 := KK u hu; go_simp; try rfl)
                        simp only [Act.put, List.setIfInBounds_toArray, List.set_cons_zero, List.set_cons_succ]
                        refine take_held 9 (by assumption) rfl (by kernel_rfl) (by kernel_rfl) (by kernel_rfl) (fun _ _ _ h => h) (by kernel_rfl) (v := ?v199) ?y199 ?r199
                        case y199 => (intro u hu; go_simp; try rfl)
                        simp only [Act.put, List.setIfInBounds_toArray, List.set_cons_zero, List.set_cons_succ]
                        refine take_held 10 (by assumption) rfl (by kernel_rfl) (by kernel_rfl) (by kernel_rfl) (fun _ _ _ h => h) (by kernel_rfl) (v := ?v200) ?y200 ?r200
                        case y200 => (intro u hu; have zz0 := X0 u hu; go_simp; try rfl)
                        simp only [Act.put, List.setIfInBounds_toArray, List.set_cons_zero, List.set_cons_succ]
                        refine take_held 11 (by assumption) rfl (by kernel_rfl) (by kernel_rfl) (by kernel_rfl) (fun _ _ _ h => h) (by kernel_rfl) (v := .bool false) ?y201 ?r201
                        case y201 => (intro u hu; go_simp; try simp; try omega)
                        simp only [Act.put, List.setIfInBounds_toArray, List.set_cons_zero, List.set_cons_succ]
                        refine take_held 12 (by assumption) rfl (by kernel_rfl) (by kernel_rfl) (by kernel_rfl) (fun _ _ _ h => h) (by kernel_rfl) (v := ?v202) ?y202 ?r202
                        case y202 => (intro u hu; go_simp; try rfl)
                        simp only [Act.put, List.setIfInBounds_toArray, List.set_cons_zero, List.set_cons_succ]
                        refine take_held 13 (by assumption) rfl (by kernel_rfl) (by kernel_rfl) (by kernel_rfl) (fun _ _ _ h => h) (by kernel_rfl) (v := ?v203) ?y203 ?r203
                        case y203 => (intro u hu; go_simp; try rfl)
                        simp only [Act.put, List.setIfInBounds_toArray, List.set_cons_zero, List.set_cons_succ]
                        refine take_held 14 (by assumption) rfl (by kernel_rfl) (by kernel_rfl) (by kernel_rfl) (fun _ _ _ h => h) (by kernel_rfl) (v := ?v204) ?y204 ?r204
                        case y204 => (intro u hu; go_simp; try rfl)
                        simp only [Act.put, List.setIfInBounds_toArray, List.set_cons_zero, List.set_cons_succ]
                        refine take_held 15 (by assumption) rfl (by kernel_rfl) (by kernel_rfl) (by kernel_rfl) (fun _ _ _ h => h) (by kernel_rfl) (v := ?v205) ?y205 ?r205
                        case y205 => (intro u hu; go_simp; try rfl)
                        simp only [Act.put, List.setIfInBounds_toArray, List.set_cons_zero, List.set_cons_succ]
                        refine take_held 16 (by assumption) rfl (by kernel_rfl) (by kernel_rfl) (by kernel_rfl) (fun _ _ _ h => h) (by kernel_rfl) (v := ?v206) ?y206 ?r206
                        case y206 => (intro u hu; have zz0 := KK u hu; go_simp; try rfl)
                        simp only [Act.put, List.setIfInBounds_toArray, List.set_cons_zero, List.set_cons_succ]
                        refine take_held 17 (by assumption) rfl (by kernel_rfl) (by kernel_rfl) (by kernel_rfl) (fun _ _ _ h => h) (by kernel_rfl) (v := ?v207) ?y207 ?r207
                        case y207 => (intro u hu; go_simp; try rfl)
                        simp only [Act.put, List.setIfInBounds_toArray, List.set_cons_zero, List.set_cons_succ]
                        refine take_held 18 (by assumption) rfl (by kernel_rfl) (by kernel_rfl) (by kernel_rfl) (fun _ _ _ h => h) (by kernel_rfl) (v := ?v208) ?y208 ?r208
                        case y208 => (intro u hu; have zz0 := X0 u hu; go_simp; try rfl)
                        simp only [Act.put, List.setIfInBounds_toArray, List.set_cons_zero, List.set_cons_succ]
                        refine take_held 19 (by assumption) rfl (by kernel_rfl) (by kernel_rfl) (by kernel_rfl) (fun _ _ _ h => h) (by kernel_rfl) (v := .bool false) ?y209 ?r209
                        case y209 => (intro u hu; go_simp; try simp; try omega)
                        simp only [Act.put, List.setIfInBounds_toArray, List.set_cons_zero, List.set_cons_succ]
                        refine take_held 20 (by assumption) rfl (by kernel_rfl) (by kernel_rfl) (by kernel_rfl) (fun _ _ _ h => h) (by kernel_rfl) (v := ?v210) ?y210 ?r210
                        case y210 => (intro u hu; go_simp; try rfl)
                        simp only [Act.put, List.setIfInBounds_toArray, List.set_cons_zero, List.set_cons_succ]
                        refine skip_held 21 (by assumption) rfl (by kernel_rfl) (by kernel_rfl) (by kernel_rfl) (fun _ _ _ h => h) (by kernel_rfl) ?_
                        simp only [Act.put, List.setIfInBounds_toArray, List.set_cons_zero, List.set_cons_succ]
                        refine skip_held 22 (by assumption) rfl (by kernel_rfl) (by kernel_rfl) (by kernel_rfl) (fun _ _ _ h => h) (by kernel_rfl) ?_
                        simp only [Act.put, List.setIfInBounds_toArray, List.set_cons_zero, List.set_cons_succ]
                        refine skip_held 23 (by assumption) rfl (by kernel_rfl) (by kernel_rfl) (by kernel_rfl) (fun _ _ _ h => h) (by kernel_rfl) ?_
                        simp only [Act.put, List.setIfInBounds_toArray, List.set_cons_zero, List.set_cons_succ]
                        refine skip_held 24 (by assumption) rfl (by kernel_rfl) (by kernel_rfl) (by kernel_rfl) (fun _ _ _ h => h) (by kernel_rfl) ?_
                        simp only [Act.put, List.setIfInBounds_toArray, List.set_cons_zero, List.set_cons_succ]
                        refine take_held 25 (by assumption) rfl (by kernel_rfl) (by kernel_rfl) (by kernel_rfl) (fun _ _ _ h => h) (by kernel_rfl) (v := ?v211) ?y211 ?r211
                        case y211 => (intro u hu; go_simp; try rfl)
                        simp only [Act.put, List.setIfInBounds_toArray, List.set_cons_zero, List.set_cons_succ]
                        refine take_held 26 (by assumption) rfl (by kernel_rfl) (by kernel_rfl) (by kernel_rfl) (fun _ _ _ h => h) (by kernel_rfl) (v := ?v212) ?y212 ?r212
                        case y212 => (intro u hu; go_simp; try rfl)
                        simp only [Act.put, List.setIfInBounds_toArray, List.set_cons_zero, List.set_cons_succ]
                        refine take_held 27 (by assumption) rfl (by kernel_rfl) (by kernel_rfl) (by kernel_rfl) (fun _ _ _ h => h) (by kernel_rfl) (v := ?v213) ?y213 ?r213
                        case y213 => (intro u hu; go_simp; try rfl)
                        simp only [Act.put, List.setIfInBounds_toArray, List.set_cons_zero, List.set_cons_succ]
                        refine done_held (by kernel_rfl) ?_ _
                        go_wp2
                        go_meet
                        exact ⟨rfl, rfl⟩
                      · have d1 : ¬ (k : Int) < (t : Int) := by omega
                        refine start_held (S := IH) 28 rfl (by kernel_rfl) (hS) ?_
                        simp only [Array.replicate_succ, Array.replicate_zero, List.push_toArray, List.nil_append, List.cons_append]
                        refine take_held 0 (by assumption) rfl (by kernel_rfl) (by kernel_rfl) (by kernel_rfl) (fun _ _ _ h => h) (by kernel_rfl) (v := ?v214) ?y214 ?r214
                        case y214 => (intro u hu; go_simp; try rfl)
                        simp only [Act.put, List.setIfInBounds_toArray, List.set_cons_zero, List.set_cons_succ]
                        refine take_held 1 (by assumption) rfl (by kernel_rfl) (by kernel_rfl) (by kernel_rfl) (fun _ _ _ h => h) (by kernel_rfl) (v := ?v215) ?y215 ?r215
                        case y215 => (intro u hu; go_simp; try rfl)
                        simp only [Act.put, List.setIfInBounds_toArray, List.set_cons_zero, List.set_cons_succ]
                        refine take_held 2 (by assumption) rfl (by kernel_rfl) (by kernel_rfl) (by kernel_rfl) (fun _ _ _ h => h) (by kernel_rfl) (v := ?v216) ?y216 ?r216
                        case y216 => (intro u hu; go_simp; try rfl)
                        simp only [Act.put, List.setIfInBounds_toArray, List.set_cons_zero, List.set_cons_succ]
                        refine take_held 3 (by assumption) rfl (by kernel_rfl) (by kernel_rfl) (by kernel_rfl) (fun _ _ _ h => h) (by kernel_rfl) (v := ?v217) ?y217 ?r217
                        case y217 => (intro u hu; have zz0 := SS u hu; go_simp; try rfl)
                        simp only [Act.put, List.setIfInBounds_toArray, List.set_cons_zero, List.set_cons_succ]
                        refine take_held 4 (by assumption) rfl (by kernel_rfl) (by kernel_rfl) (by kernel_rfl) (fun _ _ _ h => h) (by kernel_rfl) (v := ?v218) ?y218 ?r218
                        case y218 => (intro u hu; go_simp; try rfl)
                        simp only [Act.put, List.setIfInBounds_toArray, List.set_cons_zero, List.set_cons_succ]
                        refine take_held 5 (by assumption) rfl (by kernel_rfl) (by kernel_rfl) (by kernel_rfl) (fun _ _ _ h => h) (by kernel_rfl) (v := ?v219) ?y219 ?r219
                        case y219 => (intro u hu; go_simp; try rfl)
                        simp only [Act.put, List.setIfInBounds_toArray, List.set_cons_zero, List.set_cons_succ]
                        refine take_held 6 (by assumption) rfl (by kernel_rfl) (by kernel_rfl) (by kernel_rfl) (fun _ _ _ h => h) (by kernel_rfl) (v := ?v220) ?y220 ?r220
                        case y220 => (intro u hu; go_simp; try rfl)
                        simp only [Act.put, List.setIfInBounds_toArray, List.set_cons_zero, List.set_cons_succ]
                        refine take_held 7 (by assumption) rfl (by kernel_rfl) (by kernel_rfl) (by kernel_rfl) (fun _ _ _ h => h) (by kernel_rfl) (v := ?v221) ?y221 ?r221
                        case y221 => (intro u hu; go_simp; try rfl)
                        simp only [Act.put, List.setIfInBounds_toArray, List.set_cons_zero, List.set_cons_succ]
                        refine take_held 8 (by assumption) rfl (by kernel_rfl) (by kernel_rfl) (by kernel_rfl) (fun _ _ _ h => h) (by kernel_rfl) (v := ?v222) ?y222 ?r222
                        case y222 => (intro u hu; have zz0 := KK u hu; go_simp; try rfl)
                        simp only [Act.put, List.setIfInBounds_toArray, List.set_cons_zero, List.set_cons_succ]
                        refine take_held 9 (by assumption) rfl (by kernel_rfl) (by kernel_rfl) (by kernel_rfl) (fun _ _ _ h => h) (by kernel_rfl) (v := ?v223) ?y223 ?r223
                        case y223 => (intro u hu; go_simp; try rfl)
                        simp only [Act.put, List.setIfInBounds_toArray, List.set_cons_zero, List.set_cons_succ]
                        refine take_held 10 (by assumption) rfl (by kernel_rfl) (by kernel_rfl) (by kernel_rfl) (fun _ _ _ h => h) (by kernel_rfl) (v := ?v224) ?y224 ?r224
                        case y224 => (intro u hu; have zz0 := X0 u hu; go_simp; try rfl)
                        simp only [Act.put, List.setIfInBounds_toArray, List.set_cons_zero, List.set_cons_succ]
                        refine take_held 11 (by assumption) rfl (by kernel_rfl) (by kernel_rfl) (by kernel_rfl) (fun _ _ _ h => h) (by kernel_rfl) (v := .bool false) ?y225 ?r225
                        case y225 => (intro u hu; go_simp; try simp; try omega)
                        simp only [Act.put, List.setIfInBounds_toArray, List.set_cons_zero, List.set_cons_succ]
                        refine take_held 12 (by assumption) rfl (by kernel_rfl) (by kernel_rfl) (by kernel_rfl) (fun _ _ _ h => h) (by kernel_rfl) (v := ?v226) ?y226 ?r226
                        case y226 => (intro u hu; go_simp; try rfl)
                        simp only [Act.put, List.setIfInBounds_toArray, List.set_cons_zero, List.set_cons_succ]
                        refine take_held 13 (by assumption) rfl (by kernel_rfl) (by kernel_rfl) (by kernel_rfl) (fun _ _ _ h => h) (by kernel_rfl) (v := ?v227) ?y227 ?r227
                        case y227 => (intro u hu; go_simp; try rfl)
                        simp only [Act.put, List.setIfInBounds_toArray, List.set_cons_zero, List.set_cons_succ]
                        refine take_held 14 (by assumption) rfl (by kernel_rfl) (by kernel_rfl) (by kernel_rfl) (fun _ _ _ h => h) (by kernel_rfl) (v := ?v228) ?y228 ?r228
                        case y228 => (intro u hu; go_simp; try rfl)
                        simp only [Act.put, List.setIfInBounds_toArray, List.set_cons_zero, List.set_cons_succ]
                        refine take_held 15 (by assumption) rfl (by kernel_rfl) (by kernel_rfl) (by kernel_rfl) (fun _ _ _ h => h) (by kernel_rfl) (v := ?v229) ?y229 ?r229
                        case y229 => (intro u hu; go_simp; try rfl)
                        simp only [Act.put, List.setIfInBounds_toArray, List.set_cons_zero, List.set_cons_succ]
                        refine take_held 16 (by assumption) rfl (by kernel_rfl) (by kernel_rfl) (by kernel_rfl) (fun _ _ _ h => h) (by kernel_rfl) (v := ?v230) ?y230 ?r230
                        case y230 => (intro u hu; have zz0 := KK u hu; go_simp; try rfl)
                        simp only [Act.put, List.setIfInBounds_toArray, List.set_cons_zero, List.set_cons_succ]
                        refine take_held 17 (by assumption) rfl (by kernel_rfl) (by kernel_rfl) (by kernel_rfl) (fun _ _ _ h => h) (by kernel_rfl) (v := ?v231) ?y231 ?r231
                        case y231 => (intro u hu; go_simp; try rfl)
                        simp only [Act.put, List.setIfInBounds_toArray, List.set_cons_zero, List.set_cons_succ]
                        refine take_held 18 (by assumption) rfl (by kernel_rfl) (by kernel_rfl) (by kernel_rfl) (fun _ _ _ h => h) (by kernel_rfl) (v := ?v232) ?y232 ?r232
                        case y232 => (intro u hu; have zz0 := X0 u hu; go_simp; try rfl)
                        simp only [Act.put, List.setIfInBounds_toArray, List.set_cons_zero, List.set_cons_succ]
                        refine take_held 19 (by assumption) rfl (by kernel_rfl) (by kernel_rfl) (by kernel_rfl) (fun _ _ _ h => h) (by kernel_rfl) (v := .bool true) ?y233 ?r233
                        case y233 => (intro u hu; go_simp; try simp; try omega)
                        simp only [Act.put, List.setIfInBounds_toArray, List.set_cons_zero, List.set_cons_succ]
                        refine take_held 20 (by assumption) rfl (by kernel_rfl) (by kernel_rfl) (by kernel_rfl) (fun _ _ _ h => h) (by kernel_rfl) (v := ?v234) ?y234 ?r234
                        case y234 => (intro u hu; go_simp; try rfl)
                        simp only [Act.put, List.setIfInBounds_toArray, List.set_cons_zero, List.set_cons_succ]
                        refine take_held 21 (by assumption) rfl (by kernel_rfl) (by kernel_rfl) (by kernel_rfl) (fun _ _ _ h => h) (by kernel_rfl) (v := ?v235) ?y235 ?r235
                        case y235 => (intro u hu; go_simp; try rfl)
                        simp only [Act.put, List.setIfInBounds_toArray, List.set_cons_zero, List.set_cons_succ]
                        refine take_held 22 (by assumption) rfl (by kernel_rfl) (by kernel_rfl) (by kernel_rfl) (fun _ _ _ h => h) (by kernel_rfl) (v := ?v236) ?y236 ?r236
                        case y236 => (intro u hu; go_simp; try rfl)
                        simp only [Act.put, List.setIfInBounds_toArray, List.set_cons_zero, List.set_cons_succ]
                        refine take_held 23 (by assumption) rfl (by kernel_rfl) (by kernel_rfl) (by kernel_rfl) (fun _ _ _ h => h) (by kernel_rfl) (v := ?v237) ?y237 ?r237
                        case y237 => (intro u hu; have zz0 := X1 u hu; go_simp; try rfl)
                        simp only [Act.put, List.setIfInBounds_toArray, List.set_cons_zero, List.set_cons_succ]
                        refine take_held 24 (by assumption) rfl (by kernel_rfl) (by kernel_rfl) (by kernel_rfl) (fun _ _ _ h => h) (by kernel_rfl) (v := .bool false) ?y238 ?r238
                        case y238 => (intro u hu; go_simp; try simp; try omega)
                        simp only [Act.put, List.setIfInBounds_toArray, List.set_cons_zero, List.set_cons_succ]
                        refine take_held 25 (by assumption) rfl (by kernel_rfl) (by kernel_rfl) (by kernel_rfl) (fun _ _ _ h => h) (by kernel_rfl) (v := ?v239) ?y239 ?r239
                        case y239 => (intro u hu; go_simp; try rfl)
                        simp only [Act.put, List.setIfInBounds_toArray, List.set_cons_zero, List.set_cons_succ]
                        refine take_held 26 (by assumption) rfl (by kernel_rfl) (by kernel_rfl) (by kernel_rfl) (fun _ _ _ h => h) (by kernel_rfl) (v := ?v240) ?y240 ?r240
                        case y240 => (intro u hu; go_simp; try rfl)
                        simp only [Act.put, List.setIfInBounds_toArray, List.set_cons_zero, List.set_cons_succ]
                        refine take_held 27 (by assumption) rfl (by kernel_rfl) (by kernel_rfl) (by kernel_rfl) (fun _ _ _ h => h) (by kernel_rfl) (v := ?v241) ?y241 ?r241
                        case y241 => (intro u hu; go_simp; try rfl)
                        simp only [Act.put, List.setIfInBounds_toArray, List.set_cons_zero, List.set_cons_succ]
                        refine done_held (by kernel_rfl) ?_ _
                        go_wp2
                        go_meet
                        exact ⟨rfl, rfl⟩
                  case rest =>
                    obtain ⟨rfl, rfl⟩ := hcut
                    go_wp2
                    go_roundw
                    case rel => exact ⟨k + 1, by go_num, by omega, bq.drew⟩
                    case measure => simp [intOf]; omega
                · obtain rfl : k = i + 1 := by omega
                  have hki' : ¬ ((i : Int) + 1 ≤ (i : Int)) := by omega
                  have hki2 : ¬ (((i + 1 : Nat) : Int) ≤ (i : Int)) := by omega
                  go_wp2
                  go_roundw
                  case rel => exact ⟨i + 1, v9, s1, by go_num, by omega, G12.out.go bq, L12.out, S12.out.same (bq.block g (by omega)), V9.out, by have := bq.size; omega, cq⟩
                  case measure => simp [intOf]; omega
      · have hpm' : (m : Int) ≤ (i : Int) := by omega
        go_wp2
        try rw [hX]
        go_roundw
        case rel => exact ⟨i + 1, v6, s1, by go_num, by omega, HG8.out, HL8.out, HS8.out, HV8.out, by omega, c8⟩
        case measure => simp [intOf]; omega
    · obtain rfl : i = n := by omega
      have hin : ¬ ((i : Int) < (i : Int)) := by omega
      have cl := HL.out.len
      go_wp2_with fail
      go_loopw [13, 14] (fun cx jx wq => ∃ j : Nat, cx = .int .i64 (s.countP (fun x => decide (x.t < j)) : Nat) ∧ jx = .int .i64 j ∧ j ≤ i ∧ wq = wr) (fun cx jx wq => i - (intOf jx).toNat)
      case atStart => exact ⟨0, by rw [count_none]; rfl, rfl, Nat.zero_le _, rfl⟩
      case round =>
        rename_i wo _
        obtain ⟨j, rfl, rfl, hj, hw⟩ := hrel
        subst hw
        have cle := count_le HL.out.apart j
        by_cases hji : j < i
        · have hji' : (j : Int) < (i : Int) := by omega
          have sj := HS.out.cell j hji
          have ci := count_in HL.out.apart j
          generalize hcc : s.countP (fun x => decide (x.t < j)) = cc at *
          generalize hcd : s.countP (fun x => decide (x.t < j + 1)) = cd at *
          cases hb : inB s j with
          | false =>
            rw [hb] at sj ci
            simp only [Bool.false_eq_true, if_false, Nat.add_zero] at ci
            go_wp2
            go_roundw
            case rel => exact ⟨j + 1, by rw [hcd, ci], by go_num, by omega, by first | trivial | rfl⟩
            case measure => simp [intOf]; omega
          | true =>
            rw [hb] at sj ci
            simp only [if_true] at ci
            go_wp2
            go_roundw
            case rel => exact ⟨j + 1, by rw [hcd, ci]; exact congrArg (Value.int IntKind.i64) (by omega), by go_num, by omega, by first | trivial | rfl⟩
            case measure => simp [intOf]; omega
        · obtain rfl : j = i := by omega
          have hji' : ¬ ((j : Int) < (j : Int)) := by omega
          rw [count_all HL.out]
          obtain ⟨q, hq⟩ : ∃ q, s.length = q := ⟨_, rfl⟩
          have G0 := HG.out
          have cL := len_any B b v s j _ G0
          rw [hq] at cL cl ⊢
          have pb := place_bd (q : Int) 1000 (by omega)
          have cP := fun w1 => place_any (q : Int) 1000 w1 (by omega) (by omega)
          obtain ⟨r, hr⟩ : ∃ r, place (q : Int) 1000 = r := ⟨_, rfl⟩
          rw [hr] at pb cP
          have cA := fun w1 h1 => all_any B b v s j (1 + r) w1 h1 (by omega) (by omega) (by omega)
          obtain ⟨A, hA⟩ : ∃ A, (s.map vOf).take (1 + r).toNat = A := ⟨_, rfl⟩
          have hAl : A.length ≤ q := by rw [← hA, List.length_take, List.length_map, hq]; omega
          rw [hA] at cA
          generalize hz : A.length = z at *
          have hzq : (z : Int) ≤ (q : Int) := by omega
          clear hr HG HL HS HV cle hA hz hq
          go_wp2_with (first
            | (go_at_call 26; refine cL.mono ?_; rintro e w6 ⟨rfl, rfl⟩)
            | (go_at_call 13; refine (cP _).mono ?_; rintro e w7 ⟨rfl, rfl⟩)
            | (go_at_call 21; refine (cA _ G0).mono ?_; rintro e w8 ⟨xa, rfl, oa, ba⟩; obtain ⟨xaa, xac, rfl, _⟩ := own_form oa))
          go_ret
          exact ⟨rfl, cr.trans (ba.mono (by have := cr.size; omega))⟩
end Go.Proofs.Ytpbmkflkggeggaa.Hp
