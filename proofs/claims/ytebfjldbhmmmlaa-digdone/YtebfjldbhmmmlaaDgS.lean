/-
  A row of cells in memory that is sorted in place; stretches of it change places.
  Two stretches that stand side by side change places.
  Insertion: a stretch of the row is sorted.
-/
import Derived.Test.YtebfjldbhmmmlaaGridAwayCalls
import Derived.Test.YtebfjldbhmmmlaaSrtPlain
import Derived.BigRegion
import Derived.Test.YtebfjldbhmmmlaaDgE
namespace Go.Proofs.Ytebfjldbhmmmlaa.Srt
set_option linter.unusedVariables false
set_option linter.unusedSimpArgs false
open Go Go.RowKit Go.Shelf Go.Proofs Go.Proofs.Ytebfjldbhmmmlaa.Grid
attribute [local go_sem] Oper.semAt_some

/- Nothing old has turned but block g. -/
structure Fx (g : Nat) (w w' : World) : Prop where
  os : w'.os = w.os
  tape : w'.tape = w.tape
  output : w'.output = w.output
  size : w.heap.size ≤ w'.heap.size
  block : ∀ k, k < w.heap.size → k ≠ g → w'.heap[k]? = w.heap[k]?
theorem Fx.refl (g : Nat) (w : World) : Fx g w w := ⟨rfl, rfl, rfl, Nat.le_refl _, fun _ _ _ => rfl⟩
theorem Fx.trans {g : Nat} {w w1 w2 : World} (h : Fx g w w1) (k : Fx g w1 w2) : Fx g w w2 :=
  ⟨k.os.trans h.os, k.tape.trans h.tape, k.output.trans h.output, Nat.le_trans h.size k.size, fun j hj hn => (k.block j (Nat.lt_of_lt_of_le hj h.size) hn).trans (h.block j hj hn)⟩
theorem Fx.below {g : Nat} {w w' : World} (h : Below w.heap.size w w') : Fx g w w' := ⟨h.os, h.tape, h.output, h.size, fun k hk _ => h.block k hk⟩
/- A row of n cells in block g. -/
structure SRow (w : World) (g S n : Nat) (f : Nat → Cell) : Prop where
  hd : ∃ cur : Array Value, w.heap[g]? = some (.cells cur 30 (0, 0)) ∧ cur.size = S ∧ ∀ k, k < n → cur[k * 2]? = some (.int .i64 (f k).1) ∧ cur[k * 2 + 1]? = some (.int .i64 (f k).2)
theorem SRow.cell {w : World} {g S n : Nat} {f : Nat → Cell} (h : SRow w g S n f) {k : Nat} (hk : k < n) : w.cell? ⟨g, k * 2, none⟩ = some (.int .i64 (f k).1) ∧ w.cell? ⟨g, k * 2 + 1, none⟩ = some (.int .i64 (f k).2) := by
  obtain ⟨cur, h1, _, h3⟩ := h.hd
  exact ⟨(cell_of h1 _).trans (h3 k hk).1, (cell_of h1 _).trans (h3 k hk).2⟩
theorem SRow.frozen {w : World} {g S n : Nat} {f : Nat → Cell} (h : SRow w g S n f) (o : Nat) : w.frozen? ⟨g, o, none⟩ = false := by
  obtain ⟨cur, h1, _, h3⟩ := h.hd
  exact frozen_of h1 o
theorem SRow.lt {w : World} {g S n : Nat} {f : Nat → Cell} (h : SRow w g S n f) : g < w.heap.size := by
  obtain ⟨cur, h1, _, h3⟩ := h.hd
  exact lt_of_heap h1
theorem SRow.go {w w' : World} {g S n : Nat} {f : Nat → Cell} (h : SRow w g S n f) (hb : Below w.heap.size w w') : SRow w' g S n f := by
  obtain ⟨cur, h1, h2, h3⟩ := h.hd
  exact ⟨cur, (hb.block _ (lt_of_heap h1)).trans h1, h2, h3⟩
def put2 (w : World) (g i : Nat) (c : Cell) : World := (w.setCell ⟨g, i * 2, none⟩ (.int .i64 c.1)).setCell ⟨g, i * 2 + 1, none⟩ (.int .i64 c.2)
theorem put2_fx (w : World) (g i : Nat) (c : Cell) : Fx g w (put2 w g i c) :=
  ⟨rfl, rfl, rfl, by simp [put2, World.setCell], fun k _ hk => (Below.heap_setCell _ _ _ k hk).trans (Below.heap_setCell _ _ _ k hk)⟩
theorem SRow.put {w : World} {g S n : Nat} {f : Nat → Cell} (h : SRow w g S n f) (i : Nat) (c : Cell) (hi : i < n) : SRow (put2 w g i c) g S n (fun k => if k = i then c else f k) := by
  obtain ⟨cur, h1, h2, h3⟩ := h.hd
  refine ⟨(cur.setIfInBounds (i * 2) (.int .i64 c.1)).setIfInBounds (i * 2 + 1) (.int .i64 c.2), ?_, by simp [h2], fun k hk => ?_⟩
  · unfold put2
    exact heap_setCell_same _ _ _ _ _ _ (heap_setCell_same _ _ _ _ _ _ h1)
  · have hs := h3 i hi
    have b0 : i * 2 < cur.size := (Array.getElem?_eq_some_iff.1 hs.1).1
    have b1 : i * 2 + 1 < cur.size := (Array.getElem?_eq_some_iff.1 hs.2).1
    by_cases e : k = i
    · rw [if_pos e, e]
      constructor
      · rw [Array.getElem?_setIfInBounds_ne (by omega), Array.getElem?_setIfInBounds_self_of_lt b0]
      · rw [Array.getElem?_setIfInBounds_self_of_lt (by simpa using b1)]
    · rw [if_neg e]
      have := h3 k hk
      constructor
      · rw [Array.getElem?_setIfInBounds_ne (by omega), Array.getElem?_setIfInBounds_ne (by omega)]; exact this.1
      · rw [Array.getElem?_setIfInBounds_ne (by omega), Array.getElem?_setIfInBounds_ne (by omega)]; exact this.2
theorem SRow.swap {w : World} {g S n : Nat} {x : Nat → Cell} {p : Nat → Nat} (h : SRow w g S n (fun k => x (p k))) {i j : Nat} (hi : i < n) (hj : j < n) (hij : i ≠ j) : SRow (put2 (put2 w g i (x (p j))) g j (x (p i))) g S n (fun k => x (swp p i j k)) := by
  have := (h.put i (x (p j)) hi).put j (x (p i)) hj
  refine ⟨?_⟩
  obtain ⟨cur, h1, h2, h3⟩ := this.hd
  refine ⟨cur, h1, h2, fun k hk => ?_⟩
  have := h3 k hk
  unfold swp
  by_cases e : k = i
  · rw [if_neg (by omega), if_pos e] at this
    rw [if_pos e]
    exact this
  · by_cases e' : k = j
    · rw [if_pos e'] at this
      rw [if_neg e, if_pos e']
      exact this
    · rw [if_neg e', if_neg e] at this
      rw [if_neg e, if_neg e']
      exact this
/- A function that compares two cells by their keys, and turns nothing; what it leans on stays while block g alone is turned. -/
structure Cmp (fy : Nat) (fr : Array Value) (key : Cell → Int) (g : Nat) (Cx : World → Prop) : Prop where
  enter : ∀ args w, (callFunc fy args).run Try.prog w = .ok (.enter fy args) w
  call : ∀ (a b : Cell) u, Cx u → Calls Try.prog fy (#[.agg #[.int .i64 a.1, .int .i64 a.2], .agg #[.int .i64 b.1, .int .i64 b.2]] ++ fr) u fun e w' => ∃ v, e = .returned v ∧ (∃ z : Int, v = .int .i64 z ∧ decide (z < 0) = decide (key a < key b)) ∧ Below u.heap.size u w'
  keep : ∀ u u', Cx u → Fx g u u' → Cx u'
/- What is sorted: the row, and what the comparison leans on. -/
structure SS (g S n : Nat) (x : Nat → Cell) (Cx : World → Prop) (p : Nat → Nat) (w : World) : Prop where
  row : SRow w g S n (fun k => x (p k))
  cx : Cx w
section
variable {fy : Nat} {fr : Array Value} {key : Cell → Int} {g : Nat} {Cx : World → Prop} (K : Cmp fy fr key g Cx) {S n cap : Nat} {x : Nat → Cell}
include K
theorem SS.go {p : Nat → Nat} {w w' : World} (h : SS g S n x Cx p w) (hb : Below w.heap.size w w') : SS g S n x Cx p w' := ⟨h.row.go hb, K.keep _ _ h.cx (Fx.below hb)⟩
theorem SS.swap {p : Nat → Nat} {w : World} (h : SS g S n x Cx p w) {i j : Nat} (hi : i < n) (hj : j < n) (hij : i ≠ j) : SS g S n x Cx (swp p i j) (put2 (put2 w g i (x (p j))) g j (x (p i))) ∧ Fx g w (put2 (put2 w g i (x (p j))) g j (x (p i))) := by
  have f := (put2_fx w g i (x (p j))).trans (put2_fx _ g j (x (p i)))
  exact ⟨⟨h.row.swap hi hj hij, K.keep _ _ h.cx f⟩, f⟩
set_option maxRecDepth 100000 in
set_option maxHeartbeats 4000000 in
theorem swapRange_any (hn : n ≤ 1000000) (p : Nat → Nat) (w : World) (h : SS g S n x Cx p w) (a b m : Nat) (hab : a + m ≤ b) (hb : b + m ≤ n) :
    Calls Try.prog 78 #[.slice (some ⟨g, 0, none⟩) n cap, .int .i64 a, .int .i64 b, .int .i64 m, .func (.func fy) #[] fr] w fun e w' => e = .returned (.tuple #[]) ∧ SS g S n x Cx (swr p a b m) w' ∧ Fx g w w' := by
  have H0 : Hid (SS g S n x Cx (swr p a b 0) w) := by rw [swr_zero]; exact h
  clear h
  go_enter Try.func78, Try.ntmps78
  go_wp2
  go_loopw [10] (fun v wr => ∃ t : Nat, t ≤ m ∧ v = .int .i64 t ∧ Hid (SS g S n x Cx (swr p a b t) wr) ∧ Hid (Fx g w wr)) (fun v _ => m - (intOf v).toNat)
  case atStart => exact ⟨0, Nat.zero_le _, rfl, H0, Fx.refl _ _⟩
  case round =>
    clear H0
    obtain ⟨t, ht, rfl, HS, HF⟩ := hrel
    by_cases hlt : t < m
    · obtain ⟨i, hi⟩ : ∃ i, a + t = i := ⟨_, rfl⟩
      obtain ⟨j, hj⟩ : ∃ j, b + t = j := ⟨_, rfl⟩
      have HQ := SS.swap K HS.out (i := i) (j := j) (by omega) (by omega) (by omega)
      have ci := HS.out.row.cell (k := i) (by omega)
      have cj := HS.out.row.cell (k := j) (by omega)
      have HW : Hid (swp (swr p a b t) i j = swr p a b (t + 1)) := by rw [← hi, ← hj]; exact swr_succ p (by omega)
      have hfz := HS.out.row.frozen
      generalize hX : x (swr p a b t i) = X at *
      generalize hY : x (swr p a b t j) = Y at *
      clear hX hY
      obtain ⟨c0, c1⟩ := ci
      obtain ⟨d0, d1⟩ := cj
      have HQ' : Hid _ := HQ
      clear HQ
      have e1 : (a : Int) + (t : Int) = (i : Int) := by omega
      have e2 : (b : Int) + (t : Int) = (j : Int) := by omega
      have w1 : IntKind.i64.wrap ((a : Int) + (t : Int)) = (i : Int) := by rw [e1, IntKind.wrap_i64]; omega
      have w2 : IntKind.i64.wrap ((b : Int) + (t : Int)) = (j : Int) := by rw [e2, IntKind.wrap_i64]; omega
      have hin : (i : Int) < (n : Int) := by omega
      have hjn : (j : Int) < (n : Int) := by omega
      have hij : i ≠ j := by omega
      clear hi hj e1 e2
      go_wp2
      go_region
      all_goals
        go_wp2
        go_roundw
        case rel =>
          refine ⟨t + 1, by omega, by go_num, ?_, ?_⟩
          · rw [← HW.out]
            exact SS.go K HQ'.out.1 (Below.refl _ _).drew
          · exact (HF.out.trans HQ'.out.2).trans (Fx.below (Below.refl _ _).drew)
        case measure => simp [intOf]; omega
    · obtain rfl : t = m := by omega
      go_wp2
      go_end0
      exact ⟨rfl, HS.out, HF.out⟩
end
end Go.Proofs.Ytebfjldbhmmmlaa.Srt
namespace Go.Proofs.Ytebfjldbhmmmlaa.Srt
set_option linter.unusedVariables false
set_option linter.unusedSimpArgs false
open Go Go.RowKit Go.Shelf Go.Proofs Go.Proofs.Ytebfjldbhmmmlaa.Grid
attribute [local go_sem] Oper.semAt_some

section
variable {fy : Nat} {fr : Array Value} {key : Cell → Int} {g : Nat} {Cx : World → Prop} (K : Cmp fy fr key g Cx) {S n cap : Nat} {x : Nat → Cell}
include K
set_option maxRecDepth 100000 in
set_option maxHeartbeats 4000000 in
theorem rotate_any (hn : n ≤ 1000000) (p : Nat → Nat) (w : World) (h : SS g S n x Cx p w) (a m b : Nat) (ham : a < m) (hmb : m < b) (hb : b ≤ n) :
    Calls Try.prog 75 #[.slice (some ⟨g, 0, none⟩) n cap, .int .i64 a, .int .i64 m, .int .i64 b, .func (.func fy) #[] fr] w fun e w' => e = .returned (.tuple #[]) ∧ SS g S n x Cx (rot p a m b) w' ∧ Fx g w w' := by
  have H0 : Hid (SS g S n x Cx p w) := h
  clear h
  go_enter Try.func75, Try.ntmps75
  go_wp2
  go_loopw [10, 11] (fun v10 v11 wr => ∃ (i j : Nat) (q : Nat → Nat), 0 < i ∧ 0 < j ∧ i ≤ m ∧ m + j ≤ n ∧ v10 = .int .i64 i ∧ v11 = .int .i64 j ∧ Hid (SS g S n x Cx q wr) ∧ Hid (rot q (m - i) m (m + j) = rot p a m b) ∧ Hid (Fx g w wr)) (fun v10 v11 _ => (intOf v10 + intOf v11).toNat)
  case atStart =>
    refine ⟨m - a, b - m, p, by omega, by omega, by omega, by omega, ?_, ?_, H0, ?_, Fx.refl _ _⟩
    · rw [show ((m - a : Nat) : Int) = (m : Int) - (a : Int) by omega]
    · rw [show ((b - m : Nat) : Int) = (b : Int) - (m : Int) by omega]
    · show rot p (m - (m - a)) m (m + (b - m)) = rot p a m b
      rw [show m - (m - a) = a by omega, show m + (b - m) = b by omega]
  case round =>
    clear H0
    obtain ⟨i, j, q, i0, j0, im, jn, rfl, rfl, HS, HR, HF⟩ := hrel
    by_cases hij : i = j
    · subst hij
      have cS := swapRange_any K (cap := cap) hn q wr HS.out (m - i) m i (by omega) (by omega)
      rw [show ((m - i : Nat) : Int) = (m : Int) - (i : Int) by omega] at cS
      have HE : Hid (swr q (m - i) m i = rot q (m - i) m (m + i)) := rot_same im rfl
      go_wp2_with (go_at_call 78; refine cS.mono ?_; rintro e w1 ⟨rfl, s1, f1⟩)
      go_end0
      refine ⟨rfl, ?_, HF.out.trans f1⟩
      rw [← HR.out, ← HE.out]
      exact s1
    · by_cases hlt : j < i
      · have cS := swapRange_any K (cap := cap) hn q wr HS.out (m - i) m j (by omega) (by omega)
        rw [show ((m - i : Nat) : Int) = (m : Int) - (i : Int) by omega] at cS
        have HE : Hid (rot (swr q (m - i) m j) (m - (i - j)) m (m + j) = rot q (m - i) m (m + j)) := rot_more im hlt j0 rfl
        have hne : ((i : Int) != (j : Int)) = true := by simp; omega
        have hne2 : decide ((i : Int) = (j : Int)) = false := decide_eq_false (by omega)
        have hd : decide ((j : Int) < (i : Int)) = true := decide_eq_true (by omega)
        go_wp2_with (go_at_call 78; refine cS.mono ?_; rintro e w1 ⟨rfl, s1, f1⟩)
        go_roundw
        case rel =>
          refine ⟨i - j, j, _, by omega, j0, by omega, jn, ?_, rfl, s1, ?_, HF.out.trans f1⟩
          · rw [show ((i - j : Nat) : Int) = (i : Int) - (j : Int) by omega]
          · show _ = _
            rw [HE.out]
            exact HR.out
        case measure => simp [intOf]; omega
      · have hlt2 : i < j := by omega
        have cS := swapRange_any K (cap := cap) hn q wr HS.out (m - i) (m + j - i) i (by omega) (by omega)
        rw [show ((m - i : Nat) : Int) = (m : Int) - (i : Int) by omega, show ((m + j - i : Nat) : Int) = (m : Int) + (j : Int) - (i : Int) by omega] at cS
        have HE : Hid (rot (swr q (m - i) (m + j - i) i) (m - i) m (m + (j - i)) = rot q (m - i) m (m + j)) := rot_less im hlt2 i0 rfl
        have hne : ((i : Int) != (j : Int)) = true := by simp; omega
        have hne2 : decide ((i : Int) = (j : Int)) = false := decide_eq_false (by omega)
        have hd : decide ((j : Int) < (i : Int)) = false := decide_eq_false (by omega)
        go_wp2_with (go_at_call 78; refine cS.mono ?_; rintro e w1 ⟨rfl, s1, f1⟩)
        go_roundw
        case rel =>
          refine ⟨i, j - i, _, i0, by omega, im, by omega, rfl, ?_, s1, ?_, HF.out.trans f1⟩
          · rw [show ((j - i : Nat) : Int) = (j : Int) - (i : Int) by omega]
          · show _ = _
            rw [HE.out]
            exact HR.out
        case measure => simp [intOf]; omega
end
end Go.Proofs.Ytebfjldbhmmmlaa.Srt
namespace Go.Proofs.Ytebfjldbhmmmlaa.Srt
set_option linter.unusedVariables false
set_option linter.unusedSimpArgs false
open Go Go.RowKit Go.Shelf Go.Proofs Go.Proofs.Ytebfjldbhmmmlaa.Grid
attribute [local go_sem] Oper.semAt_some

theorem run_call_fn {o : Oper} {a : Act} {w : World} (f x y : Operand) (ts : Array TypeId) (ho : o.op = .call { callee := .value f, args := #[x, y], argTypes := ts }) {fy : Nat} {fr : Array Value} {vx vy : Value} (hf : a.eval f = .func (.func fy) #[] fr) (hx : a.eval x = vx) (hy : a.eval y = vy) (hE : ∀ args w, (callFunc fy args).run Try.prog w = .ok (.enter fy args) w) : (execOp a.eval o).run Try.prog w = .ok (.enter fy (#[vx, vy] ++ fr)) w := by
  have e : execOp a.eval o = callFunc fy (#[vx, vy] ++ fr) := by
    unfold execOp resolve Deferred.ofValue invoke
    simp only [ho, hf, List.map_toArray, List.map_cons, List.map_nil, hx, hy]
    simp
  rw [e]
  exact hE _ _
theorem two_at {w u : World} {g o : Nat} {a b : Int} (hb : Below w.heap.size w u) (h0 : w.cell? ⟨g, o, none⟩ = some (.int .i64 a)) (h1 : w.cell? ⟨g, o + 1, none⟩ = some (.int .i64 b)) : ∀ jj zz, #[Value.int .i64 a, .int .i64 b][jj]? = some zz → u.cell? ((⟨g, o, none⟩ : Addr).add jj) = some zz := by
  intro jj zz hjj
  rw [Addr.add_lit]
  match jj with
  | 0 => simp at hjj; rw [← hjj]; exact cell_below h0 hb
  | 1 => simp at hjj; rw [← hjj]; exact cell_below h1 hb
  | jj + 2 => simp at hjj
section
variable {fy : Nat} {fr : Array Value} {key : Cell → Int} {g : Nat} {Cx : World → Prop} (K : Cmp fy fr key g Cx) {S n cap : Nat} {x : Nat → Cell}
include K
set_option maxRecDepth 100000 in
set_option maxHeartbeats 4000000 in
theorem insertion_any (hn : n ≤ 1000000) (p : Nat → Nat) (w : World) (h : SS g S n x Cx p w) (a b : Nat) (hab : a ≤ b) (hb : b ≤ n) (hnum : ∀ s t, a ≤ s → s < t → t < b → p s < p t) :
    Calls Try.prog 69 #[.slice (some ⟨g, 0, none⟩) n cap, .int .i64 a, .int .i64 b, .func (.func fy) #[] fr] w fun e w' => e = .returned (.tuple #[]) ∧ ∃ q, SS g S n x Cx q w' ∧ Mix a b p q ∧ Up (fun t => key (x t)) q a b ∧ Fx g w w' := by
  have H0 : Hid (SS g S n x Cx p w) := h
  have HN : Hid _ := hnum
  clear h hnum
  go_enter Try.func69, Try.ntmps69
  go_wp2
  go_loopw [8] (fun v wr => ∃ (i : Nat) (q : Nat → Nat), a + 1 ≤ i ∧ (i ≤ b ∨ i = a + 1) ∧ v = .int .i64 i ∧ Hid (SS g S n x Cx q wr) ∧ Hid (Insd (fun t => key (x t)) p a i q) ∧ Hid (Fx g w wr)) (fun v _ => b + 1 - (intOf v).toNat)
  case atStart => exact ⟨a + 1, p, Nat.le_refl _, Or.inr rfl, by simp, H0, Insd.start _ _ _, Fx.refl _ _⟩
  case round =>
    clear H0
    obtain ⟨i, q, hai, hib, rfl, HS0, HD, HF0⟩ := hrel
    by_cases hlt : i < b
    · have HI0 := HD.out.ins (by omega) hlt HN.out
      have hd0 : decide ((i : Int) < (b : Int)) = true := decide_eq_true (by omega)
      go_wp2_with fail
      go_loopw [9] (fun v wr => ∃ (j : Nat) (r : Nat → Nat), a ≤ j ∧ j ≤ i ∧ v = .int .i64 j ∧ Hid (SS g S n x Cx r wr) ∧ Hid (Ins (fun t => key (x t)) q a i j r) ∧ Hid (Fx g w wr)) (fun v _ => (intOf v).toNat)
      case atStart => exact ⟨i, q, by omega, Nat.le_refl _, rfl, HS0, HI0, HF0⟩
      case round =>
        clear HS0 HF0 HI0
        obtain ⟨j, r, haj, hji0, rfl, HS, HI, HF⟩ := hrel
        by_cases hja : j = a
        · have hd : decide ((a : Int) < (j : Int)) = false := decide_eq_false (by omega)
          have S0 : Below wr.heap.size wr wr.drew := (Below.refl _ _).drew
          have HU := HI.out.stop (Or.inl hja)
          go_wp2_with fail
          refine start_held (S := fun u => Below wr.heap.size wr u) 17 rfl (by kernel_rfl) (S0) ?_
          simp only [Array.replicate_succ, Array.replicate_zero, List.push_toArray, List.nil_append, List.cons_append]
          refine take_held 0 S0 rfl (by kernel_rfl) (by kernel_rfl) (by kernel_rfl) (fun _ _ _ h => h) (by kernel_rfl) (v := ?v0) ?y0 ?r0
          case y0 => (intro u hu; go_simp; try rfl)
          simp only [Act.put, List.setIfInBounds_toArray, List.set_cons_zero, List.set_cons_succ]
          refine take_held 1 S0 rfl (by kernel_rfl) (by kernel_rfl) (by kernel_rfl) (fun _ _ _ h => h) (by kernel_rfl) (v := ?v1) ?y1 ?r1
          case y1 => (intro u hu; go_simp; try rfl)
          simp only [Act.put, List.setIfInBounds_toArray, List.set_cons_zero, List.set_cons_succ]
          refine take_held 2 S0 rfl (by kernel_rfl) (by kernel_rfl) (by kernel_rfl) (fun _ _ _ h => h) (by kernel_rfl) (v := .bool false) ?y2 ?r2
          case y2 => (intro u hu; go_simp; try rfl)
          simp only [Act.put, List.setIfInBounds_toArray, List.set_cons_zero, List.set_cons_succ]
          refine take_held 3 S0 rfl (by kernel_rfl) (by kernel_rfl) (by kernel_rfl) (fun _ _ _ h => h) (by kernel_rfl) (v := ?v3) ?y3 ?r3
          case y3 => (intro u hu; go_simp; try rfl)
          simp only [Act.put, List.setIfInBounds_toArray, List.set_cons_zero, List.set_cons_succ]
          refine skip_held 4 S0 rfl (by kernel_rfl) (by kernel_rfl) (by kernel_rfl) (fun _ _ _ h => h) (by kernel_rfl) ?_
          simp only [Act.put, List.setIfInBounds_toArray, List.set_cons_zero, List.set_cons_succ]
          refine skip_held 5 S0 rfl (by kernel_rfl) (by kernel_rfl) (by kernel_rfl) (fun _ _ _ h => h) (by kernel_rfl) ?_
          simp only [Act.put, List.setIfInBounds_toArray, List.set_cons_zero, List.set_cons_succ]
          refine skip_held 6 S0 rfl (by kernel_rfl) (by kernel_rfl) (by kernel_rfl) (fun _ _ _ h => h) (by kernel_rfl) ?_
          simp only [Act.put, List.setIfInBounds_toArray, List.set_cons_zero, List.set_cons_succ]
          refine skip_held 7 S0 rfl (by kernel_rfl) (by kernel_rfl) (by kernel_rfl) (fun _ _ _ h => h) (by kernel_rfl) ?_
          simp only [Act.put, List.setIfInBounds_toArray, List.set_cons_zero, List.set_cons_succ]
          refine skip_held 8 S0 rfl (by kernel_rfl) (by kernel_rfl) (by kernel_rfl) (fun _ _ _ h => h) (by kernel_rfl) ?_
          simp only [Act.put, List.setIfInBounds_toArray, List.set_cons_zero, List.set_cons_succ]
          refine skip_held 9 S0 rfl (by kernel_rfl) (by kernel_rfl) (by kernel_rfl) (fun _ _ _ h => h) (by kernel_rfl) ?_
          simp only [Act.put, List.setIfInBounds_toArray, List.set_cons_zero, List.set_cons_succ]
          refine skip_held 10 S0 rfl (by kernel_rfl) (by kernel_rfl) (by kernel_rfl) (fun _ _ _ h => h) (by kernel_rfl) ?_
          simp only [Act.put, List.setIfInBounds_toArray, List.set_cons_zero, List.set_cons_succ]
          refine skip_held 11 S0 rfl (by kernel_rfl) (by kernel_rfl) (by kernel_rfl) (fun _ _ _ h => h) (by kernel_rfl) ?_
          simp only [Act.put, List.setIfInBounds_toArray, List.set_cons_zero, List.set_cons_succ]
          refine skip_held 12 S0 rfl (by kernel_rfl) (by kernel_rfl) (by kernel_rfl) (fun _ _ _ h => h) (by kernel_rfl) ?_
          simp only [Act.put, List.setIfInBounds_toArray, List.set_cons_zero, List.set_cons_succ]
          refine skip_held 13 S0 rfl (by kernel_rfl) (by kernel_rfl) (by kernel_rfl) (fun _ _ _ h => h) (by kernel_rfl) ?_
          simp only [Act.put, List.setIfInBounds_toArray, List.set_cons_zero, List.set_cons_succ]
          refine skip_held 14 S0 rfl (by kernel_rfl) (by kernel_rfl) (by kernel_rfl) (fun _ _ _ h => h) (by kernel_rfl) ?_
          simp only [Act.put, List.setIfInBounds_toArray, List.set_cons_zero, List.set_cons_succ]
          refine skip_held 15 S0 rfl (by kernel_rfl) (by kernel_rfl) (by kernel_rfl) (fun _ _ _ h => h) (by kernel_rfl) ?_
          simp only [Act.put, List.setIfInBounds_toArray, List.set_cons_zero, List.set_cons_succ]
          refine take_held 16 S0 rfl (by kernel_rfl) (by kernel_rfl) (by kernel_rfl) (fun _ _ _ h => h) (by kernel_rfl) (v := ?v4) ?y4 ?r4
          case y4 => (intro u hu; go_simp; try rfl)
          simp only [Act.put, List.setIfInBounds_toArray, List.set_cons_zero, List.set_cons_succ]
          refine done_held (by kernel_rfl) ?_ _
          go_wp2_with fail
          go_roundw
          case rel =>
            refine ⟨i + 1, r, by omega, by omega, by go_num, SS.go K HS.out S0, HD.out.next HI.out.mix HU, HF.out.trans (Fx.below S0)⟩
          case measure => simp [intOf]; omega
        · obtain ⟨i1, hi1⟩ : ∃ i1, j = i1 + 1 := ⟨j - 1, by omega⟩
          have HJ1 : Hid (j = i1 + 1) := hi1
          have hd : decide ((a : Int) < (j : Int)) = true := decide_eq_true (by omega)
          have w1 : IntKind.i64.wrap ((j : Int) - 1) = (i1 : Int) := by rw [IntKind.wrap_i64]; omega
          have w1' : (j : Int) - 1 = (i1 : Int) := by omega
          have w1'' : IntKind.i64.wrap (i1 : Int) = (i1 : Int) := by rw [IntKind.wrap_i64]; omega
          have hjn : (j : Int) < (n : Int) := by omega
          have hin : (i1 : Int) < (n : Int) := by omega
          have hji : j ≠ i1 := by omega
          have cX := HS.out.row.cell (k := j) (by omega)
          have cY := HS.out.row.cell (k := i1) (by omega)
          have HKK : Hid (key (x (r j)) < key (x (r i1)) ↔ key (x (r (i1 + 1))) < key (x (r i1))) := by rw [← hi1]; exact Iff.rfl
          have HSw := SS.swap K HS.out (i := j) (j := i1) (by omega) (by omega) hji
          have HSt : Hid (¬ key (x (r j)) < key (x (r i1)) → Up (fun t => key (x t)) r a (i + 1)) := fun h => HI.out.stop (Or.inr ⟨i1, hi1, h⟩)
          have HSp : Hid (key (x (r j)) < key (x (r i1)) → Ins (fun t => key (x t)) q a i i1 (swp r j i1)) := fun h => by
            have h2 := HI.out
            rw [hi1] at h2 h ⊢
            exact h2.step (by omega) h
          generalize hX : x (r j) = X at *
          generalize hY : x (r i1) = Y at *
          clear hX hY hi1
          have hfz := HS.out.row.frozen
          have HSw' : Hid _ := HSw
          clear HSw
          have HX : Hid (∀ u, Below wr.heap.size wr u → ∀ jj zz, #[Value.int .i64 X.1, .int .i64 X.2][jj]? = some zz → u.cell? ((⟨g, j * 2, none⟩ : Addr).add jj) = some zz) := fun u hu => two_at hu cX.1 cX.2
          have HY : Hid (∀ u, Below wr.heap.size wr u → ∀ jj zz, #[Value.int .i64 Y.1, .int .i64 Y.2][jj]? = some zz → u.cell? ((⟨g, i1 * 2, none⟩ : Addr).add jj) = some zz) := fun u hu => two_at hu cY.1 cY.2
          have cC : Hid (∀ u, Below wr.heap.size wr u → _) := fun u hu => K.call X Y u (K.keep _ _ HS.out.cx (Fx.below hu))
          have S0 : Below wr.heap.size wr wr.drew := (Below.refl _ _).drew
          have hE := K.enter
          by_cases hk : key X < key Y
          · rw [decide_eq_true hk] at cC
            clear cX cY
            go_wp2_with fail
            refine start_held (S := fun u => Below wr.heap.size wr u) 17 rfl (by kernel_rfl) (S0) ?_
            simp only [Array.replicate_succ, Array.replicate_zero, List.push_toArray, List.nil_append, List.cons_append]
            refine take_held 0 S0 rfl (by kernel_rfl) (by kernel_rfl) (by kernel_rfl) (fun _ _ _ h => h) (by kernel_rfl) (v := ?v5) ?y5 ?r5
            case y5 => (intro u hu; go_simp; try rfl)
            simp only [Act.put, List.setIfInBounds_toArray, List.set_cons_zero, List.set_cons_succ]
            refine take_held 1 S0 rfl (by kernel_rfl) (by kernel_rfl) (by kernel_rfl) (fun _ _ _ h => h) (by kernel_rfl) (v := ?v6) ?y6 ?r6
            case y6 => (intro u hu; go_simp; try rfl)
            simp only [Act.put, List.setIfInBounds_toArray, List.set_cons_zero, List.set_cons_succ]
            refine take_held 2 S0 rfl (by kernel_rfl) (by kernel_rfl) (by kernel_rfl) (fun _ _ _ h => h) (by kernel_rfl) (v := .bool true) ?y7 ?r7
            case y7 => (intro u hu; go_simp; first | rfl | omega)
            simp only [Act.put, List.setIfInBounds_toArray, List.set_cons_zero, List.set_cons_succ]
            refine take_held 3 S0 rfl (by kernel_rfl) (by kernel_rfl) (by kernel_rfl) (fun _ _ _ h => h) (by kernel_rfl) (v := ?v8) ?y8 ?r8
            case y8 => (intro u hu; go_simp; try rfl)
            simp only [Act.put, List.setIfInBounds_toArray, List.set_cons_zero, List.set_cons_succ]
            refine take_held 4 S0 rfl (by kernel_rfl) (by kernel_rfl) (by kernel_rfl) (fun _ _ _ h => h) (by kernel_rfl) (v := ?v9) ?y9 ?r9
            case y9 => (intro u hu; go_simp; try rfl)
            simp only [Act.put, List.setIfInBounds_toArray, List.set_cons_zero, List.set_cons_succ]
            refine take_held 5 S0 rfl (by kernel_rfl) (by kernel_rfl) (by kernel_rfl) (fun _ _ _ h => h) (by kernel_rfl) (v := ?v10) ?y10 ?r10
            case y10 => (intro u hu; go_simp; try rfl)
            simp only [Act.put, List.setIfInBounds_toArray, List.set_cons_zero, List.set_cons_succ]
            refine take_held 6 S0 rfl (by kernel_rfl) (by kernel_rfl) (by kernel_rfl) (fun _ _ _ h => h) (by kernel_rfl) (v := ?v11) ?y11 ?r11
            case y11 => (intro u hu; go_simp; try rfl)
            simp only [Act.put, List.setIfInBounds_toArray, List.set_cons_zero, List.set_cons_succ]
            refine take_held 7 S0 rfl (by kernel_rfl) (by kernel_rfl) (by kernel_rfl) (fun _ _ _ h => h) (by kernel_rfl) (v := ?v12) ?y12 ?r12
            case y12 => (intro u hu; go_simp; try rfl)
            simp only [Act.put, List.setIfInBounds_toArray, List.set_cons_zero, List.set_cons_succ]
            refine take_held 8 S0 rfl (by kernel_rfl) (by kernel_rfl) (by kernel_rfl) (fun _ _ _ h => h) (by kernel_rfl) (v := .agg #[.int .i64 X.1, .int .i64 X.2]) ?y13 ?r13
            case y13 => (intro u hu; exact run_load_op 30 _ rfl ⟨g, j * 2, none⟩ _ rfl (HX.out u hu) (aggCell u) infoCell2)
            simp only [Act.put, List.setIfInBounds_toArray, List.set_cons_zero, List.set_cons_succ]
            refine take_held 9 S0 rfl (by kernel_rfl) (by kernel_rfl) (by kernel_rfl) (fun _ _ _ h => h) (by kernel_rfl) (v := ?v14) ?y14 ?r14
            case y14 => (intro u hu; go_simp; try rfl)
            simp only [Act.put, List.setIfInBounds_toArray, List.set_cons_zero, List.set_cons_succ]
            refine take_held 10 S0 rfl (by kernel_rfl) (by kernel_rfl) (by kernel_rfl) (fun _ _ _ h => h) (by kernel_rfl) (v := ?v15) ?y15 ?r15
            case y15 => (intro u hu; go_simp; try rfl)
            simp only [Act.put, List.setIfInBounds_toArray, List.set_cons_zero, List.set_cons_succ]
            refine take_held 11 S0 rfl (by kernel_rfl) (by kernel_rfl) (by kernel_rfl) (fun _ _ _ h => h) (by kernel_rfl) (v := ?v16) ?y16 ?r16
            case y16 => (intro u hu; go_simp; try rfl)
            simp only [Act.put, List.setIfInBounds_toArray, List.set_cons_zero, List.set_cons_succ]
            refine take_held 12 S0 rfl (by kernel_rfl) (by kernel_rfl) (by kernel_rfl) (fun _ _ _ h => h) (by kernel_rfl) (v := ?v17) ?y17 ?r17
            case y17 => (intro u hu; go_simp; try rfl)
            simp only [Act.put, List.setIfInBounds_toArray, List.set_cons_zero, List.set_cons_succ]
            refine take_held 13 S0 rfl (by kernel_rfl) (by kernel_rfl) (by kernel_rfl) (fun _ _ _ h => h) (by kernel_rfl) (v := .agg #[.int .i64 Y.1, .int .i64 Y.2]) ?y18 ?r18
            case y18 => (intro u hu; exact run_load_op 30 _ rfl ⟨g, i1 * 2, none⟩ _ rfl (HY.out u hu) (aggCell u) infoCell2)
            simp only [Act.put, List.setIfInBounds_toArray, List.set_cons_zero, List.set_cons_succ]
            refine wpAnyH_ready (rs := [14]) (by kernel_rfl) (by simp) (AllReadyH.cons ((nth_eq _ 14).trans rfl) ?_ AllReadyH.nil)
            intro K' hK
            refine call_in hK (by kernel_rfl) fy (#[.agg #[.int .i64 X.1, .int .i64 X.2], .agg #[.int .i64 Y.1, .int .i64 Y.2]] ++ fr) ?hr21 (fun v w' => (∃ z : Int, v = .int .i64 z ∧ decide (z < 0) = true) ∧ Below wr.drew.heap.size wr.drew w') ?hc21 ?_
            case hc21 => exact cC.out _ S0
            case hr21 => exact run_call_fn (.tmp 22) (.tmp 26) (.tmp 31) _ rfl rfl rfl rfl hE
            rintro v x1 ⟨⟨z, rfl, hz⟩, b1⟩
            have S1 : Below wr.heap.size wr x1 := bcat S0 b1 (Nat.le_refl _)
            refine ⟨S1, ?_⟩
            simp only [Act.put, List.setIfInBounds_toArray, List.set_cons_zero, List.set_cons_succ]
            refine take_held 15 S1 rfl (by kernel_rfl) (by kernel_rfl) (by kernel_rfl) (fun _ _ _ h => h) (by kernel_rfl) (v := ?v19) ?y19 ?r19
            case y19 => (intro u hu; go_simp; try rfl)
            simp only [Act.put, List.setIfInBounds_toArray, List.set_cons_zero, List.set_cons_succ]
            refine take_held 16 S1 rfl (by kernel_rfl) (by kernel_rfl) (by kernel_rfl) (fun _ _ _ h => h) (by kernel_rfl) (v := ?v20) ?y20 ?r20
            case y20 => (intro u hu; go_simp; try rfl)
            simp only [Act.put, List.setIfInBounds_toArray, List.set_cons_zero, List.set_cons_succ]
            refine done_held (by kernel_rfl) ?_ _
            have HS1 := SS.go K HS.out S1
            obtain ⟨c0, c1⟩ := HS1.row.cell (k := j) (by omega)
            obtain ⟨d0, d1⟩ := HS1.row.cell (k := i1) (by omega)
            have hfz := HS1.row.frozen
            have HSw := SS.swap K HS1 (i := j) (j := i1) (by omega) (by omega) hji
            generalize x (r j) = X' at *
            generalize x (r i1) = Y' at *
            have HSw2 : Hid _ := HSw
            clear HSw HSw' hE
            go_wp2_with fail
            go_region
            all_goals
              go_wp2_with fail
              go_roundw
              case rel =>
                exact ⟨i1, _, by omega, by omega, rfl, SS.go K HSw2.out.1 (Below.refl _ _).drew, HSp.out hk, ((HF.out.trans (Fx.below S1)).trans HSw2.out.2).trans (Fx.below (Below.refl _ _).drew)⟩
              case measure => simp [intOf]; omega
          · rw [decide_eq_false hk] at cC
            clear cX cY
            go_wp2_with fail
            refine start_held (S := fun u => Below wr.heap.size wr u) 17 rfl (by kernel_rfl) (S0) ?_
            simp only [Array.replicate_succ, Array.replicate_zero, List.push_toArray, List.nil_append, List.cons_append]
            refine take_held 0 S0 rfl (by kernel_rfl) (by kernel_rfl) (by kernel_rfl) (fun _ _ _ h => h) (by kernel_rfl) (v := ?v22) ?y22 ?r22
            case y22 => (intro u hu; go_simp; try rfl)
            simp only [Act.put, List.setIfInBounds_toArray, List.set_cons_zero, List.set_cons_succ]
            refine take_held 1 S0 rfl (by kernel_rfl) (by kernel_rfl) (by kernel_rfl) (fun _ _ _ h => h) (by kernel_rfl) (v := ?v23) ?y23 ?r23
            case y23 => (intro u hu; go_simp; try rfl)
            simp only [Act.put, List.setIfInBounds_toArray, List.set_cons_zero, List.set_cons_succ]
            refine take_held 2 S0 rfl (by kernel_rfl) (by kernel_rfl) (by kernel_rfl) (fun _ _ _ h => h) (by kernel_rfl) (v := .bool true) ?y24 ?r24
            case y24 => (intro u hu; go_simp; first | rfl | omega)
            simp only [Act.put, List.setIfInBounds_toArray, List.set_cons_zero, List.set_cons_succ]
            refine take_held 3 S0 rfl (by kernel_rfl) (by kernel_rfl) (by kernel_rfl) (fun _ _ _ h => h) (by kernel_rfl) (v := ?v25) ?y25 ?r25
            case y25 => (intro u hu; go_simp; try rfl)
            simp only [Act.put, List.setIfInBounds_toArray, List.set_cons_zero, List.set_cons_succ]
            refine take_held 4 S0 rfl (by kernel_rfl) (by kernel_rfl) (by kernel_rfl) (fun _ _ _ h => h) (by kernel_rfl) (v := ?v26) ?y26 ?r26
            case y26 => (intro u hu; go_simp; try rfl)
            simp only [Act.put, List.setIfInBounds_toArray, List.set_cons_zero, List.set_cons_succ]
            refine take_held 5 S0 rfl (by kernel_rfl) (by kernel_rfl) (by kernel_rfl) (fun _ _ _ h => h) (by kernel_rfl) (v := ?v27) ?y27 ?r27
            case y27 => (intro u hu; go_simp; try rfl)
            simp only [Act.put, List.setIfInBounds_toArray, List.set_cons_zero, List.set_cons_succ]
            refine take_held 6 S0 rfl (by kernel_rfl) (by kernel_rfl) (by kernel_rfl) (fun _ _ _ h => h) (by kernel_rfl) (v := ?v28) ?y28 ?r28
            case y28 => (intro u hu; go_simp; try rfl)
            simp only [Act.put, List.setIfInBounds_toArray, List.set_cons_zero, List.set_cons_succ]
            refine take_held 7 S0 rfl (by kernel_rfl) (by kernel_rfl) (by kernel_rfl) (fun _ _ _ h => h) (by kernel_rfl) (v := ?v29) ?y29 ?r29
            case y29 => (intro u hu; go_simp; try rfl)
            simp only [Act.put, List.setIfInBounds_toArray, List.set_cons_zero, List.set_cons_succ]
            refine take_held 8 S0 rfl (by kernel_rfl) (by kernel_rfl) (by kernel_rfl) (fun _ _ _ h => h) (by kernel_rfl) (v := .agg #[.int .i64 X.1, .int .i64 X.2]) ?y30 ?r30
            case y30 => (intro u hu; exact run_load_op 30 _ rfl ⟨g, j * 2, none⟩ _ rfl (HX.out u hu) (aggCell u) infoCell2)
            simp only [Act.put, List.setIfInBounds_toArray, List.set_cons_zero, List.set_cons_succ]
            refine take_held 9 S0 rfl (by kernel_rfl) (by kernel_rfl) (by kernel_rfl) (fun _ _ _ h => h) (by kernel_rfl) (v := ?v31) ?y31 ?r31
            case y31 => (intro u hu; go_simp; try rfl)
            simp only [Act.put, List.setIfInBounds_toArray, List.set_cons_zero, List.set_cons_succ]
            refine take_held 10 S0 rfl (by kernel_rfl) (by kernel_rfl) (by kernel_rfl) (fun _ _ _ h => h) (by kernel_rfl) (v := ?v32) ?y32 ?r32
            case y32 => (intro u hu; go_simp; try rfl)
            simp only [Act.put, List.setIfInBounds_toArray, List.set_cons_zero, List.set_cons_succ]
            refine take_held 11 S0 rfl (by kernel_rfl) (by kernel_rfl) (by kernel_rfl) (fun _ _ _ h => h) (by kernel_rfl) (v := ?v33) ?y33 ?r33
            case y33 => (intro u hu; go_simp; try rfl)
            simp only [Act.put, List.setIfInBounds_toArray, List.set_cons_zero, List.set_cons_succ]
            refine take_held 12 S0 rfl (by kernel_rfl) (by kernel_rfl) (by kernel_rfl) (fun _ _ _ h => h) (by kernel_rfl) (v := ?v34) ?y34 ?r34
            case y34 => (intro u hu; go_simp; try rfl)
            simp only [Act.put, List.setIfInBounds_toArray, List.set_cons_zero, List.set_cons_succ]
            refine take_held 13 S0 rfl (by kernel_rfl) (by kernel_rfl) (by kernel_rfl) (fun _ _ _ h => h) (by kernel_rfl) (v := .agg #[.int .i64 Y.1, .int .i64 Y.2]) ?y35 ?r35
            case y35 => (intro u hu; exact run_load_op 30 _ rfl ⟨g, i1 * 2, none⟩ _ rfl (HY.out u hu) (aggCell u) infoCell2)
            simp only [Act.put, List.setIfInBounds_toArray, List.set_cons_zero, List.set_cons_succ]
            refine wpAnyH_ready (rs := [14]) (by kernel_rfl) (by simp) (AllReadyH.cons ((nth_eq _ 14).trans rfl) ?_ AllReadyH.nil)
            intro K' hK
            refine call_in hK (by kernel_rfl) fy (#[.agg #[.int .i64 X.1, .int .i64 X.2], .agg #[.int .i64 Y.1, .int .i64 Y.2]] ++ fr) ?hr38 (fun v w' => (∃ z : Int, v = .int .i64 z ∧ decide (z < 0) = false) ∧ Below wr.drew.heap.size wr.drew w') ?hc38 ?_
            case hc38 => exact cC.out _ S0
            case hr38 => exact run_call_fn (.tmp 22) (.tmp 26) (.tmp 31) _ rfl rfl rfl rfl hE
            rintro v x1 ⟨⟨z, rfl, hz⟩, b1⟩
            have S1 : Below wr.heap.size wr x1 := bcat S0 b1 (Nat.le_refl _)
            refine ⟨S1, ?_⟩
            simp only [Act.put, List.setIfInBounds_toArray, List.set_cons_zero, List.set_cons_succ]
            refine take_held 15 S1 rfl (by kernel_rfl) (by kernel_rfl) (by kernel_rfl) (fun _ _ _ h => h) (by kernel_rfl) (v := ?v36) ?y36 ?r36
            case y36 => (intro u hu; go_simp; try rfl)
            simp only [Act.put, List.setIfInBounds_toArray, List.set_cons_zero, List.set_cons_succ]
            refine take_held 16 S1 rfl (by kernel_rfl) (by kernel_rfl) (by kernel_rfl) (fun _ _ _ h => h) (by kernel_rfl) (v := ?v37) ?y37 ?r37
            case y37 => (intro u hu; go_simp; try rfl)
            simp only [Act.put, List.setIfInBounds_toArray, List.set_cons_zero, List.set_cons_succ]
            refine done_held (by kernel_rfl) ?_ _
            go_wp2_with fail
            go_roundw
            case rel =>
              refine ⟨i + 1, r, by omega, by omega, by go_num, SS.go K HS.out S1, HD.out.next HI.out.mix (HSt.out hk), HF.out.trans (Fx.below S1)⟩
            case measure => simp [intOf]; omega
    · have hd0 : decide ((i : Int) < (b : Int)) = false := decide_eq_false (by omega)
      go_wp2_with fail
      go_end0
      rcases hib with e | e
      · obtain rfl : i = b := by omega
        exact ⟨rfl, q, HS0.out, HD.out.mix, HD.out.up, HF0.out⟩
      · subst e
        have := Insd.none (b := b) HD.out (by omega)
        exact ⟨rfl, q, HS0.out, this.1, this.2, HF0.out⟩
end
end Go.Proofs.Ytebfjldbhmmmlaa.Srt
