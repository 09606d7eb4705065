/-
  Whether stacks may stand.
-/
import Derived.Test.YtabbdclpjghdbaaRgC
import Derived.Laws.OwnMore
namespace Go.Proofs.Ytabbdclpjghdbaa.Grid
set_option linter.unusedVariables false
set_option linter.unusedSimpArgs false
open Go Go.RowKit

theorem run_made (t e : TypeId) (z : Value) (bytes : Nat) (ht : Try.prog.underlying t = some (.slice e)) (hi : (Try.prog.info? e).map (fun i => (i.zero, i.size, i.bytes)) = some (some z, 1, bytes)) (hzc : z.cells = #[z]) (n : Nat) (hb : bytes * n ≤ 281474976710656) (h63 : n ≤ 9223372036854775807) (w : World) :
    (Instr.makeSlice t (.int .i64 n) (.int .i64 n)).run Try.prog w = .ok (.slice (some ⟨w.heap.size, 0, none⟩) n n) (w.alloc (.cells (List.replicate n z).toArray e)) := by
  obtain ⟨i0, hi, hz0, hz1, hz2⟩ := info_parts hi
  have hb' : (i0.bytes : Int) * (n : Int) ≤ 281474976710656 := by
    rw [hz2]
    have h : ((bytes * n : Nat) : Int) ≤ 281474976710656 := by omega
    rwa [Int.natCast_mul] at h
  have hr := run_make (P := Try.prog) w t e i0 z ht hi hz0 .i64 .i64 n n (by omega) (Int.le_refl _) hb' (by omega)
  rw [hz1, hzc, Int.toNat_natCast, Nat.mul_one] at hr
  rw [hr, ← toList_madeCells_one, Array.toArray_toList]
theorem wpList_made {ops : Array Oper} {rest : List Oper} {o : Oper} {a : Act} {w : World} {Q : Exit → Act → World → Prop} (hg : o.guard = none) (l c : Operand) (t e : TypeId) (hop : o.op = Op.makeSlice t l c)
    (z : Value) (bytes : Nat) (ht : Try.prog.underlying t = some (.slice e)) (hi : (Try.prog.info? e).map (fun i => (i.zero, i.size, i.bytes)) = some (some z, 1, bytes)) (hzc : z.cells = #[z]) (n : Nat) (hl : a.eval l = .int .i64 n) (hc : a.eval c = .int .i64 n) (hb : bytes * n ≤ 281474976710656) (h63 : n ≤ 9223372036854775807)
    (hK : wpList Try.prog ops Q rest (a.put o.dst (.slice (some ⟨w.heap.size, 0, none⟩) n n)) (w.alloc (.cells (List.replicate n z).toArray e))) : wpList Try.prog ops Q (o :: rest) a w := by
  refine wpList_plain hg fun K hK' => ?_
  unfold Oper.wp
  simp [execOp, hop, hl, hc, run_made t e z bytes ht hi hzc n hb h63 w, Result.andThen]
  exact hK' _ _ hK
theorem infoBool : (Try.prog.info? 4).map (fun i => (i.zero, i.size, i.bytes)) = some (some (.bool false), 1, 1) := by kernel_rfl
/- Bools in a block of their own. -/
def StoodAt (w : World) (s : Nat) (st : List Bool) : Prop := w.heap[s]? = some (.cells (st.map Value.bool).toArray 4 (0, 0))
theorem StoodAt.at_ {w : World} {s : Nat} {st : List Bool} (h : StoodAt w s st) (k : Nat) (hk : k < st.length) : w.cell? ⟨s, k, none⟩ = some (.bool (st.getD k false)) := by
  rw [cell_of h, List.getElem?_toArray, List.getElem?_map, List.getElem?_eq_getElem hk, List.getD_eq_getElem?_getD, List.getElem?_eq_getElem hk]
  rfl
theorem StoodAt.set {w : World} {s : Nat} {st : List Bool} (h : StoodAt w s st) (k : Nat) (x : Bool) : StoodAt (w.setCell ⟨s, k, none⟩ (.bool x)) s (st.set k x) := by
  unfold StoodAt
  rw [heap_setCell_same _ _ _ _ _ _ h, List.map_set]
  simp
theorem StoodAt.go {w w' : World} {s : Nat} {st : List Bool} (h : StoodAt w s st) (hb : w'.heap[s]? = w.heap[s]?) : StoodAt w' s st := hb.trans h
theorem count_setB {st : List Bool} {k : Nat} (hk : k < st.length) (h0 : st.getD k false = false) : (st.set k true).count false + 1 = st.count false := by
  rw [List.getD_eq_getElem?_getD, List.getElem?_eq_getElem hk, Option.getD_some] at h0
  have hp : 0 < st.count false := List.count_pos_iff.2 (h0 ▸ List.getElem_mem hk)
  rw [List.count_set hk, h0]
  simp
  omega
def carried (R : Option (List Int)) : Bool := match R with | none => false | some bins => decide (mayBeP bins)
theorem below_set {B : Nat} {w w1 : World} (h : Below B w w1) {s : Nat} (hs : B ≤ s) (k : Nat) (v : Value) : Below B w (w1.setCell ⟨s, k, none⟩ v) := h.setCell hs _
/- Where the loop of carries is. -/
structure Carrying (w : World) (W H : Int) (us : List Int) (h : Int) (l : List Stk) (R : Option (List Int)) (b : Value) (k : Nat) (wr : World) (st : List Bool) (acc : List Int) : Prop where
  below : Below w.heap.size w wr
  stood : StoodAt wr w.heap.size st
  len : st.length = us.length
  own : wr.ownsRow w.heap.size 3 1 b acc.length (rowL intL acc)
  ne : b.ownBlock ≠ some w.heap.size
  cnt : st.count false + k = us.length
  small : acc.length ≤ 8 * k
  rest : carry W H us h st acc (l.drop k) = R
theorem Carrying.few {w : World} {W H : Int} {us : List Int} {h : Int} {l : List Stk} {R : Option (List Int)} {b : Value} {k : Nat} {wr : World} {st : List Bool} {acc : List Int} (c : Carrying w W H us h l R b k wr st acc) (hu : us.length ≤ 256) : acc.length ≤ 2048 := by
  have := c.cnt
  have := c.small
  omega
set_option maxRecDepth 100000 in
set_option maxHeartbeats 2000000 in
theorem carries_any (g u : Nat) (W H : Int) (us : List Int) (vp : Value) (F : Nat → Prop) (l : List Stk) (v : Value) (h : Int) (w : World) (hG : GridAt w g u W H us vp) (hL : ListAt 3 stackEl F l v w) (hF : ∀ b, F b → b < w.heap.size) (hm : l.length ≤ 9223372036854775807) (hh : h ≤ 8) :
    Calls Try.prog 59 #[.pointer (some ⟨g, 0, none⟩), v, .int .i64 h] w fun e w' => Below w.heap.size w w' ∧ e = .returned (.bool (carried (carry W H us h (List.replicate us.length false) [] l))) := by
  obtain ⟨a, cap, hv, h0⟩ := hL.form
  subst hv
  have c2 := hG.c2
  have hle := hG.le
  obtain ⟨R, hR⟩ : ∃ R, carry W H us h (List.replicate us.length false) [] l = R := ⟨_, rfl⟩
  rw [hR]
  have C0 : Carrying w W H us h l R (.slice none 0 0) 0 (w.alloc (.cells (List.replicate us.length (Value.bool false)).toArray 4)) (List.replicate us.length false) [] :=
    ⟨below_new (Below.refl _ _) _, by unfold StoodAt; rw [heap_alloc_new, List.map_replicate], List.length_replicate, World.ownsRow_nil _ _ _ _, by simp [Value.ownBlock], by rw [List.count_replicate_self]; omega, by simp, hR⟩
  obtain ⟨n, hn⟩ : ∃ n, l.length = n := ⟨_, rfl⟩
  have Hn : Hid (l.length = n) := hn
  rw [hn] at hm hL ⊢
  obtain ⟨N, hN⟩ : ∃ N, us.length = N := ⟨_, rfl⟩
  have HN : Hid (us.length = N) := hN
  rw [hN] at c2 hle C0
  have hFw : ∀ wr, Below w.heap.size w wr → ListAt 3 stackEl F l (.slice a n cap) wr := fun wr b => hL.go heldStack hF b
  have hGw : ∀ wr, Below w.heap.size w wr → GridAt wr g u W H us vp := fun wr b => hG.go b
  clear hN hn hR
  go_enter Try.func59, Try.ntmps59
  go_wp2_with (refine wpList_made rfl (.tmp 15) (.tmp 15) 100 4 rfl (.bool false) 1 Try.underlying100 infoBool rfl N rfl rfl (by omega) (by omega) ?_)
  go_loopw [8, 19] (fun b i wr => ∃ (k : Nat) (st : List Bool) (acc : List Int), k ≤ n ∧ i = .int .i64 k ∧ Hid (Carrying w W H us h l R b k wr st acc)) (fun _ i _ => n - (intOf i).toNat)
  case atStart => exact ⟨0, _, _, Nat.zero_le _, rfl, C0⟩
  case round =>
    obtain ⟨k, st, acc, hk, rfl, C⟩ := hrel
    by_cases hlt : k < n
    · have hlt' : k < l.length := by rw [Hn.out]; exact hlt
      have HD : Hid (l.drop k = l[k]'hlt' :: l.drop (k + 1)) := drop_item l hlt'
      obtain ⟨p, cs, cap', hv, hpF, hcs, hrd⟩ := (hFw wr C.out.below).item hlt'
      generalize l[k]'hlt' = xy at *
      obtain ⟨⟨x, y⟩, bs⟩ := xy
      obtain ⟨vb, hcs', hbs⟩ := hcs
      subst hcs'
      obtain ⟨rfl, rfl⟩ : a = some p ∧ cap = cap' := by injection hv with h1 h2 h3; exact ⟨h1, h3⟩
      obtain ⟨ba, bcap, hvb, hb0⟩ := hbs.form
      subst hvb
      clear hv
      simp only at hrd hbs hb0
      have B := C.out.below
      have hsz : w.heap.size < wr.heap.size := lt_of_heap C.out.stood
      have hne1 : wr.heap.size ≠ w.heap.size := by omega
      have hne2 : w.heap.size ≠ wr.heap.size := by omega
      have HR : Hid (carry W H us h st acc (((x, y), bs) :: l.drop (k + 1)) = R) := by
        have := C.out.rest
        rw [HD.out] at this
        exact this
      obtain ⟨bn, hbn⟩ : ∃ bn, bs.length = bn := ⟨_, rfl⟩
      have HBN : Hid (bs.length = bn) := hbn
      rw [hbn] at hrd hbs hb0
      clear hbn
      have cSt := fun o => stacked_any g u W H us vp x y (wr.alloc o) ((hGw wr B).alloc o)
      cases hsv : stackedU W H us (x, y)
      · rw [hsv] at cSt
        have HT : Hid (R = none) := by
          show R = none
          rw [← HR.out]
          unfold carry
          rw [if_neg (fun q => by rw [hsv] at q; cases q.1)]
        go_wp2_with (first
          | (refine wpList_load_at rfl 59 (.tmp 21) rfl (p.add (k * 3)) rfl #[.int .i64 x, .int .i64 y, .slice ba bn bcap] hrd (aggStack _) info_stack ?_)
          | (go_at_call 63; refine (cSt _).mono ?_; rintro e w1 ⟨rfl, b1⟩))
        go_ret
        rw [HT.out]
        exact ⟨bcat (below_new B _) b1 (Nat.le_refl _), rfl⟩
      · rw [hsv] at cSt
        have hin : In W H (x, y) := by
          have := hsv
          unfold stackedU at this
          rw [Bool.and_eq_true, decide_eq_true_eq] at this
          exact this.1
        obtain ⟨kk, hkk, hkk2, hkl⟩ := num_in hin hG.len
        have hkl' : kk < N := by rw [← HN.out]; exact hkl
        have cN := fun wx (hb : Below wr.heap.size wr wx) => number_any g u W H us vp x y wx ((hGw wr B).go hb)
        rw [hkk] at cN
        have HKK : Hid ((y * W + x).toNat = kk) := hkk2
        have HST := fun wx (hb : Below wr.heap.size wr wx) => C.out.stood.go (hb.block _ hsz)
        have HSL : Hid (kk < st.length) := by show kk < st.length; rw [C.out.len]; exact hkl
        clear hkk hkk2 hin hkl
        cases hsb : st.getD kk false
        · by_cases hbh : (bn : Int) ≤ h
          · have HT : Hid (carry W H us h (st.set kk true) (acc ++ bs) (l.drop (k + 1)) = R) := by
              show carry W H us h (st.set kk true) (acc ++ bs) (l.drop (k + 1)) = R
              have := HR.out
              unfold carry at this
              simp only [HKK.out] at this
              rw [if_pos ⟨hsv, hsb, by rw [HBN.out]; exact hbh⟩] at this
              exact this
            have HA : Hid (acc.length + bn ≤ 4096) := by
              show acc.length + bn ≤ 4096
              have := C.out.few (by rw [HN.out]; exact hle)
              omega
            have HO := fun wx (hb : Below wr.heap.size wr wx) => owns_same (w' := wx.setCell ⟨w.heap.size, kk, none⟩ (.bool true)) C.out.own fun j hj => (heap_setCell_other _ _ _ _ (fun e => C.out.ne (hj.trans (congrArg some e)))).trans (hb.block j (own_since C.out.own j hj).2)
            have HLb := fun wx (hb : Below wr.heap.size wr wx) => hbs.stable (w' := wx.setCell ⟨w.heap.size, kk, none⟩ (.bool true)) heldInt fun j hj => (heap_setCell_other _ _ _ _ (by have := hF j hj; simp only; omega)).trans (hb.block j (Nat.lt_trans (hF j hj) hsz))
            go_wp2_with (first
              | (refine wpList_load_at rfl 59 (.tmp 21) rfl (p.add (k * 3)) rfl #[.int .i64 x, .int .i64 y, .slice ba bn bcap] hrd (aggStack _) info_stack ?_)
              | (go_at_call 63; refine (cSt _).mono ?_; rintro e w1 ⟨rfl, b1⟩; have q0 : w1.cell? ⟨wr.heap.size, 0, none⟩ = some (.int .i64 x) := (b1.cell (p := ⟨wr.heap.size, 0, none⟩) (by simp)).trans (new_cell wr _ _ 0); have q1 : w1.cell? ⟨wr.heap.size, 1, none⟩ = some (.int .i64 y) := (b1.cell (p := ⟨wr.heap.size, 1, none⟩) (by simp)).trans (new_cell wr _ _ 1); have B1 := bcat (below_new (Below.refl wr.heap.size wr) _) b1 (Nat.le_refl _))
              | (have X' := b2; go_at_call 60; refine (cN _ B2).mono ?_; rintro e w3 ⟨rfl, b3⟩; have B3 := bcat B2 b3 (Nat.le_refl _); have s3 := (HST _ B3).at_ kk HSL.out; rw [hsb] at s3; have f3 := frozen_of (HST _ B3) kk; have z2 : w3.cell? ⟨wr.heap.size, 2, none⟩ = some (.slice ba bn bcap) := (b3.cell (p := ⟨wr.heap.size, 2, none⟩) (by have := b1.size; have := b2.size; simp at *; omega)).trans r2)
              | (have X' := b1; go_at_call 60; refine (cN _ B1).mono ?_; rintro e w2 ⟨rfl, b2⟩; have B2 := bcat B1 b2 (Nat.le_refl _); have s2 := (HST _ B2).at_ kk HSL.out; rw [hsb] at s2; have b12 := b1.trans (b2.mono b1.size); have r0 : w2.cell? ⟨wr.heap.size, 0, none⟩ = some (.int .i64 x) := (b12.cell (p := ⟨wr.heap.size, 0, none⟩) (by simp)).trans (new_cell wr _ _ 0); have r1 : w2.cell? ⟨wr.heap.size, 1, none⟩ = some (.int .i64 y) := (b12.cell (p := ⟨wr.heap.size, 1, none⟩) (by simp)).trans (new_cell wr _ _ 1); have r2 : w2.cell? ⟨wr.heap.size, 2, none⟩ = some (.slice ba bn bcap) := (b12.cell (p := ⟨wr.heap.size, 2, none⟩) (by simp)).trans (new_cell wr _ _ 2))
              | (at_builtin; refine wpList_app kindInt rfl (.tmp 50) (.tmp 52) rfl w.heap.size u8 acc rfl (HO _ B3) F _ bs rfl (HLb _ B3) (by rw [HBN.out]; have := HA.out; omega) (by rw [HBN.out]; have := HA.out; unfold maxLen; omega) (by have := B3.size; simp; omega) ?_; intro v4 w4 own4 gr4 at4))
            go_roundw
            case rel =>
              refine ⟨k + 1, st.set kk true, acc ++ bs, by omega, by go_num, ⟨?_, ?_, ?_, own4, ?_, ?_, ?_, HT.out⟩⟩
              · exact (below_set (bcat B B3 (by omega)) (Nat.le_refl _) kk _).grown gr4 (by have := B3.size; simp; omega) fun j hj => (own_since C.out.own j hj).1
              · exact ((HST _ B3).set kk true).go (gr4.block _ (by have := B3.size; simp; omega) (fun e => C.out.ne e.symm))
              · rw [List.length_set]; exact C.out.len
              · intro e
                rcases at4 with q | q
                · exact C.out.ne (q ▸ e)
                · rw [q] at e
                  have := Option.some.inj e
                  have := B3.size
                  simp at *
                  omega
              · have := count_setB HSL.out hsb
                have := C.out.cnt
                omega
              · have := C.out.small
                rw [List.length_append, HBN.out]
                omega
            case measure => simp [intOf]; omega
          · have HT : Hid (R = none) := by
              show R = none
              rw [← HR.out]
              unfold carry
              rw [if_neg (fun q => hbh (by have := q.2.2; rw [HBN.out] at this; exact this))]
            go_wp2_with (first
              | (refine wpList_load_at rfl 59 (.tmp 21) rfl (p.add (k * 3)) rfl #[.int .i64 x, .int .i64 y, .slice ba bn bcap] hrd (aggStack _) info_stack ?_)
              | (go_at_call 63; refine (cSt _).mono ?_; rintro e w1 ⟨rfl, b1⟩; have q0 : w1.cell? ⟨wr.heap.size, 0, none⟩ = some (.int .i64 x) := (b1.cell (p := ⟨wr.heap.size, 0, none⟩) (by simp)).trans (new_cell wr _ _ 0); have q1 : w1.cell? ⟨wr.heap.size, 1, none⟩ = some (.int .i64 y) := (b1.cell (p := ⟨wr.heap.size, 1, none⟩) (by simp)).trans (new_cell wr _ _ 1); have B1 := bcat (below_new (Below.refl wr.heap.size wr) _) b1 (Nat.le_refl _))
              | (have X' := b1; go_at_call 60; refine (cN _ B1).mono ?_; rintro e w2 ⟨rfl, b2⟩; have B2 := bcat B1 b2 (Nat.le_refl _); have s2 := (HST _ B2).at_ kk HSL.out; rw [hsb] at s2; have b12 := b1.trans (b2.mono b1.size); have r2 : w2.cell? ⟨wr.heap.size, 2, none⟩ = some (.slice ba bn bcap) := (b12.cell (p := ⟨wr.heap.size, 2, none⟩) (by simp)).trans (new_cell wr _ _ 2)))
            go_ret
            rw [HT.out]
            exact ⟨bcat B B2 (by omega), rfl⟩
        · have HT : Hid (R = none) := by
            show R = none
            rw [← HR.out]
            unfold carry
            simp only [HKK.out]
            rw [if_neg (fun q => by have q2 := q.2.1; rw [hsb] at q2; cases q2)]
          go_wp2_with (first
            | (refine wpList_load_at rfl 59 (.tmp 21) rfl (p.add (k * 3)) rfl #[.int .i64 x, .int .i64 y, .slice ba bn bcap] hrd (aggStack _) info_stack ?_)
            | (go_at_call 63; refine (cSt _).mono ?_; rintro e w1 ⟨rfl, b1⟩; have q0 : w1.cell? ⟨wr.heap.size, 0, none⟩ = some (.int .i64 x) := (b1.cell (p := ⟨wr.heap.size, 0, none⟩) (by simp)).trans (new_cell wr _ _ 0); have q1 : w1.cell? ⟨wr.heap.size, 1, none⟩ = some (.int .i64 y) := (b1.cell (p := ⟨wr.heap.size, 1, none⟩) (by simp)).trans (new_cell wr _ _ 1); have B1 := bcat (below_new (Below.refl wr.heap.size wr) _) b1 (Nat.le_refl _))
            | (have X' := b1; go_at_call 60; refine (cN _ B1).mono ?_; rintro e w2 ⟨rfl, b2⟩; have B2 := bcat B1 b2 (Nat.le_refl _); have s2 := (HST _ B2).at_ kk HSL.out; rw [hsb] at s2))
          go_ret
          rw [HT.out]
          exact ⟨bcat B B2 (by omega), rfl⟩
    · obtain rfl : k = n := by omega
      have hK := C.out.rest
      rw [List.drop_eq_nil_of_le (by rw [Hn.out]; omega)] at hK
      have HK2 : Hid (R = some acc) := hK.symm
      clear hK
      have cM := mayBe_any w.heap.size u8 acc wr C.out.own (by have := C.out.few (by rw [HN.out]; exact hle); omega)
      go_wp2_with (go_at_call 74; refine cM.mono ?_; rintro e w1 ⟨rfl, gr1⟩)
      go_ret
      rw [HK2.out]
      exact ⟨C.out.below.grown gr1 C.out.below.size fun j hj => (own_since C.out.own j hj).1, rfl⟩
end Go.Proofs.Ytabbdclpjghdbaa.Grid
