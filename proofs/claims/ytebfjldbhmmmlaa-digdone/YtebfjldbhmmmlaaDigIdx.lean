/-
  Whether a cell is among cells, where a number is among numbers: slices.Contains, slices.Index.
-/
import Derived.Test.YtebfjldbhmmmlaaDgN
import Derived.Test.YtebfjldbhmmmlaaDgI
namespace Go.Proofs.Ytebfjldbhmmmlaa.Dig
set_option linter.unusedVariables false
set_option linter.unusedSimpArgs false
open Go Go.RowKit Go.Shelf Go.Proofs Go.Proofs.Ytebfjldbhmmmlaa.Grid
attribute [local go_sem] Oper.semAt_some

/- Where a number first stands, counted from i on; -1 where it does not. -/
def idxP : List Int → Int → Nat → Int
  | [], _, _ => -1
  | y :: l, x, i => if y = x then i else idxP l x (i + 1)
theorem idx_neg : ∀ (l : List Int) (x : Int) (i : Nat), (idxP l x i < 0 ↔ x ∉ l)
  | [], x, i => by simp [idxP]
  | y :: l, x, i => by
    unfold idxP
    by_cases h : y = x
    · rw [if_pos h]; simp [h]
    · rw [if_neg h, idx_neg l x (i + 1), List.mem_cons, not_or]
      exact ⟨fun g => ⟨fun e => h e.symm, g⟩, fun g => g.2⟩
theorem idx_at : ∀ (l : List Int) (x : Int) (i : Nat), x ∈ l → ∃ j : Nat, idxP l x i = ((i + j : Nat) : Int) ∧ l[j]? = some x ∧ ∀ k, k < j → l[k]? ≠ some x
  | [], x, i, h => by simp at h
  | y :: l, x, i, h => by
    unfold idxP
    by_cases e : y = x
    · rw [if_pos e]
      exact ⟨0, rfl, by rw [e]; rfl, fun k hk => absurd hk (Nat.not_lt_zero _)⟩
    · rw [if_neg e]
      obtain ⟨j, h1, h2, h3⟩ := idx_at l x (i + 1) ((List.mem_cons.1 h).resolve_left fun g => e g.symm)
      refine ⟨j + 1, by rw [h1]; congr 1; omega, by simpa using h2, fun k hk => ?_⟩
      match k with
      | 0 => simpa using e
      | k + 1 => simpa using h3 k (by omega)
set_option maxRecDepth 100000 in
set_option maxHeartbeats 2000000 in
theorem contains_any (F : Nat → Prop) (l : List Cell) (v : Value) (x : Cell) (w : World) (hL : ListAt 2 cellEl F l v w) (hF : ∀ b, F b → b < w.heap.size) (hm : l.length ≤ 9223372036854775807) :
    Calls Try.prog 19 #[v, .agg #[.int .i64 x.1, .int .i64 x.2]] w fun e w' => ∃ r, e = .returned r ∧ (r = .bool (decide (x ∈ l)) ∧ Below w.heap.size w w') := by
  obtain ⟨wb, hwb⟩ : ∃ wb, wb = w.alloc (.cells #[.int .i64 x.1, .int .i64 x.2] 30) := ⟨_, rfl⟩
  have bb : Below w.heap.size w wb := by rw [hwb]; exact below_new (Below.refl _ _) _
  have hx : wb.heap[w.heap.size]? = some (.cells #[.int .i64 x.1, .int .i64 x.2] 30 (0, 0)) := by rw [hwb]; exact heap_alloc_new w _
  have HX : Hid (∀ u, Below wb.heap.size wb u → ∀ j z, #[Value.int .i64 x.1, .int .i64 x.2][j]? = some z → u.cell? ((⟨w.heap.size, 0, none⟩ : Addr).add j) = some z) := fun u hu => row_below hx hu
  have HC : Hid (∀ u, Below wb.heap.size wb u → Calls Try.prog 38 #[v, .agg #[.int .i64 x.1, .int .i64 x.2]] u fun e w' => ∃ r, e = .returned r ∧ (r = .int .i64 (portP l x 0) ∧ Below u.heap.size u w')) := fun u b =>
    have b2 : Below w.heap.size w u := bcat bb b (Nat.le_refl _)
    index_any F l v x.1 x.2 u (hL.go heldCell hF b2) (fun g hg => Nat.lt_of_lt_of_le (hF g hg) b2.size) hm
  have HD : Hid (decide (0 ≤ portP l x 0) = decide (x ∈ l)) := by
    show _ = _
    have h := portP_neg l x 0
    by_cases hc : x ∈ l
    · rw [decide_eq_true hc]; exact decide_eq_true (Int.not_lt.1 fun g => h.1 g hc)
    · rw [decide_eq_false hc]; exact decide_eq_false (Int.not_le.2 (h.2 hc))
  have S0 : Below wb.heap.size wb wb.drew := (Below.refl _ _).drew
  obtain ⟨a, cap, hv, h0⟩ := hL.form
  subst hv
  have HB0 : Hid (Below w.heap.size w wb) := bb
  clear hx hL bb h0
  go_enter Try.func19, Try.ntmps19
  go_upto_region 1 with fail
  rw [← hwb]
  clear hwb
  have z0 : wb.cell? ⟨w.heap.size, 0, none⟩ = some (.int .i64 x.1) := HX.out wb (Below.refl _ _) 0 _ rfl
  have z1 : wb.cell? ⟨w.heap.size, 1, none⟩ = some (.int .i64 x.2) := HX.out wb (Below.refl _ _) 1 _ rfl
  go_wp2_with (go_at_call 38; refine (HC.out _ (by first | exact Below.refl _ _ | exact S0)).mono ?_; rintro e w1 ⟨v1, rfl, rfl, b1⟩)
  go_ret
  exact ⟨_, rfl, by rw [← HD.out]; rfl, bcat HB0.out (by first | exact b1 | exact bcat S0 b1 (Nat.le_refl _)) (Nat.le_refl _)⟩
set_option maxRecDepth 100000 in
set_option maxHeartbeats 2000000 in
theorem indexInt_any (F : Nat → Prop) (l : List Int) (v : Value) (x : Int) (w : World) (hL : ListAt 1 intEl F l v w) (hF : ∀ b, F b → b < w.heap.size) (hm : l.length ≤ 9223372036854775807) :
    Calls Try.prog 40 #[v, .int .i64 x] w fun e w' => ∃ r, e = .returned r ∧ (r = .int .i64 (idxP l x 0) ∧ Below w.heap.size w w') := by
  obtain ⟨a, cap, hv, h0⟩ := hL.form
  subst hv
  obtain ⟨n, hn⟩ : ∃ n, l.length = n := ⟨_, rfl⟩
  have Hn : Hid (l.length = n) := hn
  rw [hn] at hL hm h0 ⊢
  have HLw : Hid (∀ u, Below w.heap.size w u → ListAt 1 intEl F l (.slice a n cap) u) := fun u b => hL.go heldInt hF b
  generalize hR : idxP l x 0 = R
  have HR : Hid (idxP (l.drop 0) x 0 = R) := hR
  clear hn hL h0 hR
  go_enter Try.func40, Try.ntmps40
  go_wp2_with fail
  go_loopw [8] (fun i wq => ∃ k : Nat, k ≤ n ∧ i = .int .i64 k ∧ Hid (idxP (l.drop k) x k = R) ∧ Hid (Below w.heap.size w wq)) (fun i _ => n - (intOf i).toNat)
  case atStart => exact ⟨0, Nat.zero_le _, rfl, HR, Below.refl _ _⟩
  case round =>
    obtain ⟨k, hk, rfl, HP, HB⟩ := hrel
    clear HR
    by_cases hlt : k < n
    · have hd0 : decide ((k : Int) < (n : Int)) = true := decide_eq_true (by omega)
      have hkS : k < l.length := by rw [Hn.out]; exact hlt
      have HK : Hid (l.drop k = l[k]'hkS :: l.drop (k + 1)) := List.drop_eq_getElem_cons hkS
      obtain ⟨pp, cs, cap2, hv, hpF, hcs, hrd⟩ := (HLw.out _ HB.out).item hkS
      have e2 : cs = #[Value.int .i64 (l[k]'hkS)] := hcs
      subst e2
      generalize l[k]'hkS = y at *
      obtain ⟨rfl, rfl⟩ : a = some pp ∧ cap = cap2 := by injection hv with h1 h2 h3; exact ⟨h1, h3⟩
      have hbl : pp.block < w.heap.size := hF _ hpF
      have zk : wr.cell? (pp.add k) = some (.int .i64 y) := by
        have zz := hrd 0 (.int .i64 y) rfl
        rw [Nat.mul_one] at zz
        exact zz
      have hkn : (k : Int) < (n : Int) := by omega
      have S0 : Below w.heap.size w wr.drew := bcat HB.out (Below.refl _ _).drew (Nat.le_refl _)
      clear hv hrd hcs
      by_cases hc : y = x
      · have HD : Hid (decide (x = y) = true) := decide_eq_true hc.symm
        have HT : Hid (R = (k : Int)) := by
          show R = (k : Int)
          rw [← HP.out, HK.out]
          unfold idxP
          rw [if_pos hc]
        clear HD HP HK
        subst hc
        go_wp2_with fail
        go_ret
        exact ⟨_, rfl, by rw [HT.out]; rfl, by first | exact HB.out | exact S0⟩
      · have HD : Hid (decide (x = y) = false) := decide_eq_false fun g => hc g.symm
        have HT : Hid (idxP (l.drop (k + 1)) x (k + 1) = R) := by
          show idxP (l.drop (k + 1)) x (k + 1) = R
          rw [← HP.out, HK.out]
          conv => rhs; unfold idxP
          rw [if_neg hc]
        have hne : ¬ x = y := fun g => hc g.symm
        have zd := HD.out
        clear HD hc HP HK
        go_wp2_with fail
        go_roundw
        case rel => exact ⟨k + 1, by omega, by go_num, HT, by first | exact HB.out | exact S0⟩
        case measure => simp only [intOf]; omega
    · have hd0 : decide ((k : Int) < (n : Int)) = false := decide_eq_false (by omega)
      have HT : Hid (R = -1) := by
        show R = -1
        rw [← HP.out, List.drop_eq_nil_of_le (by rw [Hn.out]; omega)]
        rfl
      go_wp2_with fail
      go_ret
      exact ⟨_, rfl, by rw [HT.out]; rfl, HB.out⟩
end Go.Proofs.Ytebfjldbhmmmlaa.Dig
