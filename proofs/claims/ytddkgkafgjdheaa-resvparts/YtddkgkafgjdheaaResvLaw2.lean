/-
  Stretches that are held against each other; the first sentence of the layer.
-/
import Derived.Test.YtddkgkafgjdheaaResvLaw
namespace Go.Proofs.Ytddkgkafgjdheaa.Rs
set_option linter.unusedVariables false
set_option linter.unusedSimpArgs false
open Go Go.RowKit Go.Shelf Go.Proofs Hp
attribute [local go_sem] Oper.semAt_some

theorem prL_len (x : Int × Int) : (prL x).length = 2 := rfl
theorem pr_of_own {B : Nat} {w : World} {v : Value} {l : List (Int × Int)} {e : TypeId} (h : w.ownsRow B e 2 v l.length (rowL prL l)) : RowAt prL (fun k => B ≤ k) w v l := by
  rcases h.2 with ⟨rfl, h0⟩ | ⟨g, cap, cur, rfl, hb, hg, hnc, hcm, hcs, htake⟩
  · exact Or.inl ⟨rfl, List.eq_nil_of_length_eq_zero h0⟩
  · refine Or.inr ⟨g, 0, cap, rfl, hnc, hcm, fun _ => hb, fun j u hj => ?_⟩
    rw [Nat.zero_add]
    have hk := (List.getElem?_eq_some_iff.1 hj).1
    rw [rowL_len prL_len] at hk
    rw [h.cellAt _ hk]
    exact hj
theorem pr_go {F : Nat → Prop} {w w' : World} {v : Value} {l : List (Int × Int)} (h : RowAt prL F w v l) (hb : Below w.heap.size w w') : RowAt prL F w' v l := by
  rcases h with ⟨rfl, rfl⟩ | ⟨g, o, cap, rfl, h1, h2, h3, h4⟩
  · exact Or.inl ⟨rfl, rfl⟩
  · exact Or.inr ⟨g, o, cap, rfl, h1, h2, h3, fun j u hj => (hb.cell (p := ⟨g, o + j, none⟩) (World.block_lt_of_cell? _ _ (h4 j u hj))).trans (h4 j u hj)⟩
theorem box_pr {F : Nat → Prop} {w : World} {v : Value} {l : List (Int × Int)} (h : RowAt prL F w v l) (i : Nat) (hi : i < l.length) : ∃ g o cap, v = .slice (some ⟨g, o, none⟩) l.length cap ∧ w.cell? ⟨g, o + i * 2, none⟩ = some (.int .i64 (l[i]).1) ∧ w.cell? ⟨g, o + i * 2 + 1, none⟩ = some (.int .i64 (l[i]).2) := by
  obtain ⟨g, o, cap, rfl, _, _, _, hc⟩ := h.has (by omega)
  have a := hc _ _ (rowL_at prL_len l i hi 0 _ rfl)
  have b := hc _ _ (rowL_at prL_len l i hi 1 _ rfl)
  rw [← Nat.add_assoc] at a b
  exact ⟨g, o, cap, rfl, a, b⟩
set_option maxRecDepth 100000 in
set_option maxHeartbeats 1000000 in
theorem alike_any (F G : Nat → Prop) (v1 v2 : Value) (l1 l2 : List (Int × Int)) (w : World) (h1 : RowAt prL F w v1 l1) (h2 : RowAt prL G w v2 l2) (hm : l1.length ≤ 1000000000) :
    Calls Try.prog 24 #[v1, v2] w fun e w' => e = .returned (.bool (decide (l1 = l2))) ∧ Below w.heap.size w w' := by
  obtain ⟨a1, c1, e1, _⟩ := h1.form
  obtain ⟨a2, c2, e2, _⟩ := h2.form
  have H1 : Hid (RowAt prL F w v1 l1) := h1
  have H2 : Hid (RowAt prL G w v2 l2) := h2
  subst e1
  subst e2
  clear h1 h2
  by_cases hl : l1.length = l2.length
  · have hl' : ((l1.length : Int) != (l2.length : Int)) = false := by simp [hl]
    have HL : Hid (l1.length = l2.length) := hl
    obtain ⟨r, hr⟩ : ∃ r, decide (l1 = l2) = r := ⟨_, rfl⟩
    have HRr : Hid (decide (l1 = l2) = r) := hr
    rw [hr]
    clear hl hr
    go_enter Try.func24, Try.ntmps24
    go_wp2_with fail
    go_loopw [5] (fun s5 wr => ∃ i : Nat, s5 = .int .i64 i ∧ i ≤ l1.length ∧ Hid (l1.take i = l2.take i) ∧ Hid (Below w.heap.size w wr)) (fun s5 _ => l1.length - (intOf s5).toNat)
    case atStart => exact ⟨0, rfl, Nat.zero_le _, by unfold Hid; simp, Below.refl _ _⟩
    case round =>
      obtain ⟨i, rfl, hi, hT, bw⟩ := hrel
      rcases Nat.lt_or_ge i l1.length with hlt | hge
      · have hlt2 : i < l2.length := by rw [← HL.out]; exact hlt
        obtain ⟨g1, o1, k1, x1, p0, p1⟩ := box_pr (pr_go H1.out bw.out) i hlt
        obtain ⟨g2, o2, k2, x2, q0, q1⟩ := box_pr (pr_go H2.out bw.out) i hlt2
        cases x1
        cases x2
        have i1 : (i : Int) < (l1.length : Int) := by omega
        have i2 : (i : Int) < (l2.length : Int) := by omega
        have i3 : (i : Int) + 1 ≤ 1000000000 := by omega
        have hn := fun u => neq_pr (l1[i]).1 (l1[i]).2 (l2[i]).1 (l2[i]).2 u
        have hS : Hid (l1[i] = l2[i] → l1.take (i + 1) = l2.take (i + 1)) := fun e => take_eq_succ hlt hlt2 hT.out e
        have hN : Hid (¬ l1[i] = l2[i] → l1 ≠ l2) := fun e q => e (by subst q; rfl)
        obtain ⟨x, hx⟩ : ∃ x, l1[i] = x := ⟨_, rfl⟩
        obtain ⟨y, hy⟩ : ∃ y, l2[i] = y := ⟨_, rfl⟩
        rw [hx] at p0 p1 hn hS hN
        rw [hy] at q0 q1 hn hS hN
        clear hx hy
        by_cases hxy : x = y
        · have hSS : Hid _ := hS.out hxy
          rw [decide_eq_true (show (x.1, x.2) = (y.1, y.2) from hxy)] at hn
          clear hxy
          go_wp2_with fail
          go_quiet (fail)
          go_wp2_with fail
          go_roundw
          case measure => simp only [intOf]; omega
          case rel => exact ⟨i + 1, rfl, hlt, hSS, below_drewN bw.out _⟩
        · have hNN : Hid (r = false) := by unfold Hid; rw [← HRr.out]; exact decide_eq_false (hN.out hxy)
          rw [decide_eq_false (show ¬ (x.1, x.2) = (y.1, y.2) from hxy)] at hn
          clear hxy
          go_wp2_with fail
          go_quiet (fail)
          go_wp2
          go_ret
          exact ⟨ret_bool hNN.out.symm, below_drewN bw.out _⟩
      · obtain rfl : i = l1.length := by omega
        have e : l1 = l2 := by have := hT.out; rwa [List.take_length, HL.out, List.take_length] at this
        have hR2 : Hid (r = true) := by unfold Hid; rw [← HRr.out]; exact decide_eq_true e
        clear e
        go_wp2
        go_ret
        exact ⟨ret_bool hR2.out.symm, bw.out⟩
  · have hl' : ((l1.length : Int) != (l2.length : Int)) = true := by simp; omega
    have e : decide (l1 = l2) = false := decide_eq_false (fun e => hl (by rw [e]))
    rw [e]
    clear e hl
    go_enter Try.func24, Try.ntmps24
    go_wp2
    go_ret
    exact ⟨rfl, Below.refl _ _⟩
/- A claim of one want that was just laid. -/
theorem claim_lit (F : Nat → Prop) (b : Nat) (ls : List (List Sl)) (R : Int) (x : Wn) (m : Nat) (w : World) (h : TAt F w b ls) (hl : OkT ls) (hs : Small m ls) (hn : 0 < ls.length) (hn2 : ls.length ≤ 1000000) (hm : m ≤ 999999999) {e : Int} {ls' : List (List Sl)} (C : ClaimR R [x] ls e ls') :
    Calls Try.prog 19 #[.pointer (some ⟨b, 0, none⟩), .int .i64 R, .slice (some ⟨w.heap.size, 0, none⟩) 1 1] (w.alloc (.cells #[.int .i64 x.c, .int .i64 x.f, .int .i64 x.t] 46)) fun e' w' => e' = .returned (.int .i64 e) ∧ ∃ F', TAt F' w' b ls' ∧ Tn F F' w w' := by
  have b1 : Below w.heap.size w (w.alloc (.cells #[.int .i64 x.c, .int .i64 x.f, .int .i64 x.t] 46)) := (Below.refl _ _).alloc (Nat.le_refl _) _
  have n := cell_new w (.int .i64 x.c) (.int .i64 x.f) (.int .i64 x.t) 46
  refine (claim_any F (fun _ => True) b ls R _ [x] m _ (h.go b1) hl hs hn hn2 (want_row n.1 n.2.1 n.2.2) (by rw [List.length_singleton]; omega)).mono ?_
  rintro e' w' ⟨y, l2, F', rfl, T, t, c⟩
  obtain ⟨rfl, rfl⟩ := c.unique C
  exact ⟨rfl, F', T, (Tn.below b1).trans t⟩
/- The chapter's example. -/
def L1 : List (List Sl) := (List.replicate 5 []).set 3 [⟨5, 9, 0⟩]
theorem awake_one : ClaimR 0 [⟨3, 5, 9⟩] (List.replicate 5 []) 0 L1 := claim_one (i := 3) (bare_ok 5) (by simp) (by omega) (by unfold FV; omega) (with_one ⟨by decide, by decide, by unfold FV; decide, by decide⟩)
theorem awake_two : ClaimR 1 [⟨3, 8, 10⟩] L1 18 L1 := claim_one_taken (i := 3) (by simp [L1]) (by omega) (by unfold FV; omega) ⟨⟨5, 9, 0⟩, by simp [L1], ⟨8, 10, 1⟩, by simp, by decide, by decide, by decide⟩
theorem awake_ok : OkT L1 := awake_one.ok (bare_ok 5)
theorem awake_row : rowOf L1 3 = [⟨5, 9, 0⟩] := rfl
theorem awake_gaps : (gapsOf (isThere L1.length 3) 1 (rowOf L1 3)).take 9 = [(0, 5), (9, 4611686018427387904)] := by
  rw [awake_row, show isThere L1.length 3 = true from rfl]
  rfl
set_option maxRecDepth 100000 in
set_option maxHeartbeats 4000000 in
theorem awake_any (w : World) : Calls Try.prog 13 #[] w fun e w' => e = .returned (.bool true) ∧ Below w.heap.size w w' := by
  have cN := new_any 5 w (by omega) (by omega)
  have heq := fun a b c d u => eql_pr a b c d u
  go_enter Try.func13, Try.ntmps13
  go_wp2_with (go_at_call 12; refine cN.mono ?_; rintro e w1 ⟨b, rfl, F, T1, b1, f1⟩)
  refine (claim_lit F b _ 0 ⟨3, 5, 9⟩ 0 w1 T1 (bare_ok 5) (bare_small 5 0) (by simp) (by simp) (by omega) awake_one).mono ?_
  rintro e w2 ⟨rfl, F2, T2, t2⟩
  go_wp2_with fail
  refine (claim_lit F2 b L1 1 ⟨3, 8, 10⟩ 1 w2 T2 awake_ok (awake_one.small (bare_small 5 0)) (by simp [L1]) (by simp [L1]) (by omega) awake_two).mono ?_
  rintro e w3 ⟨rfl, F3, T3, t3⟩
  have t13 := t2.trans t3
  have B3 : Hid (Below w.heap.size w w3) := ⟨t13.os.trans b1.os, t13.tape.trans b1.tape, t13.output.trans b1.output, Nat.le_trans b1.size t13.size, fun k hk => (t13.block k (Nat.lt_of_lt_of_le hk b1.size) (fun q => by have := f1 k q; omega)).trans (b1.block k hk)⟩
  clear t2 t3 t13 T1 T2 b1 f1 cN
  go_wp2_with (first
    | (go_at_call 23; refine (gaps_any F3 b L1 3 1 _ T3).mono ?_; rintro e w4 ⟨p8, p7, p5, lv, rfl, G4, b4⟩; unfold GapsV at *)
    | (go_at_call 22; refine (stretches_any p8 p7 p5 9 _ lv _ 1 _ G4 (by rw [awake_row]; simp) (by omega) (by omega)).mono ?_; rintro e w5 ⟨sv, rfl, O5, b5⟩; rw [awake_gaps] at O5; obtain ⟨g, o, cap, esv, d0, d1⟩ := box_pr (pr_of_own O5) 0 (by simp); obtain ⟨g', o', cap', esv', d2, d3⟩ := box_pr (pr_of_own O5) 1 (by simp); subst esv; cases esv'; simp only [Nat.zero_mul, Nat.one_mul, Nat.add_zero, List.getElem_cons_zero, List.getElem_cons_succ] at d0 d1 d2 d3; have B5 : Hid (Below w.heap.size w w5) := bcat B3.out (bcat b4 b5); have T5 := T3.go (bcat b4 b5); clear O5 G4)
    | (go_at_call 29; refine (first_any F3 b L1 3 _ T5).mono ?_; rintro e w6 ⟨rfl, rfl⟩; rw [awake_row]; simp only [firstP])
    | (go_at_call 14; refine (cells_any F3 b L1 _ T5).mono ?_; rintro e w7 ⟨rfl, rfl⟩; rw [show L1.length = 5 from rfl])
    | (go_at_call 18; refine (slots_any F3 b L1 3 _ T5 (by rw [awake_row]; simp)).mono ?_; rintro e w8 ⟨v8, rfl, O8, b8⟩; rw [awake_row] at O8; obtain ⟨xa, xc, xe, _⟩ := own_form O8; subst xe))
  go_ret
  exact ⟨rfl, bcat B5.out b8⟩
end Go.Proofs.Ytddkgkafgjdheaa.Rs
