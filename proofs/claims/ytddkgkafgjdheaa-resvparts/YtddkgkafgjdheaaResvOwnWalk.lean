/-
  What is told is new memory.
-/
import Derived.Test.YtddkgkafgjdheaaResvExtendsWalk
namespace Go.Proofs.Ytddkgkafgjdheaa.Rs
set_option linter.unusedVariables false
set_option linter.unusedSimpArgs false
open Go Go.RowKit Go.Shelf Go.Proofs Hp
attribute [local go_sem] Oper.semAt_some

/- Wants that came in. -/
structure InW (w : World) (a : Option Addr) (n cap : Nat) (ws : List Wn) : Prop where
  len : ws.length = n
  lay : (Value.slice a n cap = .slice none 0 0 ∧ ws = []) ∨ ∃ p c, Value.slice a n cap = .slice (some p) ws.length c ∧ ∀ j u, (rowL wnL ws)[j]? = some u → w.cell? (p.add j) = some u
theorem InW.go {w w' : World} {a : Option Addr} {n cap : Nat} {ws : List Wn} (h : InW w a n cap ws) (hb : Below w.heap.size w w') : InW w' a n cap ws := by
  refine ⟨h.len, ?_⟩
  rcases h.lay with q | ⟨p, c, e, hc⟩
  · exact Or.inl q
  · exact Or.inr ⟨p, c, e, fun j u hj => (hb.cell (p := p.add j) (World.block_lt_of_cell? _ _ (hc j u hj))).trans (hc j u hj)⟩
def AllInt (xs : List Value) : Prop := ∀ u ∈ xs, ∃ z, u = Value.int .i64 z
theorem AllInt.rows : ∀ (n : Nat) (xs : List Value), xs.length = n * 3 → AllInt xs → ∃ ms : List Wn, ms.length = n ∧ rowL wnL ms = xs
  | 0, xs, h, _ => ⟨[], rfl, by have : xs = [] := List.eq_nil_of_length_eq_zero (by omega); rw [this]; rfl⟩
  | n + 1, a :: b :: c :: xs, h, ha => by
    obtain ⟨x, rfl⟩ := ha a (by simp)
    obtain ⟨y, rfl⟩ := ha b (by simp)
    obtain ⟨z, rfl⟩ := ha c (by simp)
    obtain ⟨ms, h1, h2⟩ := AllInt.rows n xs (by simp at h; omega) (fun u hu => ha u (by simp [hu]))
    exact ⟨⟨x, y, z⟩ :: ms, by simp [h1], by rw [← h2]; rfl⟩
  | n + 1, [], h, _ => by simp at h
  | n + 1, [_], h, _ => by simp at h; omega
  | n + 1, [_, _], h, _ => by simp at h; omega
theorem AllInt.set {xs : List Value} (h : AllInt xs) (i : Nat) (z : Int) : AllInt (xs.set i (.int .i64 z)) := fun u hu => by
  rcases List.mem_or_eq_of_mem_set hu with q | q
  · exact h u q
  · exact ⟨z, q⟩
theorem allInt_wants (ws : List Wn) : AllInt (rowL wnL ws) := fun u hu => by
  obtain ⟨x, _, hx⟩ := List.mem_flatMap.1 hu
  simp [wnL] at hx
  rcases hx with rfl | rfl | rfl <;> exact ⟨_, rfl⟩
/- Rows of threes that are written into. -/
theorem owned3 {w : World} {B : Nat} {e : TypeId} {v : Value} {n : Nat} {xs : List Value} (h : w.ownsRow B e 3 v n xs) (i : Nat) (hi : i < n) : ∃ g cap, v = .slice (some ⟨g, 0, none⟩) n cap ∧ B ≤ g ∧ g < w.heap.size ∧ xs.length = n * 3 ∧ (∀ o, w.frozen? ⟨g, o, none⟩ = false) ∧ ∀ j, j < 3 → ∃ u, xs[i * 3 + j]? = some u ∧ w.cell? ⟨g, i * 3 + j, none⟩ = some u := by
  rcases h.2 with ⟨_, q⟩ | ⟨g, cap, cur, rfl, hb, hg, hnc, hcm, hcs, htake⟩
  · omega
  · have hl : xs.length = n * 3 := h.1
    refine ⟨g, cap, rfl, hb, (Array.getElem?_eq_some_iff.1 hg).1, hl, fun o => h.frozenAt o, fun j hj => ?_⟩
    have hk : i * 3 + j < xs.length := by omega
    exact ⟨xs[i * 3 + j], List.getElem?_eq_getElem hk, by rw [h.cellAt _ (by omega), List.getElem?_eq_getElem hk]⟩
set_option maxRecDepth 100000 in
set_option maxHeartbeats 4000000 in
theorem own_all (a : Option Addr) (n cap : Nat) (ws : List Wn) (most : Int) (w : World) (hin : InW w a n cap ws) : Calls Try.prog 10 #[.slice a n cap, .int .i64 most] w fun e w' => e = .returned (.bool true) ∧ Below w.heap.size w w' := by
  have cN := new_any 6 w (by omega) (by omega)
  by_cases hbig : n > 60
  · have hb' : (n : Int) > 60 := by omega
    clear hin hbig
    go_enter Try.func10, Try.ntmps10
    go_wp2_with (first
      | (go_at_call 12; refine cN.mono ?_; rintro _ w1 ⟨b, rfl, F, T1, b1, f1⟩)
      | (go_at_call 13; refine (awake_any _).mono ?_; rintro _ w2 ⟨rfl, b2⟩))
    go_ret
    exact ⟨rfl, bcat b1 b2⟩
  have hb' : ¬ (n : Int) > 60 := by omega
  have pm := place_bd most 9 (by omega)
  have cM := fun u => place_any most 9 u (by omega) (by omega)
  obtain ⟨pmv, hpm⟩ : ∃ p, place most 9 = p := ⟨_, rfl⟩
  simp only [hpm] at cM
  rw [hpm] at pm
  clear hpm
  have HIN : Hid (InW w a n cap ws) := hin
  clear hin
  go_enter Try.func10, Try.ntmps10
  go_wp2_with (first
    | (go_at_call 12; refine cN.mono ?_; rintro _ w1 ⟨b, rfl, F, T1, b1, f1⟩; have IN1 := HIN.out.go b1)
    | (at_builtin; refine wpList_app kindWn rfl (.const (.slice none 0 0)) (.tmp 41) rfl w1.heap.size (.slice none 0 0) [] rfl (World.ownsRow_nil _ _ _ _) _ ws rfl (by exact IN1.lay) (by rw [IN1.len]; simp; omega) (by rw [IN1.len]; unfold maxLen; simp; omega) (Nat.le_refl _) ?_; intro mv w2 o2 g2 a2; rw [List.nil_append] at o2; have c2 : Below w1.heap.size w1 w2 := (Below.refl _ _).grown g2 (Nat.le_refl _) (fun z hz => (by cases hz))))
  have hwn := IN1.len
  obtain ⟨ma, mc, em, hma, _⟩ := own_form o2
  rw [hwn] at em
  subst em
  have O2 : Hid (w2.ownsRow w1.heap.size 46 3 (.slice ma n mc) n (rowL wnL ws)) := by unfold Hid; rw [hwn] at o2; exact o2
  have HT1 : Hid (TAt F w1 b (List.replicate 6 [])) := T1
  have HB1 : Hid (Below w.heap.size w w1) := b1
  have HF1 : Hid (∀ k, F k → w.heap.size ≤ k) := f1
  have HC2 : Hid (Below w1.heap.size w1 w2) := c2
  clear IN1 o2 g2 a2 c2 T1 b1 f1 cN
  go_loopw [8] (fun s8 wr => ∃ (i : Nat) (xs : List Value), s8 = .int .i64 i ∧ i ≤ n ∧ Hid (wr.ownsRow w1.heap.size 46 3 (.slice ma n mc) n xs) ∧ Hid (AllInt xs) ∧ Hid (Below w1.heap.size w1 wr)) (fun s8 _ => n - (intOf s8).toNat)
  case atStart => exact ⟨0, _, rfl, Nat.zero_le _, O2, allInt_wants ws, HC2⟩
  case round =>
    clear O2 HC2
    obtain ⟨i, xs, rfl, hi, O, AI, bw⟩ := hrel
    rcases Nat.lt_or_ge i n with hlt | hge
    · obtain ⟨g, cap3, eg, hg1, hg2, hxl, hfz, hce⟩ := owned3 O.out i hlt
      cases eg
      obtain ⟨u0, hx0, hc0⟩ := hce 0 (by omega)
      obtain ⟨z, rfl⟩ := AI.out u0 (List.mem_of_getElem? hx0)
      rw [Nat.add_zero] at hc0
      have hf0 := hfz (i * 3)
      have hlt' : (i : Int) < (n : Int) := by omega
      have his : (i : Int) + 1 ≤ 1000 := by omega
      have cP := fun u => place_any z 6 u (by omega) (by omega)
      obtain ⟨pz, hpz⟩ : ∃ p, place z 6 = p := ⟨_, rfl⟩
      simp only [hpz] at cP
      have O3 : Hid ((wr.setCell ⟨g, i * 3, none⟩ (.int .i64 pz)).ownsRow w1.heap.size 46 3 (.slice (some ⟨g, 0, none⟩) n mc) n (xs.set (i * 3) (.int .i64 pz))) := (O.out.stored (i * 3) (.int .i64 pz)).1
      have A3 : Hid (AllInt (xs.set (i * 3) (.int .i64 pz))) := AI.out.set _ _
      have B3 : Hid (Below w1.heap.size w1 (wr.setCell ⟨g, i * 3, none⟩ (.int .i64 pz))) := bw.out.setCell (p := ⟨g, i * 3, none⟩) hg1 _
      clear hce hfz hx0 hpz
      go_wp2_with (go_at_call 21; refine (cP _).mono ?_; rintro _ w3 ⟨rfl, rfl⟩)
      go_roundw
      case measure => simp only [intOf]; omega
      case rel => exact ⟨i + 1, _, rfl, hlt, O3, A3, B3⟩
    · obtain rfl : i = n := by omega
      obtain ⟨W3, rfl⟩ : ∃ W3, W3 = wr := ⟨_, rfl⟩
      obtain ⟨ms, hml, hmr⟩ := AI.out.rows i xs O.out.1
      have RM : RowAt wnL (fun _ => True) W3 (.slice ma i mc) ms := by
        have o := O.out
        rw [← hmr, ← hml] at o
        rw [← hml]
        exact (row_of_own wnL_len o).mono fun _ _ => trivial
      have T3 := HT1.out.go bw.out
      have cC := claim_any F (fun _ => True) b _ 3 _ ms 0 W3 T3 (bare_ok 6) (bare_small 6 0) (by simp) (by simp) RM (by omega)
      have nF : ∀ k, (Value.slice ma i mc).ownBlock = some k → ¬ F k ∧ k < W3.heap.size ∧ w1.heap.size ≤ k := fun k hk => by
        have h1 := own_since O.out k hk
        exact ⟨fun q => by have := HT1.out.low k q; omega, h1.2, h1.1⟩
      have NF : Hid _ := nF
      have hms : Hid (ms.length ≤ 60) := by unfold Hid; omega
      clear RM nF hmr
      go_wp2_with (go_at_call 19; refine cC.mono ?_; rintro _ w4 ⟨ec, ls2, F2, rfl, T4, t4, C4⟩)
      obtain ⟨D4, f4⟩ := t4.past (bcat HB1.out bw.out) HF1.out
      have OK4 : Hid (OkT ls2) := C4.ok (bare_ok 6)
      have SM4 : Hid (Small 60 ls2) := fun l hl => by have := C4.small (bare_small 6 0) l hl; have := hms.out; omega
      have LN4 : Hid (ls2.length = 6) := by unfold Hid; rw [C4.len]; simp
      have O4 : Hid (w4.ownsRow w1.heap.size 46 3 (.slice ma i mc) i xs) := owns_same O.out fun k hk => t4.block k (NF.out k hk).2.1 (NF.out k hk).1
      have N4 : Hid (∀ k, F2 k → (Value.slice ma i mc).ownBlock ≠ some k) := fun k hk e => by
        rcases t4.own k hk with q | q
        · exact (NF.out k e).1 q
        · have := (NF.out k e).2.1; omega
      have HT4 : Hid (TAt F2 w4 b ls2) := T4
      have HD4 : Hid (Below w.heap.size w w4) := D4
      have hw1 : Hid (w.heap.size ≤ w1.heap.size) := HB1.out.size
      clear cC T4 t4 D4 f4 C4 T3 O AI
      go_wp2_with fail
      go_loopw [9] (fun s9 wr => ∃ (j : Nat) (ys : List Value), s9 = .int .i64 j ∧ j ≤ i ∧ Hid (wr.ownsRow w1.heap.size 46 3 (.slice ma i mc) i ys) ∧ Hid (w4.heap.size ≤ wr.heap.size ∧ ∀ k, (Value.slice ma i mc).ownBlock ≠ some k → wr.heap[k]? = w4.heap[k]?) ∧ Hid (Below w.heap.size w wr)) (fun s9 _ => i - (intOf s9).toNat)
      case atStart => exact ⟨0, xs, rfl, Nat.zero_le _, O4, (⟨Nat.le_refl _, fun _ _ => rfl⟩ : w4.heap.size ≤ w4.heap.size ∧ ∀ k, (Value.slice ma i mc).ownBlock ≠ some k → w4.heap[k]? = w4.heap[k]?), HD4⟩
      case round =>
        obtain ⟨j, ys, rfl, hj, O, FR, bw⟩ := hrel
        rcases Nat.lt_or_ge j i with hjl | hjg
        · obtain ⟨g, cap3, eg, hg1, hg2, hxl, hfz, hce⟩ := owned3 O.out j hjl
          cases eg
          obtain ⟨u0, hx0, hc0⟩ := hce 0 (by omega)
          obtain ⟨u1, hx1, hc1⟩ := hce 1 (by omega)
          obtain ⟨u2, hx2, hc2⟩ := hce 2 (by omega)
          rw [Nat.add_zero] at hc0
          have hf0 := hfz (j * 3)
          have hf1 := hfz (j * 3 + 1)
          have hf2 := hfz (j * 3 + 2)
          have hjl' : (j : Int) < (i : Int) := by omega
          have hjs : (j : Int) + 1 ≤ 1000 := by omega
          have O3 := (((O.out.stored (j * 3) (.int .i64 0)).1.stored (j * 3 + 1) (.int .i64 (-9))).1.stored (j * 3 + 2) (.int .i64 0)).1
          have HO3 : Hid _ := O3
          have F3 : Hid (∀ k, k ≠ g → (((wr.setCell ⟨g, j * 3, none⟩ (.int .i64 0)).setCell ⟨g, j * 3 + 1, none⟩ (.int .i64 (-9))).setCell ⟨g, j * 3 + 2, none⟩ (.int .i64 0)).heap[k]? = wr.heap[k]?) := fun k hk => (Below.heap_setCell _ _ _ k hk).trans ((Below.heap_setCell _ _ _ k hk).trans (Below.heap_setCell _ _ _ k hk))
          have B3 : Hid (Below w.heap.size w (((wr.setCell ⟨g, j * 3, none⟩ (.int .i64 0)).setCell ⟨g, j * 3 + 1, none⟩ (.int .i64 (-9))).setCell ⟨g, j * 3 + 2, none⟩ (.int .i64 0))) := (((bw.out.setCell (p := ⟨g, j * 3, none⟩) (Nat.le_trans hw1.out hg1) _).setCell (p := ⟨g, j * 3 + 1, none⟩) (Nat.le_trans hw1.out hg1) _).setCell (p := ⟨g, j * 3 + 2, none⟩) (Nat.le_trans hw1.out hg1) _)
          clear hce hfz hx0 hx1 hx2 O3
          go_wp2_with fail
          go_roundw
          case measure => simp only [intOf]; omega
          case rel => exact ⟨j + 1, _, rfl, hjl, HO3, (⟨by simp only [World.setCell, Array.size_modify]; exact FR.out.1, fun k hk => (F3.out k (fun e => hk (by rw [e]; rfl))).trans (FR.out.2 k hk)⟩ : _ ∧ _), B3⟩
        · obtain rfl : j = i := by omega
          obtain ⟨W5, rfl⟩ : ∃ W5, W5 = wr := ⟨_, rfl⟩
          have HT5 : Hid (TAt F2 W5 b ls2) := HT4.out.same FR.out.1 fun k hk => FR.out.2 k (N4.out k hk)
          have HB5 : Hid (Below w.heap.size w W5) := bw.out
          clear O FR bw HT4 HD4 O4 N4
          go_wp2_with fail
          go_loopw [10] (fun s10 wr => ∃ c : Nat, s10 = .int .i64 c ∧ c ≤ 6 ∧ Hid (TAt F2 wr b ls2) ∧ Hid (Below w.heap.size w wr)) (fun s10 _ => 6 - (intOf s10).toNat)
          case atStart => exact ⟨0, rfl, Nat.zero_le _, HT5, HB5⟩
          case round =>
            clear HT5 HB5
            obtain ⟨c, rfl, hc, HT, bw⟩ := hrel
            obtain ⟨W6, rfl⟩ : ∃ W6, W6 = wr := ⟨_, rfl⟩
            rcases Nat.lt_or_ge c 6 with hcl | hcg
            · have hc' : (c : Int) < 6 := by omega
              have hcs : (c : Int) + 1 ≤ 1000 := by omega
              have hrl := SM4.out.row (c : Nat)
              have cS := slots_any F2 b ls2 (c : Nat) W6 HT.out (by omega)
              obtain ⟨L, hL⟩ : ∃ L, rowOf ls2 (c : Nat) = L := ⟨_, rfl⟩
              rw [hL] at hrl cS
              have HLr : Hid (rowOf ls2 (c : Nat) = L) := hL
              clear hL
              go_wp2_with (first
                | (go_at_call 18; refine cS.mono ?_; rintro _ w7 ⟨av, rfl, o7, b7⟩)
                | (at_builtin; refine wpList_app kindSl rfl (.const (.slice none 0 0)) (.tmp 79) rfl w7.heap.size (.slice none 0 0) [] rfl (World.ownsRow_nil _ _ _ _) _ L rfl (by exact (row_of_own slL_len o7).lay) (by simp; omega) (by unfold maxLen; simp; omega) (Nat.le_refl _) ?_; intro bv w8 o8 g8 a8; rw [List.nil_append] at o8; have c8 : Below w7.heap.size w7 w8 := (Below.refl _ _).grown g8 (Nat.le_refl _) (fun z hz => (by cases hz))))
              obtain ⟨aa, ac, ea, _⟩ := own_form o7
              subst ea
              have O8 : Hid (w8.ownsRow W6.heap.size 40 3 (.slice aa L.length ac) L.length (rowL slL L)) := owns_go o7 c8
              have OB8 : Hid (w8.ownsRow w7.heap.size 40 3 bv L.length (rowL slL L)) := o8
              have NB : Hid (∀ k, bv.ownBlock = some k → (Value.slice aa L.length ac).ownBlock ≠ some k) := fun k hk e => by
                have h1 := (own_since o7 k e).2
                have h2 := (own_since o8 k hk).1
                omega
              have c68 : Hid (Below W6.heap.size W6 w8) := bcat b7 c8
              clear o7 o8 g8 a8 c8 b7 cS
              go_loopw [13] (fun s13 wr => ∃ (j2 : Nat) (ys : List Value), s13 = .int .i64 j2 ∧ j2 ≤ L.length ∧ Hid (wr.ownsRow W6.heap.size 40 3 (.slice aa L.length ac) L.length ys) ∧ Hid (w8.heap.size ≤ wr.heap.size ∧ ∀ k, (Value.slice aa L.length ac).ownBlock ≠ some k → wr.heap[k]? = w8.heap[k]?) ∧ Hid (Below W6.heap.size W6 wr)) (fun s13 _ => L.length - (intOf s13).toNat)
              case atStart => exact ⟨0, _, rfl, Nat.zero_le _, O8, (⟨Nat.le_refl _, fun _ _ => rfl⟩ : w8.heap.size ≤ w8.heap.size ∧ ∀ k, (Value.slice aa L.length ac).ownBlock ≠ some k → w8.heap[k]? = w8.heap[k]?), c68⟩
              case round =>
                obtain ⟨j2, ys, rfl, hj2, O, FR, bw6⟩ := hrel
                rcases Nat.lt_or_ge j2 L.length with hjl | hjg
                · obtain ⟨g, cap3, eg, hg1, hg2, hxl, hfz, hce⟩ := owned3 O.out j2 hjl
                  cases eg
                  obtain ⟨u0, hx0, hc0⟩ := hce 0 (by omega)
                  obtain ⟨u1, hx1, hc1⟩ := hce 1 (by omega)
                  obtain ⟨u2, hx2, hc2⟩ := hce 2 (by omega)
                  rw [Nat.add_zero] at hc0
                  have hf0 := hfz (j2 * 3)
                  have hf1 := hfz (j2 * 3 + 1)
                  have hf2 := hfz (j2 * 3 + 2)
                  have hjl' : (j2 : Int) < (L.length : Int) := by omega
                  have hjs : (j2 : Int) + 1 ≤ 1000 := by omega
                  have O3 := (((O.out.stored (j2 * 3) (.int .i64 (-1))).1.stored (j2 * 3 + 1) (.int .i64 0)).1.stored (j2 * 3 + 2) (.int .i64 0)).1
                  have HO3 : Hid _ := O3
                  have F3 : Hid (∀ k, k ≠ g → (((wr.setCell ⟨g, j2 * 3, none⟩ (.int .i64 (-1))).setCell ⟨g, j2 * 3 + 1, none⟩ (.int .i64 0)).setCell ⟨g, j2 * 3 + 2, none⟩ (.int .i64 0)).heap[k]? = wr.heap[k]?) := fun k hk => (Below.heap_setCell _ _ _ k hk).trans ((Below.heap_setCell _ _ _ k hk).trans (Below.heap_setCell _ _ _ k hk))
                  have B3 : Hid (Below W6.heap.size W6 (((wr.setCell ⟨g, j2 * 3, none⟩ (.int .i64 (-1))).setCell ⟨g, j2 * 3 + 1, none⟩ (.int .i64 0)).setCell ⟨g, j2 * 3 + 2, none⟩ (.int .i64 0))) := (((bw6.out.setCell (p := ⟨g, j2 * 3, none⟩) hg1 _).setCell (p := ⟨g, j2 * 3 + 1, none⟩) hg1 _).setCell (p := ⟨g, j2 * 3 + 2, none⟩) hg1 _)
                  clear hce hfz hx0 hx1 hx2 O3
                  go_wp2_with fail
                  go_roundw
                  case measure => simp only [intOf]; omega
                  case rel => exact ⟨j2 + 1, _, rfl, hjl, HO3, (⟨by simp only [World.setCell, Array.size_modify]; exact FR.out.1, fun k hk => (F3.out k (fun e => hk (by rw [e]; rfl))).trans (FR.out.2 k hk)⟩ : _ ∧ _), B3⟩
                · obtain rfl : j2 = L.length := by omega
                  obtain ⟨W9, rfl⟩ : ∃ W9, W9 = wr := ⟨_, rfl⟩
                  have T9 := HT.out.go bw6.out
                  have BB9 : Hid (Below w.heap.size w W9) := bcat bw.out bw6.out
                  have RB9 : Hid (RowAt slL (fun _ => True) W9 bv L) := (row_of_own slL_len (owns_same OB8.out fun k hk => FR.out.2 k (NB.out k hk))).mono fun _ _ => trivial
                  obtain ⟨ba, bn, bc, ebv⟩ := RB9.out.shape
                  subst ebv
                  obtain ⟨q, hq⟩ : ∃ q : Nat, 1 + pmv = (q : Nat) := ⟨(1 + pmv).toNat, by omega⟩
                  have hq9 : 0 < q ∧ q ≤ 9 := by omega
                  have cG := gaps_any F2 b ls2 (c : Nat) 1 W9 T9
                  rw [HLr.out] at cG
                  have hgl : L.length ≤ 900000000 := by omega
                  clear O FR bw6 O8 OB8 NB c68
                  go_wp2_with (first
                    | (have X9 := sv1; go_at_call 22; refine (stretches_any p8 p7 p5 10000 _ lv L 1 _ (G10.go b11) hgl (by omega) (by omega)).mono ?_; rintro _ w12 ⟨sv2, rfl, O12, b12⟩)
                    | (go_at_call 23; refine cG.mono ?_; rintro _ w10 ⟨p8, p7, p5, lv, rfl, G10, b10⟩; unfold GapsV at *)
                    | (go_at_call 21; refine (cM _).mono ?_; rintro _ wz ⟨rfl, rfl⟩)
                    | (go_at_call 22; refine (stretches_any p8 p7 p5 q _ lv L 1 _ G10 hgl hq9.1 (by omega)).mono ?_; rintro _ w11 ⟨sv1, rfl, O11, b11⟩))
                  generalize gapsOf (isThere ls2.length (c : Nat)) 1 L = G at *
                  have B12 : Below W9.heap.size W9 w12 := bcat b10 (bcat b11 b12)
                  have T12 : Hid (TAt F2 w12 b ls2) := T9.go B12
                  have BB12 : Hid (Below w.heap.size w w12) := bcat BB9.out B12
                  have RB12 : Hid (RowAt slL (fun _ => True) w12 (.slice ba bn bc) L) := RB9.out.go slL_len B12
                  have cS2 := slots_any F2 b ls2 (c : Nat) w12 T12.out (by rw [HLr.out]; omega)
                  rw [HLr.out] at cS2
                  have RX0 := pr_go (pr_of_own O11) b12
                  obtain ⟨x1a, x1c, e1, _⟩ := RX0.form
                  have hn12 : (G.take q).length ≤ (G.take 10000).length := by rw [List.length_take, List.length_take]; omega
                  have hpre : (G.take 10000).take (G.take q).length = G.take q := by
                    rw [List.take_take, List.length_take]
                    rcases Nat.le_total q G.length with k | k
                    · rw [show min (min q G.length) 10000 = q by omega]
                    · rw [show min (min q G.length) 10000 = min G.length 10000 by omega, List.take_of_length_le (i := q) k]
                      rw [List.take_of_length_le (by omega)]
                  rcases id O12.2 with ⟨es, h0⟩ | ⟨g2, cap2, cur2, es, hg2, hgc2, hnc2, hcm2, _⟩
                  · have hz : (G.take q).length = 0 := by omega
                    have hze : G.take q = [] := List.eq_nil_of_length_eq_zero hz
                    rw [hz] at e1
                    subst e1
                    subst es
                    have RX : Hid (RowAt prL (fun _ => True) w12 (.slice x1a 0 x1c) (G.take q)) := RX0.mono fun _ _ => trivial
                    have RY : Hid (RowAt prL (fun _ => True) w12 (.slice none 0 0) (G.take q)) := by unfold Hid; rw [hze]; exact RowAt.nil _ _ _
                    clear RX0 hpre hn12 hz hze O11 O12 B12 T9 b10 b11 b12 h0
                    go_wp2_with (first
                      | (go_at_call 18; refine cS2.mono ?_; rintro _ w13 ⟨v13, rfl, o13, b13⟩)
                      | (go_at_call 20; refine (sameSlots_any _ _ v13 _ L L _ (row_of_own slL_len o13) (RB12.out.go slL_len b13) (by omega)).mono ?_; rintro _ w14 ⟨rfl, b14⟩; rw [decide_eq_true (show L = L from rfl)])
                      | (go_at_call 24; refine (alike_any (fun _ => True) (fun _ => True) _ _ (G.take q) (G.take q) _ (pr_go (pr_go RX.out b13) b14) (pr_go (pr_go RY.out b13) b14) (by have := hq9; rw [List.length_take]; omega)).mono ?_; rintro _ w15 ⟨rfl, b15⟩; rw [decide_eq_true (show G.take q = G.take q from rfl)]))
                    go_roundw
                    case measure => simp only [intOf]; omega
                    case rel => exact ⟨c + 1, rfl, hcl, (T12.out.go (bcat b13 (bcat b14 b15))), bcat BB12.out (bcat b13 (bcat b14 b15))⟩
                  · obtain ⟨n1, hn1⟩ : ∃ n1, (G.take q).length = n1 := ⟨_, rfl⟩
                    obtain ⟨n2, hn2'⟩ : ∃ n2, (G.take 10000).length = n2 := ⟨_, rfl⟩
                    have RX : Hid (RowAt prL (fun _ => True) w12 sv1 (G.take q)) := RX0.mono fun _ _ => trivial
                    have RY : Hid (RowAt prL (fun _ => True) w12 (.slice (some ⟨g2, 0, none⟩) n1 cap2) (G.take q)) := by
                      rcases id O12.2 with ⟨es', _⟩ | ⟨g3, cap3, cur3, es', _⟩
                      · rw [es] at es'; cases es'
                      · rw [es] at es'
                        cases es'
                        refine Or.inr ⟨g2, 0, cap2, by rw [hn1], by rw [hn1, ← hn1]; omega, hcm2, fun _ => trivial, fun k u hk => ?_⟩
                        rw [Nat.zero_add]
                        have hk1 := (List.getElem?_eq_some_iff.1 hk).1
                        rw [rowL_len prL_len] at hk1
                        have O12' := O12
                        rw [es] at O12'
                        have e9 := O12'.cellAt k (by omega)
                        rw [e9]
                        have e8 : G.take 10000 = G.take q ++ (G.take 10000).drop (G.take q).length := by conv => lhs; rw [← List.take_append_drop (G.take q).length (G.take 10000), hpre]
                        rw [e8, rowL_append, List.getElem?_append_left (by rw [rowL_len prL_len]; exact hk1)]
                        exact hk
                    rw [hn1] at e1 hn12
                    rw [hn2'] at es hn12 hnc2
                    rw [e1] at RX
                    subst e1
                    subst es
                    have i12 : (n1 : Int) ≤ (n2 : Int) := by omega
                    have imn : min (n1 : Int) (n2 : Int) = (n1 : Int) := by omega
                    have i1c : (n1 : Int) ≤ (cap2 : Int) := by omega
                    have ing : ¬ ((n1 : Int) > (n2 : Int)) := by omega
                    clear RX0 hpre O11 O12 B12 T9 b10 b11 b12
                    go_wp2_with (first
                      | (go_at_call 18; refine cS2.mono ?_; rintro _ w13 ⟨v13, rfl, o13, b13⟩)
                      | (go_at_call 20; refine (sameSlots_any _ _ v13 _ L L _ (row_of_own slL_len o13) (RB12.out.go slL_len b13) (by omega)).mono ?_; rintro _ w14 ⟨rfl, b14⟩; rw [decide_eq_true (show L = L from rfl)])
                      | (go_at_call 24; refine (alike_any (fun _ => True) (fun _ => True) _ _ (G.take q) (G.take q) _ (pr_go (pr_go RX.out b13) b14) (pr_go (pr_go RY.out b13) b14) (by have := hq9; rw [List.length_take]; omega)).mono ?_; rintro _ w15 ⟨rfl, b15⟩; rw [decide_eq_true (show G.take q = G.take q from rfl)]))
                    go_roundw
                    case measure => simp only [intOf]; omega
                    case rel => exact ⟨c + 1, rfl, hcl, (T12.out.go (bcat b13 (bcat b14 b15))), bcat BB12.out (bcat b13 (bcat b14 b15))⟩
            · obtain rfl : c = 6 := by omega
              go_wp2_with (go_at_call 13; refine (awake_any _).mono ?_; rintro _ w7 ⟨rfl, b7⟩)
              go_ret
              exact ⟨rfl, bcat bw.out b7⟩
end Go.Proofs.Ytddkgkafgjdheaa.Rs
