/-
  To go through all, broken off anywhere, and again, takes nothing out.
-/
import Derived.Test.YtpbmkflkggeggaaHeapPlace
import Derived.Deep.CutRange
namespace Go.Proofs.Ytpbmkflkggeggaa.Hp
set_option linter.unusedVariables false
set_option linter.unusedSimpArgs false
open Go Go.RowKit Go.Shelf Go.Proofs
attribute [local go_sem] Oper.semAt_some

set_option maxRecDepth 100000 in
set_option maxHeartbeats 4000000 in
theorem looks_big (a : Option Addr) (n cap : Nat) (m : Int) (w : World) (hn : 300 < n) : Calls Try.prog 5 #[.slice a n cap, .int .i64 m] w fun e w' => e = .returned (.bool true) ∧ Below w.heap.size w w' := by
  have i0 : (300 : Int) < (n : Int) := by omega
  go_enter Try.func5, Try.ntmps5
  go_wp2_with fail
  go_at_call 10
  refine (awake_any _).mono ?_
  rintro e w1 ⟨rfl, b1⟩
  go_wp2_with fail
  go_at_call 10
  refine (awake_any _).mono ?_
  rintro e w2 ⟨rfl, b2⟩
  go_wp2
  go_ret
  exact ⟨rfl, bcat b1 b2⟩
set_option maxRecDepth 100000 in
set_option maxHeartbeats 8000000 in
theorem looks_all (a : Option Addr) (n cap : Nat) (ks : List Int) (m : Int) (w : World) (h : Ks w a n ks) (hn : n ≤ 300) : Calls Try.prog 5 #[.slice a n cap, .int .i64 m] w fun e w' => e = .returned (.bool true) ∧ Below w.heap.size w w' := by
  have i0 : ¬ (300 : Int) < (n : Int) := by omega
  obtain ⟨B, hB⟩ : ∃ B, w.heap.size = B := ⟨_, rfl⟩
  rw [hB]
  go_enter Try.func5, Try.ntmps5
  go_wp2_with fail
  go_at_call 10
  refine (awake_any _).mono ?_
  rintro e w1 ⟨rfl, b1⟩
  rw [hB] at b1
  go_wp2_with fail
  go_at_call 11
  refine (new_any B _ (by have := b1.size; omega)).mono ?_
  rintro e w2 ⟨rfl, G2, b2⟩
  obtain ⟨b, hb⟩ : ∃ b, w1.heap.size = b := ⟨_, rfl⟩
  rw [hb] at G2 b2 ⊢
  have bB : B ≤ b := by have := b1.size; omega
  have c2 := b1.trans (b2.mono bB)
  have hK : Hid (∀ w', Below B w w' → Ks w' a n ks) := fun w' q => h.after (by rw [hB]; exact q)
  clear b1 b2 h
  go_wp2_with fail
  go_loopw [6] (fun ix wr => ∃ (i : Nat) (v : Value), ix = .int .i64 i ∧ i ≤ n ∧ Hid (HpAt B wr b v (fill ks i) i) ∧ Below B w wr) (fun ix wr => n - (intOf ix).toNat)
  case atStart => exact ⟨0, _, rfl, Nat.zero_le _, G2, c2⟩
  case round =>
    obtain ⟨i, v, rfl, hi, HG, cr⟩ := hrel
    by_cases hlt : i < n
    · obtain ⟨x, rfl, hx⟩ := (hK.out wr cr).cell i hlt
      have hlt' : (i : Int) < (n : Int) := by omega
      go_wp2_with fail
      go_at_call 27
      refine (of_any _ _ _).mono ?_
      rintro e w4 ⟨rfl, b4⟩
      have G4 := HG.out.go b4
      have c4 := cr.trans (b4.mono (by have := cr.size; omega))
      go_wp2_with fail
      go_at_call 14
      refine (push_any B b _ _ _ _ _ _ G4 (by rw [fill_len]; omega) (by omega)).mono ?_
      rintro e w5 ⟨rfl, v5, G5, t5⟩
      have c5 := c4.trans (t5.past G4 (by have := c4.size; omega))
      clear HG G4 t5
      go_wp2
      go_roundw
      case rel => exact ⟨i + 1, v5, by go_num, by omega, G5, c5⟩
      case measure => simp [intOf]; omega
    · obtain rfl : i = n := by omega
      clear G2
      obtain ⟨s, hs⟩ : ∃ s, fill ks i = s := ⟨_, rfl⟩
      have hsl : s.length = i := by rw [← hs]; exact fill_len ks i
      have G0 := HG.out
      rw [hs] at G0
      clear HG hs
      have pb := place_bd m ((i : Int) + 1) (by omega)
      have cP := fun w1 => place_any m ((i : Int) + 1) w1 (by omega) (by omega)
      obtain ⟨r, hr⟩ : ∃ r, place m ((i : Int) + 1) = r := ⟨_, rfl⟩
      rw [hr] at pb cP
      clear hr
      go_wp2_with fail
      go_at_call 13
      refine (cP _).mono ?_
      rintro e w3 ⟨rfl, rfl⟩
      have cA := all_any B b v s i (1 + r) w3 G0 (by omega) (by omega) (by omega)
      obtain ⟨A, hA⟩ : ∃ A, (s.map vOf).take (1 + r).toNat = A := ⟨_, rfl⟩
      have hAl : A.length = min (1 + r).toNat i := by rw [← hA, List.length_take, List.length_map, hsl]
      rw [hA] at cA
      obtain ⟨q, hq⟩ : ∃ q, A.length = q := ⟨_, rfl⟩
      have HQ : Hid (A.length = q) := hq
      rw [hq] at cA
      have hqi : q ≤ i := by omega
      clear hq hAl
      go_wp2_with fail
      go_at_call 21
      refine (cA).mono ?_
      rintro e w4 ⟨xa, rfl, oa, ba⟩
      have G4 := G0.go ba
      have c4 := cr.trans (ba.mono (by have := cr.size; omega))
      have cB := all_any B b v s i ((i : Int) + 5) w4 G4 (by omega) (by omega) (by omega)
      have hBe : (s.map vOf).take ((i : Int) + 5).toNat = s.map vOf := List.take_of_length_le (by rw [List.length_map]; omega)
      rw [hBe] at cB
      obtain ⟨bs, hbs⟩ : ∃ bs, s.map vOf = bs := ⟨_, rfl⟩
      have hbl : bs.length = i := by rw [← hbs, List.length_map, hsl]
      rw [hbs, hbl] at cB
      obtain ⟨xaa, xac, rfl, _⟩ := own_form oa
      go_wp2_with fail
      go_at_call 21
      refine (cB).mono ?_
      rintro e w5 ⟨xb, rfl, ob, bb⟩
      have G5 := G4.go bb
      have c5 := c4.trans (bb.mono (by have := c4.size; omega))
      have oa5 := owns_go oa bb
      have HAt : Hid (A = bs.take q) := by
        unfold Hid
        rw [← HQ.out, ← hA, hbs, List.length_take]
        rw [← List.take_eq_take_min]
      have cL := len_any B b _ _ _ w5 G5
      rw [hsl] at cL
      have gx := (G5.own)
      have hbs5 : Hid (bs.length = i ∧ s.map vOf = bs) := ⟨hbl, hbs⟩
      have hvb := fun k hk => (G4.own k hk).2.1
      have hbb := G4.lt
      clear hbl hbs cA cB G0 oa hBe cr c4 hA
      obtain ⟨xba, xbc, rfl, _⟩ := own_form ob
      go_upto_region 10 with fail
      go_cut [71] from 48 to 71 (fun rr wx => rr = .bool false ∧ Below w5.heap.size w5 wx)
      case first =>
        rcases ob.2 with ⟨e0, hi0⟩ | ⟨g, cp, cur, e0, _, _, hnc, _⟩
        · cases e0
          have cS := same_any w3.heap.size w4.heap.size (.slice xaa q xac) (.slice none 0 0) A [] w5 (by rw [HQ.out]; exact oa5) (World.ownsRow_nil _ _ _ _) (by rw [HQ.out]; omega) (List.eq_nil_of_length_eq_zero (by rw [HQ.out]; omega))
          obtain rfl : q = 0 := by omega
          go_wp2_with (first | (go_at_call 26; refine cL.mono ?_; rintro e w6 ⟨rfl, rfl⟩) | (go_at_call 20; refine cS.mono ?_; rintro e w6 ⟨rfl, b6⟩))
          go_meet
          exact ⟨rfl, b6⟩
        · cases e0
          have hq2 : (q : Int) ≤ (i : Int) := by omega
          have ob2 := cutV (m := q) hbs5.out.1 hqi ob
          have cS := same_any w3.heap.size w4.heap.size (.slice xaa q xac) (.slice (some ⟨g, 0, none⟩) q xbc) A (bs.take q) w5 (by rw [HQ.out]; exact oa5) (by rw [List.length_take, hbs5.out.1, Nat.min_eq_left hqi]; exact ob2) (by rw [HQ.out]; omega) HAt.out
          go_wp2_with (first | (go_at_call 26; refine cL.mono ?_; rintro e w6 ⟨rfl, rfl⟩) | (go_at_call 20; refine cS.mono ?_; rintro e w6 ⟨rfl, b6⟩))
          go_meet
          exact ⟨rfl, b6⟩
      case rest =>
        obtain ⟨rfl, b6⟩ := hcut
        have G6 := G5.go b6
        have c6 := c5.trans (b6.mono (by have := c5.size; omega))
        have o6 := owns_go ob b6
        have bo : Hid ((Value.slice xba i xbc).ownBlock ≠ some b) := fun e => by have := (own_since ob _ e).1; omega
        have vo : ∀ k, v.ownBlock = some k → (Value.slice xba i xbc).ownBlock ≠ some k := fun k hk e => by have := (own_since ob _ e).1; have := hvb k hk; omega
        clear G5 ob oa5 cL c5 b6 hvb hbb gx G4 ba bb HAt HQ
        go_wp2_with fail
        go_loopw [9] (fun ix wq => ∃ (j : Nat) (v : Value), ix = .int .i64 j ∧ j ≤ i ∧ Hid (HpAt B wq b v (s.drop j) i) ∧ Hid (wq.ownsRow w4.heap.size 27 2 (.slice xba i xbc) i (rowL vL bs) ∧ ∀ k, v.ownBlock = some k → (Value.slice xba i xbc).ownBlock ≠ some k) ∧ Below B w wq) (fun ix wq => i - (intOf ix).toNat)
        case atStart => exact ⟨0, v, rfl, Nat.zero_le _, G6, ⟨o6, vo⟩, c6⟩
        case round =>
          clear G6 o6 c6 vo
          obtain ⟨j, v, rfl, hj, HG, HO, cq⟩ := hrel
          by_cases hlt : j < i
          · have hjs : j < s.length := by omega
            obtain ⟨⟨K, N, t⟩, hx⟩ : ∃ x, s[j] = x := ⟨_, rfl⟩
            have hdrop : s.drop j = ⟨K, N, t⟩ :: s.drop (j + 1) := by rw [List.drop_eq_getElem_cons hjs, hx]
            have hbj : Hid (∃ hb : j < bs.length, bs[j] = (K, N)) := ⟨by rw [hbs5.out.1]; exact hlt, by simp only [← hbs5.out.2, List.getElem_map, hx]; rfl⟩
            have HG2 := HG.out
            rw [hdrop] at HG2
            have hlt' : (j : Int) < (i : Int) := by omega
            go_wp2_with fail
            go_at_call 16
            refine (pop_some B b _ _ _ _ _ HG2 (by rw [List.length_drop]; omega)).mono ?_
            rintro e w7 ⟨rfl, v7, G7, t7⟩
            have c7 := cq.trans (t7.past HG2 (by have := cq.size; omega))
            have o7 := owns_same HO.out.1 (fun k hk => t7.block k (own_since HO.out.1 k hk).2 (fun e => bo.out (by rw [hk, e])) (fun e => HO.out.2 k e hk))
            have v7o : ∀ k, v7.ownBlock = some k → (Value.slice xba i xbc).ownBlock ≠ some k := fun k hk e => by
              rcases t7.own k hk with z | z
              · exact HO.out.2 k z e
              · have := (own_since HO.out.1 k e).2; omega
            obtain ⟨X, hX⟩ : ∃ X, w7.alloc (.cells #[.int .i64 K, .int .i64 N] 27) = X := ⟨_, rfl⟩
            have bX : Below w7.heap.size w7 X := by rw [← hX]; exact (Below.refl _ _).alloc (Nat.le_refl _) _
            have x0 : X.cell? ⟨w7.heap.size, 0, none⟩ = some (.int .i64 K) := by rw [← hX]; simp
            have x1 : X.cell? ⟨w7.heap.size, 1, none⟩ = some (.int .i64 N) := by rw [← hX]; simp
            have GX : Hid (HpAt B X b v7 (s.drop (j + 1)) i) := G7.go bX
            have cX := c7.trans (bX.mono (by have := c7.size; omega))
            have oX := owns_go o7 bX
            have oX2 : X.ownsRow w4.heap.size 27 2 (.slice xba i xbc) bs.length (rowL vL bs) := by rw [hbs5.out.1]; exact oX
            have HOX : Hid (X.ownsRow w4.heap.size 27 2 (.slice xba i xbc) i (rowL vL bs) ∧ ∀ k, v7.ownBlock = some k → (Value.slice xba i xbc).ownBlock ≠ some k) := ⟨oX, v7o⟩
            obtain ⟨ya, yc, ye, yf⟩ := v_form oX2
            obtain ⟨hbl, hbe⟩ := hbj.out
            obtain ⟨g, rfl, y0, y1⟩ := yf j hbl
            rw [hbe] at y0 y1
            simp only at y0 y1
            rw [hbs5.out.1] at ye
            cases ye
            clear HG HG2 G7 t7 c7 o7 v7o HO oX oX2 yf cq hdrop hbj bX
            go_wp2_with fail
            try rw [hX]
            go_quiet (fail)
            go_wp2
            go_roundw
            case rel => exact ⟨j + 1, v7, by go_num, by omega, GX.out.go (by first | exact (Below.refl _ _).drew | exact below_drewN (Below.refl _ _) _), ⟨owns_go HOX.out.1 (by first | exact (Below.refl _ _).drew | exact below_drewN (Below.refl _ _) _), HOX.out.2⟩, by first | exact cX.drew | exact below_drewN cX _⟩
            case measure => simp [intOf]; omega
          · obtain rfl : j = i := by omega
            go_wp2
            go_ret
            exact ⟨rfl, cq⟩
end Go.Proofs.Ytpbmkflkggeggaa.Hp
