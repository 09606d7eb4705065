/-
  StacksFinds: the walk.
-/
import Derived.Test.YtfopcjaiclmboaaStkRs12
namespace Go.Proofs.Ytfopcjaiclmboaa.Stk
set_option linter.unusedVariables false
set_option linter.unusedSimpArgs false
open Go Go.RowKit Go.Shelf Go.Proofs Go.Proofs.Ytfopcjaiclmboaa.Grid
attribute [local go_sem] Oper.semAt_some

set_option maxRecDepth 100000 in
set_option maxHeartbeats 4000000 in
theorem finds_all (c : Conf) (vb vp vr vs : Value) (w : World) (hA : ConfAt (Old w) c vb vp vr vs w) (l1 : c.blocked.length ≤ 8796093022208) (l2 : c.ports.length ≤ 8796093022208) (l3 : c.robots.length ≤ 5864062014805) (l4 : c.stacks.length ≤ 3518437208880) (l5 : ∀ s ∈ c.stacks, s.2.length ≤ 17592186044416) (os : List OpT) (vo : Value) (hO : ListAt 4 opEl (Old w) os vo w) (lo : os.length ≤ 9223372036854775807) (bl : List Int) (vbl : Value) (hBl : ListAt 1 intEl (Old w) bl vbl w) (lbl : bl.length ≤ 9223372036854775807) : Calls Try.prog 4 #[.agg #[.int .i64 c.W, .int .i64 c.H, .int .i64 c.height, vb, vp, vr, vs, .int .i64 c.unit, .int .i64 c.accel, .int .i64 c.speed, .int .i64 c.turn, .int .i64 c.hoist, .int .i64 c.queue, .int .i64 c.resend, .int .i64 c.budget, .bool c.back], vo, vbl] w fun e w' => e = .returned (.bool true) ∧ Below w.heap.size w w' := by
  have L := fun (u : World) (b : Below w.heap.size w u) g (hg : Old w g) => Nat.lt_of_lt_of_le hg b.size
  have hAu := fun u (b : Below w.heap.size w u) => hA.go (fun _ h => h) b
  have cC := fun u (b : Below w.heap.size w u) => copyConf_any (Old w) c vb vp vr vs u (hAu u b) (L u b) l1 l2 l3 l4 l5
  have cM := fun u (b : Below w.heap.size w u) => mayR_call (F := Old w) (hAu u b) (L u b) l1 l2 l3 l4 l5
  have cS := fun u (b : Below w.heap.size w u) => small_any (Old w) c vb vp vr vs u (hAu u b) (L u b) l1 l2 l3 l4 l5
  have Q0 : One w #[.int .i64 c.W, .int .i64 c.H, .int .i64 c.height, vb, vp, vr, vs, .int .i64 c.unit, .int .i64 c.accel, .int .i64 c.speed, .int .i64 c.turn, .int .i64 c.hoist, .int .i64 c.queue, .int .i64 c.resend, .int .i64 c.budget, .bool c.back] (w.alloc (.cells #[.int .i64 c.W, .int .i64 c.H, .int .i64 c.height, vb, vp, vr, vs, .int .i64 c.unit, .int .i64 c.accel, .int .i64 c.speed, .int .i64 c.turn, .int .i64 c.hoist, .int .i64 c.queue, .int .i64 c.resend, .int .i64 c.budget, .bool c.back] 26)) := ⟨below_new (Below.refl _ _) _, heap_alloc_new w _⟩
  obtain ⟨ao, capo, hvo, _⟩ := hO.form
  subst hvo
  obtain ⟨ab, capb, hvb, _⟩ := hBl.form
  subst hvb
  cases hN : newP c with
  | none =>
    have cN := fun {m : Nat} {u : World} {v1 v2 v3 v4 : Value} (a : ConfAt (Since m u) c v1 v2 v3 v4 u) => new_none_any a since_lt l1 l2 l3 l4 hN
    rw [hN] at cM cS
    simp only [Option.isSome_none, Bool.and_false] at cM cS
    clear hA L hN hAu hO hBl
    go_enter Try.func4, Try.ntmps4
    go_wp2_with (first
          | (have X' := Q3; refine wpList_load_row rfl 26 (.tmp 3) rfl w.heap.size rfl 26 #[.int .i64 c.W, .int .i64 c.H, .int .i64 c.height, vb, vp, vr, vs, .int .i64 c.unit, .int .i64 c.accel, .int .i64 c.speed, .int .i64 c.turn, .int .i64 c.hoist, .int .i64 c.queue, .int .i64 c.resend, .int .i64 c.budget, .bool c.back] (0, 0) _ Q3.a Try.underlying26 rfl info_conf ?_)
          | (have X' := Q2; refine wpList_load_row rfl 26 (.tmp 3) rfl w.heap.size rfl 26 #[.int .i64 c.W, .int .i64 c.H, .int .i64 c.height, vb, vp, vr, vs, .int .i64 c.unit, .int .i64 c.accel, .int .i64 c.speed, .int .i64 c.turn, .int .i64 c.hoist, .int .i64 c.queue, .int .i64 c.resend, .int .i64 c.budget, .bool c.back] (0, 0) _ Q2.a Try.underlying26 rfl info_conf ?_)
          | (refine wpList_load_row rfl 26 (.tmp 3) rfl w.heap.size rfl 26 #[.int .i64 c.W, .int .i64 c.H, .int .i64 c.height, vb, vp, vr, vs, .int .i64 c.unit, .int .i64 c.accel, .int .i64 c.speed, .int .i64 c.turn, .int .i64 c.hoist, .int .i64 c.queue, .int .i64 c.resend, .int .i64 c.budget, .bool c.back] (0, 0) _ Q0.a Try.underlying26 rfl info_conf ?_)
          | (go_at_call 8; refine (cC _ Q0.below).mono ?_; rintro e w1 ⟨r1, rfl, ⟨v1, v2, v3, v4, rfl, A1⟩, b1⟩; have Q1 := Q0.go b1)
          | (go_at_call 7; refine (cN A1).mono ?_; rintro e w2 ⟨rfl, b2⟩; have Q2 := Q1.go b2)
          | (go_at_call 6; refine (cS _ Q2.below).mono ?_; rintro e w3 ⟨r3, rfl, rfl, b3⟩; have Q3 := Q2.go b3)
          | (go_at_call 9; refine (cM _ Q3.below).mono ?_; rintro e w4 ⟨r4, rfl, rfl, b4⟩; have Q4 := Q3.go b4)
          | (go_at_call 10; refine (awake8_any _).mono ?_; rintro e w9 ⟨r9, rfl, rfl, b9⟩))
    go_ret
    exact ⟨rfl, bcat Q4.below b9 (Nat.le_refl _)⟩
  | some G =>
    have hmy := (new_some hN).1
    have hM : (newP c).isSome = true := by rw [hN]; rfl
    have cN := fun {m : Nat} {u : World} {v1 v2 v3 v4 : Value} (a : ConfAt (Since m u) c v1 v2 v3 v4 u) => new_some_any a since_lt l1 l2 l3 l4 l5 hN
    rw [hN] at cM cS
    simp only [Option.isSome_some, Bool.and_true] at cM cS
    cases hs : smallN c
    · rw [hs] at cS
      clear hA L hN hAu hO hBl hmy hM
      go_enter Try.func4, Try.ntmps4
      go_wp2_with (first
            | (have X' := Q3; refine wpList_load_row rfl 26 (.tmp 3) rfl w.heap.size rfl 26 #[.int .i64 c.W, .int .i64 c.H, .int .i64 c.height, vb, vp, vr, vs, .int .i64 c.unit, .int .i64 c.accel, .int .i64 c.speed, .int .i64 c.turn, .int .i64 c.hoist, .int .i64 c.queue, .int .i64 c.resend, .int .i64 c.budget, .bool c.back] (0, 0) _ Q3.a Try.underlying26 rfl info_conf ?_)
            | (have X' := Q2; refine wpList_load_row rfl 26 (.tmp 3) rfl w.heap.size rfl 26 #[.int .i64 c.W, .int .i64 c.H, .int .i64 c.height, vb, vp, vr, vs, .int .i64 c.unit, .int .i64 c.accel, .int .i64 c.speed, .int .i64 c.turn, .int .i64 c.hoist, .int .i64 c.queue, .int .i64 c.resend, .int .i64 c.budget, .bool c.back] (0, 0) _ Q2.a Try.underlying26 rfl info_conf ?_)
            | (refine wpList_load_row rfl 26 (.tmp 3) rfl w.heap.size rfl 26 #[.int .i64 c.W, .int .i64 c.H, .int .i64 c.height, vb, vp, vr, vs, .int .i64 c.unit, .int .i64 c.accel, .int .i64 c.speed, .int .i64 c.turn, .int .i64 c.hoist, .int .i64 c.queue, .int .i64 c.resend, .int .i64 c.budget, .bool c.back] (0, 0) _ Q0.a Try.underlying26 rfl info_conf ?_)
            | (go_at_call 8; refine (cC _ Q0.below).mono ?_; rintro e w1 ⟨r1, rfl, ⟨v1, v2, v3, v4, rfl, A1⟩, b1⟩; have Q1 := Q0.go b1)
            | (go_at_call 7; refine (cN A1).mono ?_; rintro e w2 ⟨K, ps0, rfl, S2, hb2, hat2, hpm2, b2⟩; have Q2 := Q1.go b2)
            | (go_at_call 6; refine (cS _ Q2.below).mono ?_; rintro e w3 ⟨r3, rfl, rfl, b3⟩; have Q3 := Q2.go b3)
            | (go_at_call 9; refine (cM _ Q3.below).mono ?_; rintro e w4 ⟨r4, rfl, rfl, b4⟩; have Q4 := Q3.go b4)
            | (go_at_call 10; refine (awake8_any _).mono ?_; rintro e w9 ⟨r9, rfl, rfl, b9⟩))
      go_ret
      exact ⟨rfl, bcat Q4.below b9 (Nat.le_refl _)⟩
    · rw [hs] at cS
      obtain ⟨WN, hWN⟩ : ∃ n : Nat, c.W = n := ⟨c.W.toNat, by have := limited_sides hmy.1; omega⟩
      obtain ⟨HN_, hHN⟩ : ∃ n : Nat, c.H = n := ⟨c.H.toNat, by have := limited_sides hmy.1; omega⟩
      have cW := fun u (b : Below w.heap.size w u) => rnew_any (hAu u b) (L u b) (by omega) (by omega) l4 l5 hM hWN hHN (by have := limited_sides hmy.1; omega) (by have := limited_sides hmy.1; omega) hmy.2.2.1 (fun x => placed_few hN x)
      have HNn : Hid (newP c = some G) := hN
      have HWN : Hid (c.W = WN ∧ c.H = HN_) := ⟨hWN, hHN⟩
      have HAu : Hid (∀ u, Below w.heap.size w u → ConfAt (Old w) c vb vp vr vs u) := hAu
      have HLL : Hid (c.blocked.length ≤ 9223372036854775807 ∧ c.ports.length ≤ 9223372036854775807 ∧ c.robots.length ≤ 9223372036854775807) := ⟨by omega, by omega, by omega⟩
      have hOu := fun u (b : Below w.heap.size w u) => hO.go heldOp (fun _ h => h) b
      have hBu := fun u (b : Below w.heap.size w u) => hBl.go heldInt (fun _ h => h) b
      obtain ⟨n, hn⟩ : ∃ n, os.length = n := ⟨_, rfl⟩
      have Hn : Hid (os.length = n) := hn
      obtain ⟨m, hm⟩ : ∃ m, bl.length = m := ⟨_, rfl⟩
      have Hm : Hid (bl.length = m) := hm
      rw [hn] at hOu lo ⊢
      rw [hm] at hBu lbl ⊢
      have HOu : Hid (∀ u, Below w.heap.size w u → ListAt 4 opEl (Old w) os (.slice ao n capo) u) := hOu
      have HBu : Hid (∀ u, Below w.heap.size w u → ListAt 1 intEl (Old w) bl (.slice ab m capb) u) := hBu
      clear hA L hN hAu hO hn hOu hmy hM hBl hBu hm hWN hHN l1 l2 l3 l4 l5
      go_enter Try.func4, Try.ntmps4
      go_wp2_with (first
            | (have X' := S2; go_at_call 11; refine (cW _ Q3.below).mono ?_; rintro e w4 ⟨KR, vc, qs0, rfl, R4, hKB, hrb, hqs, b4⟩; have Q4 := Q3.go b4)
            | (have X' := Q3; refine wpList_load_row rfl 26 (.tmp 3) rfl w.heap.size rfl 26 #[.int .i64 c.W, .int .i64 c.H, .int .i64 c.height, vb, vp, vr, vs, .int .i64 c.unit, .int .i64 c.accel, .int .i64 c.speed, .int .i64 c.turn, .int .i64 c.hoist, .int .i64 c.queue, .int .i64 c.resend, .int .i64 c.budget, .bool c.back] (0, 0) _ Q3.a Try.underlying26 rfl info_conf ?_)
            | (have X' := Q2; refine wpList_load_row rfl 26 (.tmp 3) rfl w.heap.size rfl 26 #[.int .i64 c.W, .int .i64 c.H, .int .i64 c.height, vb, vp, vr, vs, .int .i64 c.unit, .int .i64 c.accel, .int .i64 c.speed, .int .i64 c.turn, .int .i64 c.hoist, .int .i64 c.queue, .int .i64 c.resend, .int .i64 c.budget, .bool c.back] (0, 0) _ Q2.a Try.underlying26 rfl info_conf ?_)
            | (refine wpList_load_row rfl 26 (.tmp 3) rfl w.heap.size rfl 26 #[.int .i64 c.W, .int .i64 c.H, .int .i64 c.height, vb, vp, vr, vs, .int .i64 c.unit, .int .i64 c.accel, .int .i64 c.speed, .int .i64 c.turn, .int .i64 c.hoist, .int .i64 c.queue, .int .i64 c.resend, .int .i64 c.budget, .bool c.back] (0, 0) _ Q0.a Try.underlying26 rfl info_conf ?_)
            | (go_at_call 8; refine (cC _ Q0.below).mono ?_; rintro e w1 ⟨r1, rfl, ⟨v1, v2, v3, v4, rfl, A1⟩, b1⟩; have Q1 := Q0.go b1)
            | (go_at_call 7; refine (cN A1).mono ?_; rintro e w2 ⟨K, ps0, rfl, S2, hb2, hat2, hpm2, b2⟩; have Q2 := Q1.go b2)
            | (go_at_call 6; refine (cS _ Q2.below).mono ?_; rintro e w3 ⟨r3, rfl, rfl, b3⟩; have Q3 := Q2.go b3)
            | (go_at_call 9; refine (cM _ Q3.below).mono ?_; rintro e w4 ⟨r4, rfl, rfl, b4⟩; have Q4 := Q3.go b4)
            | (go_at_call 10; refine (awake8_any _).mono ?_; rintro e w9 ⟨r9, rfl, rfl, b9⟩))
      have HL4 : Hid (Both K KR c G.uses (cfA c vb vp vr vs) vc ps0 qs0 (List.replicate c.robots.length 0) w4) := both_start HNn.out HWN.out.1 HWN.out.2 (S2.go b3) hat2 b4 R4 hKB hrb hqs
      have HB4 : Hid (Below w.heap.size w w4) := Q4.below
      have HNK : Hid (w.heap.size ≤ K.b0) := Nat.le_trans Q1.below.size hb2
      clear S2 hat2 hpm2 hb2 Q0 Q1 Q2 Q3 Q4 A1 b1 b2 b3 b4 R4 hKB hrb hqs cC cM cS cN cW
      go_loopw [11] (fun i wq => ∃ (k : Nat) (ps qs : List Pile) (ls : List Int), k ≤ n ∧ k ≤ 40 ∧ i = .int .i64 k ∧ Hid (Both K KR c G.uses (cfA c vb vp vr vs) vc ps qs ls wq) ∧ Hid (Below w.heap.size w wq)) (fun i _ => n - (intOf i).toNat)
      case atStart => exact ⟨0, _, _, _, Nat.zero_le _, by omega, rfl, HL4, HB4⟩
      case round =>
        clear HL4 HB4
        obtain ⟨k, ps, qs, ls, hk, hk8, rfl, HL, HB⟩ := hrel
        by_cases hlt : k < n ∧ k < 40
        · obtain ⟨hk1, hk2⟩ := hlt
          have hk' : k < os.length := by rw [Hn.out]; exact hk1
          obtain ⟨p, cs, cap', hv, _, hcs, hrd⟩ := (HOu.out wr HB.out).item hk'
          generalize os[k]'hk' = qo at *
          obtain ⟨kd, rb, x, y⟩ := qo
          obtain rfl := hcs
          rw [Hn.out] at hv
          obtain ⟨rfl, rfl⟩ : ao = some p ∧ capo = cap' := by injection hv with h1 h2 h3; exact ⟨h1, h3⟩
          clear hv
          simp only at hrd
          have bb : Below wr.heap.size wr (wr.alloc (.cells #[.int .i64 kd, .int .i64 rb, .int .i64 x, .int .i64 y] 41)) := below_new (Below.refl _ _) _
          have e1 : (wr.alloc (.cells #[.int .i64 kd, .int .i64 rb, .int .i64 x, .int .i64 y] 41)).heap[wr.heap.size]? = some (.cells #[.int .i64 kd, .int .i64 rb, .int .i64 x, .int .i64 y] 41 (0, 0)) := heap_alloc_new wr _
          have HO1 : Hid (Both K KR c G.uses (cfA c vb vp vr vs) vc ps qs ls (wr.alloc (.cells #[.int .i64 kd, .int .i64 rb, .int .i64 x, .int .i64 y] 41))) := HL.out.go bb
          have HB1 : Hid (Below w.heap.size w (wr.alloc (.cells #[.int .i64 kd, .int .i64 rb, .int .i64 x, .int .i64 y] 41))) := HB.out.trans (bb.mono HB.out.size)
          have hnf : ¬ Foot K ps wr.heap.size := fun q => by have := HL.out.st.foot_lt _ q; omega
          clear bb
          by_cases hkd : place kd 4 < 2
          · have cX := fun u (q : Both K KR c G.uses (cfA c vb vp vr vs) vc ps qs ls u) (bq : Below w.heap.size w u) => both_lift q HNK.out rb x y
            go_wp2_with (first
                  | (refine wpList_load_at rfl 41 (.tmp 60) rfl (p.add (k * 4)) rfl #[.int .i64 kd, .int .i64 rb, .int .i64 x, .int .i64 y] hrd (aggOp _) infoOp ?_)
                  | (go_at_call 12; refine (place_any kd 4 _ (by decide) (by decide)).mono ?_; rintro e wp ⟨rfl, hwp⟩; rw [hwp]; clear hwp wp)
                  | (have X' := e1; go_at_call 13; refine (cX _ HO1.out HB1.out).mono ?_; rintro e w3 ⟨v3, rfl, nb3, kp3, C3⟩; have e3 := (kp3 _ (lt_of_heap e1) hnf).trans e1; have e30 := cell_of e3 0; have e31 := cell_of e3 1; have e32 := cell_of e3 2; have e33 := cell_of e3 3; clear e1)
                  | (have X' := e3; go_at_call 14; refine (C3 _ (Below.refl _ _)).mono ?_; rintro e w5 ⟨rfl, ps2, qs2, ls2, B5, nb5⟩))
            have HL5 : Hid (Both K KR c G.uses (cfA c vb vp vr vs) vc ps2 qs2 ls2 w5) := B5
            have HB5 : Hid (Below w.heap.size w w5) := HB1.out.trans nb5
            go_roundw
            case rel => exact ⟨k + 1, ps2, qs2, ls2, by omega, by omega, by go_num, HL5, HB5⟩
            case measure => simp [intOf]; omega
          · have cX := fun u (q : Both K KR c G.uses (cfA c vb vp vr vs) vc ps qs ls u) (bq : Below w.heap.size w u) => both_drop q HNK.out (HAu.out u bq) (fun b hb => hb) HLL.out.1 HLL.out.2.1 HLL.out.2.2 (fun x => room_eq HNn.out x) rb x y
            go_wp2_with (first
                  | (refine wpList_load_at rfl 41 (.tmp 60) rfl (p.add (k * 4)) rfl #[.int .i64 kd, .int .i64 rb, .int .i64 x, .int .i64 y] hrd (aggOp _) infoOp ?_)
                  | (go_at_call 12; refine (place_any kd 4 _ (by decide) (by decide)).mono ?_; rintro e wp ⟨rfl, hwp⟩; rw [hwp]; clear hwp wp)
                  | (have X' := e1; go_at_call 15; refine (cX _ HO1.out HB1.out).mono ?_; rintro e w3 ⟨v3, rfl, nb3, kp3, C3⟩; have e3 := (kp3 _ (lt_of_heap e1) hnf).trans e1; have e30 := cell_of e3 0; have e31 := cell_of e3 1; have e32 := cell_of e3 2; have e33 := cell_of e3 3; clear e1)
                  | (have X' := e3; go_at_call 16; refine (C3 _ (Below.refl _ _)).mono ?_; rintro e w5 ⟨rfl, ps2, qs2, ls2, B5, nb5⟩))
            have HL5 : Hid (Both K KR c G.uses (cfA c vb vp vr vs) vc ps2 qs2 ls2 w5) := B5
            have HB5 : Hid (Below w.heap.size w w5) := HB1.out.trans nb5
            go_roundw
            case rel => exact ⟨k + 1, ps2, qs2, ls2, by omega, by omega, by go_num, HL5, HB5⟩
            case measure => simp [intOf]; omega
        · have HL9 := HL
          by_cases h6 : (k : Int) < (n : Int)
          · have h7 : ¬ ((k : Int) < 40) := by omega
            clear hlt
            go_wp2_with fail
            go_loopw [13] (fun i wq => ∃ (k2 : Nat), k2 ≤ m ∧ k2 ≤ 40 ∧ i = .int .i64 k2 ∧ Hid (Both K KR c G.uses (cfA c vb vp vr vs) vc ps qs ls wq) ∧ Hid (Below w.heap.size w wq)) (fun i _ => m - (intOf i).toNat)
            case atStart => exact ⟨0, Nat.zero_le _, by omega, rfl, HL, HB⟩
            case round =>
              clear HL HB HL9 hk hk8
              obtain ⟨k2, hk2, hk3, rfl, HL, HB⟩ := hrel
              by_cases hlt2 : k2 < m ∧ k2 < 40
              · obtain ⟨hk4, hk5⟩ := hlt2
                have hk' : k2 < bl.length := by rw [Hm.out]; exact hk4
                obtain ⟨p, cs, cap', hv, _, hcs, hrd⟩ := (HBu.out wr HB.out).item hk'
                generalize bl[k2]'hk' = z at *
                obtain rfl := hcs
                rw [Hm.out] at hv
                obtain ⟨rfl, rfl⟩ : ab = some p ∧ capb = cap' := by injection hv with h1 h2 h3; exact ⟨h1, h3⟩
                clear hv
                have hz : ∀ u, Below wr.heap.size wr u → u.cell? (p.add k2) = some (.int .i64 z) := fun u b => by
                  have q := cell_below (hrd 0 _ rfl) b
                  rw [Nat.mul_one, add_add, Nat.add_zero] at q
                  exact q
                have kz0 := hz wr (Below.refl _ _)
                obtain ⟨fx, fy, up, ok, c1, c2⟩ := both_find HL.out z
                clear hrd
                go_wp2_with (first
                      | (have X' := eA6; refine wpList_load_row rfl 39 (.tmp 14) rfl w3.heap.size rfl 39 #[.int .i64 fx, .int .i64 fy] (0, 0) _ eA6 Try.underlying39 rfl infoCell2 ?_)
                      | (have X' := eA6; refine wpList_load_row rfl 39 (.tmp 17) rfl w5.heap.size rfl 39 #[.int .i64 fx, .int .i64 fy] (0, 0) _ eC Try.underlying39 rfl infoCell2 ?_)
                      | (go_at_call 25; refine (c1 _ (Below.refl _ _)).mono ?_; rintro e w3 ⟨rfl, b3⟩; have bA : Below wr.heap.size wr (w3.alloc (.cells #[.int .i64 fx, .int .i64 fy] 39)) := below_new b3 _; have eA := heap_alloc_new w3 (.cells #[.int .i64 fx, .int .i64 fy] 39); have kz := hz _ bA)
                      | (have X' := eA; go_at_call 26; refine (c2 _ bA).mono ?_; rintro e w5 ⟨rfl, b5⟩; have eA5 := (b5.block _ (lt_of_heap eA)).trans eA; have eC := heap_alloc_new w5 (.cells #[.int .i64 fx, .int .i64 fy] 39); have eA6 := ((below_new (Below.refl w5.heap.size w5) (.cells #[.int .i64 fx, .int .i64 fy] 39)).block _ (lt_of_heap eA5)).trans eA5)
                      | (refine wpList_val_want (by kernel_rfl) (.bool false) (by have q := run_neq_cell (w := (w5.alloc (.cells #[.int .i64 fx, .int .i64 fy] 39))) _ _ rfl fx fy fx fy rfl rfl; simpa using q) ?_))
                have bL : Below wr.heap.size wr (w5.alloc (.cells #[.int .i64 fx, .int .i64 fy] 39)) := below_new (bA.trans (b5.mono bA.size)) _
                have HLn : Hid (Both K KR c G.uses (cfA c vb vp vr vs) vc ps qs ls (w5.alloc (.cells #[.int .i64 fx, .int .i64 fy] 39))) := HL.out.go bL
                have HBn : Hid (Below w.heap.size w (w5.alloc (.cells #[.int .i64 fx, .int .i64 fy] 39))) := HB.out.trans (bL.mono HB.out.size)
                go_roundw
                case rel => exact ⟨k2 + 1, by omega, by omega, by go_num, HLn, HBn⟩
                case measure => simp [intOf]; omega
              · by_cases h8 : (k2 : Int) < (m : Int)
                · have h9 : ¬ ((k2 : Int) < 40) := by omega
                  go_wp2_with (go_at_call 10; refine (awake8_any _).mono ?_; rintro e w9 ⟨r9, rfl, rfl, b9⟩)
                  go_ret
                  exact ⟨rfl, bcat HB.out b9 (Nat.le_refl _)⟩
                · clear hlt2
                  go_wp2_with (go_at_call 10; refine (awake8_any _).mono ?_; rintro e w9 ⟨r9, rfl, rfl, b9⟩)
                  go_ret
                  exact ⟨rfl, bcat HB.out b9 (Nat.le_refl _)⟩
          · clear hlt
            go_wp2_with fail
            go_loopw [13] (fun i wq => ∃ (k2 : Nat), k2 ≤ m ∧ k2 ≤ 40 ∧ i = .int .i64 k2 ∧ Hid (Both K KR c G.uses (cfA c vb vp vr vs) vc ps qs ls wq) ∧ Hid (Below w.heap.size w wq)) (fun i _ => m - (intOf i).toNat)
            case atStart => exact ⟨0, Nat.zero_le _, by omega, rfl, HL, HB⟩
            case round =>
              clear HL HB HL9 hk hk8
              obtain ⟨k2, hk2, hk3, rfl, HL, HB⟩ := hrel
              by_cases hlt2 : k2 < m ∧ k2 < 40
              · obtain ⟨hk4, hk5⟩ := hlt2
                have hk' : k2 < bl.length := by rw [Hm.out]; exact hk4
                obtain ⟨p, cs, cap', hv, _, hcs, hrd⟩ := (HBu.out wr HB.out).item hk'
                generalize bl[k2]'hk' = z at *
                obtain rfl := hcs
                rw [Hm.out] at hv
                obtain ⟨rfl, rfl⟩ : ab = some p ∧ capb = cap' := by injection hv with h1 h2 h3; exact ⟨h1, h3⟩
                clear hv
                have hz : ∀ u, Below wr.heap.size wr u → u.cell? (p.add k2) = some (.int .i64 z) := fun u b => by
                  have q := cell_below (hrd 0 _ rfl) b
                  rw [Nat.mul_one, add_add, Nat.add_zero] at q
                  exact q
                have kz0 := hz wr (Below.refl _ _)
                obtain ⟨fx, fy, up, ok, c1, c2⟩ := both_find HL.out z
                clear hrd
                go_wp2_with (first
                      | (have X' := eA6; refine wpList_load_row rfl 39 (.tmp 14) rfl w3.heap.size rfl 39 #[.int .i64 fx, .int .i64 fy] (0, 0) _ eA6 Try.underlying39 rfl infoCell2 ?_)
                      | (have X' := eA6; refine wpList_load_row rfl 39 (.tmp 17) rfl w5.heap.size rfl 39 #[.int .i64 fx, .int .i64 fy] (0, 0) _ eC Try.underlying39 rfl infoCell2 ?_)
                      | (go_at_call 25; refine (c1 _ (Below.refl _ _)).mono ?_; rintro e w3 ⟨rfl, b3⟩; have bA : Below wr.heap.size wr (w3.alloc (.cells #[.int .i64 fx, .int .i64 fy] 39)) := below_new b3 _; have eA := heap_alloc_new w3 (.cells #[.int .i64 fx, .int .i64 fy] 39); have kz := hz _ bA)
                      | (have X' := eA; go_at_call 26; refine (c2 _ bA).mono ?_; rintro e w5 ⟨rfl, b5⟩; have eA5 := (b5.block _ (lt_of_heap eA)).trans eA; have eC := heap_alloc_new w5 (.cells #[.int .i64 fx, .int .i64 fy] 39); have eA6 := ((below_new (Below.refl w5.heap.size w5) (.cells #[.int .i64 fx, .int .i64 fy] 39)).block _ (lt_of_heap eA5)).trans eA5)
                      | (refine wpList_val_want (by kernel_rfl) (.bool false) (by have q := run_neq_cell (w := (w5.alloc (.cells #[.int .i64 fx, .int .i64 fy] 39))) _ _ rfl fx fy fx fy rfl rfl; simpa using q) ?_))
                have bL : Below wr.heap.size wr (w5.alloc (.cells #[.int .i64 fx, .int .i64 fy] 39)) := below_new (bA.trans (b5.mono bA.size)) _
                have HLn : Hid (Both K KR c G.uses (cfA c vb vp vr vs) vc ps qs ls (w5.alloc (.cells #[.int .i64 fx, .int .i64 fy] 39))) := HL.out.go bL
                have HBn : Hid (Below w.heap.size w (w5.alloc (.cells #[.int .i64 fx, .int .i64 fy] 39))) := HB.out.trans (bL.mono HB.out.size)
                go_roundw
                case rel => exact ⟨k2 + 1, by omega, by omega, by go_num, HLn, HBn⟩
                case measure => simp [intOf]; omega
              · by_cases h8 : (k2 : Int) < (m : Int)
                · have h9 : ¬ ((k2 : Int) < 40) := by omega
                  go_wp2_with (go_at_call 10; refine (awake8_any _).mono ?_; rintro e w9 ⟨r9, rfl, rfl, b9⟩)
                  go_ret
                  exact ⟨rfl, bcat HB.out b9 (Nat.le_refl _)⟩
                · clear hlt2
                  go_wp2_with (go_at_call 10; refine (awake8_any _).mono ?_; rintro e w9 ⟨r9, rfl, rfl, b9⟩)
                  go_ret
                  exact ⟨rfl, bcat HB.out b9 (Nat.le_refl _)⟩
end Go.Proofs.Ytfopcjaiclmboaa.Stk
