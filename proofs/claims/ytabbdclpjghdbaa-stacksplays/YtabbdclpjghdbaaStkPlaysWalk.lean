/-
  StacksPlays: the walk.
-/
import Derived.Test.YtabbdclpjghdbaaStkRs16
import Derived.Deep.DeepCutAuto
import Derived.Deep.CutRange
namespace Go.Proofs.Ytabbdclpjghdbaa.Stk
set_option linter.unusedVariables false
set_option linter.unusedSimpArgs false
open Go Go.RowKit Go.Shelf Go.Proofs Go.Proofs.Ytabbdclpjghdbaa.Grid
attribute [local go_sem] Oper.semAt_some

theorem one_keep {cs : Array Value} {w w1 w2 : World} (h : One w cs w1) (b : Below (w.heap.size + 1) w1 w2) : One w cs w2 :=
  ⟨h.below.trans (b.mono (Nat.le_succ _)), (b.block _ (Nat.lt_succ_self _)).trans h.a⟩
theorem load_conf8 {c : Conf} {vb vp vr vs : Value} {g : Nat} {u : World} (h : u.heap[g]? = some (.cells #[.int .i64 c.W, .int .i64 c.H, .int .i64 c.height, vb, vp, vr, vs, .int .i64 c.unit, .int .i64 c.accel, .int .i64 c.speed, .int .i64 c.turn, .int .i64 c.hoist, .int .i64 c.queue, .int .i64 c.resend, .int .i64 c.budget, .bool c.back] 26 (0, 0))) : (loadVar 26 ⟨g, 0, none⟩).run Try.prog u = .ok (.agg #[.int .i64 c.W, .int .i64 c.H, .int .i64 c.height, vb, vp, vr, vs, .int .i64 c.unit, .int .i64 c.accel, .int .i64 c.speed, .int .i64 c.turn, .int .i64 c.hoist, .int .i64 c.queue, .int .i64 c.resend, .int .i64 c.budget, .bool c.back]) u :=
  run_loadVar_at u _ _ _ (fun j v hv => by
    rw [Addr.add_lit, Nat.zero_add]
    simpa [World.cell?, h] using hv) (aggConf u) info_conf
set_option maxRecDepth 100000 in
set_option maxHeartbeats 4000000 in
theorem plays_all (c : Conf) (vb vp vr vs : Value) (w : World) (hA : ConfAt (Old w) c vb vp vr vs w) (l1 : c.blocked.length ≤ 8796093022208) (l2 : c.ports.length ≤ 8796093022208) (l3 : c.robots.length ≤ 5864062014805) (l4 : c.stacks.length ≤ 3518437208880) (l5 : ∀ s ∈ c.stacks, s.2.length ≤ 17592186044416) (os : List OpT) (vo : Value) (hO : ListAt 4 opEl (Old w) os vo w) (lo : os.length ≤ 9223372036854775807) : Calls Try.prog 3 #[.agg #[.int .i64 c.W, .int .i64 c.H, .int .i64 c.height, vb, vp, vr, vs, .int .i64 c.unit, .int .i64 c.accel, .int .i64 c.speed, .int .i64 c.turn, .int .i64 c.hoist, .int .i64 c.queue, .int .i64 c.resend, .int .i64 c.budget, .bool c.back], vo] w fun e w' => e = .returned (.bool true) ∧ Below w.heap.size w w' := by
  have L := fun (u : World) (b : Below w.heap.size w u) g (hg : Old w g) => Nat.lt_of_lt_of_le hg b.size
  have hAu := fun u (b : Below w.heap.size w u) => hA.go (fun _ h => h) b
  have cC := fun u (b : Below w.heap.size w u) => copyConf_any (Old w) c vb vp vr vs u (hAu u b) (L u b) l1 l2 l3 l4 l5
  have cM := fun u (b : Below w.heap.size w u) => mayR_call (F := Old w) (hAu u b) (L u b) l1 l2 l3 l4 l5
  have cS := fun u (b : Below w.heap.size w u) => small_any (Old w) c vb vp vr vs u (hAu u b) (L u b) l1 l2 l3 l4 l5
  have Q0 : One w #[.int .i64 c.W, .int .i64 c.H, .int .i64 c.height, vb, vp, vr, vs, .int .i64 c.unit, .int .i64 c.accel, .int .i64 c.speed, .int .i64 c.turn, .int .i64 c.hoist, .int .i64 c.queue, .int .i64 c.resend, .int .i64 c.budget, .bool c.back] (w.alloc (.cells #[.int .i64 c.W, .int .i64 c.H, .int .i64 c.height, vb, vp, vr, vs, .int .i64 c.unit, .int .i64 c.accel, .int .i64 c.speed, .int .i64 c.turn, .int .i64 c.hoist, .int .i64 c.queue, .int .i64 c.resend, .int .i64 c.budget, .bool c.back] 26)) := ⟨below_new (Below.refl _ _) _, heap_alloc_new w _⟩
  obtain ⟨ao, capo, hvo, _⟩ := hO.form
  subst hvo
  cases hN : newP c with
  | none =>
    have cN := fun {m : Nat} {u : World} {v1 v2 v3 v4 : Value} (a : ConfAt (Since m u) c v1 v2 v3 v4 u) => new_none_any a since_lt l1 l2 l3 l4 hN
    rw [hN] at cM cS
    simp only [Option.isSome_none, Bool.and_false, Bool.false_and] at cM cS
    clear hA L hN hAu hO
    go_enter Try.func3, Try.ntmps3
    go_wp2_with (first
          | (have X' := Q3; refine wpList_load_row rfl 26 (.tmp 2) rfl w.heap.size rfl 26 #[.int .i64 c.W, .int .i64 c.H, .int .i64 c.height, vb, vp, vr, vs, .int .i64 c.unit, .int .i64 c.accel, .int .i64 c.speed, .int .i64 c.turn, .int .i64 c.hoist, .int .i64 c.queue, .int .i64 c.resend, .int .i64 c.budget, .bool c.back] (0, 0) _ Q3.a Try.underlying26 rfl info_conf ?_)
          | (have X' := Q1; refine wpList_load_row rfl 26 (.tmp 2) rfl w.heap.size rfl 26 #[.int .i64 c.W, .int .i64 c.H, .int .i64 c.height, vb, vp, vr, vs, .int .i64 c.unit, .int .i64 c.accel, .int .i64 c.speed, .int .i64 c.turn, .int .i64 c.hoist, .int .i64 c.queue, .int .i64 c.resend, .int .i64 c.budget, .bool c.back] (0, 0) _ Q1.a Try.underlying26 rfl info_conf ?_)
          | (refine wpList_load_row rfl 26 (.tmp 2) rfl w.heap.size rfl 26 #[.int .i64 c.W, .int .i64 c.H, .int .i64 c.height, vb, vp, vr, vs, .int .i64 c.unit, .int .i64 c.accel, .int .i64 c.speed, .int .i64 c.turn, .int .i64 c.hoist, .int .i64 c.queue, .int .i64 c.resend, .int .i64 c.budget, .bool c.back] (0, 0) _ Q0.a Try.underlying26 rfl info_conf ?_)
          | (go_at_call 6; refine (cS _ Q0.below).mono ?_; rintro e w1 ⟨r1, rfl, rfl, b1⟩; have Q1 := Q0.go b1)
          | (go_at_call 8; refine (cC _ Q1.below).mono ?_; rintro e w2 ⟨r2, rfl, ⟨v1, v2, v3, v4, rfl, A2⟩, b2⟩; have Q2 := Q1.go b2)
          | (go_at_call 7; refine (cN A2).mono ?_; rintro e w3 ⟨rfl, b3⟩; have Q3 := Q2.go b3)
          | (go_at_call 9; refine (cM _ Q3.below).mono ?_; rintro e w4 ⟨r4, rfl, rfl, b4⟩; have Q4 := Q3.go b4)
          | (go_at_call 10; refine (awake8_any _).mono ?_; rintro e w9 ⟨r9, rfl, rfl, b9⟩))
    go_ret
    exact ⟨rfl, bcat Q4.below b9 (Nat.le_refl _)⟩
  | some G =>
    have hmy := (new_some hN).1
    have hM : (newP c).isSome = true := by rw [hN]; rfl
    have cN := fun {m : Nat} {u : World} {v1 v2 v3 v4 : Value} (a : ConfAt (Since m u) c v1 v2 v3 v4 u) => new_some_any a since_lt l1 l2 l3 l4 l5 hN
    rw [hN] at cM cS
    simp only [Option.isSome_some, Bool.and_true, Bool.true_and] at cM cS
    cases hs : smallN c
    · rw [hs] at cS
      clear hA L hN hAu hO hmy hM
      go_enter Try.func3, Try.ntmps3
      go_wp2_with (first
            | (have X' := Q3; refine wpList_load_row rfl 26 (.tmp 2) rfl w.heap.size rfl 26 #[.int .i64 c.W, .int .i64 c.H, .int .i64 c.height, vb, vp, vr, vs, .int .i64 c.unit, .int .i64 c.accel, .int .i64 c.speed, .int .i64 c.turn, .int .i64 c.hoist, .int .i64 c.queue, .int .i64 c.resend, .int .i64 c.budget, .bool c.back] (0, 0) _ Q3.a Try.underlying26 rfl info_conf ?_)
            | (have X' := Q1; refine wpList_load_row rfl 26 (.tmp 2) rfl w.heap.size rfl 26 #[.int .i64 c.W, .int .i64 c.H, .int .i64 c.height, vb, vp, vr, vs, .int .i64 c.unit, .int .i64 c.accel, .int .i64 c.speed, .int .i64 c.turn, .int .i64 c.hoist, .int .i64 c.queue, .int .i64 c.resend, .int .i64 c.budget, .bool c.back] (0, 0) _ Q1.a Try.underlying26 rfl info_conf ?_)
            | (refine wpList_load_row rfl 26 (.tmp 2) rfl w.heap.size rfl 26 #[.int .i64 c.W, .int .i64 c.H, .int .i64 c.height, vb, vp, vr, vs, .int .i64 c.unit, .int .i64 c.accel, .int .i64 c.speed, .int .i64 c.turn, .int .i64 c.hoist, .int .i64 c.queue, .int .i64 c.resend, .int .i64 c.budget, .bool c.back] (0, 0) _ Q0.a Try.underlying26 rfl info_conf ?_)
            | (go_at_call 6; refine (cS _ Q0.below).mono ?_; rintro e w1 ⟨r1, rfl, rfl, b1⟩; have Q1 := Q0.go b1)
            | (go_at_call 8; refine (cC _ Q1.below).mono ?_; rintro e w2 ⟨r2, rfl, ⟨v1, v2, v3, v4, rfl, A2⟩, b2⟩; have Q2 := Q1.go b2)
            | (go_at_call 7; refine (cN A2).mono ?_; rintro e w3 ⟨K, ps0, rfl, S3, hb3, hat3, hpm3, b3⟩; have Q3 := Q2.go b3)
            | (go_at_call 9; refine (cM _ Q3.below).mono ?_; rintro e w4 ⟨r4, rfl, rfl, b4⟩; have Q4 := Q3.go b4)
            | (go_at_call 10; refine (awake8_any _).mono ?_; rintro e w9 ⟨r9, rfl, rfl, b9⟩))
      go_ret
      exact ⟨rfl, bcat Q4.below b9 (Nat.le_refl _)⟩
    · rw [hs] at cS
      obtain ⟨WN, hWN⟩ : ∃ n : Nat, c.W = n := ⟨c.W.toNat, by have := limited_sides hmy.1; omega⟩
      obtain ⟨HN_, hHN⟩ : ∃ n : Nat, c.H = n := ⟨c.H.toNat, by have := limited_sides hmy.1; omega⟩
      have cW := fun u (b : Below w.heap.size w u) => rnew_any (hAu u b) (L u b) (by omega) (by omega) l4 l5 hM hWN hHN (by have := limited_sides hmy.1; omega) (by have := limited_sides hmy.1; omega) hmy.2.2.1 (fun x => placed_few hN x)
      have HNn : Hid (newP c = some G) := hN
      have HWN : Hid (c.W = WN ∧ c.H = HN_) := ⟨hWN, hHN⟩
      have HAu : Hid (∀ u, Below w.heap.size w u → ConfAt (Old w) c vb vp vr vs u) := hAu
      have HLL : Hid (c.blocked.length ≤ 9223372036854775807 ∧ c.ports.length ≤ 9223372036854775807 ∧ c.robots.length ≤ 9223372036854775807) := ⟨by omega, by omega, by omega⟩
      obtain ⟨arR, crR, hvr, _⟩ := hA.r.form
      have HRL : Hid (vr = .slice arR c.robots.length crR ∧ c.robots.length ≤ 8) := ⟨hvr, by have := hmy.2.2.1; omega⟩
      clear hvr
      have hOu := fun u (b : Below w.heap.size w u) => hO.go heldOp (fun _ h => h) b
      obtain ⟨n, hn⟩ : ∃ n, os.length = n := ⟨_, rfl⟩
      have Hn : Hid (os.length = n) := hn
      rw [hn] at hOu lo ⊢
      have HOu : Hid (∀ u, Below w.heap.size w u → ListAt 4 opEl (Old w) os (.slice ao n capo) u) := hOu
      clear hA L hN hAu hO hn hOu hmy hM hWN hHN l1 l2 l3 l4 l5
      go_enter Try.func3, Try.ntmps3
      go_wp2_with (first
            | (have X' := S3; go_at_call 11; refine (cW _ Q3.below).mono ?_; rintro e w4 ⟨KR, vc, qs0, rfl, R4, hKB, hrb, hqs, b4⟩; have Q4 := Q3.go b4)
            | (have X' := Q3; refine wpList_load_row rfl 26 (.tmp 2) rfl w.heap.size rfl 26 #[.int .i64 c.W, .int .i64 c.H, .int .i64 c.height, vb, vp, vr, vs, .int .i64 c.unit, .int .i64 c.accel, .int .i64 c.speed, .int .i64 c.turn, .int .i64 c.hoist, .int .i64 c.queue, .int .i64 c.resend, .int .i64 c.budget, .bool c.back] (0, 0) _ Q3.a Try.underlying26 rfl info_conf ?_)
            | (have X' := Q1; refine wpList_load_row rfl 26 (.tmp 2) rfl w.heap.size rfl 26 #[.int .i64 c.W, .int .i64 c.H, .int .i64 c.height, vb, vp, vr, vs, .int .i64 c.unit, .int .i64 c.accel, .int .i64 c.speed, .int .i64 c.turn, .int .i64 c.hoist, .int .i64 c.queue, .int .i64 c.resend, .int .i64 c.budget, .bool c.back] (0, 0) _ Q1.a Try.underlying26 rfl info_conf ?_)
            | (refine wpList_load_row rfl 26 (.tmp 2) rfl w.heap.size rfl 26 #[.int .i64 c.W, .int .i64 c.H, .int .i64 c.height, vb, vp, vr, vs, .int .i64 c.unit, .int .i64 c.accel, .int .i64 c.speed, .int .i64 c.turn, .int .i64 c.hoist, .int .i64 c.queue, .int .i64 c.resend, .int .i64 c.budget, .bool c.back] (0, 0) _ Q0.a Try.underlying26 rfl info_conf ?_)
            | (go_at_call 6; refine (cS _ Q0.below).mono ?_; rintro e w1 ⟨r1, rfl, rfl, b1⟩; have Q1 := Q0.go b1)
            | (go_at_call 8; refine (cC _ Q1.below).mono ?_; rintro e w2 ⟨r2, rfl, ⟨v1, v2, v3, v4, rfl, A2⟩, b2⟩; have Q2 := Q1.go b2)
            | (go_at_call 7; refine (cN A2).mono ?_; rintro e w3 ⟨K, ps0, rfl, S3, hb3, hat3, hpm3, b3⟩; have Q3 := Q2.go b3)
            | (go_at_call 9; refine (cM _ Q3.below).mono ?_; rintro e w4 ⟨r4, rfl, rfl, b4⟩; have Q4 := Q3.go b4)
            | (go_at_call 10; refine (awake8_any _).mono ?_; rintro e w9 ⟨r9, rfl, rfl, b9⟩))
      have HL4 : Hid (Both K KR c G.uses (cfA c vb vp vr vs) vc ps0 qs0 (List.replicate c.robots.length 0) w4) := both_start HNn.out HWN.out.1 HWN.out.2 S3 hat3 b4 R4 hKB hrb hqs
      have HB4 : Hid (One w #[.int .i64 c.W, .int .i64 c.H, .int .i64 c.height, vb, vp, vr, vs, .int .i64 c.unit, .int .i64 c.accel, .int .i64 c.speed, .int .i64 c.turn, .int .i64 c.hoist, .int .i64 c.queue, .int .i64 c.resend, .int .i64 c.budget, .bool c.back] w4) := Q4
      have HNK : Hid ((w.heap.size + 1) ≤ K.b0) := Nat.le_trans (Nat.succ_le_of_lt (lt_of_heap Q2.a)) hb3
      clear S3 hat3 hpm3 hb3 Q0 Q1 Q2 Q3 Q4 A2 b1 b2 b3 b4 R4 hKB hrb hqs cC cM cS cN cW
      go_loopw [11] (fun i wq => ∃ (k : Nat) (ps qs : List Pile) (ls : List Int), k ≤ n ∧ k ≤ 60 ∧ i = .int .i64 k ∧ Hid (Both K KR c G.uses (cfA c vb vp vr vs) vc ps qs ls wq) ∧ Hid (One w #[.int .i64 c.W, .int .i64 c.H, .int .i64 c.height, vb, vp, vr, vs, .int .i64 c.unit, .int .i64 c.accel, .int .i64 c.speed, .int .i64 c.turn, .int .i64 c.hoist, .int .i64 c.queue, .int .i64 c.resend, .int .i64 c.budget, .bool c.back] wq)) (fun i _ => n - (intOf i).toNat)
      case atStart => exact ⟨0, _, _, _, Nat.zero_le _, by omega, rfl, HL4, HB4⟩
      case round =>
        clear HL4 HB4
        obtain ⟨k, ps, qs, ls, hk, hk8, rfl, HL, HB⟩ := hrel
        by_cases hlt : k < n ∧ k < 60
        · obtain ⟨hk1, hk2⟩ := hlt
          have hk' : k < os.length := by rw [Hn.out]; exact hk1
          obtain ⟨p, cs, cap', hv, _, hcs, hrd⟩ := (HOu.out wr HB.out.below).item hk'
          generalize os[k]'hk' = qo at *
          obtain ⟨kd, rb, x, y⟩ := qo
          obtain rfl := hcs
          rw [Hn.out] at hv
          obtain ⟨rfl, rfl⟩ : ao = some p ∧ capo = cap' := by injection hv with h1 h2 h3; exact ⟨h1, h3⟩
          clear hv
          simp only at hrd
          have bb : Below wr.heap.size wr (wr.alloc (.cells #[.int .i64 kd, .int .i64 rb, .int .i64 x, .int .i64 y] 41)) := below_new (Below.refl _ _) _
          have e1 : (wr.alloc (.cells #[.int .i64 kd, .int .i64 rb, .int .i64 x, .int .i64 y] 41)).heap[wr.heap.size]? = some (.cells #[.int .i64 kd, .int .i64 rb, .int .i64 x, .int .i64 y] 41 (0, 0)) := heap_alloc_new wr _
          have HO1 : Hid (Both K KR c G.uses (cfA c vb vp vr vs) vc ps qs ls (wr.alloc (.cells #[.int .i64 kd, .int .i64 rb, .int .i64 x, .int .i64 y] 41))) := HL.out.go bb
          have HB1 : Hid (One w #[.int .i64 c.W, .int .i64 c.H, .int .i64 c.height, vb, vp, vr, vs, .int .i64 c.unit, .int .i64 c.accel, .int .i64 c.speed, .int .i64 c.turn, .int .i64 c.hoist, .int .i64 c.queue, .int .i64 c.resend, .int .i64 c.budget, .bool c.back] (wr.alloc (.cells #[.int .i64 kd, .int .i64 rb, .int .i64 x, .int .i64 y] 41))) := HB.out.go bb
          have hnf : ¬ Foot K ps wr.heap.size := fun q => by have := HL.out.st.foot_lt _ q; omega
          have hnr : ¬ RB KR qs wr.heap.size := fun q => by have := HL.out.rs.rb_lt _ q; omega
          obtain ⟨bx, hbx⟩ : ∃ bx, wr.heap.size = bx := ⟨_, rfl⟩
          obtain ⟨wo, hwo⟩ : ∃ wo, (wr.alloc (.cells #[.int .i64 kd, .int .i64 rb, .int .i64 x, .int .i64 y] 41)) = wo := ⟨_, rfl⟩
          have HWO : Hid ((wr.alloc (.cells #[.int .i64 kd, .int .i64 rb, .int .i64 x, .int .i64 y] 41)) = wo ∧ wr.heap.size = bx) := ⟨hwo, hbx⟩
          rw [hwo] at e1 HO1 HB1
          rw [hbx] at e1 hnf hnr
          have HE1 : Hid (wo.heap[bx]? = some (.cells #[.int .i64 kd, .int .i64 rb, .int .i64 x, .int .i64 y] 41 (0, 0))) := e1
          have HNF : Hid (¬ Foot K ps bx ∧ ¬ RB KR qs bx) := ⟨hnf, hnr⟩
          clear bb e1 hnf hnr hbx hwo
          go_upto_region 12 with (refine wpList_load_at rfl 41 (.tmp 71) rfl (p.add (k * 4)) rfl #[.int .i64 kd, .int .i64 rb, .int .i64 x, .int .i64 y] hrd (aggOp _) infoOp ?_)
          rw [HWO.out.1, HWO.out.2]
          clear HWO hrd
          have e10 := cell_of HE1.out 0; have e11 := cell_of HE1.out 1; have e12 := cell_of HE1.out 2; have e13 := cell_of HE1.out 3
          go_upto_if 76 with (go_at_call 12; refine (place_any kd 4 _ (by decide) (by decide)).mono ?_; rintro e wp ⟨rfl, hwp⟩; rw [hwp]; clear hwp wp)
          clear e10 e11 e12 e13
          go_cut [] from 73 to 115 (fun wx => ∃ ps2 qs2 ls2, Both K KR c G.uses (cfA c vb vp vr vs) vc ps2 qs2 ls2 wx ∧ One w #[.int .i64 c.W, .int .i64 c.H, .int .i64 c.height, vb, vp, vr, vs, .int .i64 c.unit, .int .i64 c.accel, .int .i64 c.speed, .int .i64 c.turn, .int .i64 c.hoist, .int .i64 c.queue, .int .i64 c.resend, .int .i64 c.budget, .bool c.back] wx ∧ wx.heap[bx]? = some (.cells #[.int .i64 kd, .int .i64 rb, .int .i64 x, .int .i64 y] 41 (0, 0)))
          case first =>
            by_cases hkd : place kd 4 < 2
            · have cX := both_liftV HO1.out HNK.out rb x y
              have e10 := cell_of HE1.out 0; have e11 := cell_of HE1.out 1; have e12 := cell_of HE1.out 2; have e13 := cell_of HE1.out 3
              go_wp2_with (first
                | (have X' := e10; go_at_call 13; refine cX.mono ?_; rintro e w3 ⟨v3, rfl, ⟨z1, z2, rfl⟩, nb3, kp3, C3⟩; have E3 : Hid (w3.heap[bx]? = some (.cells #[.int .i64 kd, .int .i64 rb, .int .i64 x, .int .i64 y] 41 (0, 0))) := (kp3 bx (lt_of_heap HE1.out) HNF.out.1).trans HE1.out; have HNB3 : Hid (Below (w.heap.size + 1) wo w3) := nb3; have e30 := cell_of E3.out 0; have e31 := cell_of E3.out 1; have e32 := cell_of E3.out 2; have e33 := cell_of E3.out 3; clear e10 e11 e12 e13 kp3 nb3)
                | (have X' := e30; go_at_call 14; refine (C3 _ (Below.refl _ _)).mono ?_; rintro e w5 ⟨v5, rfl, rfl, ⟨ps2, qs2, ls2, B5, nb5⟩, kp5⟩; have HQ5 : Hid (∃ ps2 qs2 ls2, Both K KR c G.uses (cfA c vb vp vr vs) vc ps2 qs2 ls2 w5 ∧ One w #[.int .i64 c.W, .int .i64 c.H, .int .i64 c.height, vb, vp, vr, vs, .int .i64 c.unit, .int .i64 c.accel, .int .i64 c.speed, .int .i64 c.turn, .int .i64 c.hoist, .int .i64 c.queue, .int .i64 c.resend, .int .i64 c.budget, .bool c.back] w5 ∧ w5.heap[bx]? = some (.cells #[.int .i64 kd, .int .i64 rb, .int .i64 x, .int .i64 y] 41 (0, 0))) := ⟨ps2, qs2, ls2, B5, one_keep HB1.out nb5, (kp5 bx (lt_of_heap E3.out) HNF.out.2).trans E3.out⟩))
              go_meet
              exact HQ5.out
            · go_upto_region 17 with fail
              go_cut [115] from 103 to 115 (fun v wx => v = .bool false ∧ ∃ ps2 qs2 ls2, Both K KR c G.uses (cfA c vb vp vr vs) vc ps2 qs2 ls2 wx ∧ One w #[.int .i64 c.W, .int .i64 c.H, .int .i64 c.height, vb, vp, vr, vs, .int .i64 c.unit, .int .i64 c.accel, .int .i64 c.speed, .int .i64 c.turn, .int .i64 c.hoist, .int .i64 c.queue, .int .i64 c.resend, .int .i64 c.budget, .bool c.back] wx ∧ wx.heap[bx]? = some (.cells #[.int .i64 kd, .int .i64 rb, .int .i64 x, .int .i64 y] 41 (0, 0)))
              case first =>
                refine start_held (S := fun u => u.heap[bx]? = some (.cells #[.int .i64 kd, .int .i64 rb, .int .i64 x, .int .i64 y] 41 (0, 0))) 13 rfl (by kernel_rfl) (HE1.out) ?_
                simp only [Array.replicate_succ, Array.replicate_zero, List.push_toArray, List.nil_append, List.cons_append]
                have hS0 : wo.drew.heap[bx]? = some (.cells #[.int .i64 kd, .int .i64 rb, .int .i64 x, .int .i64 y] 41 (0, 0)) := HE1.out
                have HOX : Hid (Both K KR c G.uses (cfA c vb vp vr vs) vc ps qs ls wo.drew) := HO1.out.go (Below.refl _ _).drew
                have HBX : Hid (One w #[.int .i64 c.W, .int .i64 c.H, .int .i64 c.height, vb, vp, vr, vs, .int .i64 c.unit, .int .i64 c.accel, .int .i64 c.speed, .int .i64 c.turn, .int .i64 c.hoist, .int .i64 c.queue, .int .i64 c.resend, .int .i64 c.budget, .bool c.back] wo.drew) := HB1.out.go (Below.refl _ _).drew
                have HRB : Hid (∀ u : World, u.heap[bx]? = some (.cells #[.int .i64 kd, .int .i64 rb, .int .i64 x, .int .i64 y] 41 (0, 0)) → u.cell? ⟨bx, 1, none⟩ = some (.int .i64 rb)) := fun u hu => (cell_of hu 1).trans rfl
                clear HO1 HB1 HE1
                generalize wo.drew = x0 at *
                refine take_held 0 hS0 rfl (by kernel_rfl) (by kernel_rfl) (by kernel_rfl) (fun _ _ _ h => h) (by kernel_rfl) (v := ?v5000) ?y5000 ?r5000
                case y5000 => (intro u hu; go_simp; try rfl)
                simp only [Act.put, List.setIfInBounds_toArray, List.set_cons_zero, List.set_cons_succ]
                refine take_held 1 hS0 rfl (by kernel_rfl) (by kernel_rfl) (by kernel_rfl) (fun _ _ _ h => h) (by kernel_rfl) (v := ?v5001) ?y5001 ?r5001
                case y5001 => (intro u hu; go_simp; try rfl)
                simp only [Act.put, List.setIfInBounds_toArray, List.set_cons_zero, List.set_cons_succ]
                refine take_held 2 hS0 rfl (by kernel_rfl) (by kernel_rfl) (by kernel_rfl) (fun _ _ _ h => h) (by kernel_rfl) (v := ?v5002) ?y5002 ?r5002
                case y5002 => (intro u hu; have zz0 := HRB.out u hu; go_simp; try rfl)
                simp only [Act.put, List.setIfInBounds_toArray, List.set_cons_zero, List.set_cons_succ]
                refine take_held 3 hS0 rfl (by kernel_rfl) (by kernel_rfl) (by kernel_rfl) (fun _ _ _ h => h) (by kernel_rfl) (v := ?v5003) ?y5003 ?r5003
                case y5003 => (intro u hu; go_simp; try rfl)
                simp only [Act.put, List.setIfInBounds_toArray, List.set_cons_zero, List.set_cons_succ]
                refine take_held 4 hS0 rfl (by kernel_rfl) (by kernel_rfl) (by kernel_rfl) (fun _ _ _ h => h) (by kernel_rfl) (v := .agg #[.int .i64 x, .int .i64 y]) ?y5004 ?r5004
                case y5004 => (intro u hu; exact run_load_at 39 _ rfl ⟨bx, 2, none⟩ rfl _ (load_two hu))
                simp only [Act.put, List.setIfInBounds_toArray, List.set_cons_zero, List.set_cons_succ]
                refine take_held 6 hS0 rfl (by kernel_rfl) (by kernel_rfl) (by kernel_rfl) (fun _ _ _ h => h) (by kernel_rfl) (v := ?v5005) ?y5005 ?r5005
                case y5005 => (intro u hu; go_simp; try rfl)
                simp only [Act.put, List.setIfInBounds_toArray, List.set_cons_zero, List.set_cons_succ]
                refine take_held 7 hS0 rfl (by kernel_rfl) (by kernel_rfl) (by kernel_rfl) (fun _ _ _ h => h) (by kernel_rfl) (v := ?v5006) ?y5006 ?r5006
                case y5006 => (intro u hu; go_simp; try rfl)
                simp only [Act.put, List.setIfInBounds_toArray, List.set_cons_zero, List.set_cons_succ]
                refine take_held 8 hS0 rfl (by kernel_rfl) (by kernel_rfl) (by kernel_rfl) (fun _ _ _ h => h) (by kernel_rfl) (v := ?v5007) ?y5007 ?r5007
                case y5007 => (intro u hu; have zz0 := HRB.out u hu; go_simp; try rfl)
                simp only [Act.put, List.setIfInBounds_toArray, List.set_cons_zero, List.set_cons_succ]
                refine take_held 9 hS0 rfl (by kernel_rfl) (by kernel_rfl) (by kernel_rfl) (fun _ _ _ h => h) (by kernel_rfl) (v := ?v5008) ?y5008 ?r5008
                case y5008 => (intro u hu; go_simp; try rfl)
                simp only [Act.put, List.setIfInBounds_toArray, List.set_cons_zero, List.set_cons_succ]
                refine take_held 10 hS0 rfl (by kernel_rfl) (by kernel_rfl) (by kernel_rfl) (fun _ _ _ h => h) (by kernel_rfl) (v := .agg #[.int .i64 x, .int .i64 y]) ?y5009 ?r5009
                case y5009 => (intro u hu; exact run_load_at 39 _ rfl ⟨bx, 2, none⟩ rfl _ (load_two hu))
                simp only [Act.put, List.setIfInBounds_toArray, List.set_cons_zero, List.set_cons_succ]
                refine wpAnyH_ready (rs := [5]) (by kernel_rfl) (by simp) (AllReadyH.cons ((nth_eq _ 5).trans rfl) ?_ AllReadyH.nil)
                intro K1 hK1
                refine call_in hK1 (by kernel_rfl) 15 #[.pointer (some ⟨K.s, 0, none⟩), .int .i64 rb, .agg #[.int .i64 x, .int .i64 y]] (by go_simp) _ (both_dropV HOX.out HNK.out (HAu.out _ HBX.out.below) (fun b hb => Nat.lt_succ_of_lt hb) HLL.out.1 HLL.out.2.1 HLL.out.2.2 (fun x => room_eq HNn.out x) rb x y) ?_
                rintro v1 x1 ⟨⟨z1, rfl⟩, nb1, kp1, C1⟩
                have hS1 := (kp1 bx (lt_of_heap hS0) HNF.out.1).trans hS0
                refine ⟨hS1, ?_⟩
                simp only [Act.put, List.setIfInBounds_toArray, List.set_cons_zero, List.set_cons_succ]
                refine wpAnyH_ready (rs := [11]) (by kernel_rfl) (by simp) (AllReadyH.cons ((nth_eq _ 11).trans rfl) ?_ AllReadyH.nil)
                intro K2 hK2
                refine call_in hK2 (by kernel_rfl) 16 #[.pointer (some ⟨KR.s, 0, none⟩), .int .i64 rb, .agg #[.int .i64 x, .int .i64 y]] (by go_simp) _ (C1 _ (Below.refl _ _)) ?_
                rintro v2 x2 ⟨rfl, ⟨ps2, qs2, ls2, B5, nb5⟩, kp5⟩
                have hS2 := (kp5 bx (lt_of_heap hS1) HNF.out.2).trans hS1
                refine ⟨hS2, ?_⟩
                simp only [Act.put, List.setIfInBounds_toArray, List.set_cons_zero, List.set_cons_succ]
                refine take_held 12 hS2 rfl (by kernel_rfl) (by kernel_rfl) (by kernel_rfl) (fun _ _ _ h => h) (by kernel_rfl) (v := .bool false) ?y5010 ?r5010
                case y5010 => (intro u hu; go_simp; try simp)
                simp only [Act.put, List.setIfInBounds_toArray, List.set_cons_zero, List.set_cons_succ]
                refine done_held (by kernel_rfl) ?_ _
                go_wp2_with fail
                go_meet
                exact ⟨rfl, ps2, qs2, ls2, B5, one_keep HBX.out nb5, hS2⟩
              case rest =>
                obtain ⟨rfl, hq⟩ := hcut
                go_wp2_with fail
                go_meet
                exact hq
          case rest =>
            obtain ⟨ps2, qs2, ls2, B5, O5, E5⟩ := hcut
            have HL5 : Hid (Both K KR c G.uses (cfA c vb vp vr vs) vc ps2 qs2 ls2 wc) := B5
            have HB5 : Hid (One w #[.int .i64 c.W, .int .i64 c.H, .int .i64 c.height, vb, vp, vr, vs, .int .i64 c.unit, .int .i64 c.accel, .int .i64 c.speed, .int .i64 c.turn, .int .i64 c.hoist, .int .i64 c.queue, .int .i64 c.resend, .int .i64 c.budget, .bool c.back] wc) := O5
            obtain ⟨zh, hzh⟩ := both_height B5 x y
            obtain ⟨zt, hzt⟩ := both_top B5 x y
            obtain ⟨bs, hbs⟩ := both_at B5 x y
            have HHE : Hid ((∀ u, Both K KR c G.uses (cfA c vb vp vr vs) vc ps2 qs2 ls2 u → Calls Try.prog 17 #[.pointer (some ⟨K.s, 0, none⟩), .agg #[.int .i64 x, .int .i64 y]] u fun e w' => ∃ v, e = .returned v ∧ v = .int .i64 zh ∧ Below u.heap.size u w') ∧ (∀ u, Both K KR c G.uses (cfA c vb vp vr vs) vc ps2 qs2 ls2 u → Calls Try.prog 18 #[.pointer (some ⟨KR.s, 0, none⟩), .agg #[.int .i64 x, .int .i64 y]] u fun e w' => ∃ v, e = .returned v ∧ v = .int .i64 zh ∧ Below u.heap.size u w')) := hzh
            have HTP : Hid ((∀ u, Both K KR c G.uses (cfA c vb vp vr vs) vc ps2 qs2 ls2 u → Calls Try.prog 19 #[.pointer (some ⟨K.s, 0, none⟩), .agg #[.int .i64 x, .int .i64 y]] u fun e w' => ∃ v, e = .returned v ∧ v = .int .i64 zt ∧ Below u.heap.size u w') ∧ (∀ u, Both K KR c G.uses (cfA c vb vp vr vs) vc ps2 qs2 ls2 u → Calls Try.prog 20 #[.pointer (some ⟨KR.s, 0, none⟩), .agg #[.int .i64 x, .int .i64 y]] u fun e w' => ∃ v, e = .returned v ∧ v = .int .i64 zt ∧ Below u.heap.size u w')) := hzt
            have HAT : Hid (bs.length ≤ 8 ∧ (∀ u, Both K KR c G.uses (cfA c vb vp vr vs) vc ps2 qs2 ls2 u → Calls Try.prog 22 #[.pointer (some ⟨K.s, 0, none⟩), .agg #[.int .i64 x, .int .i64 y]] u fun e w' => ∃ v, e = .returned v ∧ ListAt 1 intEl (fun b => b < w'.heap.size) bs v w' ∧ Below u.heap.size u w') ∧ (∀ u, Both K KR c G.uses (cfA c vb vp vr vs) vc ps2 qs2 ls2 u → Calls Try.prog 23 #[.pointer (some ⟨KR.s, 0, none⟩), .agg #[.int .i64 x, .int .i64 y]] u fun e w' => ∃ v, e = .returned v ∧ ListAt 1 intEl (fun b => b < w'.heap.size) bs v w' ∧ Below u.heap.size u w')) := hbs
            have HSA : Hid (∀ u, Both K KR c G.uses (cfA c vb vp vr vs) vc ps2 qs2 ls2 u → Calls Try.prog 24 #[.agg #[.int .i64 c.W, .int .i64 c.H, .int .i64 c.height, vb, vp, vr, vs, .int .i64 c.unit, .int .i64 c.accel, .int .i64 c.speed, .int .i64 c.turn, .int .i64 c.hoist, .int .i64 c.queue, .int .i64 c.resend, .int .i64 c.budget, .bool c.back], .pointer (some ⟨K.s, 0, none⟩), .pointer (some ⟨KR.s, 0, none⟩)] u fun e w' => ∃ v, e = .returned v ∧ v = .bool true ∧ Below u.heap.size u w') := fun u hu => by
              have z := same_any hu vb vp vs arR c.robots.length crR (by have := HRL.out.2; omega)
              rw [← HRL.out.1] at z
              exact z
            have HBX : Hid (∀ u, Below wc.drew.heap.size wc.drew u → u.heap[bx]? = some (.cells #[.int .i64 kd, .int .i64 rb, .int .i64 x, .int .i64 y] 41 (0, 0))) := fun u b => ((Below.refl wc.heap.size wc).drew.trans b).block bx (lt_of_heap E5) |>.trans E5
            have HCF : Hid (∀ u, Below wc.drew.heap.size wc.drew u → (loadVar 26 ⟨w.heap.size, 0, none⟩).run Try.prog u = .ok (.agg #[.int .i64 c.W, .int .i64 c.H, .int .i64 c.height, vb, vp, vr, vs, .int .i64 c.unit, .int .i64 c.accel, .int .i64 c.speed, .int .i64 c.turn, .int .i64 c.hoist, .int .i64 c.queue, .int .i64 c.resend, .int .i64 c.budget, .bool c.back]) u) := fun u b => load_conf8 (((Below.refl wc.heap.size wc).drew.trans b).block w.heap.size (lt_of_heap O5.a) |>.trans O5.a)
            have hSgo : ∀ u, (Both K KR c G.uses (cfA c vb vp vr vs) vc ps2 qs2 ls2 u ∧ Below wc.drew.heap.size wc.drew u) → ∀ u', Below u.heap.size u u' → (Both K KR c G.uses (cfA c vb vp vr vs) vc ps2 qs2 ls2 u' ∧ Below wc.drew.heap.size wc.drew u') := fun u hu u' b => ⟨hu.1.go b, hu.2.trans (b.mono hu.2.size)⟩
            clear B5 O5 E5 hzh hzt hbs
            go_upto_region 19 with fail
            go_cut [154] from 116 to 154 (fun v wx => v = .bool false ∧ Both K KR c G.uses (cfA c vb vp vr vs) vc ps2 qs2 ls2 wx ∧ Below wc.drew.heap.size wc.drew wx)
            case first =>
              refine start_held (S := fun u => Both K KR c G.uses (cfA c vb vp vr vs) vc ps2 qs2 ls2 u ∧ Below wc.drew.heap.size wc.drew u) 39 rfl (by kernel_rfl) (⟨HL5.out.go (Below.refl _ _).drew, Below.refl _ _⟩) ?_
              simp only [Array.replicate_succ, Array.replicate_zero, List.push_toArray, List.nil_append, List.cons_append]
              have hS0 : Both K KR c G.uses (cfA c vb vp vr vs) vc ps2 qs2 ls2 wc.drew ∧ Below wc.drew.heap.size wc.drew wc.drew := ⟨HL5.out.go (Below.refl _ _).drew, Below.refl _ _⟩
              obtain ⟨x0, hx0⟩ : ∃ z, wc.drew = z := ⟨_, rfl⟩
              rw [hx0] at hS0 HBX HCF hSgo ⊢
              have HX0 : Hid (wc.drew = x0) := hx0
              clear hx0
              refine take_held 0 hS0 rfl (by kernel_rfl) (by kernel_rfl) (by kernel_rfl) (fun _ _ _ h => h) (by kernel_rfl) (v := ?v5011) ?y5011 ?r5011
              case y5011 => (intro u hu; go_simp; try rfl)
              simp only [Act.put, List.setIfInBounds_toArray, List.set_cons_zero, List.set_cons_succ]
              refine take_held 1 hS0 rfl (by kernel_rfl) (by kernel_rfl) (by kernel_rfl) (fun _ _ _ h => h) (by kernel_rfl) (v := ?v5012) ?y5012 ?r5012
              case y5012 => (intro u hu; go_simp; try rfl)
              simp only [Act.put, List.setIfInBounds_toArray, List.set_cons_zero, List.set_cons_succ]
              refine take_held 2 hS0 rfl (by kernel_rfl) (by kernel_rfl) (by kernel_rfl) (fun _ _ _ h => h) (by kernel_rfl) (v := .agg #[.int .i64 x, .int .i64 y]) ?y5013 ?r5013
              case y5013 => (intro u hu; exact run_load_at 39 _ rfl ⟨bx, 2, none⟩ rfl _ (load_two (HBX.out u hu.2)))
              simp only [Act.put, List.setIfInBounds_toArray, List.set_cons_zero, List.set_cons_succ]
              refine take_held 4 hS0 rfl (by kernel_rfl) (by kernel_rfl) (by kernel_rfl) (fun _ _ _ h => h) (by kernel_rfl) (v := ?v5014) ?y5014 ?r5014
              case y5014 => (intro u hu; go_simp; try rfl)
              simp only [Act.put, List.setIfInBounds_toArray, List.set_cons_zero, List.set_cons_succ]
              refine take_held 5 hS0 rfl (by kernel_rfl) (by kernel_rfl) (by kernel_rfl) (fun _ _ _ h => h) (by kernel_rfl) (v := ?v5015) ?y5015 ?r5015
              case y5015 => (intro u hu; go_simp; try rfl)
              simp only [Act.put, List.setIfInBounds_toArray, List.set_cons_zero, List.set_cons_succ]
              refine take_held 6 hS0 rfl (by kernel_rfl) (by kernel_rfl) (by kernel_rfl) (fun _ _ _ h => h) (by kernel_rfl) (v := .agg #[.int .i64 x, .int .i64 y]) ?y5016 ?r5016
              case y5016 => (intro u hu; exact run_load_at 39 _ rfl ⟨bx, 2, none⟩ rfl _ (load_two (HBX.out u hu.2)))
              simp only [Act.put, List.setIfInBounds_toArray, List.set_cons_zero, List.set_cons_succ]
              refine wpAnyH_ready (rs := [3]) (by kernel_rfl) (by simp) (AllReadyH.cons ((nth_eq _ 3).trans rfl) ?_ AllReadyH.nil)
              intro K1 hK1
              refine call_in hK1 (by kernel_rfl) 17 #[.pointer (some ⟨K.s, 0, none⟩), .agg #[.int .i64 x, .int .i64 y]] (by go_simp) _ (HHE.out.1 _ hS0.1) ?_
              rintro v1 x1 ⟨rfl, b1⟩
              have hS1 := hSgo _ hS0 _ b1
              refine ⟨hS1, ?_⟩
              simp only [Act.put, List.setIfInBounds_toArray, List.set_cons_zero, List.set_cons_succ]
              refine wpAnyH_ready (rs := [7]) (by kernel_rfl) (by simp) (AllReadyH.cons ((nth_eq _ 7).trans rfl) ?_ AllReadyH.nil)
              intro K2 hK2
              refine call_in hK2 (by kernel_rfl) 18 #[.pointer (some ⟨KR.s, 0, none⟩), .agg #[.int .i64 x, .int .i64 y]] (by go_simp) _ (HHE.out.2 _ hS1.1) ?_
              rintro v2 x2 ⟨rfl, b2⟩
              have hS2 := hSgo _ hS1 _ b2
              refine ⟨hS2, ?_⟩
              simp only [Act.put, List.setIfInBounds_toArray, List.set_cons_zero, List.set_cons_succ]
              refine take_held 8 hS2 rfl (by kernel_rfl) (by kernel_rfl) (by kernel_rfl) (fun _ _ _ h => h) (by kernel_rfl) (v := .bool false) ?y5017 ?r5017
              case y5017 => (intro u hu; go_simp; try simp)
              simp only [Act.put, List.setIfInBounds_toArray, List.set_cons_zero, List.set_cons_succ]
              refine take_held 9 hS2 rfl (by kernel_rfl) (by kernel_rfl) (by kernel_rfl) (fun _ _ _ h => h) (by kernel_rfl) (v := ?v5018) ?y5018 ?r5018
              case y5018 => (intro u hu; go_simp; try rfl)
              simp only [Act.put, List.setIfInBounds_toArray, List.set_cons_zero, List.set_cons_succ]
              refine take_held 10 hS2 rfl (by kernel_rfl) (by kernel_rfl) (by kernel_rfl) (fun _ _ _ h => h) (by kernel_rfl) (v := ?v5019) ?y5019 ?r5019
              case y5019 => (intro u hu; go_simp; try rfl)
              simp only [Act.put, List.setIfInBounds_toArray, List.set_cons_zero, List.set_cons_succ]
              refine take_held 11 hS2 rfl (by kernel_rfl) (by kernel_rfl) (by kernel_rfl) (fun _ _ _ h => h) (by kernel_rfl) (v := ?v5020) ?y5020 ?r5020
              case y5020 => (intro u hu; go_simp; try rfl)
              simp only [Act.put, List.setIfInBounds_toArray, List.set_cons_zero, List.set_cons_succ]
              refine take_held 12 hS2 rfl (by kernel_rfl) (by kernel_rfl) (by kernel_rfl) (fun _ _ _ h => h) (by kernel_rfl) (v := .agg #[.int .i64 x, .int .i64 y]) ?y5021 ?r5021
              case y5021 => (intro u hu; exact run_load_at 39 _ rfl ⟨bx, 2, none⟩ rfl _ (load_two (HBX.out u hu.2)))
              simp only [Act.put, List.setIfInBounds_toArray, List.set_cons_zero, List.set_cons_succ]
              refine take_held 14 hS2 rfl (by kernel_rfl) (by kernel_rfl) (by kernel_rfl) (fun _ _ _ h => h) (by kernel_rfl) (v := ?v5022) ?y5022 ?r5022
              case y5022 => (intro u hu; go_simp; try rfl)
              simp only [Act.put, List.setIfInBounds_toArray, List.set_cons_zero, List.set_cons_succ]
              refine take_held 15 hS2 rfl (by kernel_rfl) (by kernel_rfl) (by kernel_rfl) (fun _ _ _ h => h) (by kernel_rfl) (v := ?v5023) ?y5023 ?r5023
              case y5023 => (intro u hu; go_simp; try rfl)
              simp only [Act.put, List.setIfInBounds_toArray, List.set_cons_zero, List.set_cons_succ]
              refine take_held 16 hS2 rfl (by kernel_rfl) (by kernel_rfl) (by kernel_rfl) (fun _ _ _ h => h) (by kernel_rfl) (v := .agg #[.int .i64 x, .int .i64 y]) ?y5024 ?r5024
              case y5024 => (intro u hu; exact run_load_at 39 _ rfl ⟨bx, 2, none⟩ rfl _ (load_two (HBX.out u hu.2)))
              simp only [Act.put, List.setIfInBounds_toArray, List.set_cons_zero, List.set_cons_succ]
              refine wpAnyH_ready (rs := [13]) (by kernel_rfl) (by simp) (AllReadyH.cons ((nth_eq _ 13).trans rfl) ?_ AllReadyH.nil)
              intro K3 hK3
              refine call_in hK3 (by kernel_rfl) 19 #[.pointer (some ⟨K.s, 0, none⟩), .agg #[.int .i64 x, .int .i64 y]] (by go_simp) _ (HTP.out.1 _ hS2.1) ?_
              rintro v3 x3 ⟨rfl, b3⟩
              have hS3 := hSgo _ hS2 _ b3
              refine ⟨hS3, ?_⟩
              simp only [Act.put, List.setIfInBounds_toArray, List.set_cons_zero, List.set_cons_succ]
              refine wpAnyH_ready (rs := [17]) (by kernel_rfl) (by simp) (AllReadyH.cons ((nth_eq _ 17).trans rfl) ?_ AllReadyH.nil)
              intro K4 hK4
              refine call_in hK4 (by kernel_rfl) 20 #[.pointer (some ⟨KR.s, 0, none⟩), .agg #[.int .i64 x, .int .i64 y]] (by go_simp) _ (HTP.out.2 _ hS3.1) ?_
              rintro v4 x4 ⟨rfl, b4⟩
              have hS4 := hSgo _ hS3 _ b4
              refine ⟨hS4, ?_⟩
              simp only [Act.put, List.setIfInBounds_toArray, List.set_cons_zero, List.set_cons_succ]
              refine take_held 18 hS4 rfl (by kernel_rfl) (by kernel_rfl) (by kernel_rfl) (fun _ _ _ h => h) (by kernel_rfl) (v := .bool false) ?y5025 ?r5025
              case y5025 => (intro u hu; go_simp; try simp)
              simp only [Act.put, List.setIfInBounds_toArray, List.set_cons_zero, List.set_cons_succ]
              refine take_held 19 hS4 rfl (by kernel_rfl) (by kernel_rfl) (by kernel_rfl) (fun _ _ _ h => h) (by kernel_rfl) (v := ?v5026) ?y5026 ?r5026
              case y5026 => (intro u hu; go_simp; try rfl)
              simp only [Act.put, List.setIfInBounds_toArray, List.set_cons_zero, List.set_cons_succ]
              refine take_held 20 hS4 rfl (by kernel_rfl) (by kernel_rfl) (by kernel_rfl) (fun _ _ _ h => h) (by kernel_rfl) (v := ?v5027) ?y5027 ?r5027
              case y5027 => (intro u hu; go_simp; try rfl)
              simp only [Act.put, List.setIfInBounds_toArray, List.set_cons_zero, List.set_cons_succ]
              refine take_held 21 hS4 rfl (by kernel_rfl) (by kernel_rfl) (by kernel_rfl) (fun _ _ _ h => h) (by kernel_rfl) (v := ?v5028) ?y5028 ?r5028
              case y5028 => (intro u hu; go_simp; try rfl)
              simp only [Act.put, List.setIfInBounds_toArray, List.set_cons_zero, List.set_cons_succ]
              refine take_held 22 hS4 rfl (by kernel_rfl) (by kernel_rfl) (by kernel_rfl) (fun _ _ _ h => h) (by kernel_rfl) (v := ?v5029) ?y5029 ?r5029
              case y5029 => (intro u hu; go_simp; try rfl)
              simp only [Act.put, List.setIfInBounds_toArray, List.set_cons_zero, List.set_cons_succ]
              refine take_held 23 hS4 rfl (by kernel_rfl) (by kernel_rfl) (by kernel_rfl) (fun _ _ _ h => h) (by kernel_rfl) (v := .agg #[.int .i64 x, .int .i64 y]) ?y5030 ?r5030
              case y5030 => (intro u hu; exact run_load_at 39 _ rfl ⟨bx, 2, none⟩ rfl _ (load_two (HBX.out u hu.2)))
              simp only [Act.put, List.setIfInBounds_toArray, List.set_cons_zero, List.set_cons_succ]
              refine take_held 25 hS4 rfl (by kernel_rfl) (by kernel_rfl) (by kernel_rfl) (fun _ _ _ h => h) (by kernel_rfl) (v := ?v5031) ?y5031 ?r5031
              case y5031 => (intro u hu; go_simp; try rfl)
              simp only [Act.put, List.setIfInBounds_toArray, List.set_cons_zero, List.set_cons_succ]
              refine take_held 26 hS4 rfl (by kernel_rfl) (by kernel_rfl) (by kernel_rfl) (fun _ _ _ h => h) (by kernel_rfl) (v := ?v5032) ?y5032 ?r5032
              case y5032 => (intro u hu; go_simp; try rfl)
              simp only [Act.put, List.setIfInBounds_toArray, List.set_cons_zero, List.set_cons_succ]
              refine take_held 27 hS4 rfl (by kernel_rfl) (by kernel_rfl) (by kernel_rfl) (fun _ _ _ h => h) (by kernel_rfl) (v := .agg #[.int .i64 x, .int .i64 y]) ?y5033 ?r5033
              case y5033 => (intro u hu; exact run_load_at 39 _ rfl ⟨bx, 2, none⟩ rfl _ (load_two (HBX.out u hu.2)))
              simp only [Act.put, List.setIfInBounds_toArray, List.set_cons_zero, List.set_cons_succ]
              refine wpAnyH_ready (rs := [24]) (by kernel_rfl) (by simp) (AllReadyH.cons ((nth_eq _ 24).trans rfl) ?_ AllReadyH.nil)
              intro K5 hK5
              refine call_in hK5 (by kernel_rfl) 22 #[.pointer (some ⟨K.s, 0, none⟩), .agg #[.int .i64 x, .int .i64 y]] (by go_simp) _ (HAT.out.2.1 _ hS4.1) ?_
              rintro v5 x5 ⟨LA5, b5⟩
              have hS5 := hSgo _ hS4 _ b5
              refine ⟨hS5, ?_⟩
              simp only [Act.put, List.setIfInBounds_toArray, List.set_cons_zero, List.set_cons_succ]
              refine wpAnyH_ready (rs := [28]) (by kernel_rfl) (by simp) (AllReadyH.cons ((nth_eq _ 28).trans rfl) ?_ AllReadyH.nil)
              intro K6 hK6
              refine call_in hK6 (by kernel_rfl) 23 #[.pointer (some ⟨KR.s, 0, none⟩), .agg #[.int .i64 x, .int .i64 y]] (by go_simp) _ (HAT.out.2.2 _ hS5.1) ?_
              rintro v6 x6 ⟨LB6, b6⟩
              have hS6 := hSgo _ hS5 _ b6
              have LA6 := (LA5.go heldInt (fun _ h => h) b6).mono heldInt (fun _ h => Nat.lt_of_lt_of_le h b6.size)
              refine ⟨hS6, ?_⟩
              simp only [Act.put, List.setIfInBounds_toArray, List.set_cons_zero, List.set_cons_succ]
              refine wpAnyH_ready (rs := [29]) (by kernel_rfl) (by simp) (AllReadyH.cons ((nth_eq _ 29).trans rfl) ?_ AllReadyH.nil)
              intro K7 hK7
              refine call_in hK7 (by kernel_rfl) 21 #[v5, v6] (by go_simp) _ (as_true (sameInts_any _ _ bs bs _ _ _ LA6 LB6 (fun _ h => h) (fun _ h => h) (by have := HAT.out.1; omega) (by have := HAT.out.1; omega))) ?_
              rintro v7 x7 ⟨rfl, b7⟩
              have hS7 := hSgo _ hS6 _ b7
              have LA7 := (LA6.go heldInt (fun _ h => h) b7).mono heldInt (fun _ h => Nat.lt_of_lt_of_le h b7.size)
              have LB7 := (LB6.go heldInt (fun _ h => h) b7).mono heldInt (fun _ h => Nat.lt_of_lt_of_le h b7.size)
              refine ⟨hS7, ?_⟩
              simp only [Act.put, List.setIfInBounds_toArray, List.set_cons_zero, List.set_cons_succ]
              refine take_held 30 hS7 rfl (by kernel_rfl) (by kernel_rfl) (by kernel_rfl) (fun _ _ _ h => h) (by kernel_rfl) (v := ?v5034) ?y5034 ?r5034
              case y5034 => (intro u hu; go_simp; try rfl)
              simp only [Act.put, List.setIfInBounds_toArray, List.set_cons_zero, List.set_cons_succ]
              refine take_held 31 hS7 rfl (by kernel_rfl) (by kernel_rfl) (by kernel_rfl) (fun _ _ _ h => h) (by kernel_rfl) (v := ?v5035) ?y5035 ?r5035
              case y5035 => (intro u hu; go_simp; try rfl)
              simp only [Act.put, List.setIfInBounds_toArray, List.set_cons_zero, List.set_cons_succ]
              refine take_held 32 hS7 rfl (by kernel_rfl) (by kernel_rfl) (by kernel_rfl) (fun _ _ _ h => h) (by kernel_rfl) (v := ?v5036) ?y5036 ?r5036
              case y5036 => (intro u hu; go_simp; try rfl)
              simp only [Act.put, List.setIfInBounds_toArray, List.set_cons_zero, List.set_cons_succ]
              refine take_held 33 hS7 rfl (by kernel_rfl) (by kernel_rfl) (by kernel_rfl) (fun _ _ _ h => h) (by kernel_rfl) (v := .agg #[.int .i64 c.W, .int .i64 c.H, .int .i64 c.height, vb, vp, vr, vs, .int .i64 c.unit, .int .i64 c.accel, .int .i64 c.speed, .int .i64 c.turn, .int .i64 c.hoist, .int .i64 c.queue, .int .i64 c.resend, .int .i64 c.budget, .bool c.back]) ?y5037 ?r5037
              case y5037 => (intro u hu; exact run_load_at 26 _ rfl ⟨w.heap.size, 0, none⟩ rfl _ (HCF.out u hu.2))
              simp only [Act.put, List.setIfInBounds_toArray, List.set_cons_zero, List.set_cons_succ]
              refine take_held 34 hS7 rfl (by kernel_rfl) (by kernel_rfl) (by kernel_rfl) (fun _ _ _ h => h) (by kernel_rfl) (v := ?v5038) ?y5038 ?r5038
              case y5038 => (intro u hu; go_simp; try rfl)
              simp only [Act.put, List.setIfInBounds_toArray, List.set_cons_zero, List.set_cons_succ]
              refine take_held 35 hS7 rfl (by kernel_rfl) (by kernel_rfl) (by kernel_rfl) (fun _ _ _ h => h) (by kernel_rfl) (v := ?v5039) ?y5039 ?r5039
              case y5039 => (intro u hu; go_simp; try rfl)
              simp only [Act.put, List.setIfInBounds_toArray, List.set_cons_zero, List.set_cons_succ]
              refine wpAnyH_ready (rs := [36]) (by kernel_rfl) (by simp) (AllReadyH.cons ((nth_eq _ 36).trans rfl) ?_ AllReadyH.nil)
              intro K8 hK8
              refine call_in hK8 (by kernel_rfl) 24 #[.agg #[.int .i64 c.W, .int .i64 c.H, .int .i64 c.height, vb, vp, vr, vs, .int .i64 c.unit, .int .i64 c.accel, .int .i64 c.speed, .int .i64 c.turn, .int .i64 c.hoist, .int .i64 c.queue, .int .i64 c.resend, .int .i64 c.budget, .bool c.back], .pointer (some ⟨K.s, 0, none⟩), .pointer (some ⟨KR.s, 0, none⟩)] (by go_simp) _ (HSA.out _ hS7.1) ?_
              rintro v8 x8 ⟨rfl, b8⟩
              have hS8 := hSgo _ hS7 _ b8
              have LA8 := (LA7.go heldInt (fun _ h => h) b8).mono heldInt (fun _ h => Nat.lt_of_lt_of_le h b8.size)
              have LB8 := (LB7.go heldInt (fun _ h => h) b8).mono heldInt (fun _ h => Nat.lt_of_lt_of_le h b8.size)
              refine ⟨hS8, ?_⟩
              simp only [Act.put, List.setIfInBounds_toArray, List.set_cons_zero, List.set_cons_succ]
              refine take_held 37 hS8 rfl (by kernel_rfl) (by kernel_rfl) (by kernel_rfl) (fun _ _ _ h => h) (by kernel_rfl) (v := ?v5040) ?y5040 ?r5040
              case y5040 => (intro u hu; go_simp; try rfl)
              simp only [Act.put, List.setIfInBounds_toArray, List.set_cons_zero, List.set_cons_succ]
              refine take_held 38 hS8 rfl (by kernel_rfl) (by kernel_rfl) (by kernel_rfl) (fun _ _ _ h => h) (by kernel_rfl) (v := ?v5041) ?y5041 ?r5041
              case y5041 => (intro u hu; go_simp; try rfl)
              simp only [Act.put, List.setIfInBounds_toArray, List.set_cons_zero, List.set_cons_succ]
              refine done_held (by kernel_rfl) ?_ _
              go_wp2_with fail
              go_meet
              exact ⟨rfl, hS8.1, by rw [HX0.out]; exact hS8.2⟩
            case rest =>
              obtain ⟨rfl, B6, N6⟩ := hcut
              have HL6 : Hid (Both K KR c G.uses (cfA c vb vp vr vs) vc ps2 qs2 ls2 wc) := B6
              have HB6 : Hid (One w #[.int .i64 c.W, .int .i64 c.H, .int .i64 c.height, vb, vp, vr, vs, .int .i64 c.unit, .int .i64 c.accel, .int .i64 c.speed, .int .i64 c.turn, .int .i64 c.hoist, .int .i64 c.queue, .int .i64 c.resend, .int .i64 c.budget, .bool c.back] wc) := HB5.out.go ((Below.refl _ _).drew.trans N6)
              clear B6 N6
              go_wp2_with fail
              go_roundw
              case rel => exact ⟨k + 1, ps2, qs2, ls2, by omega, by omega, by go_num, HL6, HB6⟩
              case measure => simp [intOf]; omega
        · have hst := same_any HL.out vb vp vs arR c.robots.length crR (by have := HRL.out.2; omega)
          rw [← HRL.out.1] at hst
          have Q5 := HB.out
          by_cases h6 : (k : Int) < (n : Int)
          · have h7 : ¬ ((k : Int) < 60) := by omega
            clear hlt
            go_wp2_with (first
              | (refine wpList_load_row rfl 26 (.tmp 2) rfl w.heap.size rfl 26 #[.int .i64 c.W, .int .i64 c.H, .int .i64 c.height, vb, vp, vr, vs, .int .i64 c.unit, .int .i64 c.accel, .int .i64 c.speed, .int .i64 c.turn, .int .i64 c.hoist, .int .i64 c.queue, .int .i64 c.resend, .int .i64 c.budget, .bool c.back] (0, 0) _ Q5.a Try.underlying26 rfl info_conf ?_)
              | (have X' := hst; go_at_call 24; refine hst.mono ?_; rintro e w8 ⟨r8, rfl, rfl, b8⟩; clear hst)
              | (go_at_call 10; refine (awake8_any _).mono ?_; rintro e w9 ⟨r9, rfl, rfl, b9⟩))
            go_ret
            exact ⟨rfl, bcat (bcat HB.out.below b8 (Nat.le_refl _)) b9 (Nat.le_refl _)⟩
          · clear hlt
            go_wp2_with (first
              | (refine wpList_load_row rfl 26 (.tmp 2) rfl w.heap.size rfl 26 #[.int .i64 c.W, .int .i64 c.H, .int .i64 c.height, vb, vp, vr, vs, .int .i64 c.unit, .int .i64 c.accel, .int .i64 c.speed, .int .i64 c.turn, .int .i64 c.hoist, .int .i64 c.queue, .int .i64 c.resend, .int .i64 c.budget, .bool c.back] (0, 0) _ Q5.a Try.underlying26 rfl info_conf ?_)
              | (have X' := hst; go_at_call 24; refine hst.mono ?_; rintro e w8 ⟨r8, rfl, rfl, b8⟩; clear hst)
              | (go_at_call 10; refine (awake8_any _).mono ?_; rintro e w9 ⟨r9, rfl, rfl, b9⟩))
            go_ret
            exact ⟨rfl, bcat (bcat HB.out.below b8 (Nat.le_refl _)) b9 (Nat.le_refl _)⟩
end Go.Proofs.Ytabbdclpjghdbaa.Stk
