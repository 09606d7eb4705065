/-
  StacksTurned: the walk.
-/
import Derived.Test.YtkdciahhflalpaaStkM4
namespace Go.Proofs.Ytkdciahhflalpaa.Stk
set_option linter.unusedVariables false
set_option linter.unusedSimpArgs false
open Go Go.RowKit Go.Shelf Go.Proofs Go.Proofs.Ytkdciahhflalpaa.Grid
attribute [local go_sem] Oper.semAt_some

theorem place_in (v : Int) (n : Nat) (h : 0 < n) : ∃ k : Nat, place v (n : Int) = (k : Int) ∧ k < n := by
  have h2 := Int.tmod_lt_of_pos v (show (0 : Int) < n by omega)
  have h3 := tmod_low v n (by omega)
  have hb : 0 ≤ place v n ∧ place v n < n := by unfold place; split <;> omega
  obtain ⟨k, hk⟩ := Int.eq_ofNat_of_zero_le hb.1
  exact ⟨k, hk, by omega⟩
theorem place_ret (v n : Int) (w : World) (h0 : 0 < n) (h1 : n ≤ 9223372036854775807) : Calls Try.prog 24 #[.int .i64 v, .int .i64 n] w fun e w' => ∃ r, e = .returned r ∧ r = .int .i64 (place v n) ∧ w' = w := (place_any v n w h0 h1).mono fun e w' ⟨h, q⟩ => ⟨_, h, rfl, q⟩
theorem infoStack0 : (Try.prog.info? 89).map (·.size) = some 3 := by kernel_rfl
set_option maxRecDepth 100000 in
set_option maxHeartbeats 20000000 in
theorem turned_all (c : Conf) (vb vp vr vs : Value) (w : World) (hA : ConfAt (Old w) c vb vp vr vs w) (l1 : c.blocked.length ≤ 8796093022208) (l2 : c.ports.length ≤ 8796093022208) (l3 : c.robots.length ≤ 5864062014805) (l4 : c.stacks.length ≤ 3518437208880) (l5 : ∀ s ∈ c.stacks, s.2.length ≤ 17592186044416) (which x y : Int) : Calls Try.prog 10 #[.agg #[.int .i64 c.W, .int .i64 c.H, .int .i64 c.height, vb, vp, vr, vs, .int .i64 c.unit, .int .i64 c.accel, .int .i64 c.speed, .int .i64 c.turn, .int .i64 c.hoist, .int .i64 c.queue, .int .i64 c.resend, .int .i64 c.budget, .bool c.back], .int .i64 which, .agg #[.int .i64 x, .int .i64 y]] w fun e w' => e = .returned (.bool true) ∧ Below w.heap.size w w' := by
  obtain ⟨a3, cap3, hv3, _⟩ := hA.r.form
  subst hv3
  obtain ⟨a4, cap4, hv4, _⟩ := hA.s.form
  subst hv4
  have L := fun (u : World) (b : Below w.heap.size w u) g (hg : Old w g) => Nat.lt_of_lt_of_le hg b.size
  have hAu := fun u (b : Below w.heap.size w u) => hA.go (fun _ h => h) b
  have cC := fun u (b : Below w.heap.size w u) => copyConf_any (Old w) c vb vp _ _ u (hAu u b) (L u b) l1 l2 l3 l4 l5
  have cM := fun u (b : Below w.heap.size w u) => mayR_call (F := Old w) (hAu u b) (L u b) l1 l2 l3 l4 l5
  have cS := fun u (b : Below w.heap.size w u) => small_any (Old w) c vb vp _ _ u (hAu u b) (L u b) l1 l2 l3 l4 l5
  have cSR := fun u (b : Below w.heap.size w u) => stackedR_any (Old w) c vb vp _ _ x y u (hAu u b) (L u b) (by omega) (by omega) (by omega)
  have Q0 := two_new w #[.int .i64 c.W, .int .i64 c.H, .int .i64 c.height, vb, vp, .slice a3 c.robots.length cap3, .slice a4 c.stacks.length cap4, .int .i64 c.unit, .int .i64 c.accel, .int .i64 c.speed, .int .i64 c.turn, .int .i64 c.hoist, .int .i64 c.queue, .int .i64 c.resend, .int .i64 c.budget, .bool c.back] #[.int .i64 x, .int .i64 y] 28
  cases hN : newP c with
  | none =>
    have cN := fun {m : Nat} {u : World} {v1 v2 v3 v4 : Value} (a : ConfAt (Since m u) c v1 v2 v3 v4 u) => new_none_any a since_lt l1 l2 l3 l4 hN
    rw [hN] at cM cS
    simp only [Option.isSome_none, Bool.and_false] at cM cS
    clear hA L hN hAu cSR
    go_enter Try.func10, Try.ntmps10
    go_wp2_with (first
          | (have X' := Q3; refine wpList_load_row rfl 26 (.tmp 3) rfl w.heap.size rfl 26 #[.int .i64 c.W, .int .i64 c.H, .int .i64 c.height, vb, vp, .slice a3 c.robots.length cap3, .slice a4 c.stacks.length cap4, .int .i64 c.unit, .int .i64 c.accel, .int .i64 c.speed, .int .i64 c.turn, .int .i64 c.hoist, .int .i64 c.queue, .int .i64 c.resend, .int .i64 c.budget, .bool c.back] (0, 0) _ Q3.a Try.underlying26 rfl info_conf ?_)
          | (have X' := Q2; refine wpList_load_row rfl 26 (.tmp 3) rfl w.heap.size rfl 26 #[.int .i64 c.W, .int .i64 c.H, .int .i64 c.height, vb, vp, .slice a3 c.robots.length cap3, .slice a4 c.stacks.length cap4, .int .i64 c.unit, .int .i64 c.accel, .int .i64 c.speed, .int .i64 c.turn, .int .i64 c.hoist, .int .i64 c.queue, .int .i64 c.resend, .int .i64 c.budget, .bool c.back] (0, 0) _ Q2.a Try.underlying26 rfl info_conf ?_)
          | (refine wpList_load_row rfl 26 (.tmp 3) rfl w.heap.size rfl 26 #[.int .i64 c.W, .int .i64 c.H, .int .i64 c.height, vb, vp, .slice a3 c.robots.length cap3, .slice a4 c.stacks.length cap4, .int .i64 c.unit, .int .i64 c.accel, .int .i64 c.speed, .int .i64 c.turn, .int .i64 c.hoist, .int .i64 c.queue, .int .i64 c.resend, .int .i64 c.budget, .bool c.back] (0, 0) _ Q0.a Try.underlying26 rfl info_conf ?_)
          | (go_at_call 12; refine (cC _ Q0.below).mono ?_; rintro e w1 ⟨r1, rfl, ⟨v1, v2, v3, v4, rfl, A1⟩, b1⟩; have Q1 := Q0.go b1)
          | (go_at_call 33; refine (cN A1).mono ?_; rintro e w2 ⟨rfl, b2⟩; have Q2 := Q1.go b2)
          | (go_at_call 32; refine (cS _ Q2.below).mono ?_; rintro e w3 ⟨r3, rfl, rfl, b3⟩; have Q3 := Q2.go b3; have x5 := cell_of Q3.a 5; have x6 := cell_of Q3.a 6)
          | (go_at_call 13; refine (cM _ Q3.below).mono ?_; rintro e w8 ⟨r8, rfl, rfl, b8⟩; have Q8 := Q3.go b8)
          | (go_at_call 34; refine (awake8_any _).mono ?_; rintro e w9 ⟨r9, rfl, rfl, b9⟩))
    go_ret
    exact ⟨rfl, bcat Q8.below b9 (Nat.le_refl _)⟩
  | some G =>
    have hmy := (new_some hN).1.2.2.2.2.2.2.2.2.2.2.2
    have cN := fun {m : Nat} {u : World} {v1 v2 v3 v4 : Value} (a : ConfAt (Since m u) c v1 v2 v3 v4 u) => new_some_any a since_lt l1 l2 l3 l4 l5 hN
    rw [hN] at cM cS
    simp only [Option.isSome_some, Bool.and_true] at cM cS
    cases hs : smallN c
    · rw [hs] at cS
      clear hA L hN hAu cSR
      go_enter Try.func10, Try.ntmps10
      go_wp2_with (first
            | (have X' := Q3; refine wpList_load_row rfl 26 (.tmp 3) rfl w.heap.size rfl 26 #[.int .i64 c.W, .int .i64 c.H, .int .i64 c.height, vb, vp, .slice a3 c.robots.length cap3, .slice a4 c.stacks.length cap4, .int .i64 c.unit, .int .i64 c.accel, .int .i64 c.speed, .int .i64 c.turn, .int .i64 c.hoist, .int .i64 c.queue, .int .i64 c.resend, .int .i64 c.budget, .bool c.back] (0, 0) _ Q3.a Try.underlying26 rfl info_conf ?_)
            | (have X' := Q2; refine wpList_load_row rfl 26 (.tmp 3) rfl w.heap.size rfl 26 #[.int .i64 c.W, .int .i64 c.H, .int .i64 c.height, vb, vp, .slice a3 c.robots.length cap3, .slice a4 c.stacks.length cap4, .int .i64 c.unit, .int .i64 c.accel, .int .i64 c.speed, .int .i64 c.turn, .int .i64 c.hoist, .int .i64 c.queue, .int .i64 c.resend, .int .i64 c.budget, .bool c.back] (0, 0) _ Q2.a Try.underlying26 rfl info_conf ?_)
            | (refine wpList_load_row rfl 26 (.tmp 3) rfl w.heap.size rfl 26 #[.int .i64 c.W, .int .i64 c.H, .int .i64 c.height, vb, vp, .slice a3 c.robots.length cap3, .slice a4 c.stacks.length cap4, .int .i64 c.unit, .int .i64 c.accel, .int .i64 c.speed, .int .i64 c.turn, .int .i64 c.hoist, .int .i64 c.queue, .int .i64 c.resend, .int .i64 c.budget, .bool c.back] (0, 0) _ Q0.a Try.underlying26 rfl info_conf ?_)
            | (go_at_call 12; refine (cC _ Q0.below).mono ?_; rintro e w1 ⟨r1, rfl, ⟨v1, v2, v3, v4, rfl, A1⟩, b1⟩; have Q1 := Q0.go b1)
            | (go_at_call 33; refine (cN A1).mono ?_; rintro e w2 ⟨K, ps0, rfl, S2, hb2, hat2, hpm2, b2⟩; have Q2 := Q1.go b2)
            | (go_at_call 32; refine (cS _ Q2.below).mono ?_; rintro e w3 ⟨r3, rfl, rfl, b3⟩; have Q3 := Q2.go b3; have x5 := cell_of Q3.a 5; have x6 := cell_of Q3.a 6)
            | (go_at_call 13; refine (cM _ Q3.below).mono ?_; rintro e w8 ⟨r8, rfl, rfl, b8⟩; have Q8 := Q3.go b8)
            | (go_at_call 34; refine (awake8_any _).mono ?_; rintro e w9 ⟨r9, rfl, rfl, b9⟩))
      go_ret
      exact ⟨rfl, bcat Q8.below b9 (Nat.le_refl _)⟩
    · rw [hs] at cS
      by_cases hr0 : c.robots.length = 0
      · have hr1 : ((c.robots.length : Int) == 0) = true := by rw [beq_iff_eq]; omega
        clear hA L hN hAu cSR hr0
        go_enter Try.func10, Try.ntmps10
        go_wp2_with (first
              | (have X' := Q3; refine wpList_load_row rfl 26 (.tmp 3) rfl w.heap.size rfl 26 #[.int .i64 c.W, .int .i64 c.H, .int .i64 c.height, vb, vp, .slice a3 c.robots.length cap3, .slice a4 c.stacks.length cap4, .int .i64 c.unit, .int .i64 c.accel, .int .i64 c.speed, .int .i64 c.turn, .int .i64 c.hoist, .int .i64 c.queue, .int .i64 c.resend, .int .i64 c.budget, .bool c.back] (0, 0) _ Q3.a Try.underlying26 rfl info_conf ?_)
              | (have X' := Q2; refine wpList_load_row rfl 26 (.tmp 3) rfl w.heap.size rfl 26 #[.int .i64 c.W, .int .i64 c.H, .int .i64 c.height, vb, vp, .slice a3 c.robots.length cap3, .slice a4 c.stacks.length cap4, .int .i64 c.unit, .int .i64 c.accel, .int .i64 c.speed, .int .i64 c.turn, .int .i64 c.hoist, .int .i64 c.queue, .int .i64 c.resend, .int .i64 c.budget, .bool c.back] (0, 0) _ Q2.a Try.underlying26 rfl info_conf ?_)
              | (refine wpList_load_row rfl 26 (.tmp 3) rfl w.heap.size rfl 26 #[.int .i64 c.W, .int .i64 c.H, .int .i64 c.height, vb, vp, .slice a3 c.robots.length cap3, .slice a4 c.stacks.length cap4, .int .i64 c.unit, .int .i64 c.accel, .int .i64 c.speed, .int .i64 c.turn, .int .i64 c.hoist, .int .i64 c.queue, .int .i64 c.resend, .int .i64 c.budget, .bool c.back] (0, 0) _ Q0.a Try.underlying26 rfl info_conf ?_)
              | (go_at_call 12; refine (cC _ Q0.below).mono ?_; rintro e w1 ⟨r1, rfl, ⟨v1, v2, v3, v4, rfl, A1⟩, b1⟩; have Q1 := Q0.go b1)
              | (go_at_call 33; refine (cN A1).mono ?_; rintro e w2 ⟨K, ps0, rfl, S2, hb2, hat2, hpm2, b2⟩; have Q2 := Q1.go b2)
              | (go_at_call 32; refine (cS _ Q2.below).mono ?_; rintro e w3 ⟨r3, rfl, rfl, b3⟩; have Q3 := Q2.go b3; have x5 := cell_of Q3.a 5; have x6 := cell_of Q3.a 6)
              | (go_at_call 13; refine (cM _ Q3.below).mono ?_; rintro e w8 ⟨r8, rfl, rfl, b8⟩; have Q8 := Q3.go b8)
              | (go_at_call 34; refine (awake8_any _).mono ?_; rintro e w9 ⟨r9, rfl, rfl, b9⟩))
        go_ret
        exact ⟨rfl, bcat Q8.below b9 (Nat.le_refl _)⟩
      · have hr1 : ((c.robots.length : Int) == 0) = false := by rw [beq_eq_false_iff_ne]; omega
        by_cases hq0 : c.stacks.length = 0
        · have hq1 : ((c.stacks.length : Int) == 0) = true := by rw [beq_iff_eq]; omega
          clear hA L hN hAu cSR hr0 hq0
          go_enter Try.func10, Try.ntmps10
          go_wp2_with (first
                | (have X' := Q3; refine wpList_load_row rfl 26 (.tmp 3) rfl w.heap.size rfl 26 #[.int .i64 c.W, .int .i64 c.H, .int .i64 c.height, vb, vp, .slice a3 c.robots.length cap3, .slice a4 c.stacks.length cap4, .int .i64 c.unit, .int .i64 c.accel, .int .i64 c.speed, .int .i64 c.turn, .int .i64 c.hoist, .int .i64 c.queue, .int .i64 c.resend, .int .i64 c.budget, .bool c.back] (0, 0) _ Q3.a Try.underlying26 rfl info_conf ?_)
                | (have X' := Q2; refine wpList_load_row rfl 26 (.tmp 3) rfl w.heap.size rfl 26 #[.int .i64 c.W, .int .i64 c.H, .int .i64 c.height, vb, vp, .slice a3 c.robots.length cap3, .slice a4 c.stacks.length cap4, .int .i64 c.unit, .int .i64 c.accel, .int .i64 c.speed, .int .i64 c.turn, .int .i64 c.hoist, .int .i64 c.queue, .int .i64 c.resend, .int .i64 c.budget, .bool c.back] (0, 0) _ Q2.a Try.underlying26 rfl info_conf ?_)
                | (refine wpList_load_row rfl 26 (.tmp 3) rfl w.heap.size rfl 26 #[.int .i64 c.W, .int .i64 c.H, .int .i64 c.height, vb, vp, .slice a3 c.robots.length cap3, .slice a4 c.stacks.length cap4, .int .i64 c.unit, .int .i64 c.accel, .int .i64 c.speed, .int .i64 c.turn, .int .i64 c.hoist, .int .i64 c.queue, .int .i64 c.resend, .int .i64 c.budget, .bool c.back] (0, 0) _ Q0.a Try.underlying26 rfl info_conf ?_)
                | (go_at_call 12; refine (cC _ Q0.below).mono ?_; rintro e w1 ⟨r1, rfl, ⟨v1, v2, v3, v4, rfl, A1⟩, b1⟩; have Q1 := Q0.go b1)
                | (go_at_call 33; refine (cN A1).mono ?_; rintro e w2 ⟨K, ps0, rfl, S2, hb2, hat2, hpm2, b2⟩; have Q2 := Q1.go b2)
                | (go_at_call 32; refine (cS _ Q2.below).mono ?_; rintro e w3 ⟨r3, rfl, rfl, b3⟩; have Q3 := Q2.go b3; have x5 := cell_of Q3.a 5; have x6 := cell_of Q3.a 6)
                | (go_at_call 13; refine (cM _ Q3.below).mono ?_; rintro e w8 ⟨r8, rfl, rfl, b8⟩; have Q8 := Q3.go b8)
                | (go_at_call 34; refine (awake8_any _).mono ?_; rintro e w9 ⟨r9, rfl, rfl, b9⟩))
          go_ret
          exact ⟨rfl, bcat Q8.below b9 (Nat.le_refl _)⟩
        · have hq1 : ((c.stacks.length : Int) == 0) = false := by rw [beq_eq_false_iff_ne]; omega
          have HA : Hid (ConfAt (Old w) c vb vp (.slice a3 c.robots.length cap3) (.slice a4 c.stacks.length cap4) w) := hA
          have HN : Hid (newP c = some G) := hN
          have HMY : Hid (mayBeP (c.stacks.flatMap Prod.snd)) := hmy
          have HSR : Hid _ := cSR
          clear hA L hN hAu hmy cM cSR
          go_enter Try.func10, Try.ntmps10
          go_wp2_with (first
                | (have X' := Q3; refine wpList_load_row rfl 26 (.tmp 3) rfl w.heap.size rfl 26 #[.int .i64 c.W, .int .i64 c.H, .int .i64 c.height, vb, vp, .slice a3 c.robots.length cap3, .slice a4 c.stacks.length cap4, .int .i64 c.unit, .int .i64 c.accel, .int .i64 c.speed, .int .i64 c.turn, .int .i64 c.hoist, .int .i64 c.queue, .int .i64 c.resend, .int .i64 c.budget, .bool c.back] (0, 0) _ Q3.a Try.underlying26 rfl info_conf ?_)
                | (have X' := Q2; refine wpList_load_row rfl 26 (.tmp 3) rfl w.heap.size rfl 26 #[.int .i64 c.W, .int .i64 c.H, .int .i64 c.height, vb, vp, .slice a3 c.robots.length cap3, .slice a4 c.stacks.length cap4, .int .i64 c.unit, .int .i64 c.accel, .int .i64 c.speed, .int .i64 c.turn, .int .i64 c.hoist, .int .i64 c.queue, .int .i64 c.resend, .int .i64 c.budget, .bool c.back] (0, 0) _ Q2.a Try.underlying26 rfl info_conf ?_)
                | (refine wpList_load_row rfl 26 (.tmp 3) rfl w.heap.size rfl 26 #[.int .i64 c.W, .int .i64 c.H, .int .i64 c.height, vb, vp, .slice a3 c.robots.length cap3, .slice a4 c.stacks.length cap4, .int .i64 c.unit, .int .i64 c.accel, .int .i64 c.speed, .int .i64 c.turn, .int .i64 c.hoist, .int .i64 c.queue, .int .i64 c.resend, .int .i64 c.budget, .bool c.back] (0, 0) _ Q0.a Try.underlying26 rfl info_conf ?_)
                | (go_at_call 12; refine (cC _ Q0.below).mono ?_; rintro e w1 ⟨r1, rfl, ⟨v1, v2, v3, v4, rfl, A1⟩, b1⟩; have Q1 := Q0.go b1)
                | (go_at_call 33; refine (cN A1).mono ?_; rintro e w2 ⟨K, ps0, rfl, S2, hb2, hat2, hpm2, b2⟩; have Q2 := Q1.go b2)
                | (go_at_call 32; refine (cS _ Q2.below).mono ?_; rintro e w3 ⟨r3, rfl, rfl, b3⟩; have Q3 := Q2.go b3; have x5 := cell_of Q3.a 5; have x6 := cell_of Q3.a 6)
                | (go_at_call 13; refine (cM _ Q3.below).mono ?_; rintro e w8 ⟨r8, rfl, rfl, b8⟩; have Q8 := Q3.go b8)
                | (go_at_call 34; refine (awake8_any _).mono ?_; rintro e w9 ⟨r9, rfl, rfl, b9⟩))
          have S3 := S2.go b3
          obtain ⟨k, hk, hklt⟩ := place_in which c.stacks.length (by omega)
          have cPl := fun u => place_ret which (c.stacks.length : Nat) u (by omega) (by omega)
          rw [hk] at cPl
          have hpl := placed_one HN.out (List.getElem_mem hklt)
          have hs5 := l5 _ (List.getElem_mem hklt)
          obtain ⟨p4, cs4, cap4', hv4, _, ⟨vb2, e4, hLb⟩, hrd4⟩ := HA.out.s.item hklt
          subst e4
          injection hv4 with h1 h2 h3
          subst h1
          subst h3
          clear h2
          obtain ⟨ab, capb, hvb, hnb⟩ := hLb.form
          subst hvb
          generalize c.stacks[k]'hklt = sk at hpl hs5 hLb hrd4 hnb
          obtain ⟨⟨x2, y2⟩, Bs⟩ := sk
          simp only at hpl hs5 hLb hrd4 hnb
          obtain ⟨hpl1, hst2, hbh⟩ := hpl
          obtain ⟨n, hn⟩ : ∃ n, Bs.length = n := ⟨_, rfl⟩
          have Hn : Hid (Bs.length = n) := hn
          rw [hn] at hLb hrd4 hnb hbh hs5
          have HLb : Hid (ListAt 1 intEl (Old w) Bs (.slice ab n capb) w) := hLb
          have HR4 : Hid (∀ u, Below w.heap.size w u → ∀ jj z, #[Value.int .i64 x2, .int .i64 y2, .slice ab n capb][jj]? = some z → u.cell? ((p4.add (k * 3)).add jj) = some z) := fun u b jj z hz => cell_below (hrd4 jj z hz) b
          have HP1 : Hid (placed c.stacks (x2, y2) = Bs) := hpl1
          have hos2 : openU c.W c.H G.uses (x2, y2) = true := by rw [open_same HN.out (x2, y2)]; exact decide_eq_true hst2.1
          have HO2 : Hid (openU c.W c.H G.uses (x2, y2) = true) := hos2
          clear hpl1 hst2 hos2 hrd4 hLb hn
          obtain ⟨IH, hIH⟩ : ∃ I : World → Prop, I = Below w3.heap.size w3 := ⟨_, rfl⟩
          have kI : ∀ u, IH u → Below w3.heap.size w3 u := fun u hu => by rw [hIH] at hu; exact hu
          have hS : IH w3.drew := by rw [hIH]; exact (Below.refl _ _).drew
          have D0 : Below w3.heap.size w3 w3.drew := (Below.refl _ _).drew
          have z6 : ∀ u, IH u → u.cell? ⟨w.heap.size, 6, none⟩ = some (.slice (some p4) c.stacks.length cap4) := fun u hu => cell_below x6 (kI u hu)
          have HRd : Hid (∀ u, IH u → ∀ jj z, #[Value.int .i64 x2, .int .i64 y2, .slice ab n capb][jj]? = some z → u.cell? ((p4.add (k * 3)).add jj) = some z) := fun u hu => HR4.out u (bcat Q3.below (kI u hu) (Nat.le_refl _))
          have hS9 : IH (w3.drew.alloc (.cells #[Value.int .i64 0, .int .i64 0, .slice none 0 0] 89)) := by rw [hIH]; exact below_new D0 _
          have hSX : IH (w3.drew.alloc (.cells #[.int .i64 x2, .int .i64 y2, .slice ab n capb] 89)) := by rw [hIH]; exact below_new D0 _
          refine start_held (S := IH) 11 rfl (by kernel_rfl) (hS) ?_
          simp only [Array.replicate_succ, Array.replicate_zero, List.push_toArray, List.nil_append, List.cons_append]
          refine take_held 0 (by assumption) rfl (by kernel_rfl) (by kernel_rfl) (by kernel_rfl) (fun _ _ _ h => h) (by kernel_rfl) (v := ?v0) ?y0 ?r0
          case y0 => (intro u hu; go_simp; try rfl)
          simp only [Act.put, List.setIfInBounds_toArray, List.set_cons_zero, List.set_cons_succ]
          refine take_held 1 (by assumption) rfl (by kernel_rfl) (by kernel_rfl) (by kernel_rfl) (fun _ _ _ h => h) (by kernel_rfl) (v := ?v1) ?y1 ?r1
          case y1 => (intro u hu; have zz0 := z6 u hu; go_simp; try rfl)
          simp only [Act.put, List.setIfInBounds_toArray, List.set_cons_zero, List.set_cons_succ]
          refine take_held 2 (by assumption) rfl (by kernel_rfl) (by kernel_rfl) (by kernel_rfl) (fun _ _ _ h => h) (by kernel_rfl) (v := ?v2) ?y2 ?r2
          case y2 => (intro u hu; go_simp; try rfl)
          simp only [Act.put, List.setIfInBounds_toArray, List.set_cons_zero, List.set_cons_succ]
          refine take_held 3 (by assumption) rfl (by kernel_rfl) (by kernel_rfl) (by kernel_rfl) (fun _ _ _ h => h) (by kernel_rfl) (v := ?v3) ?y3 ?r3
          case y3 => (intro u hu; go_simp; try rfl)
          simp only [Act.put, List.setIfInBounds_toArray, List.set_cons_zero, List.set_cons_succ]
          refine take_held 4 (by assumption) rfl (by kernel_rfl) (by kernel_rfl) (by kernel_rfl) (fun _ _ _ h => h) (by kernel_rfl) (v := ?v4) ?y4 ?r4
          case y4 => (intro u hu; have zz0 := z6 u hu; go_simp; try rfl)
          simp only [Act.put, List.setIfInBounds_toArray, List.set_cons_zero, List.set_cons_succ]
          refine take_held 5 (by assumption) rfl (by kernel_rfl) (by kernel_rfl) (by kernel_rfl) (fun _ _ _ h => h) (by kernel_rfl) (v := ?v5) ?y5 ?r5
          case y5 => (intro u hu; go_simp; try rfl)
          simp only [Act.put, List.setIfInBounds_toArray, List.set_cons_zero, List.set_cons_succ]
          refine wpAnyH_ready (rs := [6, 9]) (by kernel_rfl) (by simp) (AllReadyH.cons ((nth_eq _ 6).trans rfl) ?_ (AllReadyH.cons ((nth_eq _ 9).trans rfl) ?_ AllReadyH.nil))
          · intro K' hK
            refine call_in hK (by kernel_rfl) 24 #[.int .i64 which, .int .i64 (c.stacks.length : Nat)] (by go_simp) _ (cPl _) ?_
            rintro v wp ⟨rfl, hwp⟩
            rw [hwp]
            clear hwp wp
            refine ⟨by assumption, ?_⟩
            simp only [Act.put, List.setIfInBounds_toArray, List.set_cons_zero, List.set_cons_succ]
            refine take_held 7 (by assumption) rfl (by kernel_rfl) (by kernel_rfl) (by kernel_rfl) (fun _ _ _ h => h) (by kernel_rfl) (v := ?v6) ?y6 ?r6
            case y6 => (intro u hu; go_simp; try rfl)
            simp only [Act.put, List.setIfInBounds_toArray, List.set_cons_zero, List.set_cons_succ]
            refine take_held 8 (by assumption) rfl (by kernel_rfl) (by kernel_rfl) (by kernel_rfl) (fun _ _ _ h => h) (by kernel_rfl) (v := .agg #[.int .i64 x2, .int .i64 y2, .slice ab n capb]) ?y7 ?r7
            case y7 => (intro u hu; exact run_load_op 89 _ rfl (p4.add (k * 3)) _ rfl (HRd.out u hu) (aggStack u) infoStack0)
            simp only [Act.put, List.setIfInBounds_toArray, List.set_cons_zero, List.set_cons_succ]
            refine wpAnyH_ready (rs := [9]) (by kernel_rfl) (by simp) (AllReadyH.cons ((nth_eq _ 9).trans rfl) ?_ AllReadyH.nil)
            intro K' hK
            refine value_in hK (by kernel_rfl) (.pointer (some ⟨w3.drew.heap.size, 0, none⟩)) (w3.drew.alloc (.cells #[Value.int .i64 0, .int .i64 0, .slice none 0 0] 89)) (by go_simp) (by rw [hIH]; exact below_new D0 _) ?_
            simp only [Act.put, List.setIfInBounds_toArray, List.set_cons_zero, List.set_cons_succ]
            refine wpAnyH_ready (rs := [10]) (by kernel_rfl) (by simp) (AllReadyH.cons ((nth_eq _ 10).trans rfl) ?_ AllReadyH.nil)
            intro K' hK
            refine skip_in hK (by kernel_rfl) (w3.drew.alloc (.cells #[.int .i64 x2, .int .i64 y2, .slice ab n capb] 89)) (by go_simp) (by rw [hIH]; exact below_new D0 _) ?_
            simp only [Act.put, List.setIfInBounds_toArray, List.set_cons_zero, List.set_cons_succ]
            refine done_held (by kernel_rfl) ?_ _
            as_aux_lemma =>
              obtain ⟨w4, hw4⟩ : ∃ w4, w3.drew.alloc (.cells #[.int .i64 x2, .int .i64 y2, .slice ab n capb] 89) = w4 := ⟨_, rfl⟩
              have b4 : Below w3.heap.size w3 w4 := by rw [← hw4]; exact below_new D0 _
              have e4 : w4.heap[w3.heap.size]? = some (.cells #[.int .i64 x2, .int .i64 y2, .slice ab n capb] 89 (0, 0)) := by rw [← hw4]; exact heap_alloc_new w3.drew _
              rw [hw4]
              clear hw4
              have Q4 := Q3.go b4
              have S4 := S3.go b4
              have hbx : w3.heap.size < w4.heap.size := lt_of_heap e4
              have k0 : w4.cell? ⟨w3.heap.size, 0, none⟩ = some (.int .i64 x2) := cell_of e4 0
              have k1 : w4.cell? ⟨w3.heap.size, 1, none⟩ = some (.int .i64 y2) := cell_of e4 1
              have k2 : w4.cell? ⟨w3.heap.size, 2, none⟩ = some (.slice ab n capb) := cell_of e4 2
              by_cases hst : stackedR c (x, y)
              case neg =>
                have dst : decide (stackedR c (x, y)) = false := decide_eq_false hst
                go_wp2_with (first
                    | (refine wpList_load_row rfl 26 (.tmp 3) rfl w.heap.size rfl 26 #[.int .i64 c.W, .int .i64 c.H, .int .i64 c.height, vb, vp, .slice a3 c.robots.length cap3, .slice (some p4) c.stacks.length cap4, .int .i64 c.unit, .int .i64 c.accel, .int .i64 c.speed, .int .i64 c.turn, .int .i64 c.hoist, .int .i64 c.queue, .int .i64 c.resend, .int .i64 c.budget, .bool c.back] (0, 0) _ Q4.a Try.underlying26 rfl info_conf ?_)
                    | (refine wpList_load_row rfl 28 (.tmp 5) rfl (w.heap.size + 1) rfl 28 #[.int .i64 x, .int .i64 y] (0, 0) _ Q4.b Try.underlying28 rfl infoCell2 ?_)
                    | (go_at_call 53; refine (HSR.out _ Q4.below).mono ?_; rintro e w5 ⟨r5, rfl, e5, b5⟩; rw [dst] at e5; subst e5; have Q5 := Q4.go b5)
                    | (go_at_call 34; refine (awake8_any _).mono ?_; rintro e w9 ⟨r9, rfl, rfl, b9⟩))
                go_ret
                exact ⟨rfl, bcat Q5.below b9 (Nat.le_refl _)⟩
              case pos =>
                have dst : decide (stackedR c (x, y)) = true := decide_eq_true hst
                have hos : openU c.W c.H G.uses (x, y) = true := by rw [open_same HN.out (x, y)]; exact decide_eq_true hst.1
                obtain ⟨kT, pT, hkT, hpT, hpTx⟩ := open_num S4 hos
                have hTl : pT.2.2 = placed c.stacks (x, y) := by have e := hat2 kT pT hpT; rw [hpTx] at e; exact e
                have hsm := S4.small kT pT hpT
                have HSTO : Hid (stackedR c (x, y)) := hst
                by_cases hh : pT.2.2.length = 0
                case neg =>
                  have hn0 : (((pT.2.2.length : Nat) : Int) == 0) = false := by rw [beq_eq_false_iff_ne]; omega
                  have hn1 : (((pT.2.2.length : Nat) : Int) != 0) = true := by simp [hh]
                  have cH := fun u (q : StAt K c G.uses ps0 (List.replicate c.robots.length 0) u) => height_yes q x y hos hkT hpT
                  generalize pT.2.2.length = hT at *
                  clear hst hh hTl
                  go_wp2_with (first
                      | (refine wpList_load_row rfl 26 (.tmp 3) rfl w.heap.size rfl 26 #[.int .i64 c.W, .int .i64 c.H, .int .i64 c.height, vb, vp, .slice a3 c.robots.length cap3, .slice (some p4) c.stacks.length cap4, .int .i64 c.unit, .int .i64 c.accel, .int .i64 c.speed, .int .i64 c.turn, .int .i64 c.hoist, .int .i64 c.queue, .int .i64 c.resend, .int .i64 c.budget, .bool c.back] (0, 0) _ Q4.a Try.underlying26 rfl info_conf ?_)
                      | (have X' := Q5; refine wpList_load_want (by kernel_rfl) 28 (.tmp 5) rfl (w.heap.size + 1) rfl 28 #[.int .i64 x, .int .i64 y] (0, 0) Q5.b Try.underlying28 infoCell2 ?_)
                      | (refine wpList_load_row rfl 28 (.tmp 5) rfl (w.heap.size + 1) rfl 28 #[.int .i64 x, .int .i64 y] (0, 0) _ Q4.b Try.underlying28 rfl infoCell2 ?_)
                      | (go_at_call 53; refine (HSR.out _ Q4.below).mono ?_; rintro e w5 ⟨r5, rfl, e5, b5⟩; rw [dst] at e5; subst e5; have Q5 := Q4.go b5; have S5 := S4.go b5; have y0 : w5.cell? ⟨w.heap.size + 1, 0, none⟩ = some (.int .i64 x) := cell_of Q5.b 0; have y1 : w5.cell? ⟨w.heap.size + 1, 1, none⟩ = some (.int .i64 y) := cell_of Q5.b 1; have bb0 := cell_below k0 b5; have bb1 := cell_below k1 b5)
                      | (go_at_call 40; refine (cH _ S5).mono ?_; rintro e w6 ⟨r6, rfl, rfl, b6⟩; have Q6 := Q5.go b6)
                      | (go_at_call 34; refine (awake8_any _).mono ?_; rintro e w9 ⟨r9, rfl, rfl, b9⟩))
                  go_ret
                  exact ⟨rfl, bcat Q6.below b9 (Nat.le_refl _)⟩
                case pos =>
                  have hTn : pT.2.2 = [] := List.eq_nil_of_length_eq_zero hh
                  have cH := fun u (q : StAt K c G.uses ps0 (List.replicate c.robots.length 0) u) => height_yes q x y hos hkT hpT
                  simp only [hh] at cH
                  have HST2 : Hid _ := hst
                  by_cases heq : (x, y) = (x2, y2)
                  case pos =>
                    have HDQ : Hid (decide ((x, y) = (x2, y2)) = true) := decide_eq_true heq
                    clear hst heq hTl hTn
                    go_wp2_with (first
                        | (refine wpList_load_row rfl 26 (.tmp 3) rfl w.heap.size rfl 26 #[.int .i64 c.W, .int .i64 c.H, .int .i64 c.height, vb, vp, .slice a3 c.robots.length cap3, .slice (some p4) c.stacks.length cap4, .int .i64 c.unit, .int .i64 c.accel, .int .i64 c.speed, .int .i64 c.turn, .int .i64 c.hoist, .int .i64 c.queue, .int .i64 c.resend, .int .i64 c.budget, .bool c.back] (0, 0) _ Q4.a Try.underlying26 rfl info_conf ?_)
                        | (have X' := Q6; refine wpList_load_want (by kernel_rfl) 28 (.tmp 5) rfl (w.heap.size + 1) rfl 28 #[.int .i64 x, .int .i64 y] (0, 0) Q6.b Try.underlying28 infoCell2 ?_)
                        | (have X' := Q5; refine wpList_load_want (by kernel_rfl) 28 (.tmp 5) rfl (w.heap.size + 1) rfl 28 #[.int .i64 x, .int .i64 y] (0, 0) Q5.b Try.underlying28 infoCell2 ?_)
                        | (refine wpList_load_row rfl 28 (.tmp 5) rfl (w.heap.size + 1) rfl 28 #[.int .i64 x, .int .i64 y] (0, 0) _ Q4.b Try.underlying28 rfl infoCell2 ?_)
                        | (go_at_call 53; refine (HSR.out _ Q4.below).mono ?_; rintro e w5 ⟨r5, rfl, e5, b5⟩; rw [dst] at e5; subst e5; have Q5 := Q4.go b5; have S5 := S4.go b5; have y0 : w5.cell? ⟨w.heap.size + 1, 0, none⟩ = some (.int .i64 x) := cell_of Q5.b 0; have y1 : w5.cell? ⟨w.heap.size + 1, 1, none⟩ = some (.int .i64 y) := cell_of Q5.b 1; have bb0 := cell_below k0 b5; have bb1 := cell_below k1 b5)
                        | (go_at_call 40; refine (cH _ S5).mono ?_; rintro e w6 ⟨r6, rfl, rfl, b6⟩; have Q6 := Q5.go b6; have u0 : w6.cell? ⟨w3.heap.size, 0, none⟩ = some (.int .i64 x2) := cell_below bb0 b6; have u1 : w6.cell? ⟨w3.heap.size, 1, none⟩ = some (.int .i64 y2) := cell_below bb1 b6; clear y0 y1)
                        | (refine wpList_val_want (by kernel_rfl) (.bool true) (by rw [← HDQ.out]; exact run_eql_cell _ _ rfl x y x2 y2 rfl rfl) ?_)
                        | (go_at_call 34; refine (awake8_any _).mono ?_; rintro e w9 ⟨r9, rfl, rfl, b9⟩))
                    go_ret
                    exact ⟨rfl, bcat Q6.below b9 (Nat.le_refl _)⟩
                  case neg =>
                    have HDQ : Hid (decide ((x, y) = (x2, y2)) = false) := decide_eq_false heq
                    obtain ⟨ki, p2, hk2, hp2, hp2x⟩ := open_num S4 HO2.out
                    have h2l : p2.2.2 = Bs := by have e := hat2 ki p2 hp2; rw [hp2x] at e; rw [e]; exact HP1.out
                    have ne : ki ≠ kT := fun e => by subst e; rw [hp2] at hpT; cases hpT; exact heq (hpTx.symm.trans hp2x)
                    have HBN := first_bins (n := c.robots.length) HMY.out hpm2
                    have HND : Hid ((allB ps0 (List.replicate c.robots.length 0)).Nodup) := HBN.1
                    have HNZ : Hid (∀ z ∈ allB ps0 (List.replicate c.robots.length 0), z ≠ 0) := HBN.2
                    have hrm : (Bs.length : Int) ≤ roomP c G.uses (x, y) := by rw [room_eq HN.out, if_pos ((portP_neg _ _ _).2 HSTO.out.2.1), if_pos HSTO.out, Hn.out]; exact hbh
                    have HRM : Hid _ := hrm
                    have HNE : Hid (ki ≠ kT) := ne
                    have HK2 : Hid (number c.W c.H (x2, y2) = (ki : Nat)) := hk2
                    have HKT : Hid (number c.W c.H (x, y) = (kT : Nat)) := hkT
                    have HOT : Hid (openU c.W c.H G.uses (x, y) = true) := hos
                    have HFG : Hid (∀ b, Foot K ps0 b → w.heap.size + 2 ≤ b) := fun b q => by have h1 := S4.foot_ge b q; have h2 := lt_of_heap Q1.b; omega
                    have HFL : Hid (∀ b, Foot K ps0 b → b < w3.heap.size) := S3.foot_lt
                    have HA2 : Hid (∃ p, ps0[ki]? = some p ∧ p.2.2 = Bs) := ⟨p2, hp2, h2l⟩
                    have HAT : Hid (∃ p, ps0[kT]? = some p ∧ p.2.2 = []) := ⟨pT, hpT, hTn⟩
                    have HE4 : Hid _ := e4
                    clear hst heq hTl hTn hk2 hp2 hp2x h2l ne HBN hrm hsm hpTx e4 hat2 hpm2
                    go_wp2_with (first
                        | (refine wpList_load_row rfl 26 (.tmp 3) rfl w.heap.size rfl 26 #[.int .i64 c.W, .int .i64 c.H, .int .i64 c.height, vb, vp, .slice a3 c.robots.length cap3, .slice (some p4) c.stacks.length cap4, .int .i64 c.unit, .int .i64 c.accel, .int .i64 c.speed, .int .i64 c.turn, .int .i64 c.hoist, .int .i64 c.queue, .int .i64 c.resend, .int .i64 c.budget, .bool c.back] (0, 0) _ Q4.a Try.underlying26 rfl info_conf ?_)
                        | (have X' := Q6; refine wpList_load_want (by kernel_rfl) 28 (.tmp 5) rfl (w.heap.size + 1) rfl 28 #[.int .i64 x, .int .i64 y] (0, 0) Q6.b Try.underlying28 infoCell2 ?_)
                        | (have X' := Q5; refine wpList_load_want (by kernel_rfl) 28 (.tmp 5) rfl (w.heap.size + 1) rfl 28 #[.int .i64 x, .int .i64 y] (0, 0) Q5.b Try.underlying28 infoCell2 ?_)
                        | (refine wpList_load_row rfl 28 (.tmp 5) rfl (w.heap.size + 1) rfl 28 #[.int .i64 x, .int .i64 y] (0, 0) _ Q4.b Try.underlying28 rfl infoCell2 ?_)
                        | (go_at_call 53; refine (HSR.out _ Q4.below).mono ?_; rintro e w5 ⟨r5, rfl, e5, b5⟩; rw [dst] at e5; subst e5; have Q5 := Q4.go b5; have S5 := S4.go b5; have y0 : w5.cell? ⟨w.heap.size + 1, 0, none⟩ = some (.int .i64 x) := cell_of Q5.b 0; have y1 : w5.cell? ⟨w.heap.size + 1, 1, none⟩ = some (.int .i64 y) := cell_of Q5.b 1; have bb0 := cell_below k0 b5; have bb1 := cell_below k1 b5)
                        | (go_at_call 40; refine (cH _ S5).mono ?_; rintro e w6 ⟨r6, rfl, rfl, b6⟩; have Q6 := Q5.go b6; have u0 : w6.cell? ⟨w3.heap.size, 0, none⟩ = some (.int .i64 x2) := cell_below bb0 b6; have u1 : w6.cell? ⟨w3.heap.size, 1, none⟩ = some (.int .i64 y2) := cell_below bb1 b6; clear y0 y1)
                        | (refine wpList_val_want (by kernel_rfl) (.bool false) (by rw [← HDQ.out]; exact run_eql_cell _ _ rfl x y x2 y2 rfl rfl) ?_))
                    have e6 : w6.heap[w3.heap.size]? = some (.cells #[.int .i64 x2, .int .i64 y2, .slice ab n capb] 89 (0, 0)) := ((b6.block _ (Nat.lt_of_lt_of_le hbx b5.size)).trans (b5.block _ hbx)).trans HE4.out
                    have HTw : Hid (∀ ps u, Turn K ps0 ps w6 u → Two w #[.int .i64 c.W, .int .i64 c.H, .int .i64 c.height, vb, vp, .slice a3 c.robots.length cap3, .slice (some p4) c.stacks.length cap4, .int .i64 c.unit, .int .i64 c.accel, .int .i64 c.speed, .int .i64 c.turn, .int .i64 c.hoist, .int .i64 c.queue, .int .i64 c.resend, .int .i64 c.budget, .bool c.back] #[.int .i64 x, .int .i64 y] 28 u) := fun ps u T => two_turn Q6 T HFG.out
                    have HBX : Hid (∀ ps u, Turn K ps0 ps w6 u → u.heap[w3.heap.size]? = some (.cells #[.int .i64 x2, .int .i64 y2, .slice ab n capb] 89 (0, 0))) := fun ps u T => (T.keep _ (lt_of_heap e6) (fun q => absurd (HFL.out _ q) (Nat.lt_irrefl _))).trans e6
                    have HF0 : Hid (∃ ps, Tu w6 K c G.uses ps0 c.robots.length ki kT Bs 0 ps w6) := by
                      obtain ⟨p2, hp2, h2l⟩ := HA2.out
                      obtain ⟨pT, hpT, hTn⟩ := HAT.out
                      exact ⟨ps0, S5.go b6, Turn.refl _ _ _, List.Perm.refl _, ⟨p2, hp2, by rw [h2l]; simp⟩, ⟨pT, hpT, by rw [hTn]; simp⟩⟩
                    have HR0 : Hid (0 < c.robots.length) := by unfold Hid; omega
                    have HQ6 : Hid (Two w #[.int .i64 c.W, .int .i64 c.H, .int .i64 c.height, vb, vp, .slice a3 c.robots.length cap3, .slice (some p4) c.stacks.length cap4, .int .i64 c.unit, .int .i64 c.accel, .int .i64 c.speed, .int .i64 c.turn, .int .i64 c.hoist, .int .i64 c.queue, .int .i64 c.resend, .int .i64 c.budget, .bool c.back] #[.int .i64 x, .int .i64 y] 28 w6) := Q6
                    have hn8 : n ≤ 8 := by have := hbh; have := S4.hi; omega
                    clear k0 k1 k2 bb0 bb1 cH S4 S5 Q4 Q5 b5 b6 e6 hpT hkT hos hh
                    go_loopw [10] (fun s10 wr => ∃ j : Nat, s10 = .int .i64 j ∧ j ≤ n ∧ Hid (∃ ps, Tu w6 K c G.uses ps0 c.robots.length ki kT Bs j ps wr)) (fun s10 _ => n - (intOf s10).toNat)
                    case atStart => exact ⟨0, rfl, Nat.zero_le _, HF0⟩
                    case round =>
                      clear HF0
                      obtain ⟨j, rfl, hj, HT⟩ := hrel
                      obtain ⟨ps, T⟩ := HT.out
                      have QR := HTw.out ps wr T.tn
                      have ER := HBX.out ps wr T.tn
                      have g0 : wr.cell? ⟨w3.heap.size, 0, none⟩ = some (.int .i64 x2) := cell_of ER 0
                      have g1 : wr.cell? ⟨w3.heap.size, 1, none⟩ = some (.int .i64 y2) := cell_of ER 1
                      have g2 : wr.cell? ⟨w3.heap.size, 2, none⟩ = some (.slice ab n capb) := cell_of ER 2
                      rcases Nat.lt_or_ge j n with hjl | hjg
                      · obtain ⟨m, hm⟩ : ∃ m, n = m + 1 + j := ⟨n - 1 - j, by omega⟩
                        have hmB : m < Bs.length := by rw [Hn.out]; omega
                        have cL := turn_lift T (by rw [Hn.out]; exact hjl) HNZ.out HNE.out HR0.out HO2.out HK2.out HOT.out HKT.out HRM.out
                        obtain ⟨z, hz⟩ : ∃ z, Bs[m]'hmB = z := ⟨_, rfl⟩
                        have hzd : Bs.getD (Bs.length - 1 - j) 0 = z := by rw [show Bs.length - 1 - j = m by rw [Hn.out]; omega, List.getD_eq_getElem?_getD, List.getElem?_eq_getElem hmB, ← hz]; rfl
                        rw [hzd] at cL
                        obtain ⟨pb, csb, capb', hvb2, _, elb, hrb⟩ := HLb.out.item hmB
                        injection hvb2 with i1 i2 i3
                        have HZC : Hid (∀ u, Below w.heap.size w u → u.cell? (pb.add m) = some (.int .i64 z)) := fun u hu => by
                          unfold intEl at elb
                          have q := hrb 0 (.int .i64 (Bs[m]'hmB)) (by rw [elb]; rfl)
                          rw [add_add, Nat.mul_one, Nat.add_zero, hz] at q
                          exact cell_below q hu
                        subst i1
                        have hjl' : (j : Int) < (n : Int) := by omega
                        have hjs : (j : Int) + 1 ≤ 1000 := by omega
                        have e1 : (n : Int) - 1 - (j : Int) = (m : Nat) := by omega
                        have hmn : (m : Int) < (n : Int) := by omega
                        have hw1 : wrap64 ((n : Int) - 1) = (n : Int) - 1 := by unfold wrap64; omega
                        clear hz hzd elb hrb i2 i3 hm QR ER
                        go_wp2_with (first
                            | (go_at_call 36; refine cL.mono ?_; rintro e w7 ⟨v7, rfl, e7, M7⟩; subst e7; obtain ⟨ps7, tn7⟩ := M7.tn; have Q7 := HTw.out ps7 w7 tn7; have E7 := HBX.out ps7 w7 tn7; have f2 : w7.cell? ⟨w3.heap.size, 2, none⟩ = some (.slice (some pb) n capb) := cell_of E7 2; have y0 : w7.cell? ⟨w.heap.size + 1, 0, none⟩ = some (.int .i64 x) := cell_of Q7.b 0; have y1 : w7.cell? ⟨w.heap.size + 1, 1, none⟩ = some (.int .i64 y) := cell_of Q7.b 1; have zc := HZC.out w7 Q7.below; have cD7 := M7.drop w7 (Below.refl _ _); clear M7 tn7 Q7 E7)
                            | (go_at_call 38; refine cD7.mono ?_; rintro e w8 ⟨v8, rfl, e8, ps8, T8⟩; subst e8))
                        go_roundw
                        case measure => simp only [intOf]; omega
                        case rel => exact ⟨j + 1, rfl, hjl, ⟨ps8, T8⟩⟩
                      · obtain ⟨W7, rfl⟩ : ∃ W7, W7 = wr := ⟨_, rfl⟩
                        have hjn : ¬ (j : Int) < (n : Int) := by omega
                        have hjB : j = Bs.length := by rw [Hn.out]; omega
                        obtain ⟨pA, hpA, eA⟩ := T.a
                        obtain ⟨pt, hpt, eT⟩ := T.t
                        rw [hjB, Nat.sub_self] at eA eT
                        have eA' : pA.2.2 = [] := by simpa using eA
                        have eT' : pt.2.2 = Bs.reverse := by simpa using eT
                        obtain ⟨k', p', hk', hp', hpx'⟩ := open_num T.st HOT.out
                        have hkk : k' = kT := by have := HKT.out; omega
                        subst hkk
                        rw [hpt] at hp'
                        cases hp'
                        have hll : Bs.reverse.length = n := by simp [Hn.out]
                        have cA := at_yes T.st x y HOT.out HKT.out hpt
                        rw [eT', hll] at cA
                        have cZ := fun u (q : StAt K c G.uses ps (List.replicate c.robots.length 0) u) => height_yes q x2 y2 HO2.out HK2.out hpA
                        simp only [eA', List.length_nil] at cZ
                        have cF := fun (u : World) (q : StAt K c G.uses ps (List.replicate c.robots.length 0) u) (i : Nat) (z : Int) (hz : Bs.reverse[i]? = some z) => find_here q ((T.pm.nodup_iff).2 HND.out) hpt (j := i) (bin := z) (by rw [eT']; exact hz)
                        simp only [eT', hll, hpx'] at cF
                        have HTs : Hid (Tu w6 K c G.uses ps0 c.robots.length ki k' Bs j ps W7) := T
                        have y0 : W7.cell? ⟨w.heap.size + 1, 0, none⟩ = some (.int .i64 x) := cell_of QR.b 0
                        have y1 : W7.cell? ⟨w.heap.size + 1, 1, none⟩ = some (.int .i64 y) := cell_of QR.b 1
                        clear hjg hjB eA eT eA' eT' hk' hpx' hpt hpA QR ER T HT
                        go_wp2_with (go_at_call 45; refine cA.mono ?_; rintro e w8 ⟨v8, rfl, o8, b8⟩)
                        obtain ⟨la, lc, el, _⟩ := own_form o8
                        subst el
                        have O8 : Hid (w8.ownsRow W7.heap.size 3 1 (.slice la n lc) n (rowL intL Bs.reverse)) := o8
                        have HB8 : Hid (Below W7.heap.size W7 w8) := b8
                        clear o8 b8 cA y0 y1 g0 g1 g2
                        go_loopw [14] (fun s14 wq => ∃ i : Nat, s14 = .int .i64 i ∧ i ≤ n ∧ Hid (Below w8.heap.size w8 wq)) (fun s14 _ => n - (intOf s14).toNat)
                        case atStart => exact ⟨0, rfl, Nat.zero_le _, Below.refl _ _⟩
                        case round =>
                          obtain ⟨i, rfl, hi, bq⟩ := hrel
                          have TQ := HTs.out.go (bcat HB8.out bq.out (Nat.le_refl _))
                          have QR := HTw.out ps wr TQ.tn
                          have ER := HBX.out ps wr TQ.tn
                          have g0 : wr.cell? ⟨w3.heap.size, 0, none⟩ = some (.int .i64 x2) := cell_of ER 0
                          have g1 : wr.cell? ⟨w3.heap.size, 1, none⟩ = some (.int .i64 y2) := cell_of ER 1
                          have g2 : wr.cell? ⟨w3.heap.size, 2, none⟩ = some (.slice ab n capb) := cell_of ER 2
                          rcases Nat.lt_or_ge i n with hil | hig
                          · obtain ⟨m, hm⟩ : ∃ m, n = m + 1 + i := ⟨n - 1 - i, by omega⟩
                            have hmB : m < Bs.length := by rw [Hn.out]; omega
                            obtain ⟨z, hz⟩ : ∃ z, Bs[m]'hmB = z := ⟨_, rfl⟩
                            have hzr : Bs.reverse[i]? = some z := by
                              rw [List.getElem?_reverse (by rw [Hn.out]; omega), show Bs.length - 1 - i = m by rw [Hn.out]; omega, List.getElem?_eq_getElem hmB, hz]
                            obtain ⟨pb, csb, capb', hvb2, _, elb, hrb⟩ := HLb.out.item hmB
                            injection hvb2 with i1 i2 i3
                            have zc : wr.cell? (pb.add m) = some (.int .i64 z) := by
                              unfold intEl at elb
                              have q := hrb 0 (.int .i64 (Bs[m]'hmB)) (by rw [elb]; rfl)
                              rw [add_add, Nat.mul_one, Nat.add_zero, hz] at q
                              exact cell_below q QR.below
                            have o9 := owns_go O8.out bq.out
                            rcases id o9.2 with ⟨_, h0⟩ | ⟨gl, cl, cur, ev, _⟩
                            · omega
                            injection ev with l1' l2' l3'
                            have lcell : wr.cell? ⟨gl, i, none⟩ = some (.int .i64 z) := by
                              rw [l1'] at o9
                              have q := o9.cellAt i (by omega)
                              rw [q]
                              rw [rowL_int, List.getElem?_map, hzr]
                              rfl
                            have cFi := cF wr.drew (TQ.st.go (Below.refl _ _).drew) i z hzr
                            subst i1
                            subst l1'
                            have hil' : (i : Int) < (n : Int) := by omega
                            have his : (i : Int) + 1 ≤ 1000 := by omega
                            have e1 : (n : Int) - 1 - (i : Int) = (m : Nat) := by omega
                            have hmn : (m : Int) < (n : Int) := by omega
                            have hw1 : wrap64 ((n : Int) - 1) = (n : Int) - 1 := by unfold wrap64; omega
                            obtain ⟨IW, hIW⟩ : ∃ S : World → Prop, S = Below wr.heap.size wr := ⟨_, rfl⟩
                            have hSd : IW wr.drew := by rw [hIW]; exact (Below.refl _ _).drew
                            have v1 : ∀ u, IW u → u.cell? ⟨gl, i, none⟩ = some (.int .i64 z) := fun u hu => by rw [hIW] at hu; exact cell_below lcell hu
                            have v2 : ∀ u, IW u → u.cell? ⟨w3.heap.size, 2, none⟩ = some (.slice (some pb) n capb) := fun u hu => by rw [hIW] at hu; exact cell_below g2 hu
                            have v3 : ∀ u, IW u → u.cell? (pb.add m) = some (.int .i64 z) := fun u hu => by rw [hIW] at hu; exact cell_below zc hu
                            have lc2 : wr.drew.cell? ⟨gl, i, none⟩ = some (.int .i64 z) := lcell
                            have QD := QR.go (Below.refl _ _).drew
                            have HQD : Hid (Two w #[.int .i64 c.W, .int .i64 c.H, .int .i64 c.height, vb, vp, .slice a3 c.robots.length cap3, .slice (some p4) c.stacks.length cap4, .int .i64 c.unit, .int .i64 c.accel, .int .i64 c.speed, .int .i64 c.turn, .int .i64 c.hoist, .int .i64 c.queue, .int .i64 c.resend, .int .i64 c.budget, .bool c.back] #[.int .i64 x, .int .i64 y] 28 wr.drew) := QD
                            clear hz hzr elb hrb i2 i3 hm ER TQ QR QD o9 l2' l3'
                            go_wp2_with fail
                            refine start_held (S := IW) 15 rfl (by kernel_rfl) (hSd) ?_
                            simp only [Array.replicate_succ, Array.replicate_zero, List.push_toArray, List.nil_append, List.cons_append]
                            refine take_held 0 (by assumption) rfl (by kernel_rfl) (by kernel_rfl) (by kernel_rfl) (fun _ _ _ h => h) (by kernel_rfl) (v := ?v8) ?y8 ?r8
                            case y8 => (intro u hu; go_simp; try rfl)
                            simp only [Act.put, List.setIfInBounds_toArray, List.set_cons_zero, List.set_cons_succ]
                            refine take_held 1 (by assumption) rfl (by kernel_rfl) (by kernel_rfl) (by kernel_rfl) (fun _ _ _ h => h) (by kernel_rfl) (v := ?v9) ?y9 ?r9
                            case y9 => (intro u hu; go_simp; try rfl)
                            simp only [Act.put, List.setIfInBounds_toArray, List.set_cons_zero, List.set_cons_succ]
                            refine take_held 2 (by assumption) rfl (by kernel_rfl) (by kernel_rfl) (by kernel_rfl) (fun _ _ _ h => h) (by kernel_rfl) (v := ?v10) ?y10 ?r10
                            case y10 => (intro u hu; go_simp; try rfl)
                            simp only [Act.put, List.setIfInBounds_toArray, List.set_cons_zero, List.set_cons_succ]
                            refine take_held 3 (by assumption) rfl (by kernel_rfl) (by kernel_rfl) (by kernel_rfl) (fun _ _ _ h => h) (by kernel_rfl) (v := ?v11) ?y11 ?r11
                            case y11 => (intro u hu; have zz0 := v1 u hu; go_simp; try rfl)
                            simp only [Act.put, List.setIfInBounds_toArray, List.set_cons_zero, List.set_cons_succ]
                            refine take_held 4 (by assumption) rfl (by kernel_rfl) (by kernel_rfl) (by kernel_rfl) (fun _ _ _ h => h) (by kernel_rfl) (v := ?v12) ?y12 ?r12
                            case y12 => (intro u hu; go_simp; try rfl)
                            simp only [Act.put, List.setIfInBounds_toArray, List.set_cons_zero, List.set_cons_succ]
                            refine take_held 5 (by assumption) rfl (by kernel_rfl) (by kernel_rfl) (by kernel_rfl) (fun _ _ _ h => h) (by kernel_rfl) (v := ?v13) ?y13 ?r13
                            case y13 => (intro u hu; have zz0 := v2 u hu; go_simp; try rfl)
                            simp only [Act.put, List.setIfInBounds_toArray, List.set_cons_zero, List.set_cons_succ]
                            refine take_held 6 (by assumption) rfl (by kernel_rfl) (by kernel_rfl) (by kernel_rfl) (fun _ _ _ h => h) (by kernel_rfl) (v := ?v14) ?y14 ?r14
                            case y14 => (intro u hu; go_simp; try rfl)
                            simp only [Act.put, List.setIfInBounds_toArray, List.set_cons_zero, List.set_cons_succ]
                            refine take_held 7 (by assumption) rfl (by kernel_rfl) (by kernel_rfl) (by kernel_rfl) (fun _ _ _ h => h) (by kernel_rfl) (v := ?v15) ?y15 ?r15
                            case y15 => (intro u hu; have zz0 := v2 u hu; go_simp; try rfl)
                            simp only [Act.put, List.setIfInBounds_toArray, List.set_cons_zero, List.set_cons_succ]
                            refine take_held 8 (by assumption) rfl (by kernel_rfl) (by kernel_rfl) (by kernel_rfl) (fun _ _ _ h => h) (by kernel_rfl) (v := ?v16) ?y16 ?r16
                            case y16 => (intro u hu; go_simp; try rfl)
                            simp only [Act.put, List.setIfInBounds_toArray, List.set_cons_zero, List.set_cons_succ]
                            refine take_held 9 (by assumption) rfl (by kernel_rfl) (by kernel_rfl) (by kernel_rfl) (fun _ _ _ h => h) (by kernel_rfl) (v := .int .i64 ((n : Int) - 1)) ?y17 ?r17
                            case y17 => (intro u hu; have hw : IntKind.i64.wrap ((n : Int) - 1) = (n : Int) - 1 := (by rw [IntKind.wrap_i64]; omega); go_simp; try rw [hw]; try rfl)
                            simp only [Act.put, List.setIfInBounds_toArray, List.set_cons_zero, List.set_cons_succ]
                            refine take_held 10 (by assumption) rfl (by kernel_rfl) (by kernel_rfl) (by kernel_rfl) (fun _ _ _ h => h) (by kernel_rfl) (v := ?v18) ?y18 ?r18
                            case y18 => (intro u hu; go_simp; try rfl)
                            simp only [Act.put, List.setIfInBounds_toArray, List.set_cons_zero, List.set_cons_succ]
                            refine take_held 11 (by assumption) rfl (by kernel_rfl) (by kernel_rfl) (by kernel_rfl) (fun _ _ _ h => h) (by kernel_rfl) (v := .int .i64 (m : Nat)) ?y19 ?r19
                            case y19 => (intro u hu; have hw2 : IntKind.i64.wrap ((m : Nat) : Int) = (m : Nat) := (by rw [IntKind.wrap_i64]; omega); go_simp; try rw [hw2]; try rfl)
                            simp only [Act.put, List.setIfInBounds_toArray, List.set_cons_zero, List.set_cons_succ]
                            refine take_held 12 (by assumption) rfl (by kernel_rfl) (by kernel_rfl) (by kernel_rfl) (fun _ _ _ h => h) (by kernel_rfl) (v := ?v20) ?y20 ?r20
                            case y20 => (intro u hu; go_simp; try rfl)
                            simp only [Act.put, List.setIfInBounds_toArray, List.set_cons_zero, List.set_cons_succ]
                            refine take_held 13 (by assumption) rfl (by kernel_rfl) (by kernel_rfl) (by kernel_rfl) (fun _ _ _ h => h) (by kernel_rfl) (v := ?v21) ?y21 ?r21
                            case y21 => (intro u hu; have zz0 := v3 u hu; go_simp; try rfl)
                            simp only [Act.put, List.setIfInBounds_toArray, List.set_cons_zero, List.set_cons_succ]
                            refine take_held 14 (by assumption) rfl (by kernel_rfl) (by kernel_rfl) (by kernel_rfl) (fun _ _ _ h => h) (by kernel_rfl) (v := .bool false) ?y22 ?r22
                            case y22 => (intro u hu; go_simp; try simp)
                            simp only [Act.put, List.setIfInBounds_toArray, List.set_cons_zero, List.set_cons_succ]
                            refine done_held (by kernel_rfl) ?_ _
                            go_wp2_with (first
                                | (go_at_call 48; refine cFi.mono ?_; rintro e w9 ⟨v9, rfl, e9, b9⟩; subst e9; obtain ⟨w10, hw10⟩ : ∃ u, w9.alloc (.cells #[.int .i64 x, .int .i64 y] 28) = u := ⟨_, rfl⟩; have b10 : Below w9.heap.size w9 w10 := (by rw [← hw10]; exact (Below.refl _ _).alloc (Nat.le_refl _) _); have a0 : w10.cell? ⟨w9.heap.size, 0, none⟩ = some (.int .i64 x) := (by rw [← hw10]; simp); have a1 : w10.cell? ⟨w9.heap.size, 1, none⟩ = some (.int .i64 y) := (by rw [← hw10]; simp); have Q10 := (HQD.out.go b9).go b10; have y0 : w10.cell? ⟨w.heap.size + 1, 0, none⟩ = some (.int .i64 x) := cell_of Q10.b 0; have y1 : w10.cell? ⟨w.heap.size + 1, 1, none⟩ = some (.int .i64 y) := cell_of Q10.b 1; have HB10 : Hid (Below w8.heap.size w8 w10) := bcat bq.out (bcat (Below.refl _ _).drew (bcat b9 b10 (Nat.le_refl _)) (Nat.le_refl _)) (Nat.le_refl _))
                                | (refine wpList_val_want (by kernel_rfl) (.bool false) (by have q := run_neq_cell (w := w10) _ _ rfl x y x y rfl rfl; simpa using q) ?_))
                            go_roundw
                            case measure => simp only [intOf]; omega
                            case rel => exact ⟨i + 1, rfl, hil, HB10⟩
                          · have hin : ¬ (i : Int) < (n : Int) := by omega
                            have TS2 := TQ.st
                            clear TQ ER
                            go_wp2_with (first
                                | (go_at_call 40; refine (cZ _ TS2).mono ?_; rintro e w9 ⟨r9, rfl, rfl, b9⟩; have Q9 := QR.go b9)
                                | (go_at_call 34; refine (awake8_any _).mono ?_; rintro e wz ⟨rz, rfl, rfl, bz⟩))
                            go_ret
                            exact ⟨rfl, bcat Q9.below bz (Nat.le_refl _)⟩
          · intro K' hK
            refine value_in hK (by kernel_rfl) (.pointer (some ⟨w3.drew.heap.size, 0, none⟩)) (w3.drew.alloc (.cells #[Value.int .i64 0, .int .i64 0, .slice none 0 0] 89)) (by go_simp) (by rw [hIH]; exact below_new D0 _) ?_
            simp only [Act.put, List.setIfInBounds_toArray, List.set_cons_zero, List.set_cons_succ]
            refine wpAnyH_ready (rs := [6]) (by kernel_rfl) (by simp) (AllReadyH.cons ((nth_eq _ 6).trans rfl) ?_ AllReadyH.nil)
            intro K' hK
            refine call_in hK (by kernel_rfl) 24 #[.int .i64 which, .int .i64 (c.stacks.length : Nat)] (by go_simp) _ (cPl _) ?_
            rintro v wp ⟨rfl, hwp⟩
            rw [hwp]
            clear hwp wp
            refine ⟨by assumption, ?_⟩
            simp only [Act.put, List.setIfInBounds_toArray, List.set_cons_zero, List.set_cons_succ]
            refine take_held 7 (by assumption) rfl (by kernel_rfl) (by kernel_rfl) (by kernel_rfl) (fun _ _ _ h => h) (by kernel_rfl) (v := ?v23) ?y23 ?r23
            case y23 => (intro u hu; go_simp; try rfl)
            simp only [Act.put, List.setIfInBounds_toArray, List.set_cons_zero, List.set_cons_succ]
            refine take_held 8 (by assumption) rfl (by kernel_rfl) (by kernel_rfl) (by kernel_rfl) (fun _ _ _ h => h) (by kernel_rfl) (v := .agg #[.int .i64 x2, .int .i64 y2, .slice ab n capb]) ?y24 ?r24
            case y24 => (intro u hu; exact run_load_op 89 _ rfl (p4.add (k * 3)) _ rfl (HRd.out u hu) (aggStack u) infoStack0)
            simp only [Act.put, List.setIfInBounds_toArray, List.set_cons_zero, List.set_cons_succ]
            refine wpAnyH_ready (rs := [10]) (by kernel_rfl) (by simp) (AllReadyH.cons ((nth_eq _ 10).trans rfl) ?_ AllReadyH.nil)
            intro K' hK
            refine skip_in hK (by kernel_rfl) (w3.drew.alloc (.cells #[.int .i64 x2, .int .i64 y2, .slice ab n capb] 89)) (by go_simp) (by rw [hIH]; exact below_new D0 _) ?_
            simp only [Act.put, List.setIfInBounds_toArray, List.set_cons_zero, List.set_cons_succ]
            refine done_held (by kernel_rfl) ?_ _
            as_aux_lemma =>
              obtain ⟨w4, hw4⟩ : ∃ w4, w3.drew.alloc (.cells #[.int .i64 x2, .int .i64 y2, .slice ab n capb] 89) = w4 := ⟨_, rfl⟩
              have b4 : Below w3.heap.size w3 w4 := by rw [← hw4]; exact below_new D0 _
              have e4 : w4.heap[w3.heap.size]? = some (.cells #[.int .i64 x2, .int .i64 y2, .slice ab n capb] 89 (0, 0)) := by rw [← hw4]; exact heap_alloc_new w3.drew _
              rw [hw4]
              clear hw4
              have Q4 := Q3.go b4
              have S4 := S3.go b4
              have hbx : w3.heap.size < w4.heap.size := lt_of_heap e4
              have k0 : w4.cell? ⟨w3.heap.size, 0, none⟩ = some (.int .i64 x2) := cell_of e4 0
              have k1 : w4.cell? ⟨w3.heap.size, 1, none⟩ = some (.int .i64 y2) := cell_of e4 1
              have k2 : w4.cell? ⟨w3.heap.size, 2, none⟩ = some (.slice ab n capb) := cell_of e4 2
              by_cases hst : stackedR c (x, y)
              case neg =>
                have dst : decide (stackedR c (x, y)) = false := decide_eq_false hst
                go_wp2_with (first
                    | (refine wpList_load_row rfl 26 (.tmp 3) rfl w.heap.size rfl 26 #[.int .i64 c.W, .int .i64 c.H, .int .i64 c.height, vb, vp, .slice a3 c.robots.length cap3, .slice (some p4) c.stacks.length cap4, .int .i64 c.unit, .int .i64 c.accel, .int .i64 c.speed, .int .i64 c.turn, .int .i64 c.hoist, .int .i64 c.queue, .int .i64 c.resend, .int .i64 c.budget, .bool c.back] (0, 0) _ Q4.a Try.underlying26 rfl info_conf ?_)
                    | (refine wpList_load_row rfl 28 (.tmp 5) rfl (w.heap.size + 1) rfl 28 #[.int .i64 x, .int .i64 y] (0, 0) _ Q4.b Try.underlying28 rfl infoCell2 ?_)
                    | (go_at_call 53; refine (HSR.out _ Q4.below).mono ?_; rintro e w5 ⟨r5, rfl, e5, b5⟩; rw [dst] at e5; subst e5; have Q5 := Q4.go b5)
                    | (go_at_call 34; refine (awake8_any _).mono ?_; rintro e w9 ⟨r9, rfl, rfl, b9⟩))
                go_ret
                exact ⟨rfl, bcat Q5.below b9 (Nat.le_refl _)⟩
              case pos =>
                have dst : decide (stackedR c (x, y)) = true := decide_eq_true hst
                have hos : openU c.W c.H G.uses (x, y) = true := by rw [open_same HN.out (x, y)]; exact decide_eq_true hst.1
                obtain ⟨kT, pT, hkT, hpT, hpTx⟩ := open_num S4 hos
                have hTl : pT.2.2 = placed c.stacks (x, y) := by have e := hat2 kT pT hpT; rw [hpTx] at e; exact e
                have hsm := S4.small kT pT hpT
                have HSTO : Hid (stackedR c (x, y)) := hst
                by_cases hh : pT.2.2.length = 0
                case neg =>
                  have hn0 : (((pT.2.2.length : Nat) : Int) == 0) = false := by rw [beq_eq_false_iff_ne]; omega
                  have hn1 : (((pT.2.2.length : Nat) : Int) != 0) = true := by simp [hh]
                  have cH := fun u (q : StAt K c G.uses ps0 (List.replicate c.robots.length 0) u) => height_yes q x y hos hkT hpT
                  generalize pT.2.2.length = hT at *
                  clear hst hh hTl
                  go_wp2_with (first
                      | (refine wpList_load_row rfl 26 (.tmp 3) rfl w.heap.size rfl 26 #[.int .i64 c.W, .int .i64 c.H, .int .i64 c.height, vb, vp, .slice a3 c.robots.length cap3, .slice (some p4) c.stacks.length cap4, .int .i64 c.unit, .int .i64 c.accel, .int .i64 c.speed, .int .i64 c.turn, .int .i64 c.hoist, .int .i64 c.queue, .int .i64 c.resend, .int .i64 c.budget, .bool c.back] (0, 0) _ Q4.a Try.underlying26 rfl info_conf ?_)
                      | (have X' := Q5; refine wpList_load_want (by kernel_rfl) 28 (.tmp 5) rfl (w.heap.size + 1) rfl 28 #[.int .i64 x, .int .i64 y] (0, 0) Q5.b Try.underlying28 infoCell2 ?_)
                      | (refine wpList_load_row rfl 28 (.tmp 5) rfl (w.heap.size + 1) rfl 28 #[.int .i64 x, .int .i64 y] (0, 0) _ Q4.b Try.underlying28 rfl infoCell2 ?_)
                      | (go_at_call 53; refine (HSR.out _ Q4.below).mono ?_; rintro e w5 ⟨r5, rfl, e5, b5⟩; rw [dst] at e5; subst e5; have Q5 := Q4.go b5; have S5 := S4.go b5; have y0 : w5.cell? ⟨w.heap.size + 1, 0, none⟩ = some (.int .i64 x) := cell_of Q5.b 0; have y1 : w5.cell? ⟨w.heap.size + 1, 1, none⟩ = some (.int .i64 y) := cell_of Q5.b 1; have bb0 := cell_below k0 b5; have bb1 := cell_below k1 b5)
                      | (go_at_call 40; refine (cH _ S5).mono ?_; rintro e w6 ⟨r6, rfl, rfl, b6⟩; have Q6 := Q5.go b6)
                      | (go_at_call 34; refine (awake8_any _).mono ?_; rintro e w9 ⟨r9, rfl, rfl, b9⟩))
                  go_ret
                  exact ⟨rfl, bcat Q6.below b9 (Nat.le_refl _)⟩
                case pos =>
                  have hTn : pT.2.2 = [] := List.eq_nil_of_length_eq_zero hh
                  have cH := fun u (q : StAt K c G.uses ps0 (List.replicate c.robots.length 0) u) => height_yes q x y hos hkT hpT
                  simp only [hh] at cH
                  have HST2 : Hid _ := hst
                  by_cases heq : (x, y) = (x2, y2)
                  case pos =>
                    have HDQ : Hid (decide ((x, y) = (x2, y2)) = true) := decide_eq_true heq
                    clear hst heq hTl hTn
                    go_wp2_with (first
                        | (refine wpList_load_row rfl 26 (.tmp 3) rfl w.heap.size rfl 26 #[.int .i64 c.W, .int .i64 c.H, .int .i64 c.height, vb, vp, .slice a3 c.robots.length cap3, .slice (some p4) c.stacks.length cap4, .int .i64 c.unit, .int .i64 c.accel, .int .i64 c.speed, .int .i64 c.turn, .int .i64 c.hoist, .int .i64 c.queue, .int .i64 c.resend, .int .i64 c.budget, .bool c.back] (0, 0) _ Q4.a Try.underlying26 rfl info_conf ?_)
                        | (have X' := Q6; refine wpList_load_want (by kernel_rfl) 28 (.tmp 5) rfl (w.heap.size + 1) rfl 28 #[.int .i64 x, .int .i64 y] (0, 0) Q6.b Try.underlying28 infoCell2 ?_)
                        | (have X' := Q5; refine wpList_load_want (by kernel_rfl) 28 (.tmp 5) rfl (w.heap.size + 1) rfl 28 #[.int .i64 x, .int .i64 y] (0, 0) Q5.b Try.underlying28 infoCell2 ?_)
                        | (refine wpList_load_row rfl 28 (.tmp 5) rfl (w.heap.size + 1) rfl 28 #[.int .i64 x, .int .i64 y] (0, 0) _ Q4.b Try.underlying28 rfl infoCell2 ?_)
                        | (go_at_call 53; refine (HSR.out _ Q4.below).mono ?_; rintro e w5 ⟨r5, rfl, e5, b5⟩; rw [dst] at e5; subst e5; have Q5 := Q4.go b5; have S5 := S4.go b5; have y0 : w5.cell? ⟨w.heap.size + 1, 0, none⟩ = some (.int .i64 x) := cell_of Q5.b 0; have y1 : w5.cell? ⟨w.heap.size + 1, 1, none⟩ = some (.int .i64 y) := cell_of Q5.b 1; have bb0 := cell_below k0 b5; have bb1 := cell_below k1 b5)
                        | (go_at_call 40; refine (cH _ S5).mono ?_; rintro e w6 ⟨r6, rfl, rfl, b6⟩; have Q6 := Q5.go b6; have u0 : w6.cell? ⟨w3.heap.size, 0, none⟩ = some (.int .i64 x2) := cell_below bb0 b6; have u1 : w6.cell? ⟨w3.heap.size, 1, none⟩ = some (.int .i64 y2) := cell_below bb1 b6; clear y0 y1)
                        | (refine wpList_val_want (by kernel_rfl) (.bool true) (by rw [← HDQ.out]; exact run_eql_cell _ _ rfl x y x2 y2 rfl rfl) ?_)
                        | (go_at_call 34; refine (awake8_any _).mono ?_; rintro e w9 ⟨r9, rfl, rfl, b9⟩))
                    go_ret
                    exact ⟨rfl, bcat Q6.below b9 (Nat.le_refl _)⟩
                  case neg =>
                    have HDQ : Hid (decide ((x, y) = (x2, y2)) = false) := decide_eq_false heq
                    obtain ⟨ki, p2, hk2, hp2, hp2x⟩ := open_num S4 HO2.out
                    have h2l : p2.2.2 = Bs := by have e := hat2 ki p2 hp2; rw [hp2x] at e; rw [e]; exact HP1.out
                    have ne : ki ≠ kT := fun e => by subst e; rw [hp2] at hpT; cases hpT; exact heq (hpTx.symm.trans hp2x)
                    have HBN := first_bins (n := c.robots.length) HMY.out hpm2
                    have HND : Hid ((allB ps0 (List.replicate c.robots.length 0)).Nodup) := HBN.1
                    have HNZ : Hid (∀ z ∈ allB ps0 (List.replicate c.robots.length 0), z ≠ 0) := HBN.2
                    have hrm : (Bs.length : Int) ≤ roomP c G.uses (x, y) := by rw [room_eq HN.out, if_pos ((portP_neg _ _ _).2 HSTO.out.2.1), if_pos HSTO.out, Hn.out]; exact hbh
                    have HRM : Hid _ := hrm
                    have HNE : Hid (ki ≠ kT) := ne
                    have HK2 : Hid (number c.W c.H (x2, y2) = (ki : Nat)) := hk2
                    have HKT : Hid (number c.W c.H (x, y) = (kT : Nat)) := hkT
                    have HOT : Hid (openU c.W c.H G.uses (x, y) = true) := hos
                    have HFG : Hid (∀ b, Foot K ps0 b → w.heap.size + 2 ≤ b) := fun b q => by have h1 := S4.foot_ge b q; have h2 := lt_of_heap Q1.b; omega
                    have HFL : Hid (∀ b, Foot K ps0 b → b < w3.heap.size) := S3.foot_lt
                    have HA2 : Hid (∃ p, ps0[ki]? = some p ∧ p.2.2 = Bs) := ⟨p2, hp2, h2l⟩
                    have HAT : Hid (∃ p, ps0[kT]? = some p ∧ p.2.2 = []) := ⟨pT, hpT, hTn⟩
                    have HE4 : Hid _ := e4
                    clear hst heq hTl hTn hk2 hp2 hp2x h2l ne HBN hrm hsm hpTx e4 hat2 hpm2
                    go_wp2_with (first
                        | (refine wpList_load_row rfl 26 (.tmp 3) rfl w.heap.size rfl 26 #[.int .i64 c.W, .int .i64 c.H, .int .i64 c.height, vb, vp, .slice a3 c.robots.length cap3, .slice (some p4) c.stacks.length cap4, .int .i64 c.unit, .int .i64 c.accel, .int .i64 c.speed, .int .i64 c.turn, .int .i64 c.hoist, .int .i64 c.queue, .int .i64 c.resend, .int .i64 c.budget, .bool c.back] (0, 0) _ Q4.a Try.underlying26 rfl info_conf ?_)
                        | (have X' := Q6; refine wpList_load_want (by kernel_rfl) 28 (.tmp 5) rfl (w.heap.size + 1) rfl 28 #[.int .i64 x, .int .i64 y] (0, 0) Q6.b Try.underlying28 infoCell2 ?_)
                        | (have X' := Q5; refine wpList_load_want (by kernel_rfl) 28 (.tmp 5) rfl (w.heap.size + 1) rfl 28 #[.int .i64 x, .int .i64 y] (0, 0) Q5.b Try.underlying28 infoCell2 ?_)
                        | (refine wpList_load_row rfl 28 (.tmp 5) rfl (w.heap.size + 1) rfl 28 #[.int .i64 x, .int .i64 y] (0, 0) _ Q4.b Try.underlying28 rfl infoCell2 ?_)
                        | (go_at_call 53; refine (HSR.out _ Q4.below).mono ?_; rintro e w5 ⟨r5, rfl, e5, b5⟩; rw [dst] at e5; subst e5; have Q5 := Q4.go b5; have S5 := S4.go b5; have y0 : w5.cell? ⟨w.heap.size + 1, 0, none⟩ = some (.int .i64 x) := cell_of Q5.b 0; have y1 : w5.cell? ⟨w.heap.size + 1, 1, none⟩ = some (.int .i64 y) := cell_of Q5.b 1; have bb0 := cell_below k0 b5; have bb1 := cell_below k1 b5)
                        | (go_at_call 40; refine (cH _ S5).mono ?_; rintro e w6 ⟨r6, rfl, rfl, b6⟩; have Q6 := Q5.go b6; have u0 : w6.cell? ⟨w3.heap.size, 0, none⟩ = some (.int .i64 x2) := cell_below bb0 b6; have u1 : w6.cell? ⟨w3.heap.size, 1, none⟩ = some (.int .i64 y2) := cell_below bb1 b6; clear y0 y1)
                        | (refine wpList_val_want (by kernel_rfl) (.bool false) (by rw [← HDQ.out]; exact run_eql_cell _ _ rfl x y x2 y2 rfl rfl) ?_))
                    have e6 : w6.heap[w3.heap.size]? = some (.cells #[.int .i64 x2, .int .i64 y2, .slice ab n capb] 89 (0, 0)) := ((b6.block _ (Nat.lt_of_lt_of_le hbx b5.size)).trans (b5.block _ hbx)).trans HE4.out
                    have HTw : Hid (∀ ps u, Turn K ps0 ps w6 u → Two w #[.int .i64 c.W, .int .i64 c.H, .int .i64 c.height, vb, vp, .slice a3 c.robots.length cap3, .slice (some p4) c.stacks.length cap4, .int .i64 c.unit, .int .i64 c.accel, .int .i64 c.speed, .int .i64 c.turn, .int .i64 c.hoist, .int .i64 c.queue, .int .i64 c.resend, .int .i64 c.budget, .bool c.back] #[.int .i64 x, .int .i64 y] 28 u) := fun ps u T => two_turn Q6 T HFG.out
                    have HBX : Hid (∀ ps u, Turn K ps0 ps w6 u → u.heap[w3.heap.size]? = some (.cells #[.int .i64 x2, .int .i64 y2, .slice ab n capb] 89 (0, 0))) := fun ps u T => (T.keep _ (lt_of_heap e6) (fun q => absurd (HFL.out _ q) (Nat.lt_irrefl _))).trans e6
                    have HF0 : Hid (∃ ps, Tu w6 K c G.uses ps0 c.robots.length ki kT Bs 0 ps w6) := by
                      obtain ⟨p2, hp2, h2l⟩ := HA2.out
                      obtain ⟨pT, hpT, hTn⟩ := HAT.out
                      exact ⟨ps0, S5.go b6, Turn.refl _ _ _, List.Perm.refl _, ⟨p2, hp2, by rw [h2l]; simp⟩, ⟨pT, hpT, by rw [hTn]; simp⟩⟩
                    have HR0 : Hid (0 < c.robots.length) := by unfold Hid; omega
                    have HQ6 : Hid (Two w #[.int .i64 c.W, .int .i64 c.H, .int .i64 c.height, vb, vp, .slice a3 c.robots.length cap3, .slice (some p4) c.stacks.length cap4, .int .i64 c.unit, .int .i64 c.accel, .int .i64 c.speed, .int .i64 c.turn, .int .i64 c.hoist, .int .i64 c.queue, .int .i64 c.resend, .int .i64 c.budget, .bool c.back] #[.int .i64 x, .int .i64 y] 28 w6) := Q6
                    have hn8 : n ≤ 8 := by have := hbh; have := S4.hi; omega
                    clear k0 k1 k2 bb0 bb1 cH S4 S5 Q4 Q5 b5 b6 e6 hpT hkT hos hh
                    go_loopw [10] (fun s10 wr => ∃ j : Nat, s10 = .int .i64 j ∧ j ≤ n ∧ Hid (∃ ps, Tu w6 K c G.uses ps0 c.robots.length ki kT Bs j ps wr)) (fun s10 _ => n - (intOf s10).toNat)
                    case atStart => exact ⟨0, rfl, Nat.zero_le _, HF0⟩
                    case round =>
                      clear HF0
                      obtain ⟨j, rfl, hj, HT⟩ := hrel
                      obtain ⟨ps, T⟩ := HT.out
                      have QR := HTw.out ps wr T.tn
                      have ER := HBX.out ps wr T.tn
                      have g0 : wr.cell? ⟨w3.heap.size, 0, none⟩ = some (.int .i64 x2) := cell_of ER 0
                      have g1 : wr.cell? ⟨w3.heap.size, 1, none⟩ = some (.int .i64 y2) := cell_of ER 1
                      have g2 : wr.cell? ⟨w3.heap.size, 2, none⟩ = some (.slice ab n capb) := cell_of ER 2
                      rcases Nat.lt_or_ge j n with hjl | hjg
                      · obtain ⟨m, hm⟩ : ∃ m, n = m + 1 + j := ⟨n - 1 - j, by omega⟩
                        have hmB : m < Bs.length := by rw [Hn.out]; omega
                        have cL := turn_lift T (by rw [Hn.out]; exact hjl) HNZ.out HNE.out HR0.out HO2.out HK2.out HOT.out HKT.out HRM.out
                        obtain ⟨z, hz⟩ : ∃ z, Bs[m]'hmB = z := ⟨_, rfl⟩
                        have hzd : Bs.getD (Bs.length - 1 - j) 0 = z := by rw [show Bs.length - 1 - j = m by rw [Hn.out]; omega, List.getD_eq_getElem?_getD, List.getElem?_eq_getElem hmB, ← hz]; rfl
                        rw [hzd] at cL
                        obtain ⟨pb, csb, capb', hvb2, _, elb, hrb⟩ := HLb.out.item hmB
                        injection hvb2 with i1 i2 i3
                        have HZC : Hid (∀ u, Below w.heap.size w u → u.cell? (pb.add m) = some (.int .i64 z)) := fun u hu => by
                          unfold intEl at elb
                          have q := hrb 0 (.int .i64 (Bs[m]'hmB)) (by rw [elb]; rfl)
                          rw [add_add, Nat.mul_one, Nat.add_zero, hz] at q
                          exact cell_below q hu
                        subst i1
                        have hjl' : (j : Int) < (n : Int) := by omega
                        have hjs : (j : Int) + 1 ≤ 1000 := by omega
                        have e1 : (n : Int) - 1 - (j : Int) = (m : Nat) := by omega
                        have hmn : (m : Int) < (n : Int) := by omega
                        have hw1 : wrap64 ((n : Int) - 1) = (n : Int) - 1 := by unfold wrap64; omega
                        clear hz hzd elb hrb i2 i3 hm QR ER
                        go_wp2_with (first
                            | (go_at_call 36; refine cL.mono ?_; rintro e w7 ⟨v7, rfl, e7, M7⟩; subst e7; obtain ⟨ps7, tn7⟩ := M7.tn; have Q7 := HTw.out ps7 w7 tn7; have E7 := HBX.out ps7 w7 tn7; have f2 : w7.cell? ⟨w3.heap.size, 2, none⟩ = some (.slice (some pb) n capb) := cell_of E7 2; have y0 : w7.cell? ⟨w.heap.size + 1, 0, none⟩ = some (.int .i64 x) := cell_of Q7.b 0; have y1 : w7.cell? ⟨w.heap.size + 1, 1, none⟩ = some (.int .i64 y) := cell_of Q7.b 1; have zc := HZC.out w7 Q7.below; have cD7 := M7.drop w7 (Below.refl _ _); clear M7 tn7 Q7 E7)
                            | (go_at_call 38; refine cD7.mono ?_; rintro e w8 ⟨v8, rfl, e8, ps8, T8⟩; subst e8))
                        go_roundw
                        case measure => simp only [intOf]; omega
                        case rel => exact ⟨j + 1, rfl, hjl, ⟨ps8, T8⟩⟩
                      · obtain ⟨W7, rfl⟩ : ∃ W7, W7 = wr := ⟨_, rfl⟩
                        have hjn : ¬ (j : Int) < (n : Int) := by omega
                        have hjB : j = Bs.length := by rw [Hn.out]; omega
                        obtain ⟨pA, hpA, eA⟩ := T.a
                        obtain ⟨pt, hpt, eT⟩ := T.t
                        rw [hjB, Nat.sub_self] at eA eT
                        have eA' : pA.2.2 = [] := by simpa using eA
                        have eT' : pt.2.2 = Bs.reverse := by simpa using eT
                        obtain ⟨k', p', hk', hp', hpx'⟩ := open_num T.st HOT.out
                        have hkk : k' = kT := by have := HKT.out; omega
                        subst hkk
                        rw [hpt] at hp'
                        cases hp'
                        have hll : Bs.reverse.length = n := by simp [Hn.out]
                        have cA := at_yes T.st x y HOT.out HKT.out hpt
                        rw [eT', hll] at cA
                        have cZ := fun u (q : StAt K c G.uses ps (List.replicate c.robots.length 0) u) => height_yes q x2 y2 HO2.out HK2.out hpA
                        simp only [eA', List.length_nil] at cZ
                        have cF := fun (u : World) (q : StAt K c G.uses ps (List.replicate c.robots.length 0) u) (i : Nat) (z : Int) (hz : Bs.reverse[i]? = some z) => find_here q ((T.pm.nodup_iff).2 HND.out) hpt (j := i) (bin := z) (by rw [eT']; exact hz)
                        simp only [eT', hll, hpx'] at cF
                        have HTs : Hid (Tu w6 K c G.uses ps0 c.robots.length ki k' Bs j ps W7) := T
                        have y0 : W7.cell? ⟨w.heap.size + 1, 0, none⟩ = some (.int .i64 x) := cell_of QR.b 0
                        have y1 : W7.cell? ⟨w.heap.size + 1, 1, none⟩ = some (.int .i64 y) := cell_of QR.b 1
                        clear hjg hjB eA eT eA' eT' hk' hpx' hpt hpA QR ER T HT
                        go_wp2_with (go_at_call 45; refine cA.mono ?_; rintro e w8 ⟨v8, rfl, o8, b8⟩)
                        obtain ⟨la, lc, el, _⟩ := own_form o8
                        subst el
                        have O8 : Hid (w8.ownsRow W7.heap.size 3 1 (.slice la n lc) n (rowL intL Bs.reverse)) := o8
                        have HB8 : Hid (Below W7.heap.size W7 w8) := b8
                        clear o8 b8 cA y0 y1 g0 g1 g2
                        go_loopw [14] (fun s14 wq => ∃ i : Nat, s14 = .int .i64 i ∧ i ≤ n ∧ Hid (Below w8.heap.size w8 wq)) (fun s14 _ => n - (intOf s14).toNat)
                        case atStart => exact ⟨0, rfl, Nat.zero_le _, Below.refl _ _⟩
                        case round =>
                          obtain ⟨i, rfl, hi, bq⟩ := hrel
                          have TQ := HTs.out.go (bcat HB8.out bq.out (Nat.le_refl _))
                          have QR := HTw.out ps wr TQ.tn
                          have ER := HBX.out ps wr TQ.tn
                          have g0 : wr.cell? ⟨w3.heap.size, 0, none⟩ = some (.int .i64 x2) := cell_of ER 0
                          have g1 : wr.cell? ⟨w3.heap.size, 1, none⟩ = some (.int .i64 y2) := cell_of ER 1
                          have g2 : wr.cell? ⟨w3.heap.size, 2, none⟩ = some (.slice ab n capb) := cell_of ER 2
                          rcases Nat.lt_or_ge i n with hil | hig
                          · obtain ⟨m, hm⟩ : ∃ m, n = m + 1 + i := ⟨n - 1 - i, by omega⟩
                            have hmB : m < Bs.length := by rw [Hn.out]; omega
                            obtain ⟨z, hz⟩ : ∃ z, Bs[m]'hmB = z := ⟨_, rfl⟩
                            have hzr : Bs.reverse[i]? = some z := by
                              rw [List.getElem?_reverse (by rw [Hn.out]; omega), show Bs.length - 1 - i = m by rw [Hn.out]; omega, List.getElem?_eq_getElem hmB, hz]
                            obtain ⟨pb, csb, capb', hvb2, _, elb, hrb⟩ := HLb.out.item hmB
                            injection hvb2 with i1 i2 i3
                            have zc : wr.cell? (pb.add m) = some (.int .i64 z) := by
                              unfold intEl at elb
                              have q := hrb 0 (.int .i64 (Bs[m]'hmB)) (by rw [elb]; rfl)
                              rw [add_add, Nat.mul_one, Nat.add_zero, hz] at q
                              exact cell_below q QR.below
                            have o9 := owns_go O8.out bq.out
                            rcases id o9.2 with ⟨_, h0⟩ | ⟨gl, cl, cur, ev, _⟩
                            · omega
                            injection ev with l1' l2' l3'
                            have lcell : wr.cell? ⟨gl, i, none⟩ = some (.int .i64 z) := by
                              rw [l1'] at o9
                              have q := o9.cellAt i (by omega)
                              rw [q]
                              rw [rowL_int, List.getElem?_map, hzr]
                              rfl
                            have cFi := cF wr.drew (TQ.st.go (Below.refl _ _).drew) i z hzr
                            subst i1
                            subst l1'
                            have hil' : (i : Int) < (n : Int) := by omega
                            have his : (i : Int) + 1 ≤ 1000 := by omega
                            have e1 : (n : Int) - 1 - (i : Int) = (m : Nat) := by omega
                            have hmn : (m : Int) < (n : Int) := by omega
                            have hw1 : wrap64 ((n : Int) - 1) = (n : Int) - 1 := by unfold wrap64; omega
                            obtain ⟨IW, hIW⟩ : ∃ S : World → Prop, S = Below wr.heap.size wr := ⟨_, rfl⟩
                            have hSd : IW wr.drew := by rw [hIW]; exact (Below.refl _ _).drew
                            have v1 : ∀ u, IW u → u.cell? ⟨gl, i, none⟩ = some (.int .i64 z) := fun u hu => by rw [hIW] at hu; exact cell_below lcell hu
                            have v2 : ∀ u, IW u → u.cell? ⟨w3.heap.size, 2, none⟩ = some (.slice (some pb) n capb) := fun u hu => by rw [hIW] at hu; exact cell_below g2 hu
                            have v3 : ∀ u, IW u → u.cell? (pb.add m) = some (.int .i64 z) := fun u hu => by rw [hIW] at hu; exact cell_below zc hu
                            have lc2 : wr.drew.cell? ⟨gl, i, none⟩ = some (.int .i64 z) := lcell
                            have QD := QR.go (Below.refl _ _).drew
                            have HQD : Hid (Two w #[.int .i64 c.W, .int .i64 c.H, .int .i64 c.height, vb, vp, .slice a3 c.robots.length cap3, .slice (some p4) c.stacks.length cap4, .int .i64 c.unit, .int .i64 c.accel, .int .i64 c.speed, .int .i64 c.turn, .int .i64 c.hoist, .int .i64 c.queue, .int .i64 c.resend, .int .i64 c.budget, .bool c.back] #[.int .i64 x, .int .i64 y] 28 wr.drew) := QD
                            clear hz hzr elb hrb i2 i3 hm ER TQ QR QD o9 l2' l3'
                            go_wp2_with fail
                            refine start_held (S := IW) 15 rfl (by kernel_rfl) (hSd) ?_
                            simp only [Array.replicate_succ, Array.replicate_zero, List.push_toArray, List.nil_append, List.cons_append]
                            refine take_held 0 (by assumption) rfl (by kernel_rfl) (by kernel_rfl) (by kernel_rfl) (fun _ _ _ h => h) (by kernel_rfl) (v := ?v25) ?y25 ?r25
                            case y25 => (intro u hu; go_simp; try rfl)
                            simp only [Act.put, List.setIfInBounds_toArray, List.set_cons_zero, List.set_cons_succ]
                            refine take_held 1 (by assumption) rfl (by kernel_rfl) (by kernel_rfl) (by kernel_rfl) (fun _ _ _ h => h) (by kernel_rfl) (v := ?v26) ?y26 ?r26
                            case y26 => (intro u hu; go_simp; try rfl)
                            simp only [Act.put, List.setIfInBounds_toArray, List.set_cons_zero, List.set_cons_succ]
                            refine take_held 2 (by assumption) rfl (by kernel_rfl) (by kernel_rfl) (by kernel_rfl) (fun _ _ _ h => h) (by kernel_rfl) (v := ?v27) ?y27 ?r27
                            case y27 => (intro u hu; go_simp; try rfl)
                            simp only [Act.put, List.setIfInBounds_toArray, List.set_cons_zero, List.set_cons_succ]
                            refine take_held 3 (by assumption) rfl (by kernel_rfl) (by kernel_rfl) (by kernel_rfl) (fun _ _ _ h => h) (by kernel_rfl) (v := ?v28) ?y28 ?r28
                            case y28 => (intro u hu; have zz0 := v1 u hu; go_simp; try rfl)
                            simp only [Act.put, List.setIfInBounds_toArray, List.set_cons_zero, List.set_cons_succ]
                            refine take_held 4 (by assumption) rfl (by kernel_rfl) (by kernel_rfl) (by kernel_rfl) (fun _ _ _ h => h) (by kernel_rfl) (v := ?v29) ?y29 ?r29
                            case y29 => (intro u hu; go_simp; try rfl)
                            simp only [Act.put, List.setIfInBounds_toArray, List.set_cons_zero, List.set_cons_succ]
                            refine take_held 5 (by assumption) rfl (by kernel_rfl) (by kernel_rfl) (by kernel_rfl) (fun _ _ _ h => h) (by kernel_rfl) (v := ?v30) ?y30 ?r30
                            case y30 => (intro u hu; have zz0 := v2 u hu; go_simp; try rfl)
                            simp only [Act.put, List.setIfInBounds_toArray, List.set_cons_zero, List.set_cons_succ]
                            refine take_held 6 (by assumption) rfl (by kernel_rfl) (by kernel_rfl) (by kernel_rfl) (fun _ _ _ h => h) (by kernel_rfl) (v := ?v31) ?y31 ?r31
                            case y31 => (intro u hu; go_simp; try rfl)
                            simp only [Act.put, List.setIfInBounds_toArray, List.set_cons_zero, List.set_cons_succ]
                            refine take_held 7 (by assumption) rfl (by kernel_rfl) (by kernel_rfl) (by kernel_rfl) (fun _ _ _ h => h) (by kernel_rfl) (v := ?v32) ?y32 ?r32
                            case y32 => (intro u hu; have zz0 := v2 u hu; go_simp; try rfl)
                            simp only [Act.put, List.setIfInBounds_toArray, List.set_cons_zero, List.set_cons_succ]
                            refine take_held 8 (by assumption) rfl (by kernel_rfl) (by kernel_rfl) (by kernel_rfl) (fun _ _ _ h => h) (by kernel_rfl) (v := ?v33) ?y33 ?r33
                            case y33 => (intro u hu; go_simp; try rfl)
                            simp only [Act.put, List.setIfInBounds_toArray, List.set_cons_zero, List.set_cons_succ]
                            refine take_held 9 (by assumption) rfl (by kernel_rfl) (by kernel_rfl) (by kernel_rfl) (fun _ _ _ h => h) (by kernel_rfl) (v := .int .i64 ((n : Int) - 1)) ?y34 ?r34
                            case y34 => (intro u hu; have hw : IntKind.i64.wrap ((n : Int) - 1) = (n : Int) - 1 := (by rw [IntKind.wrap_i64]; omega); go_simp; try rw [hw]; try rfl)
                            simp only [Act.put, List.setIfInBounds_toArray, List.set_cons_zero, List.set_cons_succ]
                            refine take_held 10 (by assumption) rfl (by kernel_rfl) (by kernel_rfl) (by kernel_rfl) (fun _ _ _ h => h) (by kernel_rfl) (v := ?v35) ?y35 ?r35
                            case y35 => (intro u hu; go_simp; try rfl)
                            simp only [Act.put, List.setIfInBounds_toArray, List.set_cons_zero, List.set_cons_succ]
                            refine take_held 11 (by assumption) rfl (by kernel_rfl) (by kernel_rfl) (by kernel_rfl) (fun _ _ _ h => h) (by kernel_rfl) (v := .int .i64 (m : Nat)) ?y36 ?r36
                            case y36 => (intro u hu; have hw2 : IntKind.i64.wrap ((m : Nat) : Int) = (m : Nat) := (by rw [IntKind.wrap_i64]; omega); go_simp; try rw [hw2]; try rfl)
                            simp only [Act.put, List.setIfInBounds_toArray, List.set_cons_zero, List.set_cons_succ]
                            refine take_held 12 (by assumption) rfl (by kernel_rfl) (by kernel_rfl) (by kernel_rfl) (fun _ _ _ h => h) (by kernel_rfl) (v := ?v37) ?y37 ?r37
                            case y37 => (intro u hu; go_simp; try rfl)
                            simp only [Act.put, List.setIfInBounds_toArray, List.set_cons_zero, List.set_cons_succ]
                            refine take_held 13 (by assumption) rfl (by kernel_rfl) (by kernel_rfl) (by kernel_rfl) (fun _ _ _ h => h) (by kernel_rfl) (v := ?v38) ?y38 ?r38
                            case y38 => (intro u hu; have zz0 := v3 u hu; go_simp; try rfl)
                            simp only [Act.put, List.setIfInBounds_toArray, List.set_cons_zero, List.set_cons_succ]
                            refine take_held 14 (by assumption) rfl (by kernel_rfl) (by kernel_rfl) (by kernel_rfl) (fun _ _ _ h => h) (by kernel_rfl) (v := .bool false) ?y39 ?r39
                            case y39 => (intro u hu; go_simp; try simp)
                            simp only [Act.put, List.setIfInBounds_toArray, List.set_cons_zero, List.set_cons_succ]
                            refine done_held (by kernel_rfl) ?_ _
                            go_wp2_with (first
                                | (go_at_call 48; refine cFi.mono ?_; rintro e w9 ⟨v9, rfl, e9, b9⟩; subst e9; obtain ⟨w10, hw10⟩ : ∃ u, w9.alloc (.cells #[.int .i64 x, .int .i64 y] 28) = u := ⟨_, rfl⟩; have b10 : Below w9.heap.size w9 w10 := (by rw [← hw10]; exact (Below.refl _ _).alloc (Nat.le_refl _) _); have a0 : w10.cell? ⟨w9.heap.size, 0, none⟩ = some (.int .i64 x) := (by rw [← hw10]; simp); have a1 : w10.cell? ⟨w9.heap.size, 1, none⟩ = some (.int .i64 y) := (by rw [← hw10]; simp); have Q10 := (HQD.out.go b9).go b10; have y0 : w10.cell? ⟨w.heap.size + 1, 0, none⟩ = some (.int .i64 x) := cell_of Q10.b 0; have y1 : w10.cell? ⟨w.heap.size + 1, 1, none⟩ = some (.int .i64 y) := cell_of Q10.b 1; have HB10 : Hid (Below w8.heap.size w8 w10) := bcat bq.out (bcat (Below.refl _ _).drew (bcat b9 b10 (Nat.le_refl _)) (Nat.le_refl _)) (Nat.le_refl _))
                                | (refine wpList_val_want (by kernel_rfl) (.bool false) (by have q := run_neq_cell (w := w10) _ _ rfl x y x y rfl rfl; simpa using q) ?_))
                            go_roundw
                            case measure => simp only [intOf]; omega
                            case rel => exact ⟨i + 1, rfl, hil, HB10⟩
                          · have hin : ¬ (i : Int) < (n : Int) := by omega
                            have TS2 := TQ.st
                            clear TQ ER
                            go_wp2_with (first
                                | (go_at_call 40; refine (cZ _ TS2).mono ?_; rintro e w9 ⟨r9, rfl, rfl, b9⟩; have Q9 := QR.go b9)
                                | (go_at_call 34; refine (awake8_any _).mono ?_; rintro e wz ⟨rz, rfl, rfl, bz⟩))
                            go_ret
                            exact ⟨rfl, bcat Q9.below bz (Nat.le_refl _)⟩
end Go.Proofs.Ytkdciahhflalpaa.Stk
