/-
  StacksFull: the walk.
-/
import Derived.Test.YtdaideiagebmdaaStkBack
namespace Go.Proofs.Ytdaideiagebmdaa.Stk
set_option linter.unusedVariables false
set_option linter.unusedSimpArgs false
open Go Go.RowKit Go.Shelf Go.Proofs Go.Proofs.Ytdaideiagebmdaa.Grid
attribute [local go_sem] Oper.semAt_some

theorem two_turn {w : World} {cs ds : Array Value} {td : TypeId} {W W' : World} (h : Two w cs ds td W) {K : Sk} {ps ps' : List Pile} (T : Turn K ps ps' W W') (hf : ∀ b, Foot K ps b → w.heap.size + 2 ≤ b) : Two w cs ds td W' :=
  ⟨h.below.trans (T.below h.below.size (fun b q => by have := hf b q; omega)), (T.keep _ (lt_of_heap h.a) (fun q => by have := hf _ q; omega)).trans h.a, (T.keep _ (lt_of_heap h.b) (fun q => by have := hf _ q; omega)).trans h.b⟩
theorem room_eq {c : Conf} {G : GS} (hN : newP c = some G) (x : Cell) : roomP c G.uses x = if portP c.ports x 0 < 0 then (if stackedR c x then c.height else 0) else 1 := by
  unfold roomP
  rw [stacked_same hN]
  by_cases hs : stackedR c x
  · rw [if_pos (decide_eq_true hs), if_pos ((portP_neg _ _ _).2 hs.2.1), if_pos hs]
  · rw [if_neg (by rw [decide_eq_true_eq]; exact hs), if_neg hs]
theorem tell_open {c : Conf} {us : List Int} {ps : List Pile} {k : Nat} {s : Stk} (h : s ∈ tellT c us ps k) : openU c.W c.H us s.1 = true := by
  unfold tellT at h
  obtain ⟨p, hp, rfl⟩ := List.mem_map.1 h
  exact (List.mem_filter.1 hp).2
/- While bins are brought to a cell. -/
structure Fu (w7 : World) (K : Sk) (c : Conf) (us : List Int) (ps0 : List Pile) (nR kA : Nat) (RM : Int) (ps : List Pile) (wq : World) : Prop where
  st : StAt K c us ps (List.replicate nR 0) wq
  tn : Turn K ps0 ps w7 wq
  nz : ∀ z ∈ allB ps (List.replicate nR 0), z ≠ 0
  le : ∀ p, ps[kA]? = some p → (p.2.2.length : Int) ≤ RM
theorem Fu.go {w7 : World} {K : Sk} {c : Conf} {us : List Int} {ps0 : List Pile} {nR kA : Nat} {RM : Int} {ps : List Pile} {wq u : World} (h : Fu w7 K c us ps0 nR kA RM ps wq) (hb : Below wq.heap.size wq u) : Fu w7 K c us ps0 nR kA RM ps u := ⟨h.st.go hb, h.tn.trans (Turn.of_below hb), h.nz, h.le⟩
def hgtW (K : Sk) (k : Nat) (w : World) : Nat := match w.cell? ⟨K.pb, k * 3 + 2, none⟩ with
  | some (.slice _ n _) => n
  | _ => 0
theorem hgt_is {K : Sk} {c : Conf} {us : List Int} {ps : List Pile} {ls : List Int} {w : World} (h : StAt K c us ps ls w) {k : Nat} {p : Pile} (hp : ps[k]? = some p) : hgtW K k w = p.2.2.length := by
  obtain ⟨a, cap, e, _⟩ := h.form hp
  unfold hgtW
  rw [h.pv hp, e]
theorem rep_back (n : Nat) (z : Int) : ((List.replicate n (0 : Int)).set (0 : Int).toNat z).set (0 : Int).toNat 0 = List.replicate n 0 := by
  rw [List.set_set]
  refine List.ext_getElem? fun i => ?_
  rw [List.getElem?_set, List.length_replicate, List.getElem?_replicate]
  by_cases e : (0 : Int).toNat = i
  · subst e
    by_cases q : (0 : Int).toNat < n <;> simp [q]
  · rw [if_neg e]
set_option maxRecDepth 100000 in
set_option maxHeartbeats 4000000 in
theorem full_all (c : Conf) (vb vp vr vs : Value) (w : World) (hA : ConfAt (Old w) c vb vp vr vs w) (l1 : c.blocked.length ≤ 8796093022208) (l2 : c.ports.length ≤ 8796093022208) (l3 : c.robots.length ≤ 5864062014805) (l4 : c.stacks.length ≤ 3518437208880) (l5 : ∀ s ∈ c.stacks, s.2.length ≤ 17592186044416) (x y : Int) : Calls Try.prog 16 #[.agg #[.int .i64 c.W, .int .i64 c.H, .int .i64 c.height, vb, vp, vr, vs, .int .i64 c.unit, .int .i64 c.accel, .int .i64 c.speed, .int .i64 c.turn, .int .i64 c.hoist, .int .i64 c.queue, .int .i64 c.resend, .int .i64 c.budget, .bool c.back], .agg #[.int .i64 x, .int .i64 y]] w fun e w' => e = .returned (.bool true) ∧ Below w.heap.size w w' := by
  obtain ⟨a3, cap3, hv3, _⟩ := hA.r.form
  subst hv3
  have L := fun (u : World) (b : Below w.heap.size w u) g (hg : Old w g) => Nat.lt_of_lt_of_le hg b.size
  have hAu := fun u (b : Below w.heap.size w u) => hA.go (fun _ h => h) b
  have cC := fun u (b : Below w.heap.size w u) => copyConf_any (Old w) c vb vp _ vs u (hAu u b) (L u b) l1 l2 l3 l4 l5
  have cM := fun u (b : Below w.heap.size w u) => mayR_call (F := Old w) (hAu u b) (L u b) l1 l2 l3 l4 l5
  have cS := fun u (b : Below w.heap.size w u) => small_any (Old w) c vb vp _ vs u (hAu u b) (L u b) l1 l2 l3 l4 l5
  have cOR := fun u (b : Below w.heap.size w u) => openR_any (Old w) c vb vp _ vs x y u (hAu u b) (L u b) (by omega)
  have cSR := fun u (b : Below w.heap.size w u) => stackedR_any (Old w) c vb vp _ vs x y u (hAu u b) (L u b) (by omega) (by omega) (by omega)
  have cPR := fun u (b : Below w.heap.size w u) => portR_any (Old w) c vb vp _ vs x y u (hAu u b) (L u b) (by omega)
  have Q0 := two_new w #[.int .i64 c.W, .int .i64 c.H, .int .i64 c.height, vb, vp, .slice a3 c.robots.length cap3, vs, .int .i64 c.unit, .int .i64 c.accel, .int .i64 c.speed, .int .i64 c.turn, .int .i64 c.hoist, .int .i64 c.queue, .int .i64 c.resend, .int .i64 c.budget, .bool c.back] #[.int .i64 x, .int .i64 y] 35
  cases hN : newP c with
  | none =>
    have cN := fun {m : Nat} {u : World} {v1 v2 v3 v4 : Value} (a : ConfAt (Since m u) c v1 v2 v3 v4 u) => new_none_any a since_lt l1 l2 l3 l4 hN
    rw [hN] at cM cS
    simp only [Option.isSome_none, Bool.and_false] at cM cS
    clear hA L hN hAu cOR cSR cPR
    go_enter Try.func16, Try.ntmps16
    go_wp2_with (first
          | (have X' := Q4; refine wpList_load_row rfl 26 (.tmp 2) rfl w.heap.size rfl 26 #[.int .i64 c.W, .int .i64 c.H, .int .i64 c.height, vb, vp, .slice a3 c.robots.length cap3, vs, .int .i64 c.unit, .int .i64 c.accel, .int .i64 c.speed, .int .i64 c.turn, .int .i64 c.hoist, .int .i64 c.queue, .int .i64 c.resend, .int .i64 c.budget, .bool c.back] (0, 0) _ Q4.a Try.underlying26 rfl info_conf ?_)
          | (have X' := Q3; refine wpList_load_row rfl 26 (.tmp 2) rfl w.heap.size rfl 26 #[.int .i64 c.W, .int .i64 c.H, .int .i64 c.height, vb, vp, .slice a3 c.robots.length cap3, vs, .int .i64 c.unit, .int .i64 c.accel, .int .i64 c.speed, .int .i64 c.turn, .int .i64 c.hoist, .int .i64 c.queue, .int .i64 c.resend, .int .i64 c.budget, .bool c.back] (0, 0) _ Q3.a Try.underlying26 rfl info_conf ?_)
          | (have X' := Q2; refine wpList_load_row rfl 26 (.tmp 2) rfl w.heap.size rfl 26 #[.int .i64 c.W, .int .i64 c.H, .int .i64 c.height, vb, vp, .slice a3 c.robots.length cap3, vs, .int .i64 c.unit, .int .i64 c.accel, .int .i64 c.speed, .int .i64 c.turn, .int .i64 c.hoist, .int .i64 c.queue, .int .i64 c.resend, .int .i64 c.budget, .bool c.back] (0, 0) _ Q2.a Try.underlying26 rfl info_conf ?_)
          | (refine wpList_load_row rfl 26 (.tmp 2) rfl w.heap.size rfl 26 #[.int .i64 c.W, .int .i64 c.H, .int .i64 c.height, vb, vp, .slice a3 c.robots.length cap3, vs, .int .i64 c.unit, .int .i64 c.accel, .int .i64 c.speed, .int .i64 c.turn, .int .i64 c.hoist, .int .i64 c.queue, .int .i64 c.resend, .int .i64 c.budget, .bool c.back] (0, 0) _ Q0.a Try.underlying26 rfl info_conf ?_)
          | (go_at_call 20; refine (cC _ Q0.below).mono ?_; rintro e w1 ⟨r1, rfl, ⟨v1, v2, v3, v4, rfl, A1⟩, b1⟩; have Q1 := Q0.go b1)
          | (go_at_call 52; refine (cN A1).mono ?_; rintro e w2 ⟨rfl, b2⟩; have Q2 := Q1.go b2)
          | (go_at_call 51; refine (cS _ Q2.below).mono ?_; rintro e w3 ⟨r3, rfl, rfl, b3⟩; have Q3 := Q2.go b3; have x5 := cell_of Q3.a 5)
          | (go_at_call 25; refine (cOR _ Q3.below).mono ?_; rintro e w4 ⟨r4, rfl, rfl, b4⟩; have Q4 := Q3.go b4)
          | (have X' := Q4; go_at_call 21; refine (cM _ Q4.below).mono ?_; rintro e w8 ⟨r8, rfl, rfl, b8⟩; have Q8 := Q4.go b8)
          | (go_at_call 21; refine (cM _ Q3.below).mono ?_; rintro e w8 ⟨r8, rfl, rfl, b8⟩; have Q8 := Q3.go b8)
          | (go_at_call 53; refine (awake8_any _).mono ?_; rintro e w9 ⟨r9, rfl, rfl, b9⟩))
    go_ret
    exact ⟨rfl, bcat Q8.below b9 (Nat.le_refl _)⟩
  | some G =>
    have hmy := (new_some hN).1.2.2.2.2.2.2.2.2.2.2.2
    have cN := fun {m : Nat} {u : World} {v1 v2 v3 v4 : Value} (a : ConfAt (Since m u) c v1 v2 v3 v4 u) => new_some_any a since_lt l1 l2 l3 l4 l5 hN
    rw [hN] at cM cS
    simp only [Option.isSome_some, Bool.and_true] at cM cS
    have hos := open_same hN (x, y)
    have hre := room_eq hN (x, y)
    obtain ⟨OB, hOB⟩ : ∃ b, decide (openR c (x, y)) = b := ⟨_, rfl⟩
    rw [hOB] at hos cOR
    cases hs : smallN c
    · rw [hs] at cS
      clear hA L hN hAu cOR cSR cPR hos hre
      go_enter Try.func16, Try.ntmps16
      go_wp2_with (first
            | (have X' := Q4; refine wpList_load_row rfl 26 (.tmp 2) rfl w.heap.size rfl 26 #[.int .i64 c.W, .int .i64 c.H, .int .i64 c.height, vb, vp, .slice a3 c.robots.length cap3, vs, .int .i64 c.unit, .int .i64 c.accel, .int .i64 c.speed, .int .i64 c.turn, .int .i64 c.hoist, .int .i64 c.queue, .int .i64 c.resend, .int .i64 c.budget, .bool c.back] (0, 0) _ Q4.a Try.underlying26 rfl info_conf ?_)
            | (have X' := Q3; refine wpList_load_row rfl 26 (.tmp 2) rfl w.heap.size rfl 26 #[.int .i64 c.W, .int .i64 c.H, .int .i64 c.height, vb, vp, .slice a3 c.robots.length cap3, vs, .int .i64 c.unit, .int .i64 c.accel, .int .i64 c.speed, .int .i64 c.turn, .int .i64 c.hoist, .int .i64 c.queue, .int .i64 c.resend, .int .i64 c.budget, .bool c.back] (0, 0) _ Q3.a Try.underlying26 rfl info_conf ?_)
            | (have X' := Q2; refine wpList_load_row rfl 26 (.tmp 2) rfl w.heap.size rfl 26 #[.int .i64 c.W, .int .i64 c.H, .int .i64 c.height, vb, vp, .slice a3 c.robots.length cap3, vs, .int .i64 c.unit, .int .i64 c.accel, .int .i64 c.speed, .int .i64 c.turn, .int .i64 c.hoist, .int .i64 c.queue, .int .i64 c.resend, .int .i64 c.budget, .bool c.back] (0, 0) _ Q2.a Try.underlying26 rfl info_conf ?_)
            | (refine wpList_load_row rfl 26 (.tmp 2) rfl w.heap.size rfl 26 #[.int .i64 c.W, .int .i64 c.H, .int .i64 c.height, vb, vp, .slice a3 c.robots.length cap3, vs, .int .i64 c.unit, .int .i64 c.accel, .int .i64 c.speed, .int .i64 c.turn, .int .i64 c.hoist, .int .i64 c.queue, .int .i64 c.resend, .int .i64 c.budget, .bool c.back] (0, 0) _ Q0.a Try.underlying26 rfl info_conf ?_)
            | (go_at_call 20; refine (cC _ Q0.below).mono ?_; rintro e w1 ⟨r1, rfl, ⟨v1, v2, v3, v4, rfl, A1⟩, b1⟩; have Q1 := Q0.go b1)
            | (go_at_call 52; refine (cN A1).mono ?_; rintro e w2 ⟨K, ps0, rfl, S2, hb2, hat2, hpm2, b2⟩; have Q2 := Q1.go b2)
            | (go_at_call 51; refine (cS _ Q2.below).mono ?_; rintro e w3 ⟨r3, rfl, rfl, b3⟩; have Q3 := Q2.go b3; have x5 := cell_of Q3.a 5)
            | (go_at_call 25; refine (cOR _ Q3.below).mono ?_; rintro e w4 ⟨r4, rfl, rfl, b4⟩; have Q4 := Q3.go b4)
            | (have X' := Q4; go_at_call 21; refine (cM _ Q4.below).mono ?_; rintro e w8 ⟨r8, rfl, rfl, b8⟩; have Q8 := Q4.go b8)
            | (go_at_call 21; refine (cM _ Q3.below).mono ?_; rintro e w8 ⟨r8, rfl, rfl, b8⟩; have Q8 := Q3.go b8)
            | (go_at_call 53; refine (awake8_any _).mono ?_; rintro e w9 ⟨r9, rfl, rfl, b9⟩))
      go_ret
      exact ⟨rfl, bcat Q8.below b9 (Nat.le_refl _)⟩
    · rw [hs] at cS
      by_cases hr0 : c.robots.length = 0
      · have hr1 : ((c.robots.length : Int) == 0) = true := by rw [beq_iff_eq]; omega
        clear hA L hN hAu cOR cSR cPR hos hre hr0
        go_enter Try.func16, Try.ntmps16
        go_wp2_with (first
              | (have X' := Q4; refine wpList_load_row rfl 26 (.tmp 2) rfl w.heap.size rfl 26 #[.int .i64 c.W, .int .i64 c.H, .int .i64 c.height, vb, vp, .slice a3 c.robots.length cap3, vs, .int .i64 c.unit, .int .i64 c.accel, .int .i64 c.speed, .int .i64 c.turn, .int .i64 c.hoist, .int .i64 c.queue, .int .i64 c.resend, .int .i64 c.budget, .bool c.back] (0, 0) _ Q4.a Try.underlying26 rfl info_conf ?_)
              | (have X' := Q3; refine wpList_load_row rfl 26 (.tmp 2) rfl w.heap.size rfl 26 #[.int .i64 c.W, .int .i64 c.H, .int .i64 c.height, vb, vp, .slice a3 c.robots.length cap3, vs, .int .i64 c.unit, .int .i64 c.accel, .int .i64 c.speed, .int .i64 c.turn, .int .i64 c.hoist, .int .i64 c.queue, .int .i64 c.resend, .int .i64 c.budget, .bool c.back] (0, 0) _ Q3.a Try.underlying26 rfl info_conf ?_)
              | (have X' := Q2; refine wpList_load_row rfl 26 (.tmp 2) rfl w.heap.size rfl 26 #[.int .i64 c.W, .int .i64 c.H, .int .i64 c.height, vb, vp, .slice a3 c.robots.length cap3, vs, .int .i64 c.unit, .int .i64 c.accel, .int .i64 c.speed, .int .i64 c.turn, .int .i64 c.hoist, .int .i64 c.queue, .int .i64 c.resend, .int .i64 c.budget, .bool c.back] (0, 0) _ Q2.a Try.underlying26 rfl info_conf ?_)
              | (refine wpList_load_row rfl 26 (.tmp 2) rfl w.heap.size rfl 26 #[.int .i64 c.W, .int .i64 c.H, .int .i64 c.height, vb, vp, .slice a3 c.robots.length cap3, vs, .int .i64 c.unit, .int .i64 c.accel, .int .i64 c.speed, .int .i64 c.turn, .int .i64 c.hoist, .int .i64 c.queue, .int .i64 c.resend, .int .i64 c.budget, .bool c.back] (0, 0) _ Q0.a Try.underlying26 rfl info_conf ?_)
              | (go_at_call 20; refine (cC _ Q0.below).mono ?_; rintro e w1 ⟨r1, rfl, ⟨v1, v2, v3, v4, rfl, A1⟩, b1⟩; have Q1 := Q0.go b1)
              | (go_at_call 52; refine (cN A1).mono ?_; rintro e w2 ⟨K, ps0, rfl, S2, hb2, hat2, hpm2, b2⟩; have Q2 := Q1.go b2)
              | (go_at_call 51; refine (cS _ Q2.below).mono ?_; rintro e w3 ⟨r3, rfl, rfl, b3⟩; have Q3 := Q2.go b3; have x5 := cell_of Q3.a 5)
              | (go_at_call 25; refine (cOR _ Q3.below).mono ?_; rintro e w4 ⟨r4, rfl, rfl, b4⟩; have Q4 := Q3.go b4)
              | (have X' := Q4; go_at_call 21; refine (cM _ Q4.below).mono ?_; rintro e w8 ⟨r8, rfl, rfl, b8⟩; have Q8 := Q4.go b8)
              | (go_at_call 21; refine (cM _ Q3.below).mono ?_; rintro e w8 ⟨r8, rfl, rfl, b8⟩; have Q8 := Q3.go b8)
              | (go_at_call 53; refine (awake8_any _).mono ?_; rintro e w9 ⟨r9, rfl, rfl, b9⟩))
        go_ret
        exact ⟨rfl, bcat Q8.below b9 (Nat.le_refl _)⟩
      · have hr1 : ((c.robots.length : Int) == 0) = false := by rw [beq_eq_false_iff_ne]; omega
        cases OB
        · clear hA L hN hAu cSR cPR hos hre hr0
          go_enter Try.func16, Try.ntmps16
          go_wp2_with (first
                | (have X' := Q4; refine wpList_load_row rfl 26 (.tmp 2) rfl w.heap.size rfl 26 #[.int .i64 c.W, .int .i64 c.H, .int .i64 c.height, vb, vp, .slice a3 c.robots.length cap3, vs, .int .i64 c.unit, .int .i64 c.accel, .int .i64 c.speed, .int .i64 c.turn, .int .i64 c.hoist, .int .i64 c.queue, .int .i64 c.resend, .int .i64 c.budget, .bool c.back] (0, 0) _ Q4.a Try.underlying26 rfl info_conf ?_)
                | (have X' := Q3; refine wpList_load_row rfl 26 (.tmp 2) rfl w.heap.size rfl 26 #[.int .i64 c.W, .int .i64 c.H, .int .i64 c.height, vb, vp, .slice a3 c.robots.length cap3, vs, .int .i64 c.unit, .int .i64 c.accel, .int .i64 c.speed, .int .i64 c.turn, .int .i64 c.hoist, .int .i64 c.queue, .int .i64 c.resend, .int .i64 c.budget, .bool c.back] (0, 0) _ Q3.a Try.underlying26 rfl info_conf ?_)
                | (have X' := Q3; refine wpList_load_want (by kernel_rfl) 26 (.tmp 2) rfl w.heap.size rfl 26 #[.int .i64 c.W, .int .i64 c.H, .int .i64 c.height, vb, vp, .slice a3 c.robots.length cap3, vs, .int .i64 c.unit, .int .i64 c.accel, .int .i64 c.speed, .int .i64 c.turn, .int .i64 c.hoist, .int .i64 c.queue, .int .i64 c.resend, .int .i64 c.budget, .bool c.back] (0, 0) Q3.a Try.underlying26 info_conf ?_)
                | (have X' := Q3; refine wpList_load_want (by kernel_rfl) 35 (.tmp 3) rfl (w.heap.size + 1) rfl 35 #[.int .i64 x, .int .i64 y] (0, 0) Q3.b Try.underlying35 infoCell2 ?_)
                | (have X' := Q2; refine wpList_load_row rfl 26 (.tmp 2) rfl w.heap.size rfl 26 #[.int .i64 c.W, .int .i64 c.H, .int .i64 c.height, vb, vp, .slice a3 c.robots.length cap3, vs, .int .i64 c.unit, .int .i64 c.accel, .int .i64 c.speed, .int .i64 c.turn, .int .i64 c.hoist, .int .i64 c.queue, .int .i64 c.resend, .int .i64 c.budget, .bool c.back] (0, 0) _ Q2.a Try.underlying26 rfl info_conf ?_)
                | (refine wpList_load_row rfl 26 (.tmp 2) rfl w.heap.size rfl 26 #[.int .i64 c.W, .int .i64 c.H, .int .i64 c.height, vb, vp, .slice a3 c.robots.length cap3, vs, .int .i64 c.unit, .int .i64 c.accel, .int .i64 c.speed, .int .i64 c.turn, .int .i64 c.hoist, .int .i64 c.queue, .int .i64 c.resend, .int .i64 c.budget, .bool c.back] (0, 0) _ Q0.a Try.underlying26 rfl info_conf ?_)
                | (go_at_call 20; refine (cC _ Q0.below).mono ?_; rintro e w1 ⟨r1, rfl, ⟨v1, v2, v3, v4, rfl, A1⟩, b1⟩; have Q1 := Q0.go b1)
                | (go_at_call 52; refine (cN A1).mono ?_; rintro e w2 ⟨K, ps0, rfl, S2, hb2, hat2, hpm2, b2⟩; have Q2 := Q1.go b2)
                | (go_at_call 51; refine (cS _ Q2.below).mono ?_; rintro e w3 ⟨r3, rfl, rfl, b3⟩; have Q3 := Q2.go b3; have x5 := cell_of Q3.a 5)
                | (go_at_call 25; refine (cOR _ Q3.below).mono ?_; rintro e w4 ⟨r4, rfl, rfl, b4⟩; have Q4 := Q3.go b4)
                | (have X' := Q4; go_at_call 21; refine (cM _ Q4.below).mono ?_; rintro e w8 ⟨r8, rfl, rfl, b8⟩; have Q8 := Q4.go b8)
                | (go_at_call 21; refine (cM _ Q3.below).mono ?_; rintro e w8 ⟨r8, rfl, rfl, b8⟩; have Q8 := Q3.go b8)
                | (go_at_call 53; refine (awake8_any _).mono ?_; rintro e w9 ⟨r9, rfl, rfl, b9⟩))
          go_ret
          exact ⟨rfl, bcat Q8.below b9 (Nat.le_refl _)⟩
        · obtain ⟨PB, hPB⟩ : ∃ z, portP c.ports (x, y) 0 = z := ⟨_, rfl⟩
          rw [hPB] at cPR hre
          by_cases hst : stackedR c (x, y)
          · rw [decide_eq_true hst] at cSR
            have hPn : PB < 0 := by rw [← hPB]; exact (portP_neg _ _ _).2 hst.2.1
            have hPn2 : ¬ (0 ≤ PB) := by omega
            have hRM : roomP c G.uses (x, y) = c.height := by rw [hre, if_pos hPn, if_pos hst]
            have hh0 : 0 ≤ c.height := by have := limited_sides (new_some hN).1.1; omega
            clear hPB
            have HMY : Hid (mayBeP (c.stacks.flatMap Prod.snd)) := hmy
            have HN : Hid (newP c = some G) := hN
            have HRM : Hid (roomP c G.uses (x, y) = (c.height)) := hRM
            clear hA L hN hAu hmy hre hRM hOB
            go_enter Try.func16, Try.ntmps16
            go_wp2_with (first
                  | (have X' := Q6; go_at_call 71; refine (told_any S6 1000 (by decide) (by decide)).mono ?_; rintro e w7 ⟨v8, rfl, ⟨ys8, T8⟩, b7⟩; have Q7 := Q6.go b7)
                  | (have X' := Q5; refine wpList_load_row rfl 26 (.tmp 2) rfl w.heap.size rfl 26 #[.int .i64 c.W, .int .i64 c.H, .int .i64 c.height, vb, vp, .slice a3 c.robots.length cap3, vs, .int .i64 c.unit, .int .i64 c.accel, .int .i64 c.speed, .int .i64 c.turn, .int .i64 c.hoist, .int .i64 c.queue, .int .i64 c.resend, .int .i64 c.budget, .bool c.back] (0, 0) _ Q5.a Try.underlying26 rfl info_conf ?_)
                  | (have X' := Q5; refine wpList_load_row rfl 35 (.tmp 3) rfl (w.heap.size + 1) rfl 35 #[.int .i64 x, .int .i64 y] (0, 0) _ Q5.b Try.underlying35 rfl infoCell2 ?_)
                  | (have X' := Q5; go_at_call 27; refine (cPR _ Q5.below).mono ?_; rintro e w6 ⟨r6, rfl, rfl, b6⟩; have Q6 := Q5.go b6; have S6 := (((S2.go b3).go b4).go b5).go b6)
                  | (have X' := Q4; refine wpList_load_row rfl 26 (.tmp 2) rfl w.heap.size rfl 26 #[.int .i64 c.W, .int .i64 c.H, .int .i64 c.height, vb, vp, .slice a3 c.robots.length cap3, vs, .int .i64 c.unit, .int .i64 c.accel, .int .i64 c.speed, .int .i64 c.turn, .int .i64 c.hoist, .int .i64 c.queue, .int .i64 c.resend, .int .i64 c.budget, .bool c.back] (0, 0) _ Q4.a Try.underlying26 rfl info_conf ?_)
                  | (have X' := Q4; refine wpList_load_row rfl 35 (.tmp 3) rfl (w.heap.size + 1) rfl 35 #[.int .i64 x, .int .i64 y] (0, 0) _ Q4.b Try.underlying35 rfl infoCell2 ?_)
                  | (have X' := Q4; go_at_call 29; refine (cSR _ Q4.below).mono ?_; rintro e w5 ⟨r5, rfl, rfl, b5⟩; have Q5 := Q4.go b5; have h52 := cell_of Q5.a 2)
                  | (first
                  | (have X' := Q4; refine wpList_load_row rfl 26 (.tmp 2) rfl w.heap.size rfl 26 #[.int .i64 c.W, .int .i64 c.H, .int .i64 c.height, vb, vp, .slice a3 c.robots.length cap3, vs, .int .i64 c.unit, .int .i64 c.accel, .int .i64 c.speed, .int .i64 c.turn, .int .i64 c.hoist, .int .i64 c.queue, .int .i64 c.resend, .int .i64 c.budget, .bool c.back] (0, 0) _ Q4.a Try.underlying26 rfl info_conf ?_)
                  | (have X' := Q3; refine wpList_load_row rfl 26 (.tmp 2) rfl w.heap.size rfl 26 #[.int .i64 c.W, .int .i64 c.H, .int .i64 c.height, vb, vp, .slice a3 c.robots.length cap3, vs, .int .i64 c.unit, .int .i64 c.accel, .int .i64 c.speed, .int .i64 c.turn, .int .i64 c.hoist, .int .i64 c.queue, .int .i64 c.resend, .int .i64 c.budget, .bool c.back] (0, 0) _ Q3.a Try.underlying26 rfl info_conf ?_)
                  | (have X' := Q3; refine wpList_load_want (by kernel_rfl) 26 (.tmp 2) rfl w.heap.size rfl 26 #[.int .i64 c.W, .int .i64 c.H, .int .i64 c.height, vb, vp, .slice a3 c.robots.length cap3, vs, .int .i64 c.unit, .int .i64 c.accel, .int .i64 c.speed, .int .i64 c.turn, .int .i64 c.hoist, .int .i64 c.queue, .int .i64 c.resend, .int .i64 c.budget, .bool c.back] (0, 0) Q3.a Try.underlying26 info_conf ?_)
                  | (have X' := Q3; refine wpList_load_want (by kernel_rfl) 35 (.tmp 3) rfl (w.heap.size + 1) rfl 35 #[.int .i64 x, .int .i64 y] (0, 0) Q3.b Try.underlying35 infoCell2 ?_)
                  | (have X' := Q2; refine wpList_load_row rfl 26 (.tmp 2) rfl w.heap.size rfl 26 #[.int .i64 c.W, .int .i64 c.H, .int .i64 c.height, vb, vp, .slice a3 c.robots.length cap3, vs, .int .i64 c.unit, .int .i64 c.accel, .int .i64 c.speed, .int .i64 c.turn, .int .i64 c.hoist, .int .i64 c.queue, .int .i64 c.resend, .int .i64 c.budget, .bool c.back] (0, 0) _ Q2.a Try.underlying26 rfl info_conf ?_)
                  | (refine wpList_load_row rfl 26 (.tmp 2) rfl w.heap.size rfl 26 #[.int .i64 c.W, .int .i64 c.H, .int .i64 c.height, vb, vp, .slice a3 c.robots.length cap3, vs, .int .i64 c.unit, .int .i64 c.accel, .int .i64 c.speed, .int .i64 c.turn, .int .i64 c.hoist, .int .i64 c.queue, .int .i64 c.resend, .int .i64 c.budget, .bool c.back] (0, 0) _ Q0.a Try.underlying26 rfl info_conf ?_)
                  | (go_at_call 20; refine (cC _ Q0.below).mono ?_; rintro e w1 ⟨r1, rfl, ⟨v1, v2, v3, v4, rfl, A1⟩, b1⟩; have Q1 := Q0.go b1)
                  | (go_at_call 52; refine (cN A1).mono ?_; rintro e w2 ⟨K, ps0, rfl, S2, hb2, hat2, hpm2, b2⟩; have Q2 := Q1.go b2)
                  | (go_at_call 51; refine (cS _ Q2.below).mono ?_; rintro e w3 ⟨r3, rfl, rfl, b3⟩; have Q3 := Q2.go b3; have x5 := cell_of Q3.a 5)
                  | (go_at_call 25; refine (cOR _ Q3.below).mono ?_; rintro e w4 ⟨r4, rfl, rfl, b4⟩; have Q4 := Q3.go b4)
                  | (have X' := Q4; go_at_call 21; refine (cM _ Q4.below).mono ?_; rintro e w8 ⟨r8, rfl, rfl, b8⟩; have Q8 := Q4.go b8)
                  | (go_at_call 21; refine (cM _ Q3.below).mono ?_; rintro e w8 ⟨r8, rfl, rfl, b8⟩; have Q8 := Q3.go b8)
                  | (go_at_call 53; refine (awake8_any _).mono ?_; rintro e w9 ⟨r9, rfl, rfl, b9⟩)))
            have T8l := T8.list
            obtain ⟨a8, cap8, hv8, _⟩ := T8l.form
            subst hv8
            obtain ⟨nL, hnL⟩ : ∃ n, (tellT c G.uses ps0 ps0.length).length = n := ⟨_, rfl⟩
            have HnL : Hid ((tellT c G.uses ps0 ps0.length).length = nL) := hnL
            have hnb : nL ≤ 256 := by rw [← hnL]; have := tell_len c G.uses ps0 ps0.length; have := S6.lens; omega
            rw [hnL] at T8l
            rw [hnL]
            have hfl := S6.foot_lt
            have HLs : Hid (∀ ps u, Turn K ps0 ps w7 u → ListAt 3 stackEl (Since (w6.heap.size + 3) w7) (tellT c G.uses ps0 ps0.length) (.slice a8 nL cap8) u) := fun ps u tn => T8l.stable heldStack fun g hg => tn.keep g hg.2 (fun q => by have := hfl g q; have := hg.1; omega)
            have hfg : ∀ b, Foot K ps0 b → w.heap.size + 2 ≤ b := fun b q => by have h1 := S6.foot_ge b q; have h2 := lt_of_heap Q1.b; omega
            have HQ7 : Hid (Two w #[.int .i64 c.W, .int .i64 c.H, .int .i64 c.height, vb, vp, .slice a3 c.robots.length cap3, vs, .int .i64 c.unit, .int .i64 c.accel, .int .i64 c.speed, .int .i64 c.turn, .int .i64 c.hoist, .int .i64 c.queue, .int .i64 c.resend, .int .i64 c.budget, .bool c.back] #[.int .i64 x, .int .i64 y] 35 w7) := Q7
            have HTw : Hid (∀ ps u, Turn K ps0 ps w7 u → Two w #[.int .i64 c.W, .int .i64 c.H, .int .i64 c.height, vb, vp, .slice a3 c.robots.length cap3, vs, .int .i64 c.unit, .int .i64 c.accel, .int .i64 c.speed, .int .i64 c.turn, .int .i64 c.hoist, .int .i64 c.queue, .int .i64 c.resend, .int .i64 c.budget, .bool c.back] #[.int .i64 x, .int .i64 y] 35 u) := fun ps u tn => two_turn HQ7.out tn hfg
            have HIn : Hid (∀ i (h : i < (tellT c G.uses ps0 ps0.length).length), openU c.W c.H G.uses ((tellT c G.uses ps0 ps0.length)[i]'h).1 = true) := fun i h => tell_open (List.getElem_mem h)
            obtain ⟨kA, pA, hkA, hpA, hpAx⟩ := open_num S6 hos
            have HkA : Hid (number c.W c.H (x, y) = (kA : Nat)) := hkA
            have HF0 : Hid (∃ ps, Fu w7 K c G.uses ps0 c.robots.length kA (c.height) ps w7) := ⟨ps0, S6.go b7, Turn.refl _ _ _, (first_bins HMY.out hpm2).2, fun p hp => by
              rw [hpA] at hp
              cases hp
              have e := hat2 kA pA hpA
              rw [hpAx] at e
              rw [← HRM.out, e]
              by_cases hz : placed c.stacks (x, y) = []
              · rw [hz]; rw [HRM.out]; simp; try omega
              · exact placed_room HN.out hz⟩
            have Hth : Hid (thereB (List.replicate c.robots.length 0) 0 = true) := by show thereB (List.replicate c.robots.length 0) 0 = true; unfold thereB; rw [List.length_replicate]; simp; omega
            have HOS : Hid (openU c.W c.H G.uses (x, y) = true) := hos
            clear T8l hnL hfl hfg hkA hpA hpAx S6 b7 Q7 Q1 hat2 hpm2 T8 hos
            go_loopw [9] (fun i wq => ∃ j : Nat, j ≤ nL ∧ i = .int .i64 j ∧ Hid (∃ ps, Fu w7 K c G.uses ps0 c.robots.length kA (c.height) ps wq)) (fun i _ => nL - (intOf i).toNat)
            case atStart => exact ⟨0, Nat.zero_le _, rfl, HF0⟩
            case round =>
              clear HF0
              obtain ⟨j, hj, rfl, HF⟩ := hrel
              by_cases hlt : j < nL
              · have hj' : j < (tellT c G.uses ps0 ps0.length).length := by rw [HnL.out]; exact hlt
                have hop2 := HIn.out j hj'
                have HIt : Hid (∀ ps u, Turn K ps0 ps w7 u → ∃ p vb2, a8 = some p ∧ ∀ jj z, #[Value.int .i64 ((tellT c G.uses ps0 ps0.length)[j]'hj').1.1, .int .i64 ((tellT c G.uses ps0 ps0.length)[j]'hj').1.2, vb2][jj]? = some z → u.cell? ((p.add (j * 3)).add jj) = some z) := fun ps u tn => by
                  obtain ⟨p, cs, cap', hv, _, ⟨vb2, e, _⟩, hrd⟩ := (HLs.out ps u tn).item hj'
                  subst e
                  injection hv with h1 h2 h3
                  exact ⟨p, vb2, h1, hrd⟩
                generalize (tellT c G.uses ps0 ps0.length)[j]'hj' = q2 at *
                obtain ⟨⟨x2, y2⟩, bs2⟩ := q2
                simp only at hop2 HIt
                obtain ⟨psx, Fx⟩ := HF.out
                obtain ⟨p, _, rfl, _⟩ := HIt.out _ _ Fx.tn
                obtain ⟨k2, _, hk2, _, _⟩ := open_num Fx.st hop2
                have Hk2 : Hid (number c.W c.H (x2, y2) = (k2 : Nat)) := hk2
                have HO2 : Hid (openU c.W c.H G.uses (x2, y2) = true) := hop2
                have HCe : Hid (∀ ps u, Turn K ps0 ps w7 u → ∀ jj z, #[Value.int .i64 x2, .int .i64 y2][jj]? = some z → u.cell? ((p.add (j * 3)).add jj) = some z) := fun ps u tn jj z hz => by
                  obtain ⟨p', vb2, hp', hrd⟩ := HIt.out ps u tn
                  injection hp' with hp'
                  subst hp'
                  exact hrd jj z (by
                    match jj with
                    | 0 => simpa using hz
                    | 1 => simpa using hz
                    | jj + 2 => simp at hz)
                clear Fx HIt hk2 hop2
                go_wp2
                go_loopw [10] (fun _ wq => Hid (∃ ps, Fu w7 K c G.uses ps0 c.robots.length kA (c.height) ps wq)) (fun _ wq => hgtW K k2 wq)
                case atStart => exact HF
                case round =>
                  clear HF
                  have HF : Hid (∃ ps, Fu w7 K c G.uses ps0 c.robots.length kA (c.height) ps wr) := hrel
                  obtain ⟨ps, FU⟩ := HF.out
                  obtain ⟨k2', P2, hk2', hP2, _⟩ := open_num FU.st HO2.out
                  obtain rfl : k2 = k2' := by have := Hk2.out; rw [hk2'] at this; omega
                  have hgm := hgt_is FU.st hP2
                  have HFU : Hid (Fu w7 K c G.uses ps0 c.robots.length kA (c.height) ps wr) := FU
                  have HP2 : Hid (ps[k2]? = some P2) := hP2
                  have Hgm : Hid (hgtW K k2 wr = P2.2.2.length) := hgm
                  have hsm2 := FU.st.small _ _ hP2
                  have cH2 := fun u (b : Below wr.heap.size wr u) => height_yes (HFU.out.st.go b) x2 y2 HO2.out Hk2.out HP2.out
                  clear hgm hP2 FU hk2' hrel
                  go_wp2
                  obtain ⟨IH, hIH⟩ : ∃ I : World → Prop, I = Below wr.heap.size wr := ⟨_, rfl⟩
                  have kI : ∀ u, IH u → Below wr.heap.size wr u := fun u hu => by rw [hIH] at hu; exact hu
                  have hS : IH wr.drew := by rw [hIH]; exact (Below.refl _ _).drew
                  have D0 : Below wr.heap.size wr wr.drew := (Below.refl _ _).drew
                  have hqT := HTw.out _ _ HFU.out.tn
                  have hqb := hqT.b
                  have HX : Hid (∀ u, IH u → ∀ j z, #[Value.int .i64 x, .int .i64 y][j]? = some z → u.cell? ((⟨w.heap.size + 1, 0, none⟩ : Addr).add j) = some z) := fun u hu => row_below hqb (kI u hu)
                  have HC2 : Hid (∀ u, IH u → ∀ jj z, #[Value.int .i64 x2, .int .i64 y2][jj]? = some z → u.cell? ((p.add (j * 3)).add jj) = some z) := fun u hu jj z hz => cell_below (HCe.out _ _ HFU.out.tn jj z hz) (kI u hu)
                  clear hqT hqb
                  by_cases hc : (x2, y2) = (x, y)
                  · skip
                    refine start_held (S := IH) 17 rfl (by kernel_rfl) (hS) ?_
                    simp only [Array.replicate_succ, Array.replicate_zero, List.push_toArray, List.nil_append, List.cons_append]
                    refine take_held 0 (by assumption) rfl (by kernel_rfl) (by kernel_rfl) (by kernel_rfl) (fun _ _ _ h => h) (by kernel_rfl) (v := ?v0) ?y0 ?r0
                    case y0 => (intro u hu; go_simp; try rfl)
                    simp only [Act.put, List.setIfInBounds_toArray, List.set_cons_zero, List.set_cons_succ]
                    refine take_held 1 (by assumption) rfl (by kernel_rfl) (by kernel_rfl) (by kernel_rfl) (fun _ _ _ h => h) (by kernel_rfl) (v := ?v1) ?y1 ?r1
                    case y1 => (intro u hu; go_simp; try rfl)
                    simp only [Act.put, List.setIfInBounds_toArray, List.set_cons_zero, List.set_cons_succ]
                    refine take_held 2 (by assumption) rfl (by kernel_rfl) (by kernel_rfl) (by kernel_rfl) (fun _ _ _ h => h) (by kernel_rfl) (v := ?v2) ?y2 ?r2
                    case y2 => (intro u hu; go_simp; try rfl)
                    simp only [Act.put, List.setIfInBounds_toArray, List.set_cons_zero, List.set_cons_succ]
                    refine take_held 3 (by assumption) rfl (by kernel_rfl) (by kernel_rfl) (by kernel_rfl) (fun _ _ _ h => h) (by kernel_rfl) (v := ?v3) ?y3 ?r3
                    case y3 => (intro u hu; go_simp; try rfl)
                    simp only [Act.put, List.setIfInBounds_toArray, List.set_cons_zero, List.set_cons_succ]
                    refine take_held 4 (by assumption) rfl (by kernel_rfl) (by kernel_rfl) (by kernel_rfl) (fun _ _ _ h => h) (by kernel_rfl) (v := .agg #[.int .i64 x2, .int .i64 y2]) ?y4 ?r4
                    case y4 => (intro u hu; exact run_load_op 35 _ rfl (p.add (j * 3)) _ rfl (HC2.out u hu) (aggCell u) infoCell2)
                    simp only [Act.put, List.setIfInBounds_toArray, List.set_cons_zero, List.set_cons_succ]
                    refine take_held 5 (by assumption) rfl (by kernel_rfl) (by kernel_rfl) (by kernel_rfl) (fun _ _ _ h => h) (by kernel_rfl) (v := .agg #[.int .i64 x, .int .i64 y]) ?y5 ?r5
                    case y5 => (intro u hu; exact run_load_op 35 _ rfl ⟨w.heap.size + 1, 0, none⟩ _ rfl (HX.out u hu) (aggCell u) infoCell2)
                    simp only [Act.put, List.setIfInBounds_toArray, List.set_cons_zero, List.set_cons_succ]
                    refine take_held 6 (by assumption) rfl (by kernel_rfl) (by kernel_rfl) (by kernel_rfl) (fun _ _ _ h => h) (by kernel_rfl) (v := (.bool false)) ?y6 ?r6
                    case y6 => (intro u hu; refine (run_neq_cell _ _ rfl x2 y2 x y rfl rfl).trans ?_; rw [decide_eq_true hc]; rfl)
                    simp only [Act.put, List.setIfInBounds_toArray, List.set_cons_zero, List.set_cons_succ]
                    refine take_held 7 (by assumption) rfl (by kernel_rfl) (by kernel_rfl) (by kernel_rfl) (fun _ _ _ h => h) (by kernel_rfl) (v := ?v7) ?y7 ?r7
                    case y7 => (intro u hu; go_simp; try rfl)
                    simp only [Act.put, List.setIfInBounds_toArray, List.set_cons_zero, List.set_cons_succ]
                    refine skip_held 8 (by assumption) rfl (by kernel_rfl) (by kernel_rfl) (by kernel_rfl) (fun _ _ _ h => h) (by kernel_rfl) ?_
                    simp only [Act.put, List.setIfInBounds_toArray, List.set_cons_zero, List.set_cons_succ]
                    refine skip_held 9 (by assumption) rfl (by kernel_rfl) (by kernel_rfl) (by kernel_rfl) (fun _ _ _ h => h) (by kernel_rfl) ?_
                    simp only [Act.put, List.setIfInBounds_toArray, List.set_cons_zero, List.set_cons_succ]
                    refine skip_held 10 (by assumption) rfl (by kernel_rfl) (by kernel_rfl) (by kernel_rfl) (fun _ _ _ h => h) (by kernel_rfl) ?_
                    simp only [Act.put, List.setIfInBounds_toArray, List.set_cons_zero, List.set_cons_succ]
                    refine skip_held 11 (by assumption) rfl (by kernel_rfl) (by kernel_rfl) (by kernel_rfl) (fun _ _ _ h => h) (by kernel_rfl) ?_
                    simp only [Act.put, List.setIfInBounds_toArray, List.set_cons_zero, List.set_cons_succ]
                    refine skip_held 12 (by assumption) rfl (by kernel_rfl) (by kernel_rfl) (by kernel_rfl) (fun _ _ _ h => h) (by kernel_rfl) ?_
                    simp only [Act.put, List.setIfInBounds_toArray, List.set_cons_zero, List.set_cons_succ]
                    refine skip_held 13 (by assumption) rfl (by kernel_rfl) (by kernel_rfl) (by kernel_rfl) (fun _ _ _ h => h) (by kernel_rfl) ?_
                    simp only [Act.put, List.setIfInBounds_toArray, List.set_cons_zero, List.set_cons_succ]
                    refine skip_held 14 (by assumption) rfl (by kernel_rfl) (by kernel_rfl) (by kernel_rfl) (fun _ _ _ h => h) (by kernel_rfl) ?_
                    simp only [Act.put, List.setIfInBounds_toArray, List.set_cons_zero, List.set_cons_succ]
                    refine skip_held 15 (by assumption) rfl (by kernel_rfl) (by kernel_rfl) (by kernel_rfl) (fun _ _ _ h => h) (by kernel_rfl) ?_
                    simp only [Act.put, List.setIfInBounds_toArray, List.set_cons_zero, List.set_cons_succ]
                    refine take_held 16 (by assumption) rfl (by kernel_rfl) (by kernel_rfl) (by kernel_rfl) (fun _ _ _ h => h) (by kernel_rfl) (v := ?v8) ?y8 ?r8
                    case y8 => (intro u hu; go_simp; try rfl)
                    simp only [Act.put, List.setIfInBounds_toArray, List.set_cons_zero, List.set_cons_succ]
                    refine done_held (by kernel_rfl) ?_ _
                    have HF9 : Hid (∃ ps, Fu w7 K c G.uses ps0 c.robots.length kA (c.height) ps wr.drew) := ⟨ps, HFU.out.go D0⟩
                    go_wp2
                    go_roundw
                    case rel => exact ⟨j + 1, by omega, by go_num, HF9⟩
                    case measure => simp [intOf]; omega
                  · by_cases hz2 : P2.2.2 = []
                    · rw [hz2] at cH2
                      refine start_held (S := IH) 17 rfl (by kernel_rfl) (hS) ?_
                      simp only [Array.replicate_succ, Array.replicate_zero, List.push_toArray, List.nil_append, List.cons_append]
                      refine take_held 0 (by assumption) rfl (by kernel_rfl) (by kernel_rfl) (by kernel_rfl) (fun _ _ _ h => h) (by kernel_rfl) (v := ?v9) ?y9 ?r9
                      case y9 => (intro u hu; go_simp; try rfl)
                      simp only [Act.put, List.setIfInBounds_toArray, List.set_cons_zero, List.set_cons_succ]
                      refine take_held 1 (by assumption) rfl (by kernel_rfl) (by kernel_rfl) (by kernel_rfl) (fun _ _ _ h => h) (by kernel_rfl) (v := ?v10) ?y10 ?r10
                      case y10 => (intro u hu; go_simp; try rfl)
                      simp only [Act.put, List.setIfInBounds_toArray, List.set_cons_zero, List.set_cons_succ]
                      refine take_held 2 (by assumption) rfl (by kernel_rfl) (by kernel_rfl) (by kernel_rfl) (fun _ _ _ h => h) (by kernel_rfl) (v := ?v11) ?y11 ?r11
                      case y11 => (intro u hu; go_simp; try rfl)
                      simp only [Act.put, List.setIfInBounds_toArray, List.set_cons_zero, List.set_cons_succ]
                      refine take_held 3 (by assumption) rfl (by kernel_rfl) (by kernel_rfl) (by kernel_rfl) (fun _ _ _ h => h) (by kernel_rfl) (v := ?v12) ?y12 ?r12
                      case y12 => (intro u hu; go_simp; try rfl)
                      simp only [Act.put, List.setIfInBounds_toArray, List.set_cons_zero, List.set_cons_succ]
                      refine take_held 4 (by assumption) rfl (by kernel_rfl) (by kernel_rfl) (by kernel_rfl) (fun _ _ _ h => h) (by kernel_rfl) (v := .agg #[.int .i64 x2, .int .i64 y2]) ?y13 ?r13
                      case y13 => (intro u hu; exact run_load_op 35 _ rfl (p.add (j * 3)) _ rfl (HC2.out u hu) (aggCell u) infoCell2)
                      simp only [Act.put, List.setIfInBounds_toArray, List.set_cons_zero, List.set_cons_succ]
                      refine take_held 5 (by assumption) rfl (by kernel_rfl) (by kernel_rfl) (by kernel_rfl) (fun _ _ _ h => h) (by kernel_rfl) (v := .agg #[.int .i64 x, .int .i64 y]) ?y14 ?r14
                      case y14 => (intro u hu; exact run_load_op 35 _ rfl ⟨w.heap.size + 1, 0, none⟩ _ rfl (HX.out u hu) (aggCell u) infoCell2)
                      simp only [Act.put, List.setIfInBounds_toArray, List.set_cons_zero, List.set_cons_succ]
                      refine take_held 6 (by assumption) rfl (by kernel_rfl) (by kernel_rfl) (by kernel_rfl) (fun _ _ _ h => h) (by kernel_rfl) (v := (.bool true)) ?y15 ?r15
                      case y15 => (intro u hu; refine (run_neq_cell _ _ rfl x2 y2 x y rfl rfl).trans ?_; rw [decide_eq_false hc]; rfl)
                      simp only [Act.put, List.setIfInBounds_toArray, List.set_cons_zero, List.set_cons_succ]
                      refine take_held 7 (by assumption) rfl (by kernel_rfl) (by kernel_rfl) (by kernel_rfl) (fun _ _ _ h => h) (by kernel_rfl) (v := ?v16) ?y16 ?r16
                      case y16 => (intro u hu; go_simp; try rfl)
                      simp only [Act.put, List.setIfInBounds_toArray, List.set_cons_zero, List.set_cons_succ]
                      refine take_held 8 (by assumption) rfl (by kernel_rfl) (by kernel_rfl) (by kernel_rfl) (fun _ _ _ h => h) (by kernel_rfl) (v := ?v17) ?y17 ?r17
                      case y17 => (intro u hu; go_simp; try rfl)
                      simp only [Act.put, List.setIfInBounds_toArray, List.set_cons_zero, List.set_cons_succ]
                      refine take_held 9 (by assumption) rfl (by kernel_rfl) (by kernel_rfl) (by kernel_rfl) (fun _ _ _ h => h) (by kernel_rfl) (v := ?v18) ?y18 ?r18
                      case y18 => (intro u hu; go_simp; try rfl)
                      simp only [Act.put, List.setIfInBounds_toArray, List.set_cons_zero, List.set_cons_succ]
                      refine take_held 10 (by assumption) rfl (by kernel_rfl) (by kernel_rfl) (by kernel_rfl) (fun _ _ _ h => h) (by kernel_rfl) (v := ?v19) ?y19 ?r19
                      case y19 => (intro u hu; go_simp; try rfl)
                      simp only [Act.put, List.setIfInBounds_toArray, List.set_cons_zero, List.set_cons_succ]
                      refine take_held 11 (by assumption) rfl (by kernel_rfl) (by kernel_rfl) (by kernel_rfl) (fun _ _ _ h => h) (by kernel_rfl) (v := ?v20) ?y20 ?r20
                      case y20 => (intro u hu; go_simp; try rfl)
                      simp only [Act.put, List.setIfInBounds_toArray, List.set_cons_zero, List.set_cons_succ]
                      refine take_held 12 (by assumption) rfl (by kernel_rfl) (by kernel_rfl) (by kernel_rfl) (fun _ _ _ h => h) (by kernel_rfl) (v := ?v21) ?y21 ?r21
                      case y21 => (intro u hu; go_simp; try rfl)
                      simp only [Act.put, List.setIfInBounds_toArray, List.set_cons_zero, List.set_cons_succ]
                      refine take_held 13 (by assumption) rfl (by kernel_rfl) (by kernel_rfl) (by kernel_rfl) (fun _ _ _ h => h) (by kernel_rfl) (v := .agg #[.int .i64 x2, .int .i64 y2]) ?y22 ?r22
                      case y22 => (intro u hu; exact run_load_op 35 _ rfl (p.add (j * 3)) _ rfl (HC2.out u hu) (aggCell u) infoCell2)
                      simp only [Act.put, List.setIfInBounds_toArray, List.set_cons_zero, List.set_cons_succ]
                      refine wpAnyH_ready (rs := [14]) (by kernel_rfl) (by simp) (AllReadyH.cons ((nth_eq _ 14).trans rfl) ?_ AllReadyH.nil)
                      intro K' hK
                      refine call_in hK (by kernel_rfl) 59 #[.pointer (some ⟨K.s, 0, none⟩), .agg #[.int .i64 x2, .int .i64 y2]] (by go_simp) _ (cH2 _ D0) ?_
                      rintro v w5 ⟨rfl, b5⟩
                      have D5 := bcat D0 b5 (Nat.le_refl _)
                      have hS5 : IH w5 := by rw [hIH]; exact D5
                      refine ⟨hS5, ?_⟩
                      simp only [Act.put, List.setIfInBounds_toArray, List.set_cons_zero, List.set_cons_succ]
                      refine take_held 15 (by assumption) rfl (by kernel_rfl) (by kernel_rfl) (by kernel_rfl) (fun _ _ _ h => h) (by kernel_rfl) (v := (.bool false)) ?y23 ?r23
                      case y23 => (intro u hu; go_simp; try simp)
                      simp only [Act.put, List.setIfInBounds_toArray, List.set_cons_zero, List.set_cons_succ]
                      refine take_held 16 (by assumption) rfl (by kernel_rfl) (by kernel_rfl) (by kernel_rfl) (fun _ _ _ h => h) (by kernel_rfl) (v := ?v24) ?y24 ?r24
                      case y24 => (intro u hu; go_simp; try rfl)
                      simp only [Act.put, List.setIfInBounds_toArray, List.set_cons_zero, List.set_cons_succ]
                      refine done_held (by kernel_rfl) ?_ _
                      have HF9 : Hid (∃ ps, Fu w7 K c G.uses ps0 c.robots.length kA (c.height) ps w5) := ⟨ps, HFU.out.go D5⟩
                      go_wp2
                      go_roundw
                      case rel => exact ⟨j + 1, by omega, by go_num, HF9⟩
                      case measure => simp [intOf]; omega
                    · obtain ⟨m2, hm2⟩ : ∃ m, P2.2.2.length = m + 1 := ⟨P2.2.2.length - 1, by have := List.length_pos_iff.2 hz2; omega⟩
                      have hm2i : (0 : Int) < ((m2 + 1 : Nat) : Int) := by omega
                      have Hm2 : Hid (P2.2.2.length = m2 + 1) := hm2
                      rw [hm2] at cH2
                      have Hz2 : Hid (P2.2.2 ≠ []) := hz2
                      have hkne : k2 ≠ kA := fun e => hc (by
                        obtain ⟨_, q, h1, h2, h3⟩ := open_num HFU.out.st HO2.out
                        obtain ⟨_, q', h1', h2', h3'⟩ := open_num HFU.out.st HOS.out
                        have a1 := Hk2.out
                        have a2 := HkA.out
                        rw [h1] at a1
                        rw [h1'] at a2
                        rw [← h3, ← h3']
                        have : some q = some q' := by rw [← h2, ← h2']; congr 1; omega
                        cases this
                        rfl)
                      have Hne : Hid (k2 ≠ kA) := hkne
                      clear hm2 hz2
                      refine start_held (S := IH) 17 rfl (by kernel_rfl) (hS) ?_
                      simp only [Array.replicate_succ, Array.replicate_zero, List.push_toArray, List.nil_append, List.cons_append]
                      refine take_held 0 (by assumption) rfl (by kernel_rfl) (by kernel_rfl) (by kernel_rfl) (fun _ _ _ h => h) (by kernel_rfl) (v := ?v25) ?y25 ?r25
                      case y25 => (intro u hu; go_simp; try rfl)
                      simp only [Act.put, List.setIfInBounds_toArray, List.set_cons_zero, List.set_cons_succ]
                      refine take_held 1 (by assumption) rfl (by kernel_rfl) (by kernel_rfl) (by kernel_rfl) (fun _ _ _ h => h) (by kernel_rfl) (v := ?v26) ?y26 ?r26
                      case y26 => (intro u hu; go_simp; try rfl)
                      simp only [Act.put, List.setIfInBounds_toArray, List.set_cons_zero, List.set_cons_succ]
                      refine take_held 2 (by assumption) rfl (by kernel_rfl) (by kernel_rfl) (by kernel_rfl) (fun _ _ _ h => h) (by kernel_rfl) (v := ?v27) ?y27 ?r27
                      case y27 => (intro u hu; go_simp; try rfl)
                      simp only [Act.put, List.setIfInBounds_toArray, List.set_cons_zero, List.set_cons_succ]
                      refine take_held 3 (by assumption) rfl (by kernel_rfl) (by kernel_rfl) (by kernel_rfl) (fun _ _ _ h => h) (by kernel_rfl) (v := ?v28) ?y28 ?r28
                      case y28 => (intro u hu; go_simp; try rfl)
                      simp only [Act.put, List.setIfInBounds_toArray, List.set_cons_zero, List.set_cons_succ]
                      refine take_held 4 (by assumption) rfl (by kernel_rfl) (by kernel_rfl) (by kernel_rfl) (fun _ _ _ h => h) (by kernel_rfl) (v := .agg #[.int .i64 x2, .int .i64 y2]) ?y29 ?r29
                      case y29 => (intro u hu; exact run_load_op 35 _ rfl (p.add (j * 3)) _ rfl (HC2.out u hu) (aggCell u) infoCell2)
                      simp only [Act.put, List.setIfInBounds_toArray, List.set_cons_zero, List.set_cons_succ]
                      refine take_held 5 (by assumption) rfl (by kernel_rfl) (by kernel_rfl) (by kernel_rfl) (fun _ _ _ h => h) (by kernel_rfl) (v := .agg #[.int .i64 x, .int .i64 y]) ?y30 ?r30
                      case y30 => (intro u hu; exact run_load_op 35 _ rfl ⟨w.heap.size + 1, 0, none⟩ _ rfl (HX.out u hu) (aggCell u) infoCell2)
                      simp only [Act.put, List.setIfInBounds_toArray, List.set_cons_zero, List.set_cons_succ]
                      refine take_held 6 (by assumption) rfl (by kernel_rfl) (by kernel_rfl) (by kernel_rfl) (fun _ _ _ h => h) (by kernel_rfl) (v := (.bool true)) ?y31 ?r31
                      case y31 => (intro u hu; refine (run_neq_cell _ _ rfl x2 y2 x y rfl rfl).trans ?_; rw [decide_eq_false hc]; rfl)
                      simp only [Act.put, List.setIfInBounds_toArray, List.set_cons_zero, List.set_cons_succ]
                      refine take_held 7 (by assumption) rfl (by kernel_rfl) (by kernel_rfl) (by kernel_rfl) (fun _ _ _ h => h) (by kernel_rfl) (v := ?v32) ?y32 ?r32
                      case y32 => (intro u hu; go_simp; try rfl)
                      simp only [Act.put, List.setIfInBounds_toArray, List.set_cons_zero, List.set_cons_succ]
                      refine take_held 8 (by assumption) rfl (by kernel_rfl) (by kernel_rfl) (by kernel_rfl) (fun _ _ _ h => h) (by kernel_rfl) (v := ?v33) ?y33 ?r33
                      case y33 => (intro u hu; go_simp; try rfl)
                      simp only [Act.put, List.setIfInBounds_toArray, List.set_cons_zero, List.set_cons_succ]
                      refine take_held 9 (by assumption) rfl (by kernel_rfl) (by kernel_rfl) (by kernel_rfl) (fun _ _ _ h => h) (by kernel_rfl) (v := ?v34) ?y34 ?r34
                      case y34 => (intro u hu; go_simp; try rfl)
                      simp only [Act.put, List.setIfInBounds_toArray, List.set_cons_zero, List.set_cons_succ]
                      refine take_held 10 (by assumption) rfl (by kernel_rfl) (by kernel_rfl) (by kernel_rfl) (fun _ _ _ h => h) (by kernel_rfl) (v := ?v35) ?y35 ?r35
                      case y35 => (intro u hu; go_simp; try rfl)
                      simp only [Act.put, List.setIfInBounds_toArray, List.set_cons_zero, List.set_cons_succ]
                      refine take_held 11 (by assumption) rfl (by kernel_rfl) (by kernel_rfl) (by kernel_rfl) (fun _ _ _ h => h) (by kernel_rfl) (v := ?v36) ?y36 ?r36
                      case y36 => (intro u hu; go_simp; try rfl)
                      simp only [Act.put, List.setIfInBounds_toArray, List.set_cons_zero, List.set_cons_succ]
                      refine take_held 12 (by assumption) rfl (by kernel_rfl) (by kernel_rfl) (by kernel_rfl) (fun _ _ _ h => h) (by kernel_rfl) (v := ?v37) ?y37 ?r37
                      case y37 => (intro u hu; go_simp; try rfl)
                      simp only [Act.put, List.setIfInBounds_toArray, List.set_cons_zero, List.set_cons_succ]
                      refine take_held 13 (by assumption) rfl (by kernel_rfl) (by kernel_rfl) (by kernel_rfl) (fun _ _ _ h => h) (by kernel_rfl) (v := .agg #[.int .i64 x2, .int .i64 y2]) ?y38 ?r38
                      case y38 => (intro u hu; exact run_load_op 35 _ rfl (p.add (j * 3)) _ rfl (HC2.out u hu) (aggCell u) infoCell2)
                      simp only [Act.put, List.setIfInBounds_toArray, List.set_cons_zero, List.set_cons_succ]
                      refine wpAnyH_ready (rs := [14]) (by kernel_rfl) (by simp) (AllReadyH.cons ((nth_eq _ 14).trans rfl) ?_ AllReadyH.nil)
                      intro K' hK
                      refine call_in hK (by kernel_rfl) 59 #[.pointer (some ⟨K.s, 0, none⟩), .agg #[.int .i64 x2, .int .i64 y2]] (by go_simp) _ (cH2 _ D0) ?_
                      rintro v w5 ⟨rfl, b5⟩
                      have D5 := bcat D0 b5 (Nat.le_refl _)
                      have hS5 : IH w5 := by rw [hIH]; exact D5
                      refine ⟨hS5, ?_⟩
                      simp only [Act.put, List.setIfInBounds_toArray, List.set_cons_zero, List.set_cons_succ]
                      refine take_held 15 (by assumption) rfl (by kernel_rfl) (by kernel_rfl) (by kernel_rfl) (fun _ _ _ h => h) (by kernel_rfl) (v := (.bool true)) ?y39 ?r39
                      case y39 => (intro u hu; go_simp; try simp; try omega)
                      simp only [Act.put, List.setIfInBounds_toArray, List.set_cons_zero, List.set_cons_succ]
                      refine take_held 16 (by assumption) rfl (by kernel_rfl) (by kernel_rfl) (by kernel_rfl) (fun _ _ _ h => h) (by kernel_rfl) (v := ?v40) ?y40 ?r40
                      case y40 => (intro u hu; go_simp; try rfl)
                      simp only [Act.put, List.setIfInBounds_toArray, List.set_cons_zero, List.set_cons_succ]
                      refine done_held (by kernel_rfl) ?_ _
                      have F5 := HFU.out.go D5
                      have HF5 : Hid (Fu w7 K c G.uses ps0 c.robots.length kA (c.height) ps w5) := F5
                      have Q5 := HTw.out _ _ F5.tn
                      obtain ⟨kA', PA, hkA', hPA, _⟩ := open_num F5.st HOS.out
                      obtain rfl : kA = kA' := by have := HkA.out; rw [hkA'] at this; omega
                      have hleA := F5.le PA hPA
                      have hsmA := F5.st.small _ _ hPA
                      have HPA : Hid (ps[kA]? = some PA) := hPA
                      have hOkL : OkL c G.uses ps (List.replicate c.robots.length 0) 0 (x2, y2) k2 P2 := ⟨Hth.out, HO2.out, load_zero _ _, Hk2.out, HP2.out, Hz2.out⟩
                      have HOL : Hid (OkL c G.uses ps (List.replicate c.robots.length 0) 0 (x2, y2) k2 P2) := hOkL
                      have hzt : topP P2.2.2 ≠ 0 := F5.nz _ (mem_bins HP2.out (top_mem Hz2.out))
                      have HZt : Hid (topP P2.2.2 ≠ 0) := hzt
                      have Hk2l : Hid (k2 < ps.length) := (List.getElem?_eq_some_iff.1 HP2.out).1
                      have hp1 : ∀ v', (ps.set k2 (P2.1, v', P2.2.2.dropLast))[kA]? = some PA := fun v' => by rw [List.getElem?_set, if_neg Hne.out]; exact HPA.out
                      have Hp1 : Hid (∀ v', (ps.set k2 (P2.1, v', P2.2.2.dropLast))[kA]? = some PA) := hp1
                      have Hth1 : Hid (thereB ((List.replicate c.robots.length 0).set (0 : Int).toNat (topP P2.2.2)) 0 = true) := by have := Hth.out; unfold thereB at this ⊢; rw [List.length_set]; exact this
                      have Hl1 : Hid (loadP ((List.replicate c.robots.length 0).set (0 : Int).toNat (topP P2.2.2)) 0 = topP P2.2.2) := (load_there Hth.out).2.2 _
                      have cHA := fun u (q : StAt K c G.uses ps (List.replicate c.robots.length 0) u) => height_yes q x y HOS.out HkA.out HPA.out
                      have cLi := fun u (q : StAt K c G.uses ps (List.replicate c.robots.length 0) u) => lift_ok q 0 x2 y2 HOL.out.1 HOL.out.2.1 HOL.out.2.2.1 HOL.out.2.2.2.1 HOL.out.2.2.2.2.1 HOL.out.2.2.2.2.2
                      obtain ⟨nA, hnA⟩ : ∃ n, PA.2.2.length = n := ⟨_, rfl⟩
                      have HnA : Hid (PA.2.2.length = nA) := hnA
                      rw [hnA] at cHA hleA hsmA
                      have ARM1 : True := trivial
                      clear hnA hPA hkA' F5 hOkL hzt hp1 hkne
                      by_cases hfull : (c.height) ≤ (nA : Int)
                      · have hf1 : ¬ ((nA : Int) < (c.height)) := by omega
                        go_wp2_with (first
                          | (have X' := S13; have X'' := b14; go_at_call 59; refine (height_yes (S13.go b14) x y HOS.out HkA.out (Hp1.out v13)).mono ?_; rintro e w15 ⟨r15, rfl, hr15, b15⟩; rw [HnA.out] at hr15; subst hr15; have Q15 := Q14.go b15)
                          | (have X' := b14; refine wpList_load_want (by kernel_rfl) 35 (.tmp 3) rfl (w.heap.size + 1) rfl 35 #[.int .i64 x, .int .i64 y] (0, 0) Q14.b Try.underlying35 infoCell2 ?_)
                          | (have X' := S13; go_at_call 57; refine (drop_full S13 0 x y Hth1.out HOS.out (by rw [Hl1.out]; exact HZt.out) HkA.out (Hp1.out v13) (by rw [HRM.out, HnA.out]; exact hfull)).mono ?_; rintro e w14 ⟨r14, rfl, rfl, b14⟩; have Q14 := Q13.go b14)
                          | (have X' := S13; refine wpList_load_row rfl 35 (.tmp 3) rfl (w.heap.size + 1) rfl 35 #[.int .i64 x, .int .i64 y] (0, 0) _ Q13.b Try.underlying35 rfl infoCell2 ?_)
                          | (go_at_call 55; refine (cLi _ F12.st).mono ?_; rintro e w13 ⟨v13, rfl, S13, T13⟩; have Q13 := HTw.out _ _ (F12.tn.trans T13))
                          | (have X' := F12; refine wpList_load_at rfl 35 (.tmp 90) rfl (p.add (j * 3)) rfl #[.int .i64 x2, .int .i64 y2] (HCe.out _ _ F12.tn) (aggCell _) infoCell2 ?_)
                          | (have X' := HF5; go_at_call 59; refine (cHA _ HF5.out.st).mono ?_; rintro e w12 ⟨r12, rfl, rfl, b12⟩; have F12 := HF5.out.go b12)
                          | (refine wpList_load_row rfl 35 (.tmp 3) rfl (w.heap.size + 1) rfl 35 #[.int .i64 x, .int .i64 y] (0, 0) _ Q5.b Try.underlying35 rfl infoCell2 ?_)
                          | (go_at_call 53; refine (awake8_any _).mono ?_; rintro e w9 ⟨r9, rfl, rfl, b9⟩))
                        go_ret
                        exact ⟨rfl, bcat Q15.below b9 (Nat.le_refl _)⟩
                      · have hf1 : (nA : Int) < (c.height) := by omega
                        have hf2 : ¬ ((c.height) ≤ (nA : Int)) := hfull
                        go_wp2_with (first
                          | (have X' := S14; go_at_call 59; refine (height_yes S14 x y HOS.out HkA.out (p := (PA.1, v14, PA.2.2 ++ [topP P2.2.2])) hq14).mono ?_; rintro e w15 ⟨r15, rfl, hr15, b15⟩; rw [show (PA.2.2 ++ [topP P2.2.2]).length = nA + 1 by rw [List.length_append, HnA.out]; rfl] at hr15; subst hr15)
                          | (have X' := S14; refine wpList_load_want (by kernel_rfl) 35 (.tmp 3) rfl (w.heap.size + 1) rfl 35 #[.int .i64 x, .int .i64 y] (0, 0) Q14.b Try.underlying35 infoCell2 ?_)
                          | (have X' := S13; go_at_call 57; have hok14 : OkD c G.uses (ps.set k2 (P2.1, v13, P2.2.2.dropLast)) ((List.replicate c.robots.length 0).set (0 : Int).toNat (topP P2.2.2)) 0 (x, y) kA PA := ⟨Hth1.out, HOS.out, (by rw [Hl1.out]; exact HZt.out), HkA.out, Hp1.out v13, (by rw [HRM.out, HnA.out]; exact hf1)⟩; refine (drop_ok S13 0 x y hok14.1 hok14.2.1 hok14.2.2.1 hok14.2.2.2.1 hok14.2.2.2.2.1 hok14.2.2.2.2.2).mono ?_; rintro e w14 ⟨v14, rfl, S14, T14⟩; have pm14 := drop_perm hok14 v14; rw [Hl1.out] at S14 T14 pm14; rw [rep_back] at S14 pm14; have TT14 := (F12.tn.trans T13).trans T14; have Q14 := HTw.out _ _ TT14; have hq14 : ((ps.set k2 (P2.1, v13, P2.2.2.dropLast)).set kA (PA.1, v14, PA.2.2 ++ [topP P2.2.2]))[kA]? = some (PA.1, v14, PA.2.2 ++ [topP P2.2.2]) := (by rw [List.getElem?_set, if_pos rfl, if_pos (List.getElem?_eq_some_iff.1 (Hp1.out v13)).1]); have HPM : Hid ((allB ((ps.set k2 (P2.1, v13, P2.2.2.dropLast)).set kA (PA.1, v14, PA.2.2 ++ [topP P2.2.2])) (List.replicate c.robots.length 0)).Perm (allB ps (List.replicate c.robots.length 0))) := pm14.trans (lift_perm HOL.out HZt.out v13); clear hok14 pm14 S13)
                          | (have X' := S13; refine wpList_load_row rfl 35 (.tmp 3) rfl (w.heap.size + 1) rfl 35 #[.int .i64 x, .int .i64 y] (0, 0) _ Q13.b Try.underlying35 rfl infoCell2 ?_)
                          | (go_at_call 55; refine (cLi _ F12.st).mono ?_; rintro e w13 ⟨v13, rfl, S13, T13⟩; have Q13 := HTw.out _ _ (F12.tn.trans T13))
                          | (have X' := F12; refine wpList_load_at rfl 35 (.tmp 90) rfl (p.add (j * 3)) rfl #[.int .i64 x2, .int .i64 y2] (HCe.out _ _ F12.tn) (aggCell _) infoCell2 ?_)
                          | (have X' := HF5; go_at_call 59; refine (cHA _ HF5.out.st).mono ?_; rintro e w12 ⟨r12, rfl, rfl, b12⟩; have F12 := HF5.out.go b12)
                          | (refine wpList_load_row rfl 35 (.tmp 3) rfl (w.heap.size + 1) rfl 35 #[.int .i64 x, .int .i64 y] (0, 0) _ Q5.b Try.underlying35 rfl infoCell2 ?_))
                        have FN : Fu w7 K c G.uses ps0 c.robots.length kA (c.height) ((ps.set k2 (P2.1, v13, P2.2.2.dropLast)).set kA (PA.1, v14, PA.2.2 ++ [topP P2.2.2])) w15 := Fu.go ⟨S14, TT14, fun z hz => HFU.out.nz z (HPM.out.mem_iff.1 hz), fun q hq => by
                          rw [hq14] at hq
                          cases hq
                          simp only
                          rw [List.length_append, HnA.out]
                          simp
                          omega⟩ b15
                        have hg15 := hgt_is FN.st (k := k2) (p := (P2.1, v13, P2.2.2.dropLast)) (by rw [List.getElem?_set, if_neg (fun e => Hne.out e.symm), List.getElem?_set, if_pos rfl, if_pos Hk2l.out])
                        have HF9 : Hid (∃ ps, Fu w7 K c G.uses ps0 c.robots.length kA (c.height) ps w15) := ⟨_, FN⟩
                        go_roundw
                        case rel => exact HF9
                        case measure =>
                          rw [hg15, Hgm.out, Hm2.out]
                          simp only [List.length_dropLast, Hm2.out]
                          omega
              · obtain rfl : nL = j := by omega
                obtain ⟨ps, FU⟩ := HF.out
                obtain ⟨kA', PA, hkA', hPA, _⟩ := open_num FU.st HOS.out
                obtain rfl : kA = kA' := by have := HkA.out; rw [hkA'] at this; omega
                have hle := FU.le PA hPA
                have cH := height_yes FU.st x y HOS.out HkA.out hPA
                have Q9 := HTw.out _ _ FU.tn
                obtain ⟨nA, hnA⟩ : ∃ n, PA.2.2.length = n := ⟨_, rfl⟩
                rw [hnA] at hle cH
                clear hnA FU HF hPA hkA'
                go_wp2_with (first
                  | (refine wpList_load_row rfl 35 (.tmp 3) rfl (w.heap.size + 1) rfl 35 #[.int .i64 x, .int .i64 y] (0, 0) _ Q9.b Try.underlying35 rfl infoCell2 ?_)
                  | (go_at_call 59; refine cH.mono ?_; rintro e w10 ⟨r10, rfl, rfl, b10⟩; have Q10 := Q9.go b10)
                  | (go_at_call 53; refine (awake8_any _).mono ?_; rintro e w11 ⟨r11, rfl, rfl, b11⟩))
                go_ret
                exact ⟨rfl, bcat Q10.below b11 (Nat.le_refl _)⟩
          · rw [decide_eq_false hst] at cSR
            by_cases hPn : PB < 0
            · have hPn2 : ¬ (0 ≤ PB) := by omega
              have hRM : roomP c G.uses (x, y) = 0 := by rw [hre, if_pos hPn, if_neg hst]
              clear hPB
              have HMY : Hid (mayBeP (c.stacks.flatMap Prod.snd)) := hmy
              have HN : Hid (newP c = some G) := hN
              have HRM : Hid (roomP c G.uses (x, y) = ((0 : Int))) := hRM
              clear hA L hN hAu hmy hre hRM hOB
              go_enter Try.func16, Try.ntmps16
              go_wp2_with (first
                    | (have X' := Q6; go_at_call 71; refine (told_any S6 1000 (by decide) (by decide)).mono ?_; rintro e w7 ⟨v8, rfl, ⟨ys8, T8⟩, b7⟩; have Q7 := Q6.go b7)
                    | (have X' := Q5; refine wpList_load_row rfl 26 (.tmp 2) rfl w.heap.size rfl 26 #[.int .i64 c.W, .int .i64 c.H, .int .i64 c.height, vb, vp, .slice a3 c.robots.length cap3, vs, .int .i64 c.unit, .int .i64 c.accel, .int .i64 c.speed, .int .i64 c.turn, .int .i64 c.hoist, .int .i64 c.queue, .int .i64 c.resend, .int .i64 c.budget, .bool c.back] (0, 0) _ Q5.a Try.underlying26 rfl info_conf ?_)
                    | (have X' := Q5; refine wpList_load_row rfl 35 (.tmp 3) rfl (w.heap.size + 1) rfl 35 #[.int .i64 x, .int .i64 y] (0, 0) _ Q5.b Try.underlying35 rfl infoCell2 ?_)
                    | (have X' := Q5; go_at_call 27; refine (cPR _ Q5.below).mono ?_; rintro e w6 ⟨r6, rfl, rfl, b6⟩; have Q6 := Q5.go b6; have S6 := (((S2.go b3).go b4).go b5).go b6)
                    | (have X' := Q4; refine wpList_load_row rfl 26 (.tmp 2) rfl w.heap.size rfl 26 #[.int .i64 c.W, .int .i64 c.H, .int .i64 c.height, vb, vp, .slice a3 c.robots.length cap3, vs, .int .i64 c.unit, .int .i64 c.accel, .int .i64 c.speed, .int .i64 c.turn, .int .i64 c.hoist, .int .i64 c.queue, .int .i64 c.resend, .int .i64 c.budget, .bool c.back] (0, 0) _ Q4.a Try.underlying26 rfl info_conf ?_)
                    | (have X' := Q4; refine wpList_load_row rfl 35 (.tmp 3) rfl (w.heap.size + 1) rfl 35 #[.int .i64 x, .int .i64 y] (0, 0) _ Q4.b Try.underlying35 rfl infoCell2 ?_)
                    | (have X' := Q4; go_at_call 29; refine (cSR _ Q4.below).mono ?_; rintro e w5 ⟨r5, rfl, rfl, b5⟩; have Q5 := Q4.go b5; have h52 := cell_of Q5.a 2)
                    | (first
                    | (have X' := Q4; refine wpList_load_row rfl 26 (.tmp 2) rfl w.heap.size rfl 26 #[.int .i64 c.W, .int .i64 c.H, .int .i64 c.height, vb, vp, .slice a3 c.robots.length cap3, vs, .int .i64 c.unit, .int .i64 c.accel, .int .i64 c.speed, .int .i64 c.turn, .int .i64 c.hoist, .int .i64 c.queue, .int .i64 c.resend, .int .i64 c.budget, .bool c.back] (0, 0) _ Q4.a Try.underlying26 rfl info_conf ?_)
                    | (have X' := Q3; refine wpList_load_row rfl 26 (.tmp 2) rfl w.heap.size rfl 26 #[.int .i64 c.W, .int .i64 c.H, .int .i64 c.height, vb, vp, .slice a3 c.robots.length cap3, vs, .int .i64 c.unit, .int .i64 c.accel, .int .i64 c.speed, .int .i64 c.turn, .int .i64 c.hoist, .int .i64 c.queue, .int .i64 c.resend, .int .i64 c.budget, .bool c.back] (0, 0) _ Q3.a Try.underlying26 rfl info_conf ?_)
                    | (have X' := Q3; refine wpList_load_want (by kernel_rfl) 26 (.tmp 2) rfl w.heap.size rfl 26 #[.int .i64 c.W, .int .i64 c.H, .int .i64 c.height, vb, vp, .slice a3 c.robots.length cap3, vs, .int .i64 c.unit, .int .i64 c.accel, .int .i64 c.speed, .int .i64 c.turn, .int .i64 c.hoist, .int .i64 c.queue, .int .i64 c.resend, .int .i64 c.budget, .bool c.back] (0, 0) Q3.a Try.underlying26 info_conf ?_)
                    | (have X' := Q3; refine wpList_load_want (by kernel_rfl) 35 (.tmp 3) rfl (w.heap.size + 1) rfl 35 #[.int .i64 x, .int .i64 y] (0, 0) Q3.b Try.underlying35 infoCell2 ?_)
                    | (have X' := Q2; refine wpList_load_row rfl 26 (.tmp 2) rfl w.heap.size rfl 26 #[.int .i64 c.W, .int .i64 c.H, .int .i64 c.height, vb, vp, .slice a3 c.robots.length cap3, vs, .int .i64 c.unit, .int .i64 c.accel, .int .i64 c.speed, .int .i64 c.turn, .int .i64 c.hoist, .int .i64 c.queue, .int .i64 c.resend, .int .i64 c.budget, .bool c.back] (0, 0) _ Q2.a Try.underlying26 rfl info_conf ?_)
                    | (refine wpList_load_row rfl 26 (.tmp 2) rfl w.heap.size rfl 26 #[.int .i64 c.W, .int .i64 c.H, .int .i64 c.height, vb, vp, .slice a3 c.robots.length cap3, vs, .int .i64 c.unit, .int .i64 c.accel, .int .i64 c.speed, .int .i64 c.turn, .int .i64 c.hoist, .int .i64 c.queue, .int .i64 c.resend, .int .i64 c.budget, .bool c.back] (0, 0) _ Q0.a Try.underlying26 rfl info_conf ?_)
                    | (go_at_call 20; refine (cC _ Q0.below).mono ?_; rintro e w1 ⟨r1, rfl, ⟨v1, v2, v3, v4, rfl, A1⟩, b1⟩; have Q1 := Q0.go b1)
                    | (go_at_call 52; refine (cN A1).mono ?_; rintro e w2 ⟨K, ps0, rfl, S2, hb2, hat2, hpm2, b2⟩; have Q2 := Q1.go b2)
                    | (go_at_call 51; refine (cS _ Q2.below).mono ?_; rintro e w3 ⟨r3, rfl, rfl, b3⟩; have Q3 := Q2.go b3; have x5 := cell_of Q3.a 5)
                    | (go_at_call 25; refine (cOR _ Q3.below).mono ?_; rintro e w4 ⟨r4, rfl, rfl, b4⟩; have Q4 := Q3.go b4)
                    | (have X' := Q4; go_at_call 21; refine (cM _ Q4.below).mono ?_; rintro e w8 ⟨r8, rfl, rfl, b8⟩; have Q8 := Q4.go b8)
                    | (go_at_call 21; refine (cM _ Q3.below).mono ?_; rintro e w8 ⟨r8, rfl, rfl, b8⟩; have Q8 := Q3.go b8)
                    | (go_at_call 53; refine (awake8_any _).mono ?_; rintro e w9 ⟨r9, rfl, rfl, b9⟩)))
              have T8l := T8.list
              obtain ⟨a8, cap8, hv8, _⟩ := T8l.form
              subst hv8
              obtain ⟨nL, hnL⟩ : ∃ n, (tellT c G.uses ps0 ps0.length).length = n := ⟨_, rfl⟩
              have HnL : Hid ((tellT c G.uses ps0 ps0.length).length = nL) := hnL
              have hnb : nL ≤ 256 := by rw [← hnL]; have := tell_len c G.uses ps0 ps0.length; have := S6.lens; omega
              rw [hnL] at T8l
              rw [hnL]
              have hfl := S6.foot_lt
              have HLs : Hid (∀ ps u, Turn K ps0 ps w7 u → ListAt 3 stackEl (Since (w6.heap.size + 3) w7) (tellT c G.uses ps0 ps0.length) (.slice a8 nL cap8) u) := fun ps u tn => T8l.stable heldStack fun g hg => tn.keep g hg.2 (fun q => by have := hfl g q; have := hg.1; omega)
              have hfg : ∀ b, Foot K ps0 b → w.heap.size + 2 ≤ b := fun b q => by have h1 := S6.foot_ge b q; have h2 := lt_of_heap Q1.b; omega
              have HQ7 : Hid (Two w #[.int .i64 c.W, .int .i64 c.H, .int .i64 c.height, vb, vp, .slice a3 c.robots.length cap3, vs, .int .i64 c.unit, .int .i64 c.accel, .int .i64 c.speed, .int .i64 c.turn, .int .i64 c.hoist, .int .i64 c.queue, .int .i64 c.resend, .int .i64 c.budget, .bool c.back] #[.int .i64 x, .int .i64 y] 35 w7) := Q7
              have HTw : Hid (∀ ps u, Turn K ps0 ps w7 u → Two w #[.int .i64 c.W, .int .i64 c.H, .int .i64 c.height, vb, vp, .slice a3 c.robots.length cap3, vs, .int .i64 c.unit, .int .i64 c.accel, .int .i64 c.speed, .int .i64 c.turn, .int .i64 c.hoist, .int .i64 c.queue, .int .i64 c.resend, .int .i64 c.budget, .bool c.back] #[.int .i64 x, .int .i64 y] 35 u) := fun ps u tn => two_turn HQ7.out tn hfg
              have HIn : Hid (∀ i (h : i < (tellT c G.uses ps0 ps0.length).length), openU c.W c.H G.uses ((tellT c G.uses ps0 ps0.length)[i]'h).1 = true) := fun i h => tell_open (List.getElem_mem h)
              obtain ⟨kA, pA, hkA, hpA, hpAx⟩ := open_num S6 hos
              have HkA : Hid (number c.W c.H (x, y) = (kA : Nat)) := hkA
              have HF0 : Hid (∃ ps, Fu w7 K c G.uses ps0 c.robots.length kA ((0 : Int)) ps w7) := ⟨ps0, S6.go b7, Turn.refl _ _ _, (first_bins HMY.out hpm2).2, fun p hp => by
                rw [hpA] at hp
                cases hp
                have e := hat2 kA pA hpA
                rw [hpAx] at e
                rw [← HRM.out, e]
                by_cases hz : placed c.stacks (x, y) = []
                · rw [hz]; rw [HRM.out]; simp; try omega
                · exact placed_room HN.out hz⟩
              have Hth : Hid (thereB (List.replicate c.robots.length 0) 0 = true) := by show thereB (List.replicate c.robots.length 0) 0 = true; unfold thereB; rw [List.length_replicate]; simp; omega
              have HOS : Hid (openU c.W c.H G.uses (x, y) = true) := hos
              clear T8l hnL hfl hfg hkA hpA hpAx S6 b7 Q7 Q1 hat2 hpm2 T8 hos
              go_loopw [9] (fun i wq => ∃ j : Nat, j ≤ nL ∧ i = .int .i64 j ∧ Hid (∃ ps, Fu w7 K c G.uses ps0 c.robots.length kA ((0 : Int)) ps wq)) (fun i _ => nL - (intOf i).toNat)
              case atStart => exact ⟨0, Nat.zero_le _, rfl, HF0⟩
              case round =>
                clear HF0
                obtain ⟨j, hj, rfl, HF⟩ := hrel
                by_cases hlt : j < nL
                · have hj' : j < (tellT c G.uses ps0 ps0.length).length := by rw [HnL.out]; exact hlt
                  have hop2 := HIn.out j hj'
                  have HIt : Hid (∀ ps u, Turn K ps0 ps w7 u → ∃ p vb2, a8 = some p ∧ ∀ jj z, #[Value.int .i64 ((tellT c G.uses ps0 ps0.length)[j]'hj').1.1, .int .i64 ((tellT c G.uses ps0 ps0.length)[j]'hj').1.2, vb2][jj]? = some z → u.cell? ((p.add (j * 3)).add jj) = some z) := fun ps u tn => by
                    obtain ⟨p, cs, cap', hv, _, ⟨vb2, e, _⟩, hrd⟩ := (HLs.out ps u tn).item hj'
                    subst e
                    injection hv with h1 h2 h3
                    exact ⟨p, vb2, h1, hrd⟩
                  generalize (tellT c G.uses ps0 ps0.length)[j]'hj' = q2 at *
                  obtain ⟨⟨x2, y2⟩, bs2⟩ := q2
                  simp only at hop2 HIt
                  obtain ⟨psx, Fx⟩ := HF.out
                  obtain ⟨p, _, rfl, _⟩ := HIt.out _ _ Fx.tn
                  obtain ⟨k2, _, hk2, _, _⟩ := open_num Fx.st hop2
                  have Hk2 : Hid (number c.W c.H (x2, y2) = (k2 : Nat)) := hk2
                  have HO2 : Hid (openU c.W c.H G.uses (x2, y2) = true) := hop2
                  have HCe : Hid (∀ ps u, Turn K ps0 ps w7 u → ∀ jj z, #[Value.int .i64 x2, .int .i64 y2][jj]? = some z → u.cell? ((p.add (j * 3)).add jj) = some z) := fun ps u tn jj z hz => by
                    obtain ⟨p', vb2, hp', hrd⟩ := HIt.out ps u tn
                    injection hp' with hp'
                    subst hp'
                    exact hrd jj z (by
                      match jj with
                      | 0 => simpa using hz
                      | 1 => simpa using hz
                      | jj + 2 => simp at hz)
                  clear Fx HIt hk2 hop2
                  go_wp2
                  go_loopw [10] (fun _ wq => Hid (∃ ps, Fu w7 K c G.uses ps0 c.robots.length kA ((0 : Int)) ps wq)) (fun _ wq => hgtW K k2 wq)
                  case atStart => exact HF
                  case round =>
                    clear HF
                    have HF : Hid (∃ ps, Fu w7 K c G.uses ps0 c.robots.length kA ((0 : Int)) ps wr) := hrel
                    obtain ⟨ps, FU⟩ := HF.out
                    obtain ⟨k2', P2, hk2', hP2, _⟩ := open_num FU.st HO2.out
                    obtain rfl : k2 = k2' := by have := Hk2.out; rw [hk2'] at this; omega
                    have hgm := hgt_is FU.st hP2
                    have HFU : Hid (Fu w7 K c G.uses ps0 c.robots.length kA ((0 : Int)) ps wr) := FU
                    have HP2 : Hid (ps[k2]? = some P2) := hP2
                    have Hgm : Hid (hgtW K k2 wr = P2.2.2.length) := hgm
                    have hsm2 := FU.st.small _ _ hP2
                    have cH2 := fun u (b : Below wr.heap.size wr u) => height_yes (HFU.out.st.go b) x2 y2 HO2.out Hk2.out HP2.out
                    clear hgm hP2 FU hk2' hrel
                    go_wp2
                    obtain ⟨IH, hIH⟩ : ∃ I : World → Prop, I = Below wr.heap.size wr := ⟨_, rfl⟩
                    have kI : ∀ u, IH u → Below wr.heap.size wr u := fun u hu => by rw [hIH] at hu; exact hu
                    have hS : IH wr.drew := by rw [hIH]; exact (Below.refl _ _).drew
                    have D0 : Below wr.heap.size wr wr.drew := (Below.refl _ _).drew
                    have hqT := HTw.out _ _ HFU.out.tn
                    have hqb := hqT.b
                    have HX : Hid (∀ u, IH u → ∀ j z, #[Value.int .i64 x, .int .i64 y][j]? = some z → u.cell? ((⟨w.heap.size + 1, 0, none⟩ : Addr).add j) = some z) := fun u hu => row_below hqb (kI u hu)
                    have HC2 : Hid (∀ u, IH u → ∀ jj z, #[Value.int .i64 x2, .int .i64 y2][jj]? = some z → u.cell? ((p.add (j * 3)).add jj) = some z) := fun u hu jj z hz => cell_below (HCe.out _ _ HFU.out.tn jj z hz) (kI u hu)
                    clear hqT hqb
                    by_cases hc : (x2, y2) = (x, y)
                    · skip
                      refine start_held (S := IH) 17 rfl (by kernel_rfl) (hS) ?_
                      simp only [Array.replicate_succ, Array.replicate_zero, List.push_toArray, List.nil_append, List.cons_append]
                      refine take_held 0 (by assumption) rfl (by kernel_rfl) (by kernel_rfl) (by kernel_rfl) (fun _ _ _ h => h) (by kernel_rfl) (v := ?v41) ?y41 ?r41
                      case y41 => (intro u hu; go_simp; try rfl)
                      simp only [Act.put, List.setIfInBounds_toArray, List.set_cons_zero, List.set_cons_succ]
                      refine take_held 1 (by assumption) rfl (by kernel_rfl) (by kernel_rfl) (by kernel_rfl) (fun _ _ _ h => h) (by kernel_rfl) (v := ?v42) ?y42 ?r42
                      case y42 => (intro u hu; go_simp; try rfl)
                      simp only [Act.put, List.setIfInBounds_toArray, List.set_cons_zero, List.set_cons_succ]
                      refine take_held 2 (by assumption) rfl (by kernel_rfl) (by kernel_rfl) (by kernel_rfl) (fun _ _ _ h => h) (by kernel_rfl) (v := ?v43) ?y43 ?r43
                      case y43 => (intro u hu; go_simp; try rfl)
                      simp only [Act.put, List.setIfInBounds_toArray, List.set_cons_zero, List.set_cons_succ]
                      refine take_held 3 (by assumption) rfl (by kernel_rfl) (by kernel_rfl) (by kernel_rfl) (fun _ _ _ h => h) (by kernel_rfl) (v := ?v44) ?y44 ?r44
                      case y44 => (intro u hu; go_simp; try rfl)
                      simp only [Act.put, List.setIfInBounds_toArray, List.set_cons_zero, List.set_cons_succ]
                      refine take_held 4 (by assumption) rfl (by kernel_rfl) (by kernel_rfl) (by kernel_rfl) (fun _ _ _ h => h) (by kernel_rfl) (v := .agg #[.int .i64 x2, .int .i64 y2]) ?y45 ?r45
                      case y45 => (intro u hu; exact run_load_op 35 _ rfl (p.add (j * 3)) _ rfl (HC2.out u hu) (aggCell u) infoCell2)
                      simp only [Act.put, List.setIfInBounds_toArray, List.set_cons_zero, List.set_cons_succ]
                      refine take_held 5 (by assumption) rfl (by kernel_rfl) (by kernel_rfl) (by kernel_rfl) (fun _ _ _ h => h) (by kernel_rfl) (v := .agg #[.int .i64 x, .int .i64 y]) ?y46 ?r46
                      case y46 => (intro u hu; exact run_load_op 35 _ rfl ⟨w.heap.size + 1, 0, none⟩ _ rfl (HX.out u hu) (aggCell u) infoCell2)
                      simp only [Act.put, List.setIfInBounds_toArray, List.set_cons_zero, List.set_cons_succ]
                      refine take_held 6 (by assumption) rfl (by kernel_rfl) (by kernel_rfl) (by kernel_rfl) (fun _ _ _ h => h) (by kernel_rfl) (v := (.bool false)) ?y47 ?r47
                      case y47 => (intro u hu; refine (run_neq_cell _ _ rfl x2 y2 x y rfl rfl).trans ?_; rw [decide_eq_true hc]; rfl)
                      simp only [Act.put, List.setIfInBounds_toArray, List.set_cons_zero, List.set_cons_succ]
                      refine take_held 7 (by assumption) rfl (by kernel_rfl) (by kernel_rfl) (by kernel_rfl) (fun _ _ _ h => h) (by kernel_rfl) (v := ?v48) ?y48 ?r48
                      case y48 => (intro u hu; go_simp; try rfl)
                      simp only [Act.put, List.setIfInBounds_toArray, List.set_cons_zero, List.set_cons_succ]
                      refine skip_held 8 (by assumption) rfl (by kernel_rfl) (by kernel_rfl) (by kernel_rfl) (fun _ _ _ h => h) (by kernel_rfl) ?_
                      simp only [Act.put, List.setIfInBounds_toArray, List.set_cons_zero, List.set_cons_succ]
                      refine skip_held 9 (by assumption) rfl (by kernel_rfl) (by kernel_rfl) (by kernel_rfl) (fun _ _ _ h => h) (by kernel_rfl) ?_
                      simp only [Act.put, List.setIfInBounds_toArray, List.set_cons_zero, List.set_cons_succ]
                      refine skip_held 10 (by assumption) rfl (by kernel_rfl) (by kernel_rfl) (by kernel_rfl) (fun _ _ _ h => h) (by kernel_rfl) ?_
                      simp only [Act.put, List.setIfInBounds_toArray, List.set_cons_zero, List.set_cons_succ]
                      refine skip_held 11 (by assumption) rfl (by kernel_rfl) (by kernel_rfl) (by kernel_rfl) (fun _ _ _ h => h) (by kernel_rfl) ?_
                      simp only [Act.put, List.setIfInBounds_toArray, List.set_cons_zero, List.set_cons_succ]
                      refine skip_held 12 (by assumption) rfl (by kernel_rfl) (by kernel_rfl) (by kernel_rfl) (fun _ _ _ h => h) (by kernel_rfl) ?_
                      simp only [Act.put, List.setIfInBounds_toArray, List.set_cons_zero, List.set_cons_succ]
                      refine skip_held 13 (by assumption) rfl (by kernel_rfl) (by kernel_rfl) (by kernel_rfl) (fun _ _ _ h => h) (by kernel_rfl) ?_
                      simp only [Act.put, List.setIfInBounds_toArray, List.set_cons_zero, List.set_cons_succ]
                      refine skip_held 14 (by assumption) rfl (by kernel_rfl) (by kernel_rfl) (by kernel_rfl) (fun _ _ _ h => h) (by kernel_rfl) ?_
                      simp only [Act.put, List.setIfInBounds_toArray, List.set_cons_zero, List.set_cons_succ]
                      refine skip_held 15 (by assumption) rfl (by kernel_rfl) (by kernel_rfl) (by kernel_rfl) (fun _ _ _ h => h) (by kernel_rfl) ?_
                      simp only [Act.put, List.setIfInBounds_toArray, List.set_cons_zero, List.set_cons_succ]
                      refine take_held 16 (by assumption) rfl (by kernel_rfl) (by kernel_rfl) (by kernel_rfl) (fun _ _ _ h => h) (by kernel_rfl) (v := ?v49) ?y49 ?r49
                      case y49 => (intro u hu; go_simp; try rfl)
                      simp only [Act.put, List.setIfInBounds_toArray, List.set_cons_zero, List.set_cons_succ]
                      refine done_held (by kernel_rfl) ?_ _
                      have HF9 : Hid (∃ ps, Fu w7 K c G.uses ps0 c.robots.length kA ((0 : Int)) ps wr.drew) := ⟨ps, HFU.out.go D0⟩
                      go_wp2
                      go_roundw
                      case rel => exact ⟨j + 1, by omega, by go_num, HF9⟩
                      case measure => simp [intOf]; omega
                    · by_cases hz2 : P2.2.2 = []
                      · rw [hz2] at cH2
                        refine start_held (S := IH) 17 rfl (by kernel_rfl) (hS) ?_
                        simp only [Array.replicate_succ, Array.replicate_zero, List.push_toArray, List.nil_append, List.cons_append]
                        refine take_held 0 (by assumption) rfl (by kernel_rfl) (by kernel_rfl) (by kernel_rfl) (fun _ _ _ h => h) (by kernel_rfl) (v := ?v50) ?y50 ?r50
                        case y50 => (intro u hu; go_simp; try rfl)
                        simp only [Act.put, List.setIfInBounds_toArray, List.set_cons_zero, List.set_cons_succ]
                        refine take_held 1 (by assumption) rfl (by kernel_rfl) (by kernel_rfl) (by kernel_rfl) (fun _ _ _ h => h) (by kernel_rfl) (v := ?v51) ?y51 ?r51
                        case y51 => (intro u hu; go_simp; try rfl)
                        simp only [Act.put, List.setIfInBounds_toArray, List.set_cons_zero, List.set_cons_succ]
                        refine take_held 2 (by assumption) rfl (by kernel_rfl) (by kernel_rfl) (by kernel_rfl) (fun _ _ _ h => h) (by kernel_rfl) (v := ?v52) ?y52 ?r52
                        case y52 => (intro u hu; go_simp; try rfl)
                        simp only [Act.put, List.setIfInBounds_toArray, List.set_cons_zero, List.set_cons_succ]
                        refine take_held 3 (by assumption) rfl (by kernel_rfl) (by kernel_rfl) (by kernel_rfl) (fun _ _ _ h => h) (by kernel_rfl) (v := ?v53) ?y53 ?r53
                        case y53 => (intro u hu; go_simp; try rfl)
                        simp only [Act.put, List.setIfInBounds_toArray, List.set_cons_zero, List.set_cons_succ]
                        refine take_held 4 (by assumption) rfl (by kernel_rfl) (by kernel_rfl) (by kernel_rfl) (fun _ _ _ h => h) (by kernel_rfl) (v := .agg #[.int .i64 x2, .int .i64 y2]) ?y54 ?r54
                        case y54 => (intro u hu; exact run_load_op 35 _ rfl (p.add (j * 3)) _ rfl (HC2.out u hu) (aggCell u) infoCell2)
                        simp only [Act.put, List.setIfInBounds_toArray, List.set_cons_zero, List.set_cons_succ]
                        refine take_held 5 (by assumption) rfl (by kernel_rfl) (by kernel_rfl) (by kernel_rfl) (fun _ _ _ h => h) (by kernel_rfl) (v := .agg #[.int .i64 x, .int .i64 y]) ?y55 ?r55
                        case y55 => (intro u hu; exact run_load_op 35 _ rfl ⟨w.heap.size + 1, 0, none⟩ _ rfl (HX.out u hu) (aggCell u) infoCell2)
                        simp only [Act.put, List.setIfInBounds_toArray, List.set_cons_zero, List.set_cons_succ]
                        refine take_held 6 (by assumption) rfl (by kernel_rfl) (by kernel_rfl) (by kernel_rfl) (fun _ _ _ h => h) (by kernel_rfl) (v := (.bool true)) ?y56 ?r56
                        case y56 => (intro u hu; refine (run_neq_cell _ _ rfl x2 y2 x y rfl rfl).trans ?_; rw [decide_eq_false hc]; rfl)
                        simp only [Act.put, List.setIfInBounds_toArray, List.set_cons_zero, List.set_cons_succ]
                        refine take_held 7 (by assumption) rfl (by kernel_rfl) (by kernel_rfl) (by kernel_rfl) (fun _ _ _ h => h) (by kernel_rfl) (v := ?v57) ?y57 ?r57
                        case y57 => (intro u hu; go_simp; try rfl)
                        simp only [Act.put, List.setIfInBounds_toArray, List.set_cons_zero, List.set_cons_succ]
                        refine take_held 8 (by assumption) rfl (by kernel_rfl) (by kernel_rfl) (by kernel_rfl) (fun _ _ _ h => h) (by kernel_rfl) (v := ?v58) ?y58 ?r58
                        case y58 => (intro u hu; go_simp; try rfl)
                        simp only [Act.put, List.setIfInBounds_toArray, List.set_cons_zero, List.set_cons_succ]
                        refine take_held 9 (by assumption) rfl (by kernel_rfl) (by kernel_rfl) (by kernel_rfl) (fun _ _ _ h => h) (by kernel_rfl) (v := ?v59) ?y59 ?r59
                        case y59 => (intro u hu; go_simp; try rfl)
                        simp only [Act.put, List.setIfInBounds_toArray, List.set_cons_zero, List.set_cons_succ]
                        refine take_held 10 (by assumption) rfl (by kernel_rfl) (by kernel_rfl) (by kernel_rfl) (fun _ _ _ h => h) (by kernel_rfl) (v := ?v60) ?y60 ?r60
                        case y60 => (intro u hu; go_simp; try rfl)
                        simp only [Act.put, List.setIfInBounds_toArray, List.set_cons_zero, List.set_cons_succ]
                        refine take_held 11 (by assumption) rfl (by kernel_rfl) (by kernel_rfl) (by kernel_rfl) (fun _ _ _ h => h) (by kernel_rfl) (v := ?v61) ?y61 ?r61
                        case y61 => (intro u hu; go_simp; try rfl)
                        simp only [Act.put, List.setIfInBounds_toArray, List.set_cons_zero, List.set_cons_succ]
                        refine take_held 12 (by assumption) rfl (by kernel_rfl) (by kernel_rfl) (by kernel_rfl) (fun _ _ _ h => h) (by kernel_rfl) (v := ?v62) ?y62 ?r62
                        case y62 => (intro u hu; go_simp; try rfl)
                        simp only [Act.put, List.setIfInBounds_toArray, List.set_cons_zero, List.set_cons_succ]
                        refine take_held 13 (by assumption) rfl (by kernel_rfl) (by kernel_rfl) (by kernel_rfl) (fun _ _ _ h => h) (by kernel_rfl) (v := .agg #[.int .i64 x2, .int .i64 y2]) ?y63 ?r63
                        case y63 => (intro u hu; exact run_load_op 35 _ rfl (p.add (j * 3)) _ rfl (HC2.out u hu) (aggCell u) infoCell2)
                        simp only [Act.put, List.setIfInBounds_toArray, List.set_cons_zero, List.set_cons_succ]
                        refine wpAnyH_ready (rs := [14]) (by kernel_rfl) (by simp) (AllReadyH.cons ((nth_eq _ 14).trans rfl) ?_ AllReadyH.nil)
                        intro K' hK
                        refine call_in hK (by kernel_rfl) 59 #[.pointer (some ⟨K.s, 0, none⟩), .agg #[.int .i64 x2, .int .i64 y2]] (by go_simp) _ (cH2 _ D0) ?_
                        rintro v w5 ⟨rfl, b5⟩
                        have D5 := bcat D0 b5 (Nat.le_refl _)
                        have hS5 : IH w5 := by rw [hIH]; exact D5
                        refine ⟨hS5, ?_⟩
                        simp only [Act.put, List.setIfInBounds_toArray, List.set_cons_zero, List.set_cons_succ]
                        refine take_held 15 (by assumption) rfl (by kernel_rfl) (by kernel_rfl) (by kernel_rfl) (fun _ _ _ h => h) (by kernel_rfl) (v := (.bool false)) ?y64 ?r64
                        case y64 => (intro u hu; go_simp; try simp)
                        simp only [Act.put, List.setIfInBounds_toArray, List.set_cons_zero, List.set_cons_succ]
                        refine take_held 16 (by assumption) rfl (by kernel_rfl) (by kernel_rfl) (by kernel_rfl) (fun _ _ _ h => h) (by kernel_rfl) (v := ?v65) ?y65 ?r65
                        case y65 => (intro u hu; go_simp; try rfl)
                        simp only [Act.put, List.setIfInBounds_toArray, List.set_cons_zero, List.set_cons_succ]
                        refine done_held (by kernel_rfl) ?_ _
                        have HF9 : Hid (∃ ps, Fu w7 K c G.uses ps0 c.robots.length kA ((0 : Int)) ps w5) := ⟨ps, HFU.out.go D5⟩
                        go_wp2
                        go_roundw
                        case rel => exact ⟨j + 1, by omega, by go_num, HF9⟩
                        case measure => simp [intOf]; omega
                      · obtain ⟨m2, hm2⟩ : ∃ m, P2.2.2.length = m + 1 := ⟨P2.2.2.length - 1, by have := List.length_pos_iff.2 hz2; omega⟩
                        have hm2i : (0 : Int) < ((m2 + 1 : Nat) : Int) := by omega
                        have Hm2 : Hid (P2.2.2.length = m2 + 1) := hm2
                        rw [hm2] at cH2
                        have Hz2 : Hid (P2.2.2 ≠ []) := hz2
                        have hkne : k2 ≠ kA := fun e => hc (by
                          obtain ⟨_, q, h1, h2, h3⟩ := open_num HFU.out.st HO2.out
                          obtain ⟨_, q', h1', h2', h3'⟩ := open_num HFU.out.st HOS.out
                          have a1 := Hk2.out
                          have a2 := HkA.out
                          rw [h1] at a1
                          rw [h1'] at a2
                          rw [← h3, ← h3']
                          have : some q = some q' := by rw [← h2, ← h2']; congr 1; omega
                          cases this
                          rfl)
                        have Hne : Hid (k2 ≠ kA) := hkne
                        clear hm2 hz2
                        refine start_held (S := IH) 17 rfl (by kernel_rfl) (hS) ?_
                        simp only [Array.replicate_succ, Array.replicate_zero, List.push_toArray, List.nil_append, List.cons_append]
                        refine take_held 0 (by assumption) rfl (by kernel_rfl) (by kernel_rfl) (by kernel_rfl) (fun _ _ _ h => h) (by kernel_rfl) (v := ?v66) ?y66 ?r66
                        case y66 => (intro u hu; go_simp; try rfl)
                        simp only [Act.put, List.setIfInBounds_toArray, List.set_cons_zero, List.set_cons_succ]
                        refine take_held 1 (by assumption) rfl (by kernel_rfl) (by kernel_rfl) (by kernel_rfl) (fun _ _ _ h => h) (by kernel_rfl) (v := ?v67) ?y67 ?r67
                        case y67 => (intro u hu; go_simp; try rfl)
                        simp only [Act.put, List.setIfInBounds_toArray, List.set_cons_zero, List.set_cons_succ]
                        refine take_held 2 (by assumption) rfl (by kernel_rfl) (by kernel_rfl) (by kernel_rfl) (fun _ _ _ h => h) (by kernel_rfl) (v := ?v68) ?y68 ?r68
                        case y68 => (intro u hu; go_simp; try rfl)
                        simp only [Act.put, List.setIfInBounds_toArray, List.set_cons_zero, List.set_cons_succ]
                        refine take_held 3 (by assumption) rfl (by kernel_rfl) (by kernel_rfl) (by kernel_rfl) (fun _ _ _ h => h) (by kernel_rfl) (v := ?v69) ?y69 ?r69
                        case y69 => (intro u hu; go_simp; try rfl)
                        simp only [Act.put, List.setIfInBounds_toArray, List.set_cons_zero, List.set_cons_succ]
                        refine take_held 4 (by assumption) rfl (by kernel_rfl) (by kernel_rfl) (by kernel_rfl) (fun _ _ _ h => h) (by kernel_rfl) (v := .agg #[.int .i64 x2, .int .i64 y2]) ?y70 ?r70
                        case y70 => (intro u hu; exact run_load_op 35 _ rfl (p.add (j * 3)) _ rfl (HC2.out u hu) (aggCell u) infoCell2)
                        simp only [Act.put, List.setIfInBounds_toArray, List.set_cons_zero, List.set_cons_succ]
                        refine take_held 5 (by assumption) rfl (by kernel_rfl) (by kernel_rfl) (by kernel_rfl) (fun _ _ _ h => h) (by kernel_rfl) (v := .agg #[.int .i64 x, .int .i64 y]) ?y71 ?r71
                        case y71 => (intro u hu; exact run_load_op 35 _ rfl ⟨w.heap.size + 1, 0, none⟩ _ rfl (HX.out u hu) (aggCell u) infoCell2)
                        simp only [Act.put, List.setIfInBounds_toArray, List.set_cons_zero, List.set_cons_succ]
                        refine take_held 6 (by assumption) rfl (by kernel_rfl) (by kernel_rfl) (by kernel_rfl) (fun _ _ _ h => h) (by kernel_rfl) (v := (.bool true)) ?y72 ?r72
                        case y72 => (intro u hu; refine (run_neq_cell _ _ rfl x2 y2 x y rfl rfl).trans ?_; rw [decide_eq_false hc]; rfl)
                        simp only [Act.put, List.setIfInBounds_toArray, List.set_cons_zero, List.set_cons_succ]
                        refine take_held 7 (by assumption) rfl (by kernel_rfl) (by kernel_rfl) (by kernel_rfl) (fun _ _ _ h => h) (by kernel_rfl) (v := ?v73) ?y73 ?r73
                        case y73 => (intro u hu; go_simp; try rfl)
                        simp only [Act.put, List.setIfInBounds_toArray, List.set_cons_zero, List.set_cons_succ]
                        refine take_held 8 (by assumption) rfl (by kernel_rfl) (by kernel_rfl) (by kernel_rfl) (fun _ _ _ h => h) (by kernel_rfl) (v := ?v74) ?y74 ?r74
                        case y74 => (intro u hu; go_simp; try rfl)
                        simp only [Act.put, List.setIfInBounds_toArray, List.set_cons_zero, List.set_cons_succ]
                        refine take_held 9 (by assumption) rfl (by kernel_rfl) (by kernel_rfl) (by kernel_rfl) (fun _ _ _ h => h) (by kernel_rfl) (v := ?v75) ?y75 ?r75
                        case y75 => (intro u hu; go_simp; try rfl)
                        simp only [Act.put, List.setIfInBounds_toArray, List.set_cons_zero, List.set_cons_succ]
                        refine take_held 10 (by assumption) rfl (by kernel_rfl) (by kernel_rfl) (by kernel_rfl) (fun _ _ _ h => h) (by kernel_rfl) (v := ?v76) ?y76 ?r76
                        case y76 => (intro u hu; go_simp; try rfl)
                        simp only [Act.put, List.setIfInBounds_toArray, List.set_cons_zero, List.set_cons_succ]
                        refine take_held 11 (by assumption) rfl (by kernel_rfl) (by kernel_rfl) (by kernel_rfl) (fun _ _ _ h => h) (by kernel_rfl) (v := ?v77) ?y77 ?r77
                        case y77 => (intro u hu; go_simp; try rfl)
                        simp only [Act.put, List.setIfInBounds_toArray, List.set_cons_zero, List.set_cons_succ]
                        refine take_held 12 (by assumption) rfl (by kernel_rfl) (by kernel_rfl) (by kernel_rfl) (fun _ _ _ h => h) (by kernel_rfl) (v := ?v78) ?y78 ?r78
                        case y78 => (intro u hu; go_simp; try rfl)
                        simp only [Act.put, List.setIfInBounds_toArray, List.set_cons_zero, List.set_cons_succ]
                        refine take_held 13 (by assumption) rfl (by kernel_rfl) (by kernel_rfl) (by kernel_rfl) (fun _ _ _ h => h) (by kernel_rfl) (v := .agg #[.int .i64 x2, .int .i64 y2]) ?y79 ?r79
                        case y79 => (intro u hu; exact run_load_op 35 _ rfl (p.add (j * 3)) _ rfl (HC2.out u hu) (aggCell u) infoCell2)
                        simp only [Act.put, List.setIfInBounds_toArray, List.set_cons_zero, List.set_cons_succ]
                        refine wpAnyH_ready (rs := [14]) (by kernel_rfl) (by simp) (AllReadyH.cons ((nth_eq _ 14).trans rfl) ?_ AllReadyH.nil)
                        intro K' hK
                        refine call_in hK (by kernel_rfl) 59 #[.pointer (some ⟨K.s, 0, none⟩), .agg #[.int .i64 x2, .int .i64 y2]] (by go_simp) _ (cH2 _ D0) ?_
                        rintro v w5 ⟨rfl, b5⟩
                        have D5 := bcat D0 b5 (Nat.le_refl _)
                        have hS5 : IH w5 := by rw [hIH]; exact D5
                        refine ⟨hS5, ?_⟩
                        simp only [Act.put, List.setIfInBounds_toArray, List.set_cons_zero, List.set_cons_succ]
                        refine take_held 15 (by assumption) rfl (by kernel_rfl) (by kernel_rfl) (by kernel_rfl) (fun _ _ _ h => h) (by kernel_rfl) (v := (.bool true)) ?y80 ?r80
                        case y80 => (intro u hu; go_simp; try simp; try omega)
                        simp only [Act.put, List.setIfInBounds_toArray, List.set_cons_zero, List.set_cons_succ]
                        refine take_held 16 (by assumption) rfl (by kernel_rfl) (by kernel_rfl) (by kernel_rfl) (fun _ _ _ h => h) (by kernel_rfl) (v := ?v81) ?y81 ?r81
                        case y81 => (intro u hu; go_simp; try rfl)
                        simp only [Act.put, List.setIfInBounds_toArray, List.set_cons_zero, List.set_cons_succ]
                        refine done_held (by kernel_rfl) ?_ _
                        have F5 := HFU.out.go D5
                        have HF5 : Hid (Fu w7 K c G.uses ps0 c.robots.length kA ((0 : Int)) ps w5) := F5
                        have Q5 := HTw.out _ _ F5.tn
                        obtain ⟨kA', PA, hkA', hPA, _⟩ := open_num F5.st HOS.out
                        obtain rfl : kA = kA' := by have := HkA.out; rw [hkA'] at this; omega
                        have hleA := F5.le PA hPA
                        have hsmA := F5.st.small _ _ hPA
                        have HPA : Hid (ps[kA]? = some PA) := hPA
                        have hOkL : OkL c G.uses ps (List.replicate c.robots.length 0) 0 (x2, y2) k2 P2 := ⟨Hth.out, HO2.out, load_zero _ _, Hk2.out, HP2.out, Hz2.out⟩
                        have HOL : Hid (OkL c G.uses ps (List.replicate c.robots.length 0) 0 (x2, y2) k2 P2) := hOkL
                        have hzt : topP P2.2.2 ≠ 0 := F5.nz _ (mem_bins HP2.out (top_mem Hz2.out))
                        have HZt : Hid (topP P2.2.2 ≠ 0) := hzt
                        have Hk2l : Hid (k2 < ps.length) := (List.getElem?_eq_some_iff.1 HP2.out).1
                        have hp1 : ∀ v', (ps.set k2 (P2.1, v', P2.2.2.dropLast))[kA]? = some PA := fun v' => by rw [List.getElem?_set, if_neg Hne.out]; exact HPA.out
                        have Hp1 : Hid (∀ v', (ps.set k2 (P2.1, v', P2.2.2.dropLast))[kA]? = some PA) := hp1
                        have Hth1 : Hid (thereB ((List.replicate c.robots.length 0).set (0 : Int).toNat (topP P2.2.2)) 0 = true) := by have := Hth.out; unfold thereB at this ⊢; rw [List.length_set]; exact this
                        have Hl1 : Hid (loadP ((List.replicate c.robots.length 0).set (0 : Int).toNat (topP P2.2.2)) 0 = topP P2.2.2) := (load_there Hth.out).2.2 _
                        have cHA := fun u (q : StAt K c G.uses ps (List.replicate c.robots.length 0) u) => height_yes q x y HOS.out HkA.out HPA.out
                        have cLi := fun u (q : StAt K c G.uses ps (List.replicate c.robots.length 0) u) => lift_ok q 0 x2 y2 HOL.out.1 HOL.out.2.1 HOL.out.2.2.1 HOL.out.2.2.2.1 HOL.out.2.2.2.2.1 HOL.out.2.2.2.2.2
                        obtain ⟨nA, hnA⟩ : ∃ n, PA.2.2.length = n := ⟨_, rfl⟩
                        have HnA : Hid (PA.2.2.length = nA) := hnA
                        rw [hnA] at cHA hleA hsmA
                        have ARM1 : True := trivial
                        clear hnA hPA hkA' F5 hOkL hzt hp1 hkne
                        by_cases hfull : ((0 : Int)) ≤ (nA : Int)
                        · have hf1 : ¬ ((nA : Int) < ((0 : Int))) := by omega
                          go_wp2_with (first
                            | (have X' := S13; have X'' := b14; go_at_call 59; refine (height_yes (S13.go b14) x y HOS.out HkA.out (Hp1.out v13)).mono ?_; rintro e w15 ⟨r15, rfl, hr15, b15⟩; rw [HnA.out] at hr15; subst hr15; have Q15 := Q14.go b15)
                            | (have X' := b14; refine wpList_load_want (by kernel_rfl) 35 (.tmp 3) rfl (w.heap.size + 1) rfl 35 #[.int .i64 x, .int .i64 y] (0, 0) Q14.b Try.underlying35 infoCell2 ?_)
                            | (have X' := S13; go_at_call 57; refine (drop_full S13 0 x y Hth1.out HOS.out (by rw [Hl1.out]; exact HZt.out) HkA.out (Hp1.out v13) (by rw [HRM.out, HnA.out]; exact hfull)).mono ?_; rintro e w14 ⟨r14, rfl, rfl, b14⟩; have Q14 := Q13.go b14)
                            | (have X' := S13; refine wpList_load_row rfl 35 (.tmp 3) rfl (w.heap.size + 1) rfl 35 #[.int .i64 x, .int .i64 y] (0, 0) _ Q13.b Try.underlying35 rfl infoCell2 ?_)
                            | (go_at_call 55; refine (cLi _ F12.st).mono ?_; rintro e w13 ⟨v13, rfl, S13, T13⟩; have Q13 := HTw.out _ _ (F12.tn.trans T13))
                            | (have X' := F12; refine wpList_load_at rfl 35 (.tmp 90) rfl (p.add (j * 3)) rfl #[.int .i64 x2, .int .i64 y2] (HCe.out _ _ F12.tn) (aggCell _) infoCell2 ?_)
                            | (have X' := HF5; go_at_call 59; refine (cHA _ HF5.out.st).mono ?_; rintro e w12 ⟨r12, rfl, rfl, b12⟩; have F12 := HF5.out.go b12)
                            | (refine wpList_load_row rfl 35 (.tmp 3) rfl (w.heap.size + 1) rfl 35 #[.int .i64 x, .int .i64 y] (0, 0) _ Q5.b Try.underlying35 rfl infoCell2 ?_)
                            | (go_at_call 53; refine (awake8_any _).mono ?_; rintro e w9 ⟨r9, rfl, rfl, b9⟩))
                          go_ret
                          exact ⟨rfl, bcat Q15.below b9 (Nat.le_refl _)⟩
                        · exact (hfull (by omega)).elim
                · obtain rfl : nL = j := by omega
                  obtain ⟨ps, FU⟩ := HF.out
                  obtain ⟨kA', PA, hkA', hPA, _⟩ := open_num FU.st HOS.out
                  obtain rfl : kA = kA' := by have := HkA.out; rw [hkA'] at this; omega
                  have hle := FU.le PA hPA
                  have cH := height_yes FU.st x y HOS.out HkA.out hPA
                  have Q9 := HTw.out _ _ FU.tn
                  obtain ⟨nA, hnA⟩ : ∃ n, PA.2.2.length = n := ⟨_, rfl⟩
                  rw [hnA] at hle cH
                  clear hnA FU HF hPA hkA'
                  go_wp2_with (first
                    | (refine wpList_load_row rfl 35 (.tmp 3) rfl (w.heap.size + 1) rfl 35 #[.int .i64 x, .int .i64 y] (0, 0) _ Q9.b Try.underlying35 rfl infoCell2 ?_)
                    | (go_at_call 59; refine cH.mono ?_; rintro e w10 ⟨r10, rfl, rfl, b10⟩; have Q10 := Q9.go b10)
                    | (go_at_call 53; refine (awake8_any _).mono ?_; rintro e w11 ⟨r11, rfl, rfl, b11⟩))
                  go_ret
                  exact ⟨rfl, bcat Q10.below b11 (Nat.le_refl _)⟩
            · have hPn2 : 0 ≤ PB := by omega
              have hRM : roomP c G.uses (x, y) = 1 := by rw [hre, if_neg hPn]
              clear hPB
              have HMY : Hid (mayBeP (c.stacks.flatMap Prod.snd)) := hmy
              have HN : Hid (newP c = some G) := hN
              have HRM : Hid (roomP c G.uses (x, y) = ((1 : Int))) := hRM
              clear hA L hN hAu hmy hre hRM hOB
              go_enter Try.func16, Try.ntmps16
              go_wp2_with (first
                    | (have X' := Q6; go_at_call 71; refine (told_any S6 1000 (by decide) (by decide)).mono ?_; rintro e w7 ⟨v8, rfl, ⟨ys8, T8⟩, b7⟩; have Q7 := Q6.go b7)
                    | (have X' := Q5; refine wpList_load_row rfl 26 (.tmp 2) rfl w.heap.size rfl 26 #[.int .i64 c.W, .int .i64 c.H, .int .i64 c.height, vb, vp, .slice a3 c.robots.length cap3, vs, .int .i64 c.unit, .int .i64 c.accel, .int .i64 c.speed, .int .i64 c.turn, .int .i64 c.hoist, .int .i64 c.queue, .int .i64 c.resend, .int .i64 c.budget, .bool c.back] (0, 0) _ Q5.a Try.underlying26 rfl info_conf ?_)
                    | (have X' := Q5; refine wpList_load_row rfl 35 (.tmp 3) rfl (w.heap.size + 1) rfl 35 #[.int .i64 x, .int .i64 y] (0, 0) _ Q5.b Try.underlying35 rfl infoCell2 ?_)
                    | (have X' := Q5; go_at_call 27; refine (cPR _ Q5.below).mono ?_; rintro e w6 ⟨r6, rfl, rfl, b6⟩; have Q6 := Q5.go b6; have S6 := (((S2.go b3).go b4).go b5).go b6)
                    | (have X' := Q4; refine wpList_load_row rfl 26 (.tmp 2) rfl w.heap.size rfl 26 #[.int .i64 c.W, .int .i64 c.H, .int .i64 c.height, vb, vp, .slice a3 c.robots.length cap3, vs, .int .i64 c.unit, .int .i64 c.accel, .int .i64 c.speed, .int .i64 c.turn, .int .i64 c.hoist, .int .i64 c.queue, .int .i64 c.resend, .int .i64 c.budget, .bool c.back] (0, 0) _ Q4.a Try.underlying26 rfl info_conf ?_)
                    | (have X' := Q4; refine wpList_load_row rfl 35 (.tmp 3) rfl (w.heap.size + 1) rfl 35 #[.int .i64 x, .int .i64 y] (0, 0) _ Q4.b Try.underlying35 rfl infoCell2 ?_)
                    | (have X' := Q4; go_at_call 29; refine (cSR _ Q4.below).mono ?_; rintro e w5 ⟨r5, rfl, rfl, b5⟩; have Q5 := Q4.go b5; have h52 := cell_of Q5.a 2)
                    | (first
                    | (have X' := Q4; refine wpList_load_row rfl 26 (.tmp 2) rfl w.heap.size rfl 26 #[.int .i64 c.W, .int .i64 c.H, .int .i64 c.height, vb, vp, .slice a3 c.robots.length cap3, vs, .int .i64 c.unit, .int .i64 c.accel, .int .i64 c.speed, .int .i64 c.turn, .int .i64 c.hoist, .int .i64 c.queue, .int .i64 c.resend, .int .i64 c.budget, .bool c.back] (0, 0) _ Q4.a Try.underlying26 rfl info_conf ?_)
                    | (have X' := Q3; refine wpList_load_row rfl 26 (.tmp 2) rfl w.heap.size rfl 26 #[.int .i64 c.W, .int .i64 c.H, .int .i64 c.height, vb, vp, .slice a3 c.robots.length cap3, vs, .int .i64 c.unit, .int .i64 c.accel, .int .i64 c.speed, .int .i64 c.turn, .int .i64 c.hoist, .int .i64 c.queue, .int .i64 c.resend, .int .i64 c.budget, .bool c.back] (0, 0) _ Q3.a Try.underlying26 rfl info_conf ?_)
                    | (have X' := Q3; refine wpList_load_want (by kernel_rfl) 26 (.tmp 2) rfl w.heap.size rfl 26 #[.int .i64 c.W, .int .i64 c.H, .int .i64 c.height, vb, vp, .slice a3 c.robots.length cap3, vs, .int .i64 c.unit, .int .i64 c.accel, .int .i64 c.speed, .int .i64 c.turn, .int .i64 c.hoist, .int .i64 c.queue, .int .i64 c.resend, .int .i64 c.budget, .bool c.back] (0, 0) Q3.a Try.underlying26 info_conf ?_)
                    | (have X' := Q3; refine wpList_load_want (by kernel_rfl) 35 (.tmp 3) rfl (w.heap.size + 1) rfl 35 #[.int .i64 x, .int .i64 y] (0, 0) Q3.b Try.underlying35 infoCell2 ?_)
                    | (have X' := Q2; refine wpList_load_row rfl 26 (.tmp 2) rfl w.heap.size rfl 26 #[.int .i64 c.W, .int .i64 c.H, .int .i64 c.height, vb, vp, .slice a3 c.robots.length cap3, vs, .int .i64 c.unit, .int .i64 c.accel, .int .i64 c.speed, .int .i64 c.turn, .int .i64 c.hoist, .int .i64 c.queue, .int .i64 c.resend, .int .i64 c.budget, .bool c.back] (0, 0) _ Q2.a Try.underlying26 rfl info_conf ?_)
                    | (refine wpList_load_row rfl 26 (.tmp 2) rfl w.heap.size rfl 26 #[.int .i64 c.W, .int .i64 c.H, .int .i64 c.height, vb, vp, .slice a3 c.robots.length cap3, vs, .int .i64 c.unit, .int .i64 c.accel, .int .i64 c.speed, .int .i64 c.turn, .int .i64 c.hoist, .int .i64 c.queue, .int .i64 c.resend, .int .i64 c.budget, .bool c.back] (0, 0) _ Q0.a Try.underlying26 rfl info_conf ?_)
                    | (go_at_call 20; refine (cC _ Q0.below).mono ?_; rintro e w1 ⟨r1, rfl, ⟨v1, v2, v3, v4, rfl, A1⟩, b1⟩; have Q1 := Q0.go b1)
                    | (go_at_call 52; refine (cN A1).mono ?_; rintro e w2 ⟨K, ps0, rfl, S2, hb2, hat2, hpm2, b2⟩; have Q2 := Q1.go b2)
                    | (go_at_call 51; refine (cS _ Q2.below).mono ?_; rintro e w3 ⟨r3, rfl, rfl, b3⟩; have Q3 := Q2.go b3; have x5 := cell_of Q3.a 5)
                    | (go_at_call 25; refine (cOR _ Q3.below).mono ?_; rintro e w4 ⟨r4, rfl, rfl, b4⟩; have Q4 := Q3.go b4)
                    | (have X' := Q4; go_at_call 21; refine (cM _ Q4.below).mono ?_; rintro e w8 ⟨r8, rfl, rfl, b8⟩; have Q8 := Q4.go b8)
                    | (go_at_call 21; refine (cM _ Q3.below).mono ?_; rintro e w8 ⟨r8, rfl, rfl, b8⟩; have Q8 := Q3.go b8)
                    | (go_at_call 53; refine (awake8_any _).mono ?_; rintro e w9 ⟨r9, rfl, rfl, b9⟩)))
              have T8l := T8.list
              obtain ⟨a8, cap8, hv8, _⟩ := T8l.form
              subst hv8
              obtain ⟨nL, hnL⟩ : ∃ n, (tellT c G.uses ps0 ps0.length).length = n := ⟨_, rfl⟩
              have HnL : Hid ((tellT c G.uses ps0 ps0.length).length = nL) := hnL
              have hnb : nL ≤ 256 := by rw [← hnL]; have := tell_len c G.uses ps0 ps0.length; have := S6.lens; omega
              rw [hnL] at T8l
              rw [hnL]
              have hfl := S6.foot_lt
              have HLs : Hid (∀ ps u, Turn K ps0 ps w7 u → ListAt 3 stackEl (Since (w6.heap.size + 3) w7) (tellT c G.uses ps0 ps0.length) (.slice a8 nL cap8) u) := fun ps u tn => T8l.stable heldStack fun g hg => tn.keep g hg.2 (fun q => by have := hfl g q; have := hg.1; omega)
              have hfg : ∀ b, Foot K ps0 b → w.heap.size + 2 ≤ b := fun b q => by have h1 := S6.foot_ge b q; have h2 := lt_of_heap Q1.b; omega
              have HQ7 : Hid (Two w #[.int .i64 c.W, .int .i64 c.H, .int .i64 c.height, vb, vp, .slice a3 c.robots.length cap3, vs, .int .i64 c.unit, .int .i64 c.accel, .int .i64 c.speed, .int .i64 c.turn, .int .i64 c.hoist, .int .i64 c.queue, .int .i64 c.resend, .int .i64 c.budget, .bool c.back] #[.int .i64 x, .int .i64 y] 35 w7) := Q7
              have HTw : Hid (∀ ps u, Turn K ps0 ps w7 u → Two w #[.int .i64 c.W, .int .i64 c.H, .int .i64 c.height, vb, vp, .slice a3 c.robots.length cap3, vs, .int .i64 c.unit, .int .i64 c.accel, .int .i64 c.speed, .int .i64 c.turn, .int .i64 c.hoist, .int .i64 c.queue, .int .i64 c.resend, .int .i64 c.budget, .bool c.back] #[.int .i64 x, .int .i64 y] 35 u) := fun ps u tn => two_turn HQ7.out tn hfg
              have HIn : Hid (∀ i (h : i < (tellT c G.uses ps0 ps0.length).length), openU c.W c.H G.uses ((tellT c G.uses ps0 ps0.length)[i]'h).1 = true) := fun i h => tell_open (List.getElem_mem h)
              obtain ⟨kA, pA, hkA, hpA, hpAx⟩ := open_num S6 hos
              have HkA : Hid (number c.W c.H (x, y) = (kA : Nat)) := hkA
              have HF0 : Hid (∃ ps, Fu w7 K c G.uses ps0 c.robots.length kA ((1 : Int)) ps w7) := ⟨ps0, S6.go b7, Turn.refl _ _ _, (first_bins HMY.out hpm2).2, fun p hp => by
                rw [hpA] at hp
                cases hp
                have e := hat2 kA pA hpA
                rw [hpAx] at e
                rw [← HRM.out, e]
                by_cases hz : placed c.stacks (x, y) = []
                · rw [hz]; rw [HRM.out]; simp; try omega
                · exact placed_room HN.out hz⟩
              have Hth : Hid (thereB (List.replicate c.robots.length 0) 0 = true) := by show thereB (List.replicate c.robots.length 0) 0 = true; unfold thereB; rw [List.length_replicate]; simp; omega
              have HOS : Hid (openU c.W c.H G.uses (x, y) = true) := hos
              clear T8l hnL hfl hfg hkA hpA hpAx S6 b7 Q7 Q1 hat2 hpm2 T8 hos
              go_loopw [9] (fun i wq => ∃ j : Nat, j ≤ nL ∧ i = .int .i64 j ∧ Hid (∃ ps, Fu w7 K c G.uses ps0 c.robots.length kA ((1 : Int)) ps wq)) (fun i _ => nL - (intOf i).toNat)
              case atStart => exact ⟨0, Nat.zero_le _, rfl, HF0⟩
              case round =>
                clear HF0
                obtain ⟨j, hj, rfl, HF⟩ := hrel
                by_cases hlt : j < nL
                · have hj' : j < (tellT c G.uses ps0 ps0.length).length := by rw [HnL.out]; exact hlt
                  have hop2 := HIn.out j hj'
                  have HIt : Hid (∀ ps u, Turn K ps0 ps w7 u → ∃ p vb2, a8 = some p ∧ ∀ jj z, #[Value.int .i64 ((tellT c G.uses ps0 ps0.length)[j]'hj').1.1, .int .i64 ((tellT c G.uses ps0 ps0.length)[j]'hj').1.2, vb2][jj]? = some z → u.cell? ((p.add (j * 3)).add jj) = some z) := fun ps u tn => by
                    obtain ⟨p, cs, cap', hv, _, ⟨vb2, e, _⟩, hrd⟩ := (HLs.out ps u tn).item hj'
                    subst e
                    injection hv with h1 h2 h3
                    exact ⟨p, vb2, h1, hrd⟩
                  generalize (tellT c G.uses ps0 ps0.length)[j]'hj' = q2 at *
                  obtain ⟨⟨x2, y2⟩, bs2⟩ := q2
                  simp only at hop2 HIt
                  obtain ⟨psx, Fx⟩ := HF.out
                  obtain ⟨p, _, rfl, _⟩ := HIt.out _ _ Fx.tn
                  obtain ⟨k2, _, hk2, _, _⟩ := open_num Fx.st hop2
                  have Hk2 : Hid (number c.W c.H (x2, y2) = (k2 : Nat)) := hk2
                  have HO2 : Hid (openU c.W c.H G.uses (x2, y2) = true) := hop2
                  have HCe : Hid (∀ ps u, Turn K ps0 ps w7 u → ∀ jj z, #[Value.int .i64 x2, .int .i64 y2][jj]? = some z → u.cell? ((p.add (j * 3)).add jj) = some z) := fun ps u tn jj z hz => by
                    obtain ⟨p', vb2, hp', hrd⟩ := HIt.out ps u tn
                    injection hp' with hp'
                    subst hp'
                    exact hrd jj z (by
                      match jj with
                      | 0 => simpa using hz
                      | 1 => simpa using hz
                      | jj + 2 => simp at hz)
                  clear Fx HIt hk2 hop2
                  go_wp2
                  go_loopw [10] (fun _ wq => Hid (∃ ps, Fu w7 K c G.uses ps0 c.robots.length kA ((1 : Int)) ps wq)) (fun _ wq => hgtW K k2 wq)
                  case atStart => exact HF
                  case round =>
                    clear HF
                    have HF : Hid (∃ ps, Fu w7 K c G.uses ps0 c.robots.length kA ((1 : Int)) ps wr) := hrel
                    obtain ⟨ps, FU⟩ := HF.out
                    obtain ⟨k2', P2, hk2', hP2, _⟩ := open_num FU.st HO2.out
                    obtain rfl : k2 = k2' := by have := Hk2.out; rw [hk2'] at this; omega
                    have hgm := hgt_is FU.st hP2
                    have HFU : Hid (Fu w7 K c G.uses ps0 c.robots.length kA ((1 : Int)) ps wr) := FU
                    have HP2 : Hid (ps[k2]? = some P2) := hP2
                    have Hgm : Hid (hgtW K k2 wr = P2.2.2.length) := hgm
                    have hsm2 := FU.st.small _ _ hP2
                    have cH2 := fun u (b : Below wr.heap.size wr u) => height_yes (HFU.out.st.go b) x2 y2 HO2.out Hk2.out HP2.out
                    clear hgm hP2 FU hk2' hrel
                    go_wp2
                    obtain ⟨IH, hIH⟩ : ∃ I : World → Prop, I = Below wr.heap.size wr := ⟨_, rfl⟩
                    have kI : ∀ u, IH u → Below wr.heap.size wr u := fun u hu => by rw [hIH] at hu; exact hu
                    have hS : IH wr.drew := by rw [hIH]; exact (Below.refl _ _).drew
                    have D0 : Below wr.heap.size wr wr.drew := (Below.refl _ _).drew
                    have hqT := HTw.out _ _ HFU.out.tn
                    have hqb := hqT.b
                    have HX : Hid (∀ u, IH u → ∀ j z, #[Value.int .i64 x, .int .i64 y][j]? = some z → u.cell? ((⟨w.heap.size + 1, 0, none⟩ : Addr).add j) = some z) := fun u hu => row_below hqb (kI u hu)
                    have HC2 : Hid (∀ u, IH u → ∀ jj z, #[Value.int .i64 x2, .int .i64 y2][jj]? = some z → u.cell? ((p.add (j * 3)).add jj) = some z) := fun u hu jj z hz => cell_below (HCe.out _ _ HFU.out.tn jj z hz) (kI u hu)
                    clear hqT hqb
                    by_cases hc : (x2, y2) = (x, y)
                    · skip
                      refine start_held (S := IH) 17 rfl (by kernel_rfl) (hS) ?_
                      simp only [Array.replicate_succ, Array.replicate_zero, List.push_toArray, List.nil_append, List.cons_append]
                      refine take_held 0 (by assumption) rfl (by kernel_rfl) (by kernel_rfl) (by kernel_rfl) (fun _ _ _ h => h) (by kernel_rfl) (v := ?v82) ?y82 ?r82
                      case y82 => (intro u hu; go_simp; try rfl)
                      simp only [Act.put, List.setIfInBounds_toArray, List.set_cons_zero, List.set_cons_succ]
                      refine take_held 1 (by assumption) rfl (by kernel_rfl) (by kernel_rfl) (by kernel_rfl) (fun _ _ _ h => h) (by kernel_rfl) (v := ?v83) ?y83 ?r83
                      case y83 => (intro u hu; go_simp; try rfl)
                      simp only [Act.put, List.setIfInBounds_toArray, List.set_cons_zero, List.set_cons_succ]
                      refine take_held 2 (by assumption) rfl (by kernel_rfl) (by kernel_rfl) (by kernel_rfl) (fun _ _ _ h => h) (by kernel_rfl) (v := ?v84) ?y84 ?r84
                      case y84 => (intro u hu; go_simp; try rfl)
                      simp only [Act.put, List.setIfInBounds_toArray, List.set_cons_zero, List.set_cons_succ]
                      refine take_held 3 (by assumption) rfl (by kernel_rfl) (by kernel_rfl) (by kernel_rfl) (fun _ _ _ h => h) (by kernel_rfl) (v := ?v85) ?y85 ?r85
                      case y85 => (intro u hu; go_simp; try rfl)
                      simp only [Act.put, List.setIfInBounds_toArray, List.set_cons_zero, List.set_cons_succ]
                      refine take_held 4 (by assumption) rfl (by kernel_rfl) (by kernel_rfl) (by kernel_rfl) (fun _ _ _ h => h) (by kernel_rfl) (v := .agg #[.int .i64 x2, .int .i64 y2]) ?y86 ?r86
                      case y86 => (intro u hu; exact run_load_op 35 _ rfl (p.add (j * 3)) _ rfl (HC2.out u hu) (aggCell u) infoCell2)
                      simp only [Act.put, List.setIfInBounds_toArray, List.set_cons_zero, List.set_cons_succ]
                      refine take_held 5 (by assumption) rfl (by kernel_rfl) (by kernel_rfl) (by kernel_rfl) (fun _ _ _ h => h) (by kernel_rfl) (v := .agg #[.int .i64 x, .int .i64 y]) ?y87 ?r87
                      case y87 => (intro u hu; exact run_load_op 35 _ rfl ⟨w.heap.size + 1, 0, none⟩ _ rfl (HX.out u hu) (aggCell u) infoCell2)
                      simp only [Act.put, List.setIfInBounds_toArray, List.set_cons_zero, List.set_cons_succ]
                      refine take_held 6 (by assumption) rfl (by kernel_rfl) (by kernel_rfl) (by kernel_rfl) (fun _ _ _ h => h) (by kernel_rfl) (v := (.bool false)) ?y88 ?r88
                      case y88 => (intro u hu; refine (run_neq_cell _ _ rfl x2 y2 x y rfl rfl).trans ?_; rw [decide_eq_true hc]; rfl)
                      simp only [Act.put, List.setIfInBounds_toArray, List.set_cons_zero, List.set_cons_succ]
                      refine take_held 7 (by assumption) rfl (by kernel_rfl) (by kernel_rfl) (by kernel_rfl) (fun _ _ _ h => h) (by kernel_rfl) (v := ?v89) ?y89 ?r89
                      case y89 => (intro u hu; go_simp; try rfl)
                      simp only [Act.put, List.setIfInBounds_toArray, List.set_cons_zero, List.set_cons_succ]
                      refine skip_held 8 (by assumption) rfl (by kernel_rfl) (by kernel_rfl) (by kernel_rfl) (fun _ _ _ h => h) (by kernel_rfl) ?_
                      simp only [Act.put, List.setIfInBounds_toArray, List.set_cons_zero, List.set_cons_succ]
                      refine skip_held 9 (by assumption) rfl (by kernel_rfl) (by kernel_rfl) (by kernel_rfl) (fun _ _ _ h => h) (by kernel_rfl) ?_
                      simp only [Act.put, List.setIfInBounds_toArray, List.set_cons_zero, List.set_cons_succ]
                      refine skip_held 10 (by assumption) rfl (by kernel_rfl) (by kernel_rfl) (by kernel_rfl) (fun _ _ _ h => h) (by kernel_rfl) ?_
                      simp only [Act.put, List.setIfInBounds_toArray, List.set_cons_zero, List.set_cons_succ]
                      refine skip_held 11 (by assumption) rfl (by kernel_rfl) (by kernel_rfl) (by kernel_rfl) (fun _ _ _ h => h) (by kernel_rfl) ?_
                      simp only [Act.put, List.setIfInBounds_toArray, List.set_cons_zero, List.set_cons_succ]
                      refine skip_held 12 (by assumption) rfl (by kernel_rfl) (by kernel_rfl) (by kernel_rfl) (fun _ _ _ h => h) (by kernel_rfl) ?_
                      simp only [Act.put, List.setIfInBounds_toArray, List.set_cons_zero, List.set_cons_succ]
                      refine skip_held 13 (by assumption) rfl (by kernel_rfl) (by kernel_rfl) (by kernel_rfl) (fun _ _ _ h => h) (by kernel_rfl) ?_
                      simp only [Act.put, List.setIfInBounds_toArray, List.set_cons_zero, List.set_cons_succ]
                      refine skip_held 14 (by assumption) rfl (by kernel_rfl) (by kernel_rfl) (by kernel_rfl) (fun _ _ _ h => h) (by kernel_rfl) ?_
                      simp only [Act.put, List.setIfInBounds_toArray, List.set_cons_zero, List.set_cons_succ]
                      refine skip_held 15 (by assumption) rfl (by kernel_rfl) (by kernel_rfl) (by kernel_rfl) (fun _ _ _ h => h) (by kernel_rfl) ?_
                      simp only [Act.put, List.setIfInBounds_toArray, List.set_cons_zero, List.set_cons_succ]
                      refine take_held 16 (by assumption) rfl (by kernel_rfl) (by kernel_rfl) (by kernel_rfl) (fun _ _ _ h => h) (by kernel_rfl) (v := ?v90) ?y90 ?r90
                      case y90 => (intro u hu; go_simp; try rfl)
                      simp only [Act.put, List.setIfInBounds_toArray, List.set_cons_zero, List.set_cons_succ]
                      refine done_held (by kernel_rfl) ?_ _
                      have HF9 : Hid (∃ ps, Fu w7 K c G.uses ps0 c.robots.length kA ((1 : Int)) ps wr.drew) := ⟨ps, HFU.out.go D0⟩
                      go_wp2
                      go_roundw
                      case rel => exact ⟨j + 1, by omega, by go_num, HF9⟩
                      case measure => simp [intOf]; omega
                    · by_cases hz2 : P2.2.2 = []
                      · rw [hz2] at cH2
                        refine start_held (S := IH) 17 rfl (by kernel_rfl) (hS) ?_
                        simp only [Array.replicate_succ, Array.replicate_zero, List.push_toArray, List.nil_append, List.cons_append]
                        refine take_held 0 (by assumption) rfl (by kernel_rfl) (by kernel_rfl) (by kernel_rfl) (fun _ _ _ h => h) (by kernel_rfl) (v := ?v91) ?y91 ?r91
                        case y91 => (intro u hu; go_simp; try rfl)
                        simp only [Act.put, List.setIfInBounds_toArray, List.set_cons_zero, List.set_cons_succ]
                        refine take_held 1 (by assumption) rfl (by kernel_rfl) (by kernel_rfl) (by kernel_rfl) (fun _ _ _ h => h) (by kernel_rfl) (v := ?v92) ?y92 ?r92
                        case y92 => (intro u hu; go_simp; try rfl)
                        simp only [Act.put, List.setIfInBounds_toArray, List.set_cons_zero, List.set_cons_succ]
                        refine take_held 2 (by assumption) rfl (by kernel_rfl) (by kernel_rfl) (by kernel_rfl) (fun _ _ _ h => h) (by kernel_rfl) (v := ?v93) ?y93 ?r93
                        case y93 => (intro u hu; go_simp; try rfl)
                        simp only [Act.put, List.setIfInBounds_toArray, List.set_cons_zero, List.set_cons_succ]
                        refine take_held 3 (by assumption) rfl (by kernel_rfl) (by kernel_rfl) (by kernel_rfl) (fun _ _ _ h => h) (by kernel_rfl) (v := ?v94) ?y94 ?r94
                        case y94 => (intro u hu; go_simp; try rfl)
                        simp only [Act.put, List.setIfInBounds_toArray, List.set_cons_zero, List.set_cons_succ]
                        refine take_held 4 (by assumption) rfl (by kernel_rfl) (by kernel_rfl) (by kernel_rfl) (fun _ _ _ h => h) (by kernel_rfl) (v := .agg #[.int .i64 x2, .int .i64 y2]) ?y95 ?r95
                        case y95 => (intro u hu; exact run_load_op 35 _ rfl (p.add (j * 3)) _ rfl (HC2.out u hu) (aggCell u) infoCell2)
                        simp only [Act.put, List.setIfInBounds_toArray, List.set_cons_zero, List.set_cons_succ]
                        refine take_held 5 (by assumption) rfl (by kernel_rfl) (by kernel_rfl) (by kernel_rfl) (fun _ _ _ h => h) (by kernel_rfl) (v := .agg #[.int .i64 x, .int .i64 y]) ?y96 ?r96
                        case y96 => (intro u hu; exact run_load_op 35 _ rfl ⟨w.heap.size + 1, 0, none⟩ _ rfl (HX.out u hu) (aggCell u) infoCell2)
                        simp only [Act.put, List.setIfInBounds_toArray, List.set_cons_zero, List.set_cons_succ]
                        refine take_held 6 (by assumption) rfl (by kernel_rfl) (by kernel_rfl) (by kernel_rfl) (fun _ _ _ h => h) (by kernel_rfl) (v := (.bool true)) ?y97 ?r97
                        case y97 => (intro u hu; refine (run_neq_cell _ _ rfl x2 y2 x y rfl rfl).trans ?_; rw [decide_eq_false hc]; rfl)
                        simp only [Act.put, List.setIfInBounds_toArray, List.set_cons_zero, List.set_cons_succ]
                        refine take_held 7 (by assumption) rfl (by kernel_rfl) (by kernel_rfl) (by kernel_rfl) (fun _ _ _ h => h) (by kernel_rfl) (v := ?v98) ?y98 ?r98
                        case y98 => (intro u hu; go_simp; try rfl)
                        simp only [Act.put, List.setIfInBounds_toArray, List.set_cons_zero, List.set_cons_succ]
                        refine take_held 8 (by assumption) rfl (by kernel_rfl) (by kernel_rfl) (by kernel_rfl) (fun _ _ _ h => h) (by kernel_rfl) (v := ?v99) ?y99 ?r99
                        case y99 => (intro u hu; go_simp; try rfl)
                        simp only [Act.put, List.setIfInBounds_toArray, List.set_cons_zero, List.set_cons_succ]
                        refine take_held 9 (by assumption) rfl (by kernel_rfl) (by kernel_rfl) (by kernel_rfl) (fun _ _ _ h => h) (by kernel_rfl) (v := ?v100) ?y100 ?r100
                        case y100 => (intro u hu; go_simp; try rfl)
                        simp only [Act.put, List.setIfInBounds_toArray, List.set_cons_zero, List.set_cons_succ]
                        refine take_held 10 (by assumption) rfl (by kernel_rfl) (by kernel_rfl) (by kernel_rfl) (fun _ _ _ h => h) (by kernel_rfl) (v := ?v101) ?y101 ?r101
                        case y101 => (intro u hu; go_simp; try rfl)
                        simp only [Act.put, List.setIfInBounds_toArray, List.set_cons_zero, List.set_cons_succ]
                        refine take_held 11 (by assumption) rfl (by kernel_rfl) (by kernel_rfl) (by kernel_rfl) (fun _ _ _ h => h) (by kernel_rfl) (v := ?v102) ?y102 ?r102
                        case y102 => (intro u hu; go_simp; try rfl)
                        simp only [Act.put, List.setIfInBounds_toArray, List.set_cons_zero, List.set_cons_succ]
                        refine take_held 12 (by assumption) rfl (by kernel_rfl) (by kernel_rfl) (by kernel_rfl) (fun _ _ _ h => h) (by kernel_rfl) (v := ?v103) ?y103 ?r103
                        case y103 => (intro u hu; go_simp; try rfl)
                        simp only [Act.put, List.setIfInBounds_toArray, List.set_cons_zero, List.set_cons_succ]
                        refine take_held 13 (by assumption) rfl (by kernel_rfl) (by kernel_rfl) (by kernel_rfl) (fun _ _ _ h => h) (by kernel_rfl) (v := .agg #[.int .i64 x2, .int .i64 y2]) ?y104 ?r104
                        case y104 => (intro u hu; exact run_load_op 35 _ rfl (p.add (j * 3)) _ rfl (HC2.out u hu) (aggCell u) infoCell2)
                        simp only [Act.put, List.setIfInBounds_toArray, List.set_cons_zero, List.set_cons_succ]
                        refine wpAnyH_ready (rs := [14]) (by kernel_rfl) (by simp) (AllReadyH.cons ((nth_eq _ 14).trans rfl) ?_ AllReadyH.nil)
                        intro K' hK
                        refine call_in hK (by kernel_rfl) 59 #[.pointer (some ⟨K.s, 0, none⟩), .agg #[.int .i64 x2, .int .i64 y2]] (by go_simp) _ (cH2 _ D0) ?_
                        rintro v w5 ⟨rfl, b5⟩
                        have D5 := bcat D0 b5 (Nat.le_refl _)
                        have hS5 : IH w5 := by rw [hIH]; exact D5
                        refine ⟨hS5, ?_⟩
                        simp only [Act.put, List.setIfInBounds_toArray, List.set_cons_zero, List.set_cons_succ]
                        refine take_held 15 (by assumption) rfl (by kernel_rfl) (by kernel_rfl) (by kernel_rfl) (fun _ _ _ h => h) (by kernel_rfl) (v := (.bool false)) ?y105 ?r105
                        case y105 => (intro u hu; go_simp; try simp)
                        simp only [Act.put, List.setIfInBounds_toArray, List.set_cons_zero, List.set_cons_succ]
                        refine take_held 16 (by assumption) rfl (by kernel_rfl) (by kernel_rfl) (by kernel_rfl) (fun _ _ _ h => h) (by kernel_rfl) (v := ?v106) ?y106 ?r106
                        case y106 => (intro u hu; go_simp; try rfl)
                        simp only [Act.put, List.setIfInBounds_toArray, List.set_cons_zero, List.set_cons_succ]
                        refine done_held (by kernel_rfl) ?_ _
                        have HF9 : Hid (∃ ps, Fu w7 K c G.uses ps0 c.robots.length kA ((1 : Int)) ps w5) := ⟨ps, HFU.out.go D5⟩
                        go_wp2
                        go_roundw
                        case rel => exact ⟨j + 1, by omega, by go_num, HF9⟩
                        case measure => simp [intOf]; omega
                      · obtain ⟨m2, hm2⟩ : ∃ m, P2.2.2.length = m + 1 := ⟨P2.2.2.length - 1, by have := List.length_pos_iff.2 hz2; omega⟩
                        have hm2i : (0 : Int) < ((m2 + 1 : Nat) : Int) := by omega
                        have Hm2 : Hid (P2.2.2.length = m2 + 1) := hm2
                        rw [hm2] at cH2
                        have Hz2 : Hid (P2.2.2 ≠ []) := hz2
                        have hkne : k2 ≠ kA := fun e => hc (by
                          obtain ⟨_, q, h1, h2, h3⟩ := open_num HFU.out.st HO2.out
                          obtain ⟨_, q', h1', h2', h3'⟩ := open_num HFU.out.st HOS.out
                          have a1 := Hk2.out
                          have a2 := HkA.out
                          rw [h1] at a1
                          rw [h1'] at a2
                          rw [← h3, ← h3']
                          have : some q = some q' := by rw [← h2, ← h2']; congr 1; omega
                          cases this
                          rfl)
                        have Hne : Hid (k2 ≠ kA) := hkne
                        clear hm2 hz2
                        refine start_held (S := IH) 17 rfl (by kernel_rfl) (hS) ?_
                        simp only [Array.replicate_succ, Array.replicate_zero, List.push_toArray, List.nil_append, List.cons_append]
                        refine take_held 0 (by assumption) rfl (by kernel_rfl) (by kernel_rfl) (by kernel_rfl) (fun _ _ _ h => h) (by kernel_rfl) (v := ?v107) ?y107 ?r107
                        case y107 => (intro u hu; go_simp; try rfl)
                        simp only [Act.put, List.setIfInBounds_toArray, List.set_cons_zero, List.set_cons_succ]
                        refine take_held 1 (by assumption) rfl (by kernel_rfl) (by kernel_rfl) (by kernel_rfl) (fun _ _ _ h => h) (by kernel_rfl) (v := ?v108) ?y108 ?r108
                        case y108 => (intro u hu; go_simp; try rfl)
                        simp only [Act.put, List.setIfInBounds_toArray, List.set_cons_zero, List.set_cons_succ]
                        refine take_held 2 (by assumption) rfl (by kernel_rfl) (by kernel_rfl) (by kernel_rfl) (fun _ _ _ h => h) (by kernel_rfl) (v := ?v109) ?y109 ?r109
                        case y109 => (intro u hu; go_simp; try rfl)
                        simp only [Act.put, List.setIfInBounds_toArray, List.set_cons_zero, List.set_cons_succ]
                        refine take_held 3 (by assumption) rfl (by kernel_rfl) (by kernel_rfl) (by kernel_rfl) (fun _ _ _ h => h) (by kernel_rfl) (v := ?v110) ?y110 ?r110
                        case y110 => (intro u hu; go_simp; try rfl)
                        simp only [Act.put, List.setIfInBounds_toArray, List.set_cons_zero, List.set_cons_succ]
                        refine take_held 4 (by assumption) rfl (by kernel_rfl) (by kernel_rfl) (by kernel_rfl) (fun _ _ _ h => h) (by kernel_rfl) (v := .agg #[.int .i64 x2, .int .i64 y2]) ?y111 ?r111
                        case y111 => (intro u hu; exact run_load_op 35 _ rfl (p.add (j * 3)) _ rfl (HC2.out u hu) (aggCell u) infoCell2)
                        simp only [Act.put, List.setIfInBounds_toArray, List.set_cons_zero, List.set_cons_succ]
                        refine take_held 5 (by assumption) rfl (by kernel_rfl) (by kernel_rfl) (by kernel_rfl) (fun _ _ _ h => h) (by kernel_rfl) (v := .agg #[.int .i64 x, .int .i64 y]) ?y112 ?r112
                        case y112 => (intro u hu; exact run_load_op 35 _ rfl ⟨w.heap.size + 1, 0, none⟩ _ rfl (HX.out u hu) (aggCell u) infoCell2)
                        simp only [Act.put, List.setIfInBounds_toArray, List.set_cons_zero, List.set_cons_succ]
                        refine take_held 6 (by assumption) rfl (by kernel_rfl) (by kernel_rfl) (by kernel_rfl) (fun _ _ _ h => h) (by kernel_rfl) (v := (.bool true)) ?y113 ?r113
                        case y113 => (intro u hu; refine (run_neq_cell _ _ rfl x2 y2 x y rfl rfl).trans ?_; rw [decide_eq_false hc]; rfl)
                        simp only [Act.put, List.setIfInBounds_toArray, List.set_cons_zero, List.set_cons_succ]
                        refine take_held 7 (by assumption) rfl (by kernel_rfl) (by kernel_rfl) (by kernel_rfl) (fun _ _ _ h => h) (by kernel_rfl) (v := ?v114) ?y114 ?r114
                        case y114 => (intro u hu; go_simp; try rfl)
                        simp only [Act.put, List.setIfInBounds_toArray, List.set_cons_zero, List.set_cons_succ]
                        refine take_held 8 (by assumption) rfl (by kernel_rfl) (by kernel_rfl) (by kernel_rfl) (fun _ _ _ h => h) (by kernel_rfl) (v := ?v115) ?y115 ?r115
                        case y115 => (intro u hu; go_simp; try rfl)
                        simp only [Act.put, List.setIfInBounds_toArray, List.set_cons_zero, List.set_cons_succ]
                        refine take_held 9 (by assumption) rfl (by kernel_rfl) (by kernel_rfl) (by kernel_rfl) (fun _ _ _ h => h) (by kernel_rfl) (v := ?v116) ?y116 ?r116
                        case y116 => (intro u hu; go_simp; try rfl)
                        simp only [Act.put, List.setIfInBounds_toArray, List.set_cons_zero, List.set_cons_succ]
                        refine take_held 10 (by assumption) rfl (by kernel_rfl) (by kernel_rfl) (by kernel_rfl) (fun _ _ _ h => h) (by kernel_rfl) (v := ?v117) ?y117 ?r117
                        case y117 => (intro u hu; go_simp; try rfl)
                        simp only [Act.put, List.setIfInBounds_toArray, List.set_cons_zero, List.set_cons_succ]
                        refine take_held 11 (by assumption) rfl (by kernel_rfl) (by kernel_rfl) (by kernel_rfl) (fun _ _ _ h => h) (by kernel_rfl) (v := ?v118) ?y118 ?r118
                        case y118 => (intro u hu; go_simp; try rfl)
                        simp only [Act.put, List.setIfInBounds_toArray, List.set_cons_zero, List.set_cons_succ]
                        refine take_held 12 (by assumption) rfl (by kernel_rfl) (by kernel_rfl) (by kernel_rfl) (fun _ _ _ h => h) (by kernel_rfl) (v := ?v119) ?y119 ?r119
                        case y119 => (intro u hu; go_simp; try rfl)
                        simp only [Act.put, List.setIfInBounds_toArray, List.set_cons_zero, List.set_cons_succ]
                        refine take_held 13 (by assumption) rfl (by kernel_rfl) (by kernel_rfl) (by kernel_rfl) (fun _ _ _ h => h) (by kernel_rfl) (v := .agg #[.int .i64 x2, .int .i64 y2]) ?y120 ?r120
                        case y120 => (intro u hu; exact run_load_op 35 _ rfl (p.add (j * 3)) _ rfl (HC2.out u hu) (aggCell u) infoCell2)
                        simp only [Act.put, List.setIfInBounds_toArray, List.set_cons_zero, List.set_cons_succ]
                        refine wpAnyH_ready (rs := [14]) (by kernel_rfl) (by simp) (AllReadyH.cons ((nth_eq _ 14).trans rfl) ?_ AllReadyH.nil)
                        intro K' hK
                        refine call_in hK (by kernel_rfl) 59 #[.pointer (some ⟨K.s, 0, none⟩), .agg #[.int .i64 x2, .int .i64 y2]] (by go_simp) _ (cH2 _ D0) ?_
                        rintro v w5 ⟨rfl, b5⟩
                        have D5 := bcat D0 b5 (Nat.le_refl _)
                        have hS5 : IH w5 := by rw [hIH]; exact D5
                        refine ⟨hS5, ?_⟩
                        simp only [Act.put, List.setIfInBounds_toArray, List.set_cons_zero, List.set_cons_succ]
                        refine take_held 15 (by assumption) rfl (by kernel_rfl) (by kernel_rfl) (by kernel_rfl) (fun _ _ _ h => h) (by kernel_rfl) (v := (.bool true)) ?y121 ?r121
                        case y121 => (intro u hu; go_simp; try simp; try omega)
                        simp only [Act.put, List.setIfInBounds_toArray, List.set_cons_zero, List.set_cons_succ]
                        refine take_held 16 (by assumption) rfl (by kernel_rfl) (by kernel_rfl) (by kernel_rfl) (fun _ _ _ h => h) (by kernel_rfl) (v := ?v122) ?y122 ?r122
                        case y122 => (intro u hu; go_simp; try rfl)
                        simp only [Act.put, List.setIfInBounds_toArray, List.set_cons_zero, List.set_cons_succ]
                        refine done_held (by kernel_rfl) ?_ _
                        have F5 := HFU.out.go D5
                        have HF5 : Hid (Fu w7 K c G.uses ps0 c.robots.length kA ((1 : Int)) ps w5) := F5
                        have Q5 := HTw.out _ _ F5.tn
                        obtain ⟨kA', PA, hkA', hPA, _⟩ := open_num F5.st HOS.out
                        obtain rfl : kA = kA' := by have := HkA.out; rw [hkA'] at this; omega
                        have hleA := F5.le PA hPA
                        have hsmA := F5.st.small _ _ hPA
                        have HPA : Hid (ps[kA]? = some PA) := hPA
                        have hOkL : OkL c G.uses ps (List.replicate c.robots.length 0) 0 (x2, y2) k2 P2 := ⟨Hth.out, HO2.out, load_zero _ _, Hk2.out, HP2.out, Hz2.out⟩
                        have HOL : Hid (OkL c G.uses ps (List.replicate c.robots.length 0) 0 (x2, y2) k2 P2) := hOkL
                        have hzt : topP P2.2.2 ≠ 0 := F5.nz _ (mem_bins HP2.out (top_mem Hz2.out))
                        have HZt : Hid (topP P2.2.2 ≠ 0) := hzt
                        have Hk2l : Hid (k2 < ps.length) := (List.getElem?_eq_some_iff.1 HP2.out).1
                        have hp1 : ∀ v', (ps.set k2 (P2.1, v', P2.2.2.dropLast))[kA]? = some PA := fun v' => by rw [List.getElem?_set, if_neg Hne.out]; exact HPA.out
                        have Hp1 : Hid (∀ v', (ps.set k2 (P2.1, v', P2.2.2.dropLast))[kA]? = some PA) := hp1
                        have Hth1 : Hid (thereB ((List.replicate c.robots.length 0).set (0 : Int).toNat (topP P2.2.2)) 0 = true) := by have := Hth.out; unfold thereB at this ⊢; rw [List.length_set]; exact this
                        have Hl1 : Hid (loadP ((List.replicate c.robots.length 0).set (0 : Int).toNat (topP P2.2.2)) 0 = topP P2.2.2) := (load_there Hth.out).2.2 _
                        have cHA := fun u (q : StAt K c G.uses ps (List.replicate c.robots.length 0) u) => height_yes q x y HOS.out HkA.out HPA.out
                        have cLi := fun u (q : StAt K c G.uses ps (List.replicate c.robots.length 0) u) => lift_ok q 0 x2 y2 HOL.out.1 HOL.out.2.1 HOL.out.2.2.1 HOL.out.2.2.2.1 HOL.out.2.2.2.2.1 HOL.out.2.2.2.2.2
                        obtain ⟨nA, hnA⟩ : ∃ n, PA.2.2.length = n := ⟨_, rfl⟩
                        have HnA : Hid (PA.2.2.length = nA) := hnA
                        rw [hnA] at cHA hleA hsmA
                        have ARM1 : True := trivial
                        clear hnA hPA hkA' F5 hOkL hzt hp1 hkne
                        by_cases hfull : ((1 : Int)) ≤ (nA : Int)
                        · have hf1 : ¬ ((nA : Int) < ((1 : Int))) := by omega
                          go_wp2_with (first
                            | (have X' := S13; have X'' := b14; go_at_call 59; refine (height_yes (S13.go b14) x y HOS.out HkA.out (Hp1.out v13)).mono ?_; rintro e w15 ⟨r15, rfl, hr15, b15⟩; rw [HnA.out] at hr15; subst hr15; have Q15 := Q14.go b15)
                            | (have X' := b14; refine wpList_load_want (by kernel_rfl) 35 (.tmp 3) rfl (w.heap.size + 1) rfl 35 #[.int .i64 x, .int .i64 y] (0, 0) Q14.b Try.underlying35 infoCell2 ?_)
                            | (have X' := S13; go_at_call 57; refine (drop_full S13 0 x y Hth1.out HOS.out (by rw [Hl1.out]; exact HZt.out) HkA.out (Hp1.out v13) (by rw [HRM.out, HnA.out]; exact hfull)).mono ?_; rintro e w14 ⟨r14, rfl, rfl, b14⟩; have Q14 := Q13.go b14)
                            | (have X' := S13; refine wpList_load_row rfl 35 (.tmp 3) rfl (w.heap.size + 1) rfl 35 #[.int .i64 x, .int .i64 y] (0, 0) _ Q13.b Try.underlying35 rfl infoCell2 ?_)
                            | (go_at_call 55; refine (cLi _ F12.st).mono ?_; rintro e w13 ⟨v13, rfl, S13, T13⟩; have Q13 := HTw.out _ _ (F12.tn.trans T13))
                            | (have X' := F12; refine wpList_load_at rfl 35 (.tmp 90) rfl (p.add (j * 3)) rfl #[.int .i64 x2, .int .i64 y2] (HCe.out _ _ F12.tn) (aggCell _) infoCell2 ?_)
                            | (have X' := HF5; go_at_call 59; refine (cHA _ HF5.out.st).mono ?_; rintro e w12 ⟨r12, rfl, rfl, b12⟩; have F12 := HF5.out.go b12)
                            | (refine wpList_load_row rfl 35 (.tmp 3) rfl (w.heap.size + 1) rfl 35 #[.int .i64 x, .int .i64 y] (0, 0) _ Q5.b Try.underlying35 rfl infoCell2 ?_)
                            | (go_at_call 53; refine (awake8_any _).mono ?_; rintro e w9 ⟨r9, rfl, rfl, b9⟩))
                          go_ret
                          exact ⟨rfl, bcat Q15.below b9 (Nat.le_refl _)⟩
                        · have hf1 : (nA : Int) < ((1 : Int)) := by omega
                          have hf2 : ¬ (((1 : Int)) ≤ (nA : Int)) := hfull
                          go_wp2_with (first
                            | (have X' := S14; go_at_call 59; refine (height_yes S14 x y HOS.out HkA.out (p := (PA.1, v14, PA.2.2 ++ [topP P2.2.2])) hq14).mono ?_; rintro e w15 ⟨r15, rfl, hr15, b15⟩; rw [show (PA.2.2 ++ [topP P2.2.2]).length = nA + 1 by rw [List.length_append, HnA.out]; rfl] at hr15; subst hr15)
                            | (have X' := S14; refine wpList_load_want (by kernel_rfl) 35 (.tmp 3) rfl (w.heap.size + 1) rfl 35 #[.int .i64 x, .int .i64 y] (0, 0) Q14.b Try.underlying35 infoCell2 ?_)
                            | (have X' := S13; go_at_call 57; have hok14 : OkD c G.uses (ps.set k2 (P2.1, v13, P2.2.2.dropLast)) ((List.replicate c.robots.length 0).set (0 : Int).toNat (topP P2.2.2)) 0 (x, y) kA PA := ⟨Hth1.out, HOS.out, (by rw [Hl1.out]; exact HZt.out), HkA.out, Hp1.out v13, (by rw [HRM.out, HnA.out]; exact hf1)⟩; refine (drop_ok S13 0 x y hok14.1 hok14.2.1 hok14.2.2.1 hok14.2.2.2.1 hok14.2.2.2.2.1 hok14.2.2.2.2.2).mono ?_; rintro e w14 ⟨v14, rfl, S14, T14⟩; have pm14 := drop_perm hok14 v14; rw [Hl1.out] at S14 T14 pm14; rw [rep_back] at S14 pm14; have TT14 := (F12.tn.trans T13).trans T14; have Q14 := HTw.out _ _ TT14; have hq14 : ((ps.set k2 (P2.1, v13, P2.2.2.dropLast)).set kA (PA.1, v14, PA.2.2 ++ [topP P2.2.2]))[kA]? = some (PA.1, v14, PA.2.2 ++ [topP P2.2.2]) := (by rw [List.getElem?_set, if_pos rfl, if_pos (List.getElem?_eq_some_iff.1 (Hp1.out v13)).1]); have HPM : Hid ((allB ((ps.set k2 (P2.1, v13, P2.2.2.dropLast)).set kA (PA.1, v14, PA.2.2 ++ [topP P2.2.2])) (List.replicate c.robots.length 0)).Perm (allB ps (List.replicate c.robots.length 0))) := pm14.trans (lift_perm HOL.out HZt.out v13); clear hok14 pm14 S13)
                            | (have X' := S13; refine wpList_load_row rfl 35 (.tmp 3) rfl (w.heap.size + 1) rfl 35 #[.int .i64 x, .int .i64 y] (0, 0) _ Q13.b Try.underlying35 rfl infoCell2 ?_)
                            | (go_at_call 55; refine (cLi _ F12.st).mono ?_; rintro e w13 ⟨v13, rfl, S13, T13⟩; have Q13 := HTw.out _ _ (F12.tn.trans T13))
                            | (have X' := F12; refine wpList_load_at rfl 35 (.tmp 90) rfl (p.add (j * 3)) rfl #[.int .i64 x2, .int .i64 y2] (HCe.out _ _ F12.tn) (aggCell _) infoCell2 ?_)
                            | (have X' := HF5; go_at_call 59; refine (cHA _ HF5.out.st).mono ?_; rintro e w12 ⟨r12, rfl, rfl, b12⟩; have F12 := HF5.out.go b12)
                            | (refine wpList_load_row rfl 35 (.tmp 3) rfl (w.heap.size + 1) rfl 35 #[.int .i64 x, .int .i64 y] (0, 0) _ Q5.b Try.underlying35 rfl infoCell2 ?_))
                          have FN : Fu w7 K c G.uses ps0 c.robots.length kA ((1 : Int)) ((ps.set k2 (P2.1, v13, P2.2.2.dropLast)).set kA (PA.1, v14, PA.2.2 ++ [topP P2.2.2])) w15 := Fu.go ⟨S14, TT14, fun z hz => HFU.out.nz z (HPM.out.mem_iff.1 hz), fun q hq => by
                            rw [hq14] at hq
                            cases hq
                            simp only
                            rw [List.length_append, HnA.out]
                            simp
                            omega⟩ b15
                          have hg15 := hgt_is FN.st (k := k2) (p := (P2.1, v13, P2.2.2.dropLast)) (by rw [List.getElem?_set, if_neg (fun e => Hne.out e.symm), List.getElem?_set, if_pos rfl, if_pos Hk2l.out])
                          have HF9 : Hid (∃ ps, Fu w7 K c G.uses ps0 c.robots.length kA ((1 : Int)) ps w15) := ⟨_, FN⟩
                          go_roundw
                          case rel => exact HF9
                          case measure =>
                            rw [hg15, Hgm.out, Hm2.out]
                            simp only [List.length_dropLast, Hm2.out]
                            omega
                · obtain rfl : nL = j := by omega
                  obtain ⟨ps, FU⟩ := HF.out
                  obtain ⟨kA', PA, hkA', hPA, _⟩ := open_num FU.st HOS.out
                  obtain rfl : kA = kA' := by have := HkA.out; rw [hkA'] at this; omega
                  have hle := FU.le PA hPA
                  have cH := height_yes FU.st x y HOS.out HkA.out hPA
                  have Q9 := HTw.out _ _ FU.tn
                  obtain ⟨nA, hnA⟩ : ∃ n, PA.2.2.length = n := ⟨_, rfl⟩
                  rw [hnA] at hle cH
                  clear hnA FU HF hPA hkA'
                  go_wp2_with (first
                    | (refine wpList_load_row rfl 35 (.tmp 3) rfl (w.heap.size + 1) rfl 35 #[.int .i64 x, .int .i64 y] (0, 0) _ Q9.b Try.underlying35 rfl infoCell2 ?_)
                    | (go_at_call 59; refine cH.mono ?_; rintro e w10 ⟨r10, rfl, rfl, b10⟩; have Q10 := Q9.go b10)
                    | (go_at_call 53; refine (awake8_any _).mono ?_; rintro e w11 ⟨r11, rfl, rfl, b11⟩))
                  go_ret
                  exact ⟨rfl, bcat Q10.below b11 (Nat.le_refl _)⟩
end Go.Proofs.Ytdaideiagebmdaa.Stk
