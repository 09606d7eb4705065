/-
  StacksBack: the walk.
-/
import Derived.Test.YtdaideiagebmdaaStkTell
import Derived.Test.YtdaideiagebmdaaStkKept
namespace Go.Proofs.Ytdaideiagebmdaa.Stk
set_option linter.unusedVariables false
set_option linter.unusedSimpArgs false
open Go Go.RowKit Go.Shelf Go.Proofs Go.Proofs.Ytdaideiagebmdaa.Grid
attribute [local go_sem] Oper.semAt_some

/- A config and two cells, in boxes of the call's own. -/
structure B3 (w : World) (cs as_ ts : Array Value) (W : World) : Prop where
  below : Below w.heap.size w W
  a : W.heap[w.heap.size]? = some (.cells cs 26 (0, 0))
  b : W.heap[w.heap.size + 1]? = some (.cells as_ 35 (0, 0))
  c : W.heap[w.heap.size + 1 + 1]? = some (.cells ts 35 (0, 0))
theorem B3.go {w : World} {cs as_ ts : Array Value} {W W' : World} (h : B3 w cs as_ ts W) (hb : Below W.heap.size W W') : B3 w cs as_ ts W' :=
  ⟨bcat h.below hb (Nat.le_refl _), (hb.block _ (lt_of_heap h.a)).trans h.a, (hb.block _ (lt_of_heap h.b)).trans h.b, (hb.block _ (lt_of_heap h.c)).trans h.c⟩
theorem B3.turn {w : World} {cs as_ ts : Array Value} {W W' : World} (h : B3 w cs as_ ts W) {K : Sk} {ps ps' : List Pile} (T : Turn K ps ps' W W') (hf : ∀ b, Foot K ps b → w.heap.size + 3 ≤ b) : B3 w cs as_ ts W' :=
  ⟨h.below.trans (T.below h.below.size (fun b q => by have := hf b q; omega)), (T.keep _ (lt_of_heap h.a) (fun q => by have := hf _ q; omega)).trans h.a, (T.keep _ (lt_of_heap h.b) (fun q => by have := hf _ q; omega)).trans h.b, (T.keep _ (lt_of_heap h.c) (fun q => by have := hf _ q; omega)).trans h.c⟩
theorem tell_same (c : Conf) (us : List Int) {ps ps' : List Pile} (h : ps.map (fun p => (p.1, p.2.2)) = ps'.map (fun p => (p.1, p.2.2))) : tellT c us ps ps.length = tellT c us ps' ps'.length := by
  have e : ∀ l : List Pile, tellT c us l l.length = (l.map (fun p => (p.1, p.2.2))).filter (fun s => openU c.W c.H us s.1) := fun l => by
    unfold tellT
    rw [List.take_length, List.filter_map]
    rfl
  rw [e, e, h]
theorem tell_bins {K : Sk} {c : Conf} {us : List Int} {ps : List Pile} {ls : List Int} {w : World} (h : StAt K c us ps ls w) : ∀ s ∈ tellT c us ps ps.length, s.2.length ≤ 8 := by
  intro s hs
  unfold tellT at hs
  rw [List.take_length] at hs
  obtain ⟨p, hp, rfl⟩ := List.mem_map.1 hs
  obtain ⟨i, hi, e⟩ := List.getElem_of_mem (List.mem_filter.1 hp).1
  exact h.small i p (by rw [List.getElem?_eq_getElem hi, e])
theorem same_told {K : Sk} {c : Conf} {us : List Int} {ps : List Pile} {ls : List Int} {w : World} (h : StAt K c us ps ls w) {N1 N2 : Nat} {v1 v2 : Value} {y1 y2 : List SV} {L : List Stk} {u : World} (hL : L = tellT c us ps ps.length) (T1 : Told N1 L v1 u y1) (T2 : Told N2 L v2 u y2) : Calls Try.prog 72 #[v1, v2] u fun e w' => ∃ r, e = .returned r ∧ r = .bool true ∧ Below u.heap.size u w' := by
  have hb := tell_bins h
  have hl := tell_len c us ps ps.length
  have hn := h.lens
  rw [← hL] at hb hl
  have := sameStacks_any _ _ L L v1 v2 u T1.list T2.list since_lt since_lt (by omega) (by omega) (fun s hs => by have := hb s hs; omega) (fun s hs => by have := hb s hs; omega)
  rw [decide_eq_true rfl] at this
  exact this
theorem load_zero (n : Nat) (r : Int) : loadP (List.replicate n 0) r = 0 := by
  unfold loadP
  split
  · rw [List.getD_eq_getElem?_getD, List.getElem?_replicate]
    split <;> rfl
  · rfl
theorem placed_room {c : Conf} {G : GS} (hN : newP c = some G) {x : Cell} (hz : placed c.stacks x ≠ []) : ((placed c.stacks x).length : Int) ≤ roomP c G.uses x := by
  obtain ⟨hm, _⟩ := new_some hN
  have hst := hm.2.2.2.2.2.2.2.2.2.1
  have hnd := hm.2.2.2.2.2.2.2.2.2.2.1
  obtain ⟨z, hzm⟩ := List.exists_mem_of_ne_nil _ hz
  unfold placed at hzm
  obtain ⟨s, hs, _⟩ := List.mem_flatMap.1 hzm
  obtain ⟨hs1, hs2⟩ := List.mem_filter.1 hs
  have e : s.1 = x := of_decide_eq_true hs2
  obtain ⟨q1, q2⟩ := hst s hs1
  have hone : placed c.stacks x = s.2 := by
    obtain ⟨i, hi, ei⟩ := List.getElem_of_mem hs1
    have h1 : placed (c.stacks.take (i + 1)) x = s.2 := by
      rw [placed_next _ _ hi, ei, if_pos e, ← e, ← ei, placed_none hi hnd, List.nil_append, ei]
    have h2 : ∀ k, i + 1 ≤ k → k ≤ c.stacks.length → placed (c.stacks.take k) x = s.2 := fun k hk1 hk2 => by
      induction k with
      | zero => omega
      | succ k ih =>
        by_cases q : i + 1 = k + 1
        · rw [← q]; exact h1
        · rw [placed_next _ _ (by omega), ih (by omega) (by omega), if_neg, List.append_nil]
          intro e2
          refine List.pairwise_iff_getElem.1 hnd i k (by rw [List.length_map]; exact hi) (by rw [List.length_map]; omega) (by omega) ?_
          rw [List.getElem_map, List.getElem_map, ei, e, e2]
    have := h2 c.stacks.length (by omega) (Nat.le_refl _)
    rwa [List.take_length] at this
  rw [hone]
  unfold roomP
  have hsk : stackedU c.W c.H G.uses x = true := by rw [stacked_same hN, ← e]; exact decide_eq_true q1
  rw [hsk, if_pos rfl]
  exact q2
theorem room_of {K : Sk} {c : Conf} {G : GS} (hN : newP c = some G) {ps : List Pile} {ls : List Int} {w : World} (h : StAt K c G.uses ps ls w) (hat : ∀ (i : Nat) (p : Pile), ps[i]? = some p → p.2.2 = placed c.stacks p.1) {r : Int} {x : Cell} {k : Nat} {P : Pile} (ok : OkL c G.uses ps ls r x k P) : (P.2.2.length : Int) ≤ roomP c G.uses x := by
  obtain ⟨k', p', h1, h2, h3⟩ := open_num h ok.2.1
  have e : k' = k := by have := ok.2.2.2.1; rw [h1] at this; omega
  subst e
  rw [ok.2.2.2.2.1] at h2
  cases h2
  have e2 := hat k' P ok.2.2.2.2.1
  rw [h3] at e2
  rw [e2]
  exact placed_room hN (by rw [← e2]; exact ok.2.2.2.2.2)
theorem lift_or {K : Sk} {c : Conf} {us : List Int} {ps : List Pile} {ls : List Int} {w : World} (h : StAt K c us ps ls w) (r x y : Int) : Calls Try.prog 55 #[.pointer (some ⟨K.s, 0, none⟩), .int .i64 r, .agg #[.int .i64 x, .int .i64 y]] w fun e w' => (∃ code, e = .returned (.tuple #[.int .i64 0, .int .i64 code]) ∧ code ≠ 0 ∧ Below w.heap.size w w') ∨
    (∃ k P v', OkL c us ps ls r (x, y) k P ∧ e = .returned (.tuple #[.int .i64 (topP P.2.2), .int .i64 0]) ∧ StAt K c us (ps.set k (P.1, v', P.2.2.dropLast)) (ls.set r.toNat (topP P.2.2)) w' ∧ Turn K ps (ps.set k (P.1, v', P.2.2.dropLast)) w w') := by
  by_cases hok : ∃ k P, OkL c us ps ls r (x, y) k P
  · obtain ⟨k, P, ok⟩ := hok
    exact (lift_ok h r x y ok.1 ok.2.1 ok.2.2.1 ok.2.2.2.1 ok.2.2.2.2.1 ok.2.2.2.2.2).mono fun e w' ⟨v', h1, h2, h3⟩ => Or.inr ⟨k, P, v', ok, h1, h2, h3⟩
  · exact (lift_no h r x y hok).mono fun e w' q => Or.inl q
theorem lift_again {K : Sk} {c : Conf} {us : List Int} {ps ps' : List Pile} {ls : List Int} {w : World} {r : Int} {x : Cell} {k : Nat} {P : Pile} (ok : OkL c us ps ls r x k P) (hz : topP P.2.2 ≠ 0) (h : StAt K c us ps' (ls.set r.toNat (topP P.2.2)) w) (tx ty : Int) : Calls Try.prog 55 #[.pointer (some ⟨K.s, 0, none⟩), .int .i64 r, .agg #[.int .i64 tx, .int .i64 ty]] w fun e w' => ∃ code, e = .returned (.tuple #[.int .i64 0, .int .i64 code]) ∧ code ≠ 0 ∧ Below w.heap.size w w' :=
  lift_no h r tx ty fun ⟨k', p', q⟩ => by
    have := q.2.2.1
    rw [(load_there ok.1).2.2] at this
    exact hz this
theorem drop_back {K : Sk} {c : Conf} {us : List Int} {ps : List Pile} {ls : List Int} {w : World} {r x y : Int} {k : Nat} {P : Pile} {v' : Value} (ok : OkL c us ps ls r (x, y) k P) (hz : topP P.2.2 ≠ 0) (hr : (P.2.2.length : Int) ≤ roomP c us (x, y)) (h : StAt K c us (ps.set k (P.1, v', P.2.2.dropLast)) (ls.set r.toNat (topP P.2.2)) w) :
    Calls Try.prog 57 #[.pointer (some ⟨K.s, 0, none⟩), .int .i64 r, .agg #[.int .i64 x, .int .i64 y]] w fun e w' => ∃ ps2 ls2, e = .returned (.int .i64 0) ∧ StAt K c us ps2 ls2 w' ∧ Turn K (ps.set k (P.1, v', P.2.2.dropLast)) ps2 w w' ∧ ps2.map (fun p => (p.1, p.2.2)) = ps.map (fun p => (p.1, p.2.2)) ∧ loadP ls2 r = 0 := by
  obtain ⟨g1, _, g3⟩ := load_there ok.1
  have hkl := (List.getElem?_eq_some_iff.1 ok.2.2.2.2.1).1
  have hl : loadP (ls.set r.toNat (topP P.2.2)) r = topP P.2.2 := g3 _
  have ht : thereB (ls.set r.toNat (topP P.2.2)) r = true := by have := ok.1; unfold thereB at this ⊢; rw [List.length_set]; exact this
  have hpos := List.length_pos_iff.2 ok.2.2.2.2.2
  have hp : (ps.set k (P.1, v', P.2.2.dropLast))[k]? = some (P.1, v', P.2.2.dropLast) := by rw [List.getElem?_set, if_pos rfl, if_pos hkl]
  refine (drop_ok h r x y ht ok.2.1 (by rw [hl]; exact hz) ok.2.2.2.1 hp (by simp only [List.length_dropLast]; omega)).mono fun e w' ⟨v2, h1, h2, h3⟩ => ⟨_, _, h1, h2, h3, ?_, (load_there ht).2.2 0⟩
  rw [hl]
  simp only [top_last ok.2.2.2.2.2]
  rw [List.set_set, List.map_set]
  refine List.ext_getElem? fun i => ?_
  rw [List.getElem?_set]
  by_cases e2 : k = i
  · subst e2
    rw [if_pos rfl, List.length_map, if_pos hkl, List.getElem?_map, ok.2.2.2.2.1]
    rfl
  · rw [if_neg e2]
set_option maxRecDepth 100000 in
set_option maxHeartbeats 4000000 in
theorem back_all (c : Conf) (vb vp vr vs : Value) (w : World) (hA : ConfAt (Old w) c vb vp vr vs w) (l1 : c.blocked.length ≤ 8796093022208) (l2 : c.ports.length ≤ 8796093022208) (l3 : c.robots.length ≤ 5864062014805) (l4 : c.stacks.length ≤ 3518437208880) (l5 : ∀ s ∈ c.stacks, s.2.length ≤ 17592186044416) (r ax ay tx ty : Int) : Calls Try.prog 15 #[.agg #[.int .i64 c.W, .int .i64 c.H, .int .i64 c.height, vb, vp, vr, vs, .int .i64 c.unit, .int .i64 c.accel, .int .i64 c.speed, .int .i64 c.turn, .int .i64 c.hoist, .int .i64 c.queue, .int .i64 c.resend, .int .i64 c.budget, .bool c.back], .int .i64 r, .agg #[.int .i64 ax, .int .i64 ay], .agg #[.int .i64 tx, .int .i64 ty]] w fun e w' => e = .returned (.bool true) ∧ Below w.heap.size w w' := by
  have L := fun (u : World) (b : Below w.heap.size w u) g (hg : Old w g) => Nat.lt_of_lt_of_le hg b.size
  have hAu := fun u (b : Below w.heap.size w u) => hA.go (fun _ h => h) b
  have cC := fun u (b : Below w.heap.size w u) => copyConf_any (Old w) c vb vp vr vs u (hAu u b) (L u b) l1 l2 l3 l4 l5
  have cM := fun u (b : Below w.heap.size w u) => mayR_call (F := Old w) (hAu u b) (L u b) l1 l2 l3 l4 l5
  have cS := fun u (b : Below w.heap.size w u) => small_any (Old w) c vb vp vr vs u (hAu u b) (L u b) l1 l2 l3 l4 l5
  obtain ⟨e1_, e2_, e3_⟩ := heap3 w (.cells #[.int .i64 c.W, .int .i64 c.H, .int .i64 c.height, vb, vp, vr, vs, .int .i64 c.unit, .int .i64 c.accel, .int .i64 c.speed, .int .i64 c.turn, .int .i64 c.hoist, .int .i64 c.queue, .int .i64 c.resend, .int .i64 c.budget, .bool c.back] 26) (.cells #[.int .i64 ax, .int .i64 ay] 35) (.cells #[.int .i64 tx, .int .i64 ty] 35)
  have Q0 : B3 w #[.int .i64 c.W, .int .i64 c.H, .int .i64 c.height, vb, vp, vr, vs, .int .i64 c.unit, .int .i64 c.accel, .int .i64 c.speed, .int .i64 c.turn, .int .i64 c.hoist, .int .i64 c.queue, .int .i64 c.resend, .int .i64 c.budget, .bool c.back] #[.int .i64 ax, .int .i64 ay] #[.int .i64 tx, .int .i64 ty] (((w.alloc (.cells #[.int .i64 c.W, .int .i64 c.H, .int .i64 c.height, vb, vp, vr, vs, .int .i64 c.unit, .int .i64 c.accel, .int .i64 c.speed, .int .i64 c.turn, .int .i64 c.hoist, .int .i64 c.queue, .int .i64 c.resend, .int .i64 c.budget, .bool c.back] 26)).alloc (.cells #[.int .i64 ax, .int .i64 ay] 35)).alloc (.cells #[.int .i64 tx, .int .i64 ty] 35)) := ⟨below_new (below_two _ _ _) _, e1_, e2_, e3_⟩
  clear e1_ e2_ e3_
  cases hN : newP c with
  | none =>
    have cN := fun {m : Nat} {u : World} {v1 v2 v3 v4 : Value} (a : ConfAt (Since m u) c v1 v2 v3 v4 u) => new_none_any a since_lt l1 l2 l3 l4 hN
    rw [hN] at cM cS
    simp only [Option.isSome_none, Bool.and_false] at cM cS
    clear hA L hN hAu
    go_enter Try.func15, Try.ntmps15
    go_wp2_with (first
          | (have X' := Q3; refine wpList_load_row rfl 26 (.tmp 4) rfl w.heap.size rfl 26 #[.int .i64 c.W, .int .i64 c.H, .int .i64 c.height, vb, vp, vr, vs, .int .i64 c.unit, .int .i64 c.accel, .int .i64 c.speed, .int .i64 c.turn, .int .i64 c.hoist, .int .i64 c.queue, .int .i64 c.resend, .int .i64 c.budget, .bool c.back] (0, 0) _ Q3.a Try.underlying26 rfl info_conf ?_)
          | (have X' := Q2; refine wpList_load_row rfl 26 (.tmp 4) rfl w.heap.size rfl 26 #[.int .i64 c.W, .int .i64 c.H, .int .i64 c.height, vb, vp, vr, vs, .int .i64 c.unit, .int .i64 c.accel, .int .i64 c.speed, .int .i64 c.turn, .int .i64 c.hoist, .int .i64 c.queue, .int .i64 c.resend, .int .i64 c.budget, .bool c.back] (0, 0) _ Q2.a Try.underlying26 rfl info_conf ?_)
          | (refine wpList_load_row rfl 26 (.tmp 4) rfl w.heap.size rfl 26 #[.int .i64 c.W, .int .i64 c.H, .int .i64 c.height, vb, vp, vr, vs, .int .i64 c.unit, .int .i64 c.accel, .int .i64 c.speed, .int .i64 c.turn, .int .i64 c.hoist, .int .i64 c.queue, .int .i64 c.resend, .int .i64 c.budget, .bool c.back] (0, 0) _ Q0.a Try.underlying26 rfl info_conf ?_)
          | (go_at_call 20; refine (cC _ Q0.below).mono ?_; rintro e w1 ⟨r1, rfl, ⟨v1, v2, v3, v4, rfl, A1⟩, b1⟩; have Q1 := Q0.go b1)
          | (go_at_call 52; refine (cN A1).mono ?_; rintro e w2 ⟨rfl, b2⟩; have Q2 := Q1.go b2)
          | (go_at_call 51; refine (cS _ Q2.below).mono ?_; rintro e w3 ⟨r3, rfl, rfl, b3⟩; have Q3 := Q2.go b3)
          | (go_at_call 21; refine (cM _ Q3.below).mono ?_; rintro e w4 ⟨r4, rfl, rfl, b4⟩; have Q4 := Q3.go b4)
          | (go_at_call 53; refine (awake8_any _).mono ?_; rintro e w9 ⟨r9, rfl, rfl, b9⟩))
    go_ret
    exact ⟨rfl, bcat Q4.below b9 (Nat.le_refl _)⟩
  | some G =>
    have hmy := (new_some hN).1.2.2.2.2.2.2.2.2.2.2.2
    have cN := fun {m : Nat} {u : World} {v1 v2 v3 v4 : Value} (a : ConfAt (Since m u) c v1 v2 v3 v4 u) => new_some_any a since_lt l1 l2 l3 l4 l5 hN
    rw [hN] at cM cS
    simp only [Option.isSome_some, Bool.and_true] at cM cS
    cases hs : smallN c
    · rw [hs] at cS
      clear hA L hN hAu
      go_enter Try.func15, Try.ntmps15
      go_wp2_with (first
            | (have X' := Q3; refine wpList_load_row rfl 26 (.tmp 4) rfl w.heap.size rfl 26 #[.int .i64 c.W, .int .i64 c.H, .int .i64 c.height, vb, vp, vr, vs, .int .i64 c.unit, .int .i64 c.accel, .int .i64 c.speed, .int .i64 c.turn, .int .i64 c.hoist, .int .i64 c.queue, .int .i64 c.resend, .int .i64 c.budget, .bool c.back] (0, 0) _ Q3.a Try.underlying26 rfl info_conf ?_)
            | (have X' := Q2; refine wpList_load_row rfl 26 (.tmp 4) rfl w.heap.size rfl 26 #[.int .i64 c.W, .int .i64 c.H, .int .i64 c.height, vb, vp, vr, vs, .int .i64 c.unit, .int .i64 c.accel, .int .i64 c.speed, .int .i64 c.turn, .int .i64 c.hoist, .int .i64 c.queue, .int .i64 c.resend, .int .i64 c.budget, .bool c.back] (0, 0) _ Q2.a Try.underlying26 rfl info_conf ?_)
            | (refine wpList_load_row rfl 26 (.tmp 4) rfl w.heap.size rfl 26 #[.int .i64 c.W, .int .i64 c.H, .int .i64 c.height, vb, vp, vr, vs, .int .i64 c.unit, .int .i64 c.accel, .int .i64 c.speed, .int .i64 c.turn, .int .i64 c.hoist, .int .i64 c.queue, .int .i64 c.resend, .int .i64 c.budget, .bool c.back] (0, 0) _ Q0.a Try.underlying26 rfl info_conf ?_)
            | (go_at_call 20; refine (cC _ Q0.below).mono ?_; rintro e w1 ⟨r1, rfl, ⟨v1, v2, v3, v4, rfl, A1⟩, b1⟩; have Q1 := Q0.go b1)
            | (go_at_call 52; refine (cN A1).mono ?_; rintro e w2 ⟨K, ps0, rfl, S2, hb2, hat2, hpm2, b2⟩; have Q2 := Q1.go b2)
            | (go_at_call 51; refine (cS _ Q2.below).mono ?_; rintro e w3 ⟨r3, rfl, rfl, b3⟩; have Q3 := Q2.go b3)
            | (go_at_call 21; refine (cM _ Q3.below).mono ?_; rintro e w4 ⟨r4, rfl, rfl, b4⟩; have Q4 := Q3.go b4)
            | (go_at_call 53; refine (awake8_any _).mono ?_; rintro e w9 ⟨r9, rfl, rfl, b9⟩))
      go_ret
      exact ⟨rfl, bcat Q4.below b9 (Nat.le_refl _)⟩
    · rw [hs] at cS
      have HMY : Hid (mayBeP (c.stacks.flatMap Prod.snd)) := hmy
      have HN : Hid (newP c = some G) := hN
      clear hA L hN hAu hmy
      go_enter Try.func15, Try.ntmps15
      go_wp2_with (first
            | (have X' := hm10; go_at_call 70; refine (load_any S11 r).mono ?_; rintro e w13 ⟨r13, rfl, hr13, b13⟩; rw [hl10] at hr13; subst hr13; have Q13 := Q12.go b13)
            | (have X' := hm10; go_at_call 72; refine (same_told S11 rfl T11 T7b).mono ?_; rintro e w12 ⟨r12, rfl, rfl, b12⟩; have Q12 := Q11.go b12; replace S11 := S11.go b12)
            | (have X' := hm10; go_at_call 71; refine (told_any S10 1000 (by decide) (by decide)).mono ?_; rintro e w11 ⟨v11, rfl, ⟨ys11, T11⟩, b11⟩; have Q11 := Q10.go b11; have S11 := S10.go b11; have hE11 := tell_same c G.uses hm10; rw [← hE11] at T7; have T7b := (T7.keep (Nat.le_trans TT.size b11.size) (fun b hb1 hb2 => (b11.block b (Nat.lt_of_lt_of_le hb2 TT.size)).trans (TT.keep b hb2 (fun q => by have := hfl b q; omega)))); replace hE11 : tellT c G.uses ps2 ps2.length = tellT c G.uses ps2 ps2.length := rfl)
            | (have X' := b8; have X'' := T6; go_at_call 57; refine (drop_back okl hz6 hr6 (S6.go b8)).mono ?_; rintro e w10 ⟨ps2, ls2, rfl, S10, T10, hm10, hl10⟩; have TT := ((((Turn.of_below b5).trans T6).trans (Turn.of_below b8)).trans T10); have Q10 := Q4.turn TT hfg)
            | (have X' := T6; have Q6 := (Q5.turn T6 hfg); refine wpList_load_row rfl 35 (.tmp 7) rfl (w.heap.size + 1 + 1) rfl 35 #[.int .i64 tx, .int .i64 ty] (0, 0) _ Q6.c Try.underlying35 rfl infoCell2 ?_)
            | (have X' := T6; go_at_call 55; have hz6 := HNZ.out _ (mem_bins okl.2.2.2.2.1 (top_mem okl.2.2.2.2.2)); have hr6 := HRM.out _ _ okl; refine (lift_again okl hz6 S6 tx ty).mono ?_; rintro e w8 ⟨cd8, rfl, hcd8, b8⟩; have Q8 := Q6.go b8; have x80 := cell_of Q8.b 0; have x81 := cell_of Q8.b 1)
            | (have X' := hcd6; go_at_call 72; refine (same_told S7' rfl T7' T7c).mono ?_; rintro e w8 ⟨r8, rfl, rfl, b8⟩; have Q8 := Q7.go b8)
            | (have X' := hcd6; go_at_call 71; refine (told_any (S5.go b6) 1000 (by decide) (by decide)).mono ?_; rintro e w7 ⟨v8, rfl, ⟨ys8, T7'⟩, b7⟩; have Q7 := (Q5.go b6).go b7; have S7' := (S5.go b6).go b7; have T7c := ((T7.go b5).go b6).go b7)
            | (have X' := Q5; refine wpList_load_row rfl 35 (.tmp 6) rfl (w.heap.size + 1) rfl 35 #[.int .i64 ax, .int .i64 ay] (0, 0) _ Q5.b Try.underlying35 rfl infoCell2 ?_)
            | (have X' := Q5; go_at_call 55; refine (lift_or S5 r ax ay).mono ?_; rintro e w6 (⟨cd6, rfl, hcd6, b6⟩ | ⟨k6, P6, v6, okl, rfl, S6, T6⟩))
            | (have X' := Q4; refine wpList_load_row rfl 35 (.tmp 7) rfl (w.heap.size + 1 + 1) rfl 35 #[.int .i64 tx, .int .i64 ty] (0, 0) _ Q4.c Try.underlying35 rfl infoCell2 ?_)
            | (have X' := Q4; go_at_call 57; refine (drop_no S4 r tx ty (fun ⟨k', p', q⟩ => q.2.2.1 (load_zero _ _))).mono ?_; rintro e w5 ⟨cd5, rfl, hcd5, b5⟩; have Q5 := Q4.go b5; have S5 := S4.go b5)
            | (have X' := S2; go_at_call 71; refine (told_any (S2.go b3) 1000 (by decide) (by decide)).mono ?_; rintro e w4 ⟨v7, rfl, ⟨ys7, T7⟩, b4⟩; have Q4 := Q3.go b4; have S4 := (S2.go b3).go b4; have HNZ : Hid (∀ z ∈ allB ps0 (List.replicate c.robots.length 0), z ≠ 0) := (first_bins HMY.out hpm2).2; have HRM : Hid (∀ k P, OkL c G.uses ps0 (List.replicate c.robots.length 0) r (ax, ay) k P → (P.2.2.length : Int) ≤ roomP c G.uses (ax, ay)) := (fun k P ok => room_of HN.out S4 hat2 ok); have hfl := (S2.go b3).foot_lt; have hfg : ∀ b, Foot K ps0 b → w.heap.size + 3 ≤ b := (fun b q => by have h1 := S4.foot_ge b q; have h2 := lt_of_heap Q1.c; omega); clear hpm2 hat2 Q1)
            | (first
            | (have X' := Q3; refine wpList_load_row rfl 26 (.tmp 4) rfl w.heap.size rfl 26 #[.int .i64 c.W, .int .i64 c.H, .int .i64 c.height, vb, vp, vr, vs, .int .i64 c.unit, .int .i64 c.accel, .int .i64 c.speed, .int .i64 c.turn, .int .i64 c.hoist, .int .i64 c.queue, .int .i64 c.resend, .int .i64 c.budget, .bool c.back] (0, 0) _ Q3.a Try.underlying26 rfl info_conf ?_)
            | (have X' := Q2; refine wpList_load_row rfl 26 (.tmp 4) rfl w.heap.size rfl 26 #[.int .i64 c.W, .int .i64 c.H, .int .i64 c.height, vb, vp, vr, vs, .int .i64 c.unit, .int .i64 c.accel, .int .i64 c.speed, .int .i64 c.turn, .int .i64 c.hoist, .int .i64 c.queue, .int .i64 c.resend, .int .i64 c.budget, .bool c.back] (0, 0) _ Q2.a Try.underlying26 rfl info_conf ?_)
            | (refine wpList_load_row rfl 26 (.tmp 4) rfl w.heap.size rfl 26 #[.int .i64 c.W, .int .i64 c.H, .int .i64 c.height, vb, vp, vr, vs, .int .i64 c.unit, .int .i64 c.accel, .int .i64 c.speed, .int .i64 c.turn, .int .i64 c.hoist, .int .i64 c.queue, .int .i64 c.resend, .int .i64 c.budget, .bool c.back] (0, 0) _ Q0.a Try.underlying26 rfl info_conf ?_)
            | (go_at_call 20; refine (cC _ Q0.below).mono ?_; rintro e w1 ⟨r1, rfl, ⟨v1, v2, v3, v4, rfl, A1⟩, b1⟩; have Q1 := Q0.go b1)
            | (go_at_call 52; refine (cN A1).mono ?_; rintro e w2 ⟨K, ps0, rfl, S2, hb2, hat2, hpm2, b2⟩; have Q2 := Q1.go b2)
            | (go_at_call 51; refine (cS _ Q2.below).mono ?_; rintro e w3 ⟨r3, rfl, rfl, b3⟩; have Q3 := Q2.go b3)
            | (go_at_call 21; refine (cM _ Q3.below).mono ?_; rintro e w4 ⟨r4, rfl, rfl, b4⟩; have Q4 := Q3.go b4)
            | (go_at_call 53; refine (awake8_any _).mono ?_; rintro e w9 ⟨r9, rfl, rfl, b9⟩)))
      · go_ret
        exact ⟨rfl, bcat Q8.below b9 (Nat.le_refl _)⟩
      · go_ret
        exact ⟨rfl, bcat Q13.below b9 (Nat.le_refl _)⟩
end Go.Proofs.Ytdaideiagebmdaa.Stk
