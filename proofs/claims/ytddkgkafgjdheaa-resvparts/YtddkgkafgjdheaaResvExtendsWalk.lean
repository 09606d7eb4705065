/-
  A slot that is made longer.
-/
import Derived.Test.YtddkgkafgjdheaaResvLaw2
namespace Go.Proofs.Ytddkgkafgjdheaa.Rs
set_option linter.unusedVariables false
set_option linter.unusedSimpArgs false
open Go Go.RowKit Go.Shelf Go.Proofs Hp
attribute [local go_sem] Oper.semAt_some

theorem ext_none {R c ti by_ : Int} {ls : List (List Sl)} (h : ¬ ∃ s, Mine (rowOf ls c) R ti s) : ExtR R c ti by_ ls 3 ls := ⟨fun _ => ⟨rfl, rfl⟩, fun s hs => absurd ⟨s, hs⟩ h, fun s hs => absurd ⟨s, hs⟩ h⟩
theorem ext_taken {R c ti by_ : Int} {ls : List (List Sl)} (hO : Ok (rowOf ls c)) {s : Sl} (hs : Mine (rowOf ls c) R ti s) (hm : Met (rowOf ls c) R [⟨s.f, Plain.sum s.t by_, R⟩]) : ExtR R c ti by_ ls 18 ls :=
  ⟨fun q => absurd ⟨s, hs⟩ q, fun _ _ _ => ⟨rfl, rfl⟩, fun s' hs' hn => by rw [Mine.one hO hs' hs] at hn; exact absurd hm hn⟩
theorem ext_done {R c ti by_ : Int} {ls : List (List Sl)} (hO : Ok (rowOf ls c)) {s : Sl} (hs : Mine (rowOf ls c) R ti s) (hr : Fits [⟨s.f, Plain.sum s.t by_, R⟩]) {l' : List Sl} (hw : With (rowOf ls c) [⟨s.f, Plain.sum s.t by_, R⟩] l') : ExtR R c ti by_ ls 0 (ls.set c.toNat l') :=
  ⟨fun q => absurd ⟨s, hs⟩ q, fun s' hs' hm => by
    rw [Mine.one hO hs' hs] at hm
    exact absurd hm (hw.no_met (fun x hx => (hO.fit x hx).2.1) hr (fun x hx => by rw [List.mem_singleton] at hx; subst hx; rfl)), fun s' hs' hn => by
    rw [Mine.one hO hs' hs]
    exact ⟨rfl, l', hw, rfl⟩⟩
theorem ext_call {F : Nat → Prop} {b : Nat} {ls ls' : List (List Sl)} {R c ti by_ e : Int} {m : Nat} {w : World} (h : TAt F w b ls) (hl : OkT ls) (hs : Small m ls) (hm : m ≤ 999999999) (C : ExtR R c ti by_ ls e ls') :
    Calls Try.prog 28 #[.pointer (some ⟨b, 0, none⟩), .int .i64 R, .int .i64 c, .int .i64 ti, .int .i64 by_] w fun e' w' => e' = .returned (.int .i64 e) ∧ ∃ F', TAt F' w' b ls' ∧ Tn F F' w w' := by
  refine (extend_any F b ls R c ti by_ m w h hl hs hm).mono ?_
  rintro e' w' ⟨y, l2, F', rfl, T, t, c⟩
  obtain ⟨rfl, rfl⟩ := c.unique C
  exact ⟨rfl, F', T, t⟩
/- Two slots, of two robots. -/
theorem two_ok {a b : Sl} (ha : Fit a) (hb : Fit b) (h : Ahead a b) : Ok [a, b] :=
  ⟨List.pairwise_cons.2 ⟨fun x hx => by rw [List.mem_singleton] at hx; subst hx; exact h, List.pairwise_singleton _ _⟩, fun s hs => by
    rcases List.mem_cons.1 hs with rfl | hs
    · exact ha
    · rw [List.mem_singleton] at hs; subst hs; exact hb⟩
theorem Tn.past {F F' : Nat → Prop} {w0 w w' : World} (t : Tn F F' w w') (hb : Below w0.heap.size w0 w) (hF : ∀ k, F k → w0.heap.size ≤ k) : Below w0.heap.size w0 w' ∧ ∀ k, F' k → w0.heap.size ≤ k :=
  ⟨⟨t.os.trans hb.os, t.tape.trans hb.tape, t.output.trans hb.output, Nat.le_trans hb.size t.size, fun k hk => (t.block k (Nat.lt_of_lt_of_le hk hb.size) (fun q => by have := hF k q; omega)).trans (hb.block k hk)⟩, fun k hk => by
    rcases t.own k hk with q | q
    · exact hF k q
    · exact Nat.le_trans hb.size q⟩
set_option maxRecDepth 100000 in
set_option maxHeartbeats 4000000 in
theorem extends_all (a1 a2 a3 a4 : Int) (w : World) : Calls Try.prog 9 #[.int .i64 a1, .int .i64 a2, .int .i64 a3, .int .i64 a4] w fun e w' => e = .returned (.bool true) ∧ Below w.heap.size w w' := by
  have p1 := place_bd a1 1000 (by omega)
  have p2 := place_bd a2 1000 (by omega)
  have p3 := place_bd a4 50 (by omega)
  have p4 := place_bd a3 60 (by omega)
  have c1 := fun u => place_any a1 1000 u (by omega) (by omega)
  have c2 := fun u => place_any a2 1000 u (by omega) (by omega)
  have c3 := fun u => place_any a4 50 u (by omega) (by omega)
  have c4 := fun u => place_any a3 60 u (by omega) (by omega)
  generalize place a1 1000 = f at *
  generalize place a2 1000 = g at *
  generalize place a4 50 = gap at *
  generalize place a3 60 = n at *
  have cN := new_any 1 w (by omega) (by omega)
  obtain ⟨e, he⟩ : ∃ e, f + (1 + g) = e := ⟨_, rfl⟩
  have he' : f + (1 + g) = e := he
  have fitA : Fit ⟨f, e, 1⟩ := ⟨by simp only; omega, by simp only; omega, by simp only; unfold FV; omega, by simp⟩
  have fitB : Fit ⟨e + gap, 4611686018427387904, 2⟩ := ⟨by simp only; omega, by simp only; omega, by unfold FV; simp, by simp⟩
  have okAB : Ok [⟨f, e, 1⟩, ⟨e + gap, 4611686018427387904, 2⟩] := two_ok fitA fitB ⟨by simp only; omega, fun _ => by simp⟩
  have C1 : ClaimR 1 [⟨0, f, e⟩] (List.replicate 1 []) 0 [[⟨f, e, 1⟩]] := claim_one (i := 0) (bare_ok 1) (by simp) (by omega) ⟨fitA.1, fitA.2.1, fitA.2.2.1⟩ (with_one fitA)
  have C2 : ClaimR 2 [⟨0, e + gap, 4611686018427387904⟩] [[⟨f, e, 1⟩]] 0 [[⟨f, e, 1⟩, ⟨e + gap, 4611686018427387904, 2⟩]] := claim_one (i := 0) (ls := [[⟨f, e, 1⟩]]) (C1.ok (bare_ok 1)) (by simp) (by omega) ⟨fitB.1, fitB.2.1, fitB.2.2.1⟩ ⟨okAB, fun t r => by simp [has_cons, has_nil], by simp⟩
  have s1 : Plain.sum e n = e + n := by rw [Plain.sum_min, Plain.cut_in (by omega) (by omega), Plain.cut_in (by omega) (by omega)]; omega
  have M1 : Mine (rowOf [[(⟨f, e, 1⟩ : Sl), ⟨e + gap, 4611686018427387904, 2⟩]] 0) 1 (e - 1) ⟨f, e, 1⟩ := ⟨by simp [rowOf], rfl, by simp only; omega, by simp only; omega⟩
  have HC1 : Hid _ := C1
  have HC2 : Hid _ := C2
  have O2 : Hid (OkT [[(⟨f, e, 1⟩ : Sl), ⟨e + gap, 4611686018427387904, 2⟩]]) := C2.ok (C1.ok (bare_ok 1))
  have S2 : Hid (Small 2 [[(⟨f, e, 1⟩ : Sl), ⟨e + gap, 4611686018427387904, 2⟩]]) := fun l hl => by rw [List.mem_singleton] at hl; subst hl; simp
  by_cases hng : n > gap
  · have hng' : Hid (n > gap) := hng
    have E1 : ExtR 1 0 (e - 1) n [[(⟨f, e, 1⟩ : Sl), ⟨e + gap, 4611686018427387904, 2⟩]] 18 [[⟨f, e, 1⟩, ⟨e + gap, 4611686018427387904, 2⟩]] := ext_taken okAB M1 ⟨⟨e + gap, 4611686018427387904, 2⟩, by simp [rowOf], ⟨f, Plain.sum e n, 1⟩, by simp, by simp, by simp only; rw [s1]; omega, by simp only; omega⟩
    have HE1 : Hid _ := E1
    clear C1 C2 E1 M1 okAB fitA fitB s1
    go_enter Try.func9, Try.ntmps9
    go_wp2_with fail
    go_at_call 21
    refine (c1 _).mono ?_
    rintro _ _ ⟨rfl, rfl⟩
    go_wp2_with fail
    go_at_call 21
    refine (c2 _).mono ?_
    rintro _ _ ⟨rfl, rfl⟩
    go_wp2_with fail
    go_at_call 21
    refine (c3 _).mono ?_
    rintro _ _ ⟨rfl, rfl⟩
    go_wp2_with fail
    go_at_call 21
    refine (c4 _).mono ?_
    rintro _ w0 ⟨rfl, rfl⟩
    go_wp2_with (go_at_call 12; refine cN.mono ?_; rintro _ w1 ⟨b, rfl, F, T1, b1, f1⟩)
    refine (claim_lit F b _ 1 ⟨0, f, e⟩ 0 w1 T1 (bare_ok 1) (bare_small 1 0) (by simp) (by simp) (by omega) HC1.out).mono ?_
    rintro _ w2 ⟨rfl, F2, T2, t2⟩
    obtain ⟨b2, f2⟩ := t2.past b1 f1
    clear t2 T1 b1 f1
    go_wp2_with fail
    refine (claim_lit F2 b _ 2 ⟨0, e + gap, 4611686018427387904⟩ 1 w2 T2 (HC1.out.ok (bare_ok 1)) (HC1.out.small (bare_small 1 0)) (by simp) (by simp) (by omega) HC2.out).mono ?_
    rintro _ w3 ⟨rfl, F3, T3, t3⟩
    obtain ⟨b3, f3⟩ := t3.past b2 f2
    clear t3 T2 b2 f2
    go_wp2_with fail
    refine (ext_call T3 O2.out S2.out (by omega) HE1.out).mono ?_
    rintro _ w4 ⟨rfl, F4, T4, t4⟩
    obtain ⟨b4, f4⟩ := t4.past b3 f3
    clear t4 T3 b3 f3
    go_wp2_with (first
      | (go_at_call 18; refine (slots_any F4 b _ 0 _ T4 (by simp [rowOf])).mono ?_; rintro _ w5 ⟨v5, rfl, O5, b5⟩; have O5' := row_of_own slL_len O5; rw [show rowOf [[(⟨f, e, 1⟩ : Sl), ⟨e + gap, 4611686018427387904, 2⟩]] 0 = [⟨f, e, 1⟩, ⟨e + gap, 4611686018427387904, 2⟩] from rfl] at O5'; obtain ⟨g5, o5, c5, e5, d0, d1, d2⟩ := box_item O5' 0 (by simp); subst e5; simp only [Nat.zero_mul, Nat.add_zero, List.getElem_cons_zero, List.length_cons, List.length_nil] at d0 d1 d2; have B5 : Hid (Below _ _ w5) := bcat b4 b5; clear O5 O5')
      | (go_at_call 13; refine (awake_any _).mono ?_; rintro _ w6 ⟨rfl, b6⟩))
    go_ret
    exact ⟨rfl, bcat B5.out b6⟩
  · have fitA2 : Fit ⟨f, e + n, 1⟩ := ⟨by simp only; omega, by simp only; omega, by simp only; unfold FV; omega, by simp⟩
    have okA2 : Ok [⟨f, e + n, 1⟩, ⟨e + gap, 4611686018427387904, 2⟩] := two_ok fitA2 fitB ⟨by simp only; omega, fun _ => by simp⟩
    have s2 : Plain.sum 4611686018427387904 a3 = 4611686018427387904 := by
      have := Plain.cut_bd a3
      rw [Plain.sum_min, Plain.cut_in (by omega) (by omega)]; omega
    have E1 : ExtR 1 0 (e - 1) n [[(⟨f, e, 1⟩ : Sl), ⟨e + gap, 4611686018427387904, 2⟩]] 0 [[⟨f, e + n, 1⟩, ⟨e + gap, 4611686018427387904, 2⟩]] := by
      show ExtR 1 0 (e - 1) n [[(⟨f, e, 1⟩ : Sl), ⟨e + gap, 4611686018427387904, 2⟩]] 0 (List.set [[(⟨f, e, 1⟩ : Sl), ⟨e + gap, 4611686018427387904, 2⟩]] (0 : Int).toNat [⟨f, e + n, 1⟩, ⟨e + gap, 4611686018427387904, 2⟩])
      refine ext_done (R := 1) (c := 0) (ti := e - 1) (by_ := n) (ls := [[(⟨f, e, 1⟩ : Sl), ⟨e + gap, 4611686018427387904, 2⟩]]) (s := ⟨f, e, 1⟩) (l' := [⟨f, e + n, 1⟩, ⟨e + gap, 4611686018427387904, 2⟩]) okAB M1 (fun x hx => by rw [List.mem_singleton] at hx; subst hx; simp only; rw [s1]; omega) ⟨okA2, fun t r => ?_, by simp [rowOf]⟩
      rw [show rowOf [[(⟨f, e, 1⟩ : Sl), ⟨e + gap, 4611686018427387904, 2⟩]] 0 = [⟨f, e, 1⟩, ⟨e + gap, 4611686018427387904, 2⟩] from rfl]
      simp only [has_cons, s1]
      have hn := has_nil t r
      constructor
      · rintro (h | h | h)
        · exact Or.inr (Or.inl h)
        · exact Or.inl (Or.inr (Or.inl h))
        · exact absurd h hn
      · rintro ((h | h | h) | h | h)
        · exact Or.inl ⟨h.1, h.2.1, by have := h.2.2; omega⟩
        · exact Or.inr (Or.inl h)
        · exact absurd h hn
        · exact Or.inl h
        · exact absurd h hn
    have E2 : ExtR 1 0 (e + n) 1 [[(⟨f, e + n, 1⟩ : Sl), ⟨e + gap, 4611686018427387904, 2⟩]] 3 [[⟨f, e + n, 1⟩, ⟨e + gap, 4611686018427387904, 2⟩]] := ext_none (by
      rintro ⟨s, hs, h1, h2, h3⟩
      rw [show rowOf [[(⟨f, e + n, 1⟩ : Sl), ⟨e + gap, 4611686018427387904, 2⟩]] 0 = [⟨f, e + n, 1⟩, ⟨e + gap, 4611686018427387904, 2⟩] from rfl] at hs
      rcases List.mem_cons.1 hs with rfl | hs
      · simp only at h3; omega
      · rw [List.mem_singleton] at hs; subst hs; simp at h1)
    have E3 : ExtR 2 0 (e + gap) a3 [[(⟨f, e + n, 1⟩ : Sl), ⟨e + gap, 4611686018427387904, 2⟩]] 0 [[⟨f, e + n, 1⟩, ⟨e + gap, 4611686018427387904, 2⟩]] := by
      show ExtR 2 0 (e + gap) a3 [[(⟨f, e + n, 1⟩ : Sl), ⟨e + gap, 4611686018427387904, 2⟩]] 0 (List.set [[(⟨f, e + n, 1⟩ : Sl), ⟨e + gap, 4611686018427387904, 2⟩]] (0 : Int).toNat [⟨f, e + n, 1⟩, ⟨e + gap, 4611686018427387904, 2⟩])
      refine ext_done (R := 2) (c := 0) (ti := e + gap) (by_ := a3) (ls := [[(⟨f, e + n, 1⟩ : Sl), ⟨e + gap, 4611686018427387904, 2⟩]]) (s := ⟨e + gap, 4611686018427387904, 2⟩) (l' := [⟨f, e + n, 1⟩, ⟨e + gap, 4611686018427387904, 2⟩]) okA2 ⟨by simp [rowOf], rfl, by simp only; omega, by simp only; omega⟩ (fun x hx => by rw [List.mem_singleton] at hx; subst hx; simp only; rw [s2]; omega) ⟨okA2, fun t r => ?_, by simp [rowOf]⟩
      rw [show rowOf [[(⟨f, e + n, 1⟩ : Sl), ⟨e + gap, 4611686018427387904, 2⟩]] 0 = [⟨f, e + n, 1⟩, ⟨e + gap, 4611686018427387904, 2⟩] from rfl]
      simp only [has_cons, s2]
      have hn := has_nil t r
      constructor
      · intro h; exact Or.inl h
      · rintro (h | h | h)
        · exact h
        · exact Or.inr (Or.inl h)
        · exact absurd h hn
    have O3 : Hid (OkT [[(⟨f, e + n, 1⟩ : Sl), ⟨e + gap, 4611686018427387904, 2⟩]]) := E1.ok O2.out
    have S3 : Hid (Small 2 [[(⟨f, e + n, 1⟩ : Sl), ⟨e + gap, 4611686018427387904, 2⟩]]) := fun l hl => by rw [List.mem_singleton] at hl; subst hl; simp
    have HE1 : Hid _ := E1
    have HE2 : Hid _ := E2
    have HE3 : Hid _ := E3
    clear C1 C2 E1 E2 E3 M1 okAB okA2 fitA fitA2 fitB s1 s2
    go_enter Try.func9, Try.ntmps9
    go_wp2_with fail
    go_at_call 21
    refine (c1 _).mono ?_
    rintro _ _ ⟨rfl, rfl⟩
    go_wp2_with fail
    go_at_call 21
    refine (c2 _).mono ?_
    rintro _ _ ⟨rfl, rfl⟩
    go_wp2_with fail
    go_at_call 21
    refine (c3 _).mono ?_
    rintro _ _ ⟨rfl, rfl⟩
    go_wp2_with fail
    go_at_call 21
    refine (c4 _).mono ?_
    rintro _ w0 ⟨rfl, rfl⟩
    go_wp2_with (go_at_call 12; refine cN.mono ?_; rintro _ w1 ⟨b, rfl, F, T1, b1, f1⟩)
    refine (claim_lit F b _ 1 ⟨0, f, e⟩ 0 w1 T1 (bare_ok 1) (bare_small 1 0) (by simp) (by simp) (by omega) HC1.out).mono ?_
    rintro _ w2 ⟨rfl, F2, T2, t2⟩
    obtain ⟨b2, f2⟩ := t2.past b1 f1
    clear t2 T1 b1 f1
    go_wp2_with fail
    refine (claim_lit F2 b _ 2 ⟨0, e + gap, 4611686018427387904⟩ 1 w2 T2 (HC1.out.ok (bare_ok 1)) (HC1.out.small (bare_small 1 0)) (by simp) (by simp) (by omega) HC2.out).mono ?_
    rintro _ w3 ⟨rfl, F3, T3, t3⟩
    obtain ⟨b3, f3⟩ := t3.past b2 f2
    clear t3 T2 b2 f2
    go_wp2_with fail
    refine (ext_call T3 O2.out S2.out (by omega) HE1.out).mono ?_
    rintro _ w4 ⟨rfl, F4, T4, t4⟩
    obtain ⟨b4, f4⟩ := t4.past b3 f3
    clear t4 T3 b3 f3
    go_wp2_with (first
      | (have X9 := F5; have Y9 := F6; go_at_call 13; refine (awake_any _).mono ?_; rintro _ w8 ⟨rfl, b8⟩)
      | (go_at_call 18; refine (slots_any F4 b _ 0 _ T4 (by simp [rowOf])).mono ?_; rintro _ w5 ⟨v5, rfl, O5, b5⟩; have O5' := row_of_own slL_len O5; rw [show rowOf [[(⟨f, e + n, 1⟩ : Sl), ⟨e + gap, 4611686018427387904, 2⟩]] 0 = [⟨f, e + n, 1⟩, ⟨e + gap, 4611686018427387904, 2⟩] from rfl] at O5'; obtain ⟨g5, o5, c5, e5, d0, d1, d2⟩ := box_item O5' 0 (by simp); subst e5; simp only [Nat.zero_mul, Nat.add_zero, List.getElem_cons_zero, List.length_cons, List.length_nil] at d0 d1 d2; have B5 := bcat b4 b5; have T5 := T4.go b5; have f5 := f4; clear O5 O5')
      | (have X9 := F5; go_at_call 28; refine (ext_call T6 O3.out S3.out (by omega) HE3.out).mono ?_; rintro _ w7 ⟨rfl, F6, T7, t7⟩; obtain ⟨b7, f7⟩ := t7.past B6 f6)
      | (go_at_call 28; refine (ext_call T5 O3.out S3.out (by omega) HE2.out).mono ?_; rintro _ w6 ⟨rfl, F5, T6, t6⟩; obtain ⟨B6, f6⟩ := t6.past B5 f5))
    go_ret
    exact ⟨rfl, bcat b7 b8⟩
end Go.Proofs.Ytddkgkafgjdheaa.Rs
