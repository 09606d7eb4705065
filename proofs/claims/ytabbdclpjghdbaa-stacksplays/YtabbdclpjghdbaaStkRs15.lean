/-
  What both tell is the same; a drop, the chapter's first.
-/
import Derived.Test.YtabbdclpjghdbaaStkRs14
namespace Go.Proofs.Ytabbdclpjghdbaa.Stk
set_option linter.unusedVariables false
set_option linter.unusedSimpArgs false
open Go Go.RowKit Go.Shelf Go.Proofs Go.Proofs.Ytabbdclpjghdbaa.Grid
attribute [local go_sem] Oper.semAt_some

section
variable {KP : Sk} {KR : Rk} {c : Conf} {us : List Int} {cs : Array Value} {vc : Value} {ps qs : List Pile} {ls : List Int} {w : World}
theorem both_height (h : Both KP KR c us cs vc ps qs ls w) (x y : Int) : ∃ z : Int, (∀ u, Both KP KR c us cs vc ps qs ls u → Calls Try.prog 17 #[.pointer (some ⟨KP.s, 0, none⟩), .agg #[.int .i64 x, .int .i64 y]] u fun e w' => ∃ v, e = .returned v ∧ v = .int .i64 z ∧ Below u.heap.size u w') ∧ (∀ u, Both KP KR c us cs vc ps qs ls u → Calls Try.prog 18 #[.pointer (some ⟨KR.s, 0, none⟩), .agg #[.int .i64 x, .int .i64 y]] u fun e w' => ∃ v, e = .returned v ∧ v = .int .i64 z ∧ Below u.heap.size u w') := by
  cases ho : openU c.W c.H us (x, y) with
  | false => exact ⟨-1, fun u hu => height_no hu.st x y ho, fun u hu => rheight_no hu.rs x y (hu.like.no ho)⟩
  | true =>
    obtain ⟨k, p, hk, _, _, hp, hpx⟩ := h.st.num (open_in ho)
    obtain ⟨i, q, hi, hq⟩ := h.like.hs h.nd hp (by rw [hpx]; exact ho)
    rw [hpx] at hi
    exact ⟨p.2.2.length, fun u hu => height_yes hu.st x y ho hk hp, fun u hu => by have z := rheight_yes hu.rs x y hi; rw [hq] at z; exact z⟩
theorem both_top (h : Both KP KR c us cs vc ps qs ls w) (x y : Int) : ∃ z : Int, (∀ u, Both KP KR c us cs vc ps qs ls u → Calls Try.prog 19 #[.pointer (some ⟨KP.s, 0, none⟩), .agg #[.int .i64 x, .int .i64 y]] u fun e w' => ∃ v, e = .returned v ∧ v = .int .i64 z ∧ Below u.heap.size u w') ∧ (∀ u, Both KP KR c us cs vc ps qs ls u → Calls Try.prog 20 #[.pointer (some ⟨KR.s, 0, none⟩), .agg #[.int .i64 x, .int .i64 y]] u fun e w' => ∃ v, e = .returned v ∧ v = .int .i64 z ∧ Below u.heap.size u w') := by
  cases ho : openU c.W c.H us (x, y) with
  | false => exact ⟨0, fun u hu => top_no hu.st x y ho, fun u hu => rtop_no hu.rs x y (hu.like.no ho)⟩
  | true =>
    obtain ⟨k, p, hk, _, _, hp, hpx⟩ := h.st.num (open_in ho)
    obtain ⟨i, q, hi, hq⟩ := h.like.hs h.nd hp (by rw [hpx]; exact ho)
    rw [hpx] at hi
    exact ⟨topP p.2.2, fun u hu => top_yes hu.st x y ho hk hp, fun u hu => by have z := rtop_yes hu.rs x y hi; rw [hq] at z; exact z⟩
theorem ints_lt {F : Nat → Prop} {l : List Int} {v : Value} {u : World} (h : ListAt 1 intEl F l v u) (hF : ∀ b, F b → b < u.heap.size) : ListAt 1 intEl (fun b => b < u.heap.size) l v u := h.mono heldInt hF
theorem both_at (h : Both KP KR c us cs vc ps qs ls w) (x y : Int) : ∃ bs : List Int, bs.length ≤ 8 ∧ (∀ u, Both KP KR c us cs vc ps qs ls u → Calls Try.prog 22 #[.pointer (some ⟨KP.s, 0, none⟩), .agg #[.int .i64 x, .int .i64 y]] u fun e w' => ∃ v, e = .returned v ∧ ListAt 1 intEl (fun b => b < w'.heap.size) bs v w' ∧ Below u.heap.size u w') ∧ (∀ u, Both KP KR c us cs vc ps qs ls u → Calls Try.prog 23 #[.pointer (some ⟨KR.s, 0, none⟩), .agg #[.int .i64 x, .int .i64 y]] u fun e w' => ∃ v, e = .returned v ∧ ListAt 1 intEl (fun b => b < w'.heap.size) bs v w' ∧ Below u.heap.size u w') := by
  cases ho : openU c.W c.H us (x, y) with
  | false => exact ⟨[], by simp, fun u hu => (at_no hu.st x y ho).mono fun e w' ⟨e1, b⟩ => ⟨_, e1, ListAt.nil _ _ _ _, b⟩, fun u hu => (rat_no hu.rs x y (hu.like.no ho)).mono fun e w' ⟨v, e1, e2, b⟩ => ⟨v, e1, by rw [e2]; exact ListAt.nil _ _ _ _, b⟩⟩
  | true =>
    obtain ⟨k, p, hk, _, _, hp, hpx⟩ := h.st.num (open_in ho)
    obtain ⟨i, q, hi, hq⟩ := h.like.hs h.nd hp (by rw [hpx]; exact ho)
    rw [hpx] at hi
    refine ⟨p.2.2, h.st.small _ _ hp, fun u hu => (at_yes hu.st x y ho hk hp).mono fun e w' ⟨v, e1, o, b⟩ => ⟨v, e1, ints_lt (list_of_own kindInt.len o) since_lt, b⟩, fun u hu => (rat_yes hu.rs x y hi).mono fun e w' ⟨v, e1, e2, b⟩ => ⟨v, e1, ?_, b⟩⟩
    have z := (hu.rs.go b).ints hi.1
    rw [hq, ← e2] at z
    exact ints_lt z (hu.rs.go b).rb_lt
theorem both_load (i : Int) : ∃ z : Int, (∀ u, Both KP KR c us cs vc ps qs ls u → Calls Try.prog 40 #[.pointer (some ⟨KP.s, 0, none⟩), .int .i64 i] u fun e w' => ∃ v, e = .returned v ∧ v = .int .i64 z ∧ Below u.heap.size u w') ∧ (∀ u, Both KP KR c us cs vc ps qs ls u → Calls Try.prog 50 #[.pointer (some ⟨KR.s, 0, none⟩), .int .i64 i] u fun e w' => ∃ v, e = .returned v ∧ v = .int .i64 z ∧ Below u.heap.size u w') :=
  ⟨loadP ls i, fun u hu => load_any hu.st i, fun u hu => (rload_any hu.rs i).mono fun e w' ⟨v, e1, e2, e3⟩ => ⟨v, e1, e2, by rw [e3]; exact Below.refl _ _⟩⟩
theorem both_bins (h : Both KP KR c us cs vc ps qs ls w) : ∃ L : List Int, L.length ≤ 9223372036854775807 ∧ (∀ u, Both KP KR c us cs vc ps qs ls u → Calls Try.prog 48 #[.pointer (some ⟨KP.s, 0, none⟩)] u fun e w' => ∃ v, e = .returned v ∧ ListAt 1 intEl (fun b => b < w'.heap.size) L v w' ∧ Below u.heap.size u w') ∧ (∀ u, Both KP KR c us cs vc ps qs ls u → Calls Try.prog 49 #[.pointer (some ⟨KR.s, 0, none⟩)] u fun e w' => ∃ v, e = .returned v ∧ ListAt 1 intEl (fun b => b < w'.heap.size) L v w' ∧ Below u.heap.size u w') := by
  have eL : allB ps ls = allB qs ls := like_allB h.like h.ce
  have hlen : (sortedI (allB ps ls)).length ≤ 9223372036854775807 := by
    rw [(sorted_perm _).length_eq, eL]
    have h1 := flatK_len h.rs.small qs.length
    have h2 := h.rs.many
    have h3 := h.rs.few
    have h4 : (ls.filter (fun z => z != 0)).length ≤ ls.length := List.length_filter_le _ _
    unfold flatK at h1
    rw [List.take_length] at h1
    unfold allB
    rw [List.length_append]
    omega
  refine ⟨sortedI (allB ps ls), hlen, fun u hu => (bins_any hu.st).mono fun e w' ⟨v, e1, o, b⟩ => ⟨v, e1, ?_, b⟩, fun u hu => (rbins_any hu.rs).mono fun e w' ⟨v, M, e1, o, o2, o3, b⟩ => ⟨v, e1, ?_, b⟩⟩
  · have hl : (allB ps ls).length = (sortedI (allB ps ls)).length := (sorted_perm _).length_eq.symm
    rw [hl] at o
    exact ints_lt (list_of_own kindInt.len o) since_lt
  · have e : M = sortedI (allB ps ls) := sorted_eq o2 (sorted_pair _) (o3.trans (by rw [← eL]; exact (sorted_perm _).symm))
    rw [← e]
    exact ints_lt (list_of_own kindInt.len o) since_lt
theorem both_told (h : Both KP KR c us cs vc ps qs ls w) : (∀ u, Both KP KR c us cs vc ps qs ls u → Calls Try.prog 27 #[.pointer (some ⟨KP.s, 0, none⟩), .int .i64 1000] u fun e w' => ∃ v, e = .returned v ∧ ListAt 3 stackEl (fun b => b < w'.heap.size) (qs.map prS) v w' ∧ Below u.heap.size u w') := fun u hu =>
  (told_any hu.st 1000 (by decide) (by decide)).mono fun e w' ⟨v, e1, ⟨ys, T⟩, b⟩ => ⟨v, e1, by
    have z := T.list
    rw [like_tell hu.like] at z
    exact z.mono heldStack since_lt, b⟩
/- What both have come to behind a call on each, in either order: the answer, what is kept. -/
def I1 (v : Value) : Prop := ∃ z : Int, v = .int .i64 z
def I2 (v : Value) : Prop := ∃ y z : Int, v = .tuple #[.int .i64 y, .int .i64 z]
def NxV (KP : Sk) (KR : Rk) (c : Conf) (us : List Int) (cs : Array Value) (vc : Value) (N : Nat) (D1 D2 : Nat → Prop) (w : World) (f : Nat) (args : Array Value) (Fm : Value → Prop) (v : Value) (w' : World) : Prop :=
  Fm v ∧ Below N w w' ∧ (∀ b, b < w.heap.size → ¬ D1 b → w'.heap[b]? = w.heap[b]?) ∧ ∀ u, Below w'.heap.size w' u → Calls Try.prog f args u fun e2 w2 => ∃ v2, e2 = .returned v2 ∧ v2 = v ∧ (∃ ps2 qs2 ls2, Both KP KR c us cs vc ps2 qs2 ls2 w2 ∧ Below N w w2) ∧ (∀ b, b < u.heap.size → ¬ D2 b → w2.heap[b]? = u.heap[b]?)
variable {N : Nat} {ps' qs' : List Pile} {ls' : List Int} {w' : World} {D1 D2 : Nat → Prop}
theorem Both.stayV (h : Both KP KR c us cs vc ps qs ls w) (hN : N ≤ w.heap.size) {f : Nat} {args : Array Value} {v : Value} {Fm : Value → Prop} (hf : Fm v) (b : Below w.heap.size w w') (k : ∀ u, Both KP KR c us cs vc ps qs ls u → Calls Try.prog f args u fun e2 w2 => e2 = .returned v ∧ Below u.heap.size u w2) : ∃ v', Ending.returned v = .returned v' ∧ NxV KP KR c us cs vc N D1 D2 w f args Fm v' w' :=
  ⟨v, rfl, hf, b.mono hN, fun b' hb' _ => b.block b' hb', fun u bu => (k u ((h.go b).go bu)).mono fun e2 w2 ⟨q1, q2⟩ => ⟨v, q1, rfl, ⟨ps, qs, ls, ((h.go b).go bu).go q2, (b.trans ((bu.trans (q2.mono bu.size)).mono b.size)).mono hN⟩, fun b' hb' _ => q2.block b' hb'⟩⟩
theorem left2 (hs : StAt KP c us ps ls w) (hr : RsAt w KR cs vc qs ls') (dj : ∀ b, Foot KP ps b → ¬ RB KR qs b) (T : Turn KP ps ps' w w') : RsAt w' KR cs vc qs ls' ∧ ∀ b, Foot KP ps' b → ¬ RB KR qs b :=
  ⟨hr.same T.size fun b hb hq => T.keep b hb fun hf => dj b hf hq, fun b hf hq => (T.foot b hf).elim (fun q => dj b q hq) (fun q => by have := hr.rb_lt b hq; omega)⟩
theorem Both.stepR (h : Both KP KR c us cs vc ps qs ls w) (hN : N ≤ KP.b0) {k i : Nat} {p q : Pile} (hp : ps[k]? = some p) (hi : qs[i]? = some q) (e : q.1 = p.1) (ho : openU c.W c.H us p.1 = true) {v' v2 : Value} {bs : List Int} {u w2 : World} (R : RsAt w' KR cs vc (qs.set i (q.1, v2, bs)) ls') (RT : RTurn KR qs (qs.set i (q.1, v2, bs)) w w') (bu : Below w'.heap.size w' u) (S : StAt KP c us (ps.set k (p.1, v', bs)) ls' w2) (T : Turn KP ps (ps.set k (p.1, v', bs)) u w2) :
    ∃ ps2 qs2 ls2, Both KP KR c us cs vc ps2 qs2 ls2 w2 ∧ Below N w w2 := by
  have hb0 := h.st.b0_lt
  have s01 : KP.b0 ≤ KP.b1 := by have := h.st.s0; have := h.st.s1; omega
  have hfar := h.far
  have hbr := h.rs.br
  have hbl := h.rs.bl
  obtain ⟨s1, d1⟩ := Both.right h.st h.rs h.far h.dj RT
  obtain ⟨r2, d2⟩ := left2 (s1.go bu) (R.go bu) d1 T
  have b1 : Below N w w' := RT.below (by omega) (by omega) (by omega)
  have b2 : Below N u w2 := T.below (by have := b1.size; have := bu.size; omega) fun b hb => Nat.le_trans hN (h.st.foot_ge b hb)
  refine ⟨_, _, ls', ⟨S, r2, h.like.set h.nd (h.like.nodup h.nd) hp hi e v' v2 bs, by rw [set_fst hp]; exact h.nd, h.far, d2, fun r hr hc => by
    rcases List.mem_or_eq_of_mem_set hr with hr | rfl
    · exact h.ce r hr hc
    · rw [ho] at hc; cases hc⟩, ?_⟩
  exact (b1.trans (bu.mono (by have := b1.size; omega))).trans b2
theorem RTurn.kept (h : RTurn KR qs qs' w w') : ∀ b, b < w.heap.size → ¬ RB KR qs b → w'.heap[b]? = w.heap[b]? := fun b hb hn => h.keep b hb (fun e => hn (Or.inr (Or.inl e))) (fun e => hn (Or.inr (Or.inr (Or.inl e))))
theorem both_liftV (h : Both KP KR c us cs vc ps qs ls w) (hN : N ≤ KP.b0) (r x y : Int) :
    Calls Try.prog 13 #[.pointer (some ⟨KP.s, 0, none⟩), .int .i64 r, .agg #[.int .i64 x, .int .i64 y]] w fun e w' => ∃ v, e = .returned v ∧ NxV KP KR c us cs vc N (Foot KP ps) (RB KR qs) w 14 #[.pointer (some ⟨KR.s, 0, none⟩), .int .i64 r, .agg #[.int .i64 x, .int .i64 y]] I2 v w' := by
  have hNw : N ≤ w.heap.size := Nat.le_trans hN h.st.b0_lt
  cases ht : thereB ls r with
  | false => exact (lift_there h.st r x y ht).mono fun e w' ⟨v, e1, e2, b⟩ => by rw [e1, e2]; exact h.stayV hNw ⟨_, _, rfl⟩ b fun u hu => rlift_arg hu.rs r x y (Or.inl ht)
  | true =>
    cases ho : openU c.W c.H us (x, y) with
    | false => exact (lift_open h.st r x y ht ho).mono fun e w' ⟨v, e1, e2, b⟩ => by rw [e1, e2]; exact h.stayV hNw ⟨_, _, rfl⟩ b fun u hu => rlift_arg hu.rs r x y (Or.inr (h.like.no ho))
    | true =>
      obtain ⟨k, p, hk, _, _, hp, hpx⟩ := h.st.num (open_in ho)
      obtain ⟨i, q, hi, hq⟩ := h.like.hs h.nd hp (by rw [hpx]; exact ho)
      rw [hpx] at hi
      by_cases hl : loadP ls r = 0
      · by_cases hz : p.2.2 = []
        · exact (lift_none h.st r x y ht ho hl hk hp hz).mono fun e w' ⟨v, e1, e2, b⟩ => by rw [e1, e2]; exact h.stayV hNw ⟨_, _, rfl⟩ b fun u hu => rlift_none hu.rs r x y ht hi hl (by rw [hq]; exact hz)
        · refine (lift_ok h.st r x y ht ho hl hk hp hz).mono fun e w' ⟨v', e1, S, T⟩ => ?_
          refine ⟨_, e1, ⟨_, _, rfl⟩, T.below hNw fun b hb => Nat.le_trans hN (h.st.foot_ge b hb), T.keep, fun u bu => ?_⟩
          refine (rlift_ok ((h.left T).1.go bu) r x y ht hi hl (by rw [hq]; exact hz)).mono fun e2 w2 ⟨v2, q1, R, RT⟩ => ?_
          rw [hq] at q1
          refine ⟨_, q1, rfl, ?_, RT.kept⟩
          rw [hq] at R RT
          exact h.step hN hp hi.1 (by rw [hi.2.1, hpx]) (by rw [hpx]; exact ho) S T bu R RT
      · exact (lift_state h.st r x y ht ho hl).mono fun e w' ⟨v, e1, e2, b⟩ => by rw [e1, e2]; exact h.stayV hNw ⟨_, _, rfl⟩ b fun u hu => rlift_state hu.rs r x y ht hi hl
theorem both_dropV {F : Nat → Prop} {vb vp vr vs : Value} (h : Both KP KR c us (cfA c vb vp vr vs) vc ps qs ls w) (hN : N ≤ KP.b0) (hA : ConfAt F c vb vp vr vs w) (hF : ∀ b, F b → b < N) (l1 : c.blocked.length ≤ 9223372036854775807) (l2 : c.ports.length ≤ 9223372036854775807) (l3 : c.robots.length ≤ 9223372036854775807) (hro : ∀ x, roomP c us x = roomR c x) (r x y : Int) :
    Calls Try.prog 15 #[.pointer (some ⟨KP.s, 0, none⟩), .int .i64 r, .agg #[.int .i64 x, .int .i64 y]] w fun e w' => ∃ v, e = .returned v ∧ NxV KP KR c us (cfA c vb vp vr vs) vc N (Foot KP ps) (RB KR qs) w 16 #[.pointer (some ⟨KR.s, 0, none⟩), .int .i64 r, .agg #[.int .i64 x, .int .i64 y]] I1 v w' := by
  have hNw : N ≤ w.heap.size := Nat.le_trans hN h.st.b0_lt
  have cR : ∀ w1, Below N w w1 → ∀ qs1 ls1, RsAt w1 KR (cfA c vb vp vr vs) vc qs1 ls1 → ∀ u, Below w1.heap.size w1 u → Calls Try.prog 46 #[.pointer (some ⟨KR.s, 0, none⟩), .agg #[.int .i64 x, .int .i64 y]] u fun e w' => ∃ v, e = .returned v ∧ v = .int .i64 (roomP c us (x, y)) ∧ Below u.heap.size u w' := fun w1 b1 qs1 ls1 hr u bu => by
    have bN : Below N w u := b1.trans (bu.mono (Nat.le_trans hNw b1.size))
    rw [hro]
    exact rroom_any (hr.go bu) (hA.stable fun g hg => bN.block g (hF g hg)) (fun b hb => Nat.lt_of_lt_of_le (hF b hb) (Nat.le_trans hNw bN.size)) l1 l2 l3 x y
  cases ht : thereB ls r with
  | false => exact (drop_there h.st r x y ht).mono fun e w' ⟨v, e1, e2, b⟩ => by rw [e1, e2]; exact h.stayV hNw ⟨_, rfl⟩ b fun u hu => rdrop_arg hu.rs r x y (Or.inl ht)
  | true =>
    cases ho : openU c.W c.H us (x, y) with
    | false => exact (drop_open h.st r x y ht ho).mono fun e w' ⟨v, e1, e2, b⟩ => by rw [e1, e2]; exact h.stayV hNw ⟨_, rfl⟩ b fun u hu => rdrop_arg hu.rs r x y (Or.inr (h.like.no ho))
    | true =>
      obtain ⟨k, p, hk, _, _, hp, hpx⟩ := h.st.num (open_in ho)
      obtain ⟨i, q, hi, hq⟩ := h.like.hs h.nd hp (by rw [hpx]; exact ho)
      rw [hpx] at hi
      by_cases hl : loadP ls r = 0
      · exact (drop_state h.st r x y ht ho hl).mono fun e w' ⟨v, e1, e2, b⟩ => by rw [e1, e2]; exact h.stayV hNw ⟨_, rfl⟩ b fun u hu => rdrop_state hu.rs r x y ht hi hl
      · by_cases hf : (p.2.2.length : Int) < roomP c us (x, y)
        · refine (drop_ok h.st r x y ht ho hl hk hp hf).mono fun e w' ⟨v', e1, S, T⟩ => ?_
          have b1 : Below N w w' := T.below hNw fun b hb => Nat.le_trans hN (h.st.foot_ge b hb)
          refine ⟨_, e1, ⟨_, rfl⟩, b1, T.keep, fun u bu => ?_⟩
          have hr := (h.left T).1.go bu
          refine (rdrop_ok hr r x y (cR u (b1.trans (bu.mono (Nat.le_trans hNw b1.size))) _ _ hr) (room_le h.st (x, y)) ht hi hl (by rw [hq]; exact hf)).mono fun e2 w2 ⟨v2, q1, R, RT⟩ => ?_
          refine ⟨_, q1, rfl, ?_, RT.kept⟩
          rw [hq] at R RT
          exact h.step hN hp hi.1 (by rw [hi.2.1, hpx]) (by rw [hpx]; exact ho) S T bu R RT
        · refine (drop_full h.st r x y ht ho hl hk hp (by omega)).mono fun e w' ⟨v, e1, e2, b⟩ => ?_
          rw [e1, e2]
          exact ⟨_, rfl, ⟨_, rfl⟩, b.mono hNw, fun b' hb' _ => b.block b' hb', fun u bu => by
            have bN : Below N w u := (b.trans (bu.mono b.size)).mono hNw
            have hu := (h.go b).go bu
            exact (rdrop_full hu.rs r x y (cR u bN _ _ hu.rs) ht hi hl (by rw [hq]; omega)).mono fun e2 w2 ⟨q1, q2⟩ => ⟨_, q1, rfl, ⟨ps, qs, ls, hu.go q2, bN.trans (q2.mono (Nat.le_trans hNw bN.size))⟩, fun b' hb' _ => q2.block b' hb'⟩⟩
/- The chapter's call first. -/
theorem both_rdropV {F : Nat → Prop} {vb vp vr vs : Value} (h : Both KP KR c us (cfA c vb vp vr vs) vc ps qs ls w) (hN : N ≤ KP.b0) (hA : ConfAt F c vb vp vr vs w) (hF : ∀ b, F b → b < N) (l1 : c.blocked.length ≤ 9223372036854775807) (l2 : c.ports.length ≤ 9223372036854775807) (l3 : c.robots.length ≤ 9223372036854775807) (hro : ∀ x, roomP c us x = roomR c x) (r x y : Int) :
    Calls Try.prog 16 #[.pointer (some ⟨KR.s, 0, none⟩), .int .i64 r, .agg #[.int .i64 x, .int .i64 y]] w fun e w' => ∃ v, e = .returned v ∧ NxV KP KR c us (cfA c vb vp vr vs) vc N (RB KR qs) (Foot KP ps) w 15 #[.pointer (some ⟨KP.s, 0, none⟩), .int .i64 r, .agg #[.int .i64 x, .int .i64 y]] I1 v w' := by
  have hNw : N ≤ w.heap.size := Nat.le_trans hN h.st.b0_lt
  have cR : ∀ u, Below w.heap.size w u → Calls Try.prog 46 #[.pointer (some ⟨KR.s, 0, none⟩), .agg #[.int .i64 x, .int .i64 y]] u fun e w' => ∃ v, e = .returned v ∧ v = .int .i64 (roomP c us (x, y)) ∧ Below u.heap.size u w' := fun u bu => by
    have bN : Below N w u := bu.mono hNw
    rw [hro]
    exact rroom_any (h.rs.go bu) (hA.stable fun g hg => bN.block g (hF g hg)) (fun b hb => Nat.lt_of_lt_of_le (hF b hb) (Nat.le_trans hNw bN.size)) l1 l2 l3 x y
  cases ht : thereB ls r with
  | false => exact (rdrop_arg h.rs r x y (Or.inl ht)).mono fun e w' ⟨e1, b⟩ => by rw [e1]; exact h.stayV hNw ⟨_, rfl⟩ b fun u hu => (drop_there hu.st r x y ht).mono fun e w' ⟨v, e1, e2, b⟩ => ⟨by rw [e1, e2], b⟩
  | true =>
    cases ho : openU c.W c.H us (x, y) with
    | false => exact (rdrop_arg h.rs r x y (Or.inr (h.like.no ho))).mono fun e w' ⟨e1, b⟩ => by rw [e1]; exact h.stayV hNw ⟨_, rfl⟩ b fun u hu => (drop_open hu.st r x y ht ho).mono fun e w' ⟨v, e1, e2, b⟩ => ⟨by rw [e1, e2], b⟩
    | true =>
      obtain ⟨k, p, hk, _, _, hp, hpx⟩ := h.st.num (open_in ho)
      obtain ⟨i, q, hi, hq⟩ := h.like.hs h.nd hp (by rw [hpx]; exact ho)
      rw [hpx] at hi
      by_cases hl : loadP ls r = 0
      · exact (rdrop_state h.rs r x y ht hi hl).mono fun e w' ⟨e1, b⟩ => by rw [e1]; exact h.stayV hNw ⟨_, rfl⟩ b fun u hu => (drop_state hu.st r x y ht ho hl).mono fun e w' ⟨v, e1, e2, b⟩ => ⟨by rw [e1, e2], b⟩
      · by_cases hf : (p.2.2.length : Int) < roomP c us (x, y)
        · refine (rdrop_ok h.rs r x y cR (room_le h.st (x, y)) ht hi hl (by rw [hq]; exact hf)).mono fun e w' ⟨v2, q1, R, RT⟩ => ?_
          have hb0 := h.st.b0_lt
          have s01 : KP.b0 ≤ KP.b1 := by have := h.st.s0; have := h.st.s1; omega
          have hfar := h.far
          have hbr := h.rs.br
          have hbl := h.rs.bl
          refine ⟨_, q1, ⟨_, rfl⟩, RT.below (by omega) (by omega) (by omega), RT.kept, fun u bu => ?_⟩
          obtain ⟨s1, d1⟩ := Both.right h.st h.rs h.far h.dj RT
          refine (drop_ok (s1.go bu) r x y ht ho hl hk hp hf).mono fun e2 w2 ⟨v', e1, S, T⟩ => ?_
          refine ⟨_, e1, rfl, ?_, T.keep⟩
          rw [hq] at R RT
          exact h.stepR hN hp hi.1 (by rw [hi.2.1, hpx]) (by rw [hpx]; exact ho) R RT bu S T
        · exact (rdrop_full h.rs r x y cR ht hi hl (by rw [hq]; omega)).mono fun e w' ⟨e1, b⟩ => by rw [e1]; exact h.stayV hNw ⟨_, rfl⟩ b fun u hu => (drop_full hu.st r x y ht ho hl hk hp (by omega)).mono fun e w' ⟨v, e1, e2, b⟩ => ⟨by rw [e1, e2], b⟩
/- Cells of a box. -/
theorem load_two {a0 a1 : Value} {T : TypeId} {g : Nat} {x y : Int} (h : w.heap[g]? = some (.cells #[a0, a1, .int .i64 x, .int .i64 y] T (0, 0))) : (loadVar 39 ⟨g, 2, none⟩).run Try.prog w = .ok (.agg #[.int .i64 x, .int .i64 y]) w :=
  run_loadVar_at w _ _ _ (fun j v hv => by
    rw [Addr.add_lit]
    match j with
    | 0 => simp at hv; rw [← hv]; simp [World.cell?, h]
    | 1 => simp at hv; rw [← hv]; simp [World.cell?, h]
    | j + 2 => simp at hv) (aggCell _) infoCell2
end
end Go.Proofs.Ytabbdclpjghdbaa.Stk
