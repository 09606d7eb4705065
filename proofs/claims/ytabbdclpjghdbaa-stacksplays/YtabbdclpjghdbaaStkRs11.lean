/-
  A lift, a drop on both, side by side.
-/
import Derived.Test.YtabbdclpjghdbaaStkRs10
namespace Go.Proofs.Ytabbdclpjghdbaa.Stk
set_option linter.unusedVariables false
set_option linter.unusedSimpArgs false
open Go Go.RowKit Go.Shelf Go.Proofs Go.Proofs.Ytabbdclpjghdbaa.Grid
attribute [local go_sem] Oper.semAt_some

theorem set_fst {l : List Pile} {k : Nat} {p : Pile} (h : l[k]? = some p) (v : Value) (bs : List Int) : (l.set k (p.1, v, bs)).map (fun p => p.1) = l.map (fun p => p.1) := by
  apply List.ext_getElem?
  intro j
  rw [List.getElem?_map, List.getElem?_set, List.getElem?_map]
  by_cases e : k = j
  · subst e
    rw [if_pos rfl, if_pos (List.getElem?_eq_some_iff.1 h).1, h]
    rfl
  · rw [if_neg e]
section
variable {KP : Sk} {KR : Rk} {c : Conf} {us : List Int} {cs : Array Value} {vc : Value} {ps qs ps' qs' : List Pile} {ls ls' : List Int} {w w' : World} {N : Nat}
theorem RTurn.below (h : RTurn KR qs qs' w w') (hN : N ≤ w.heap.size) (hr : N ≤ KR.rb) (hl : N ≤ KR.lb) : Below N w w' :=
  ⟨h.os, h.tape, h.output, h.size, fun b hb => h.keep b (by omega) (by omega) (by omega)⟩
theorem open_in {x : Cell} (h : openU c.W c.H us x = true) : In c.W c.H x := by
  unfold openU at h
  rw [Bool.and_eq_true] at h
  exact of_decide_eq_true h.1
/- What both have come to behind a call on each. -/
def Nx (KP : Sk) (KR : Rk) (c : Conf) (us : List Int) (cs : Array Value) (vc : Value) (N : Nat) (ps : List Pile) (w : World) (f : Nat) (args : Array Value) (e : Ending) (w' : World) : Prop :=
  ∃ v, e = .returned v ∧ Below N w w' ∧ (∀ b, b < w.heap.size → ¬ Foot KP ps b → w'.heap[b]? = w.heap[b]?) ∧ ∀ u, Below w'.heap.size w' u → Calls Try.prog f args u fun e2 w2 => e2 = .returned v ∧ ∃ ps2 qs2 ls2, Both KP KR c us cs vc ps2 qs2 ls2 w2 ∧ Below N w w2
theorem Both.stay (h : Both KP KR c us cs vc ps qs ls w) (hN : N ≤ w.heap.size) {f : Nat} {args : Array Value} {v : Value} (b : Below w.heap.size w w') (k : ∀ u, Both KP KR c us cs vc ps qs ls u → Calls Try.prog f args u fun e2 w2 => e2 = .returned v ∧ Below u.heap.size u w2) : Nx KP KR c us cs vc N ps w f args (.returned v) w' :=
  ⟨v, rfl, b.mono hN, fun b' hb' _ => b.block b' hb', fun u bu => (k u ((h.go b).go bu)).mono fun e2 w2 ⟨q1, q2⟩ => ⟨q1, ps, qs, ls, ((h.go b).go bu).go q2, (b.trans ((bu.trans (q2.mono bu.size)).mono b.size)).mono hN⟩⟩
theorem Both.step (h : Both KP KR c us cs vc ps qs ls w) (hN : N ≤ KP.b0) {k i : Nat} {p q : Pile} (hp : ps[k]? = some p) (hi : qs[i]? = some q) (e : q.1 = p.1) (ho : openU c.W c.H us p.1 = true) {v' v2 : Value} {bs : List Int} {u w2 : World} (S : StAt KP c us (ps.set k (p.1, v', bs)) ls' w') (T : Turn KP ps (ps.set k (p.1, v', bs)) w w') (bu : Below w'.heap.size w' u) (R : RsAt w2 KR cs vc (qs.set i (q.1, v2, bs)) ls') (RT : RTurn KR qs (qs.set i (q.1, v2, bs)) u w2) :
    ∃ ps2 qs2 ls2, Both KP KR c us cs vc ps2 qs2 ls2 w2 ∧ Below N w w2 := by
  obtain ⟨r1, d1⟩ := h.left T
  have hb0 := h.st.b0_lt
  have s01 : KP.b0 ≤ KP.b1 := by have := h.st.s0; have := h.st.s1; omega
  have hfar := h.far
  have hbr := h.rs.br
  have hbl := h.rs.bl
  obtain ⟨s2, d2⟩ := Both.right (S.go bu) (r1.go bu) h.far d1 RT
  have b1 : Below N w w' := T.below (by omega) fun b hb => Nat.le_trans hN (h.st.foot_ge b hb)
  have b2 : Below N u w2 := RT.below (by have := b1.size; have := bu.size; omega) (by omega) (by omega)
  refine ⟨_, _, ls', ⟨s2, R, h.like.set h.nd (h.like.nodup h.nd) hp hi e v' v2 bs, by rw [set_fst hp]; exact h.nd, h.far, d2, fun r hr hc => by
    rcases List.mem_or_eq_of_mem_set hr with hr | rfl
    · exact h.ce r hr hc
    · rw [ho] at hc; cases hc⟩, ?_⟩
  exact (b1.trans (bu.mono (by have := b1.size; omega))).trans b2
theorem both_lift (h : Both KP KR c us cs vc ps qs ls w) (hN : N ≤ KP.b0) (r x y : Int) :
    Calls Try.prog 13 #[.pointer (some ⟨KP.s, 0, none⟩), .int .i64 r, .agg #[.int .i64 x, .int .i64 y]] w fun e w' => Nx KP KR c us cs vc N ps w 14 #[.pointer (some ⟨KR.s, 0, none⟩), .int .i64 r, .agg #[.int .i64 x, .int .i64 y]] e w' := by
  have hNw : N ≤ w.heap.size := Nat.le_trans hN h.st.b0_lt
  cases ht : thereB ls r with
  | false => exact (lift_there h.st r x y ht).mono fun e w' ⟨v, e1, e2, b⟩ => by rw [e1]; exact h.stay hNw b fun u hu => by rw [e2]; exact rlift_arg hu.rs r x y (Or.inl ht)
  | true =>
    cases ho : openU c.W c.H us (x, y) with
    | false => exact (lift_open h.st r x y ht ho).mono fun e w' ⟨v, e1, e2, b⟩ => by rw [e1]; exact h.stay hNw b fun u hu => by rw [e2]; exact rlift_arg hu.rs r x y (Or.inr (h.like.no ho))
    | true =>
      obtain ⟨k, p, hk, _, _, hp, hpx⟩ := h.st.num (open_in ho)
      obtain ⟨i, q, hi, hq⟩ := h.like.hs h.nd hp (by rw [hpx]; exact ho)
      rw [hpx] at hi
      by_cases hl : loadP ls r = 0
      · by_cases hz : p.2.2 = []
        · exact (lift_none h.st r x y ht ho hl hk hp hz).mono fun e w' ⟨v, e1, e2, b⟩ => by rw [e1]; exact h.stay hNw b fun u hu => by rw [e2]; exact rlift_none hu.rs r x y ht hi hl (by rw [hq]; exact hz)
        · refine (lift_ok h.st r x y ht ho hl hk hp hz).mono fun e w' ⟨v', e1, S, T⟩ => ?_
          refine ⟨_, e1, T.below hNw fun b hb => Nat.le_trans hN (h.st.foot_ge b hb), T.keep, fun u bu => ?_⟩
          refine (rlift_ok ((h.left T).1.go bu) r x y ht hi hl (by rw [hq]; exact hz)).mono fun e2 w2 ⟨v2, q1, R, RT⟩ => ?_
          rw [hq] at q1 R RT
          exact ⟨q1, h.step hN hp hi.1 (by rw [hi.2.1, hpx]) (by rw [hpx]; exact ho) S T bu R RT⟩
      · exact (lift_state h.st r x y ht ho hl).mono fun e w' ⟨v, e1, e2, b⟩ => by rw [e1]; exact h.stay hNw b fun u hu => by rw [e2]; exact rlift_state hu.rs r x y ht hi hl
theorem both_drop {F : Nat → Prop} {vb vp vr vs : Value} (h : Both KP KR c us (cfA c vb vp vr vs) vc ps qs ls w) (hN : N ≤ KP.b0) (hA : ConfAt F c vb vp vr vs w) (hF : ∀ b, F b → b < N) (l1 : c.blocked.length ≤ 9223372036854775807) (l2 : c.ports.length ≤ 9223372036854775807) (l3 : c.robots.length ≤ 9223372036854775807) (hro : ∀ x, roomP c us x = roomR c x) (r x y : Int) :
    Calls Try.prog 15 #[.pointer (some ⟨KP.s, 0, none⟩), .int .i64 r, .agg #[.int .i64 x, .int .i64 y]] w fun e w' => Nx KP KR c us (cfA c vb vp vr vs) vc N ps w 16 #[.pointer (some ⟨KR.s, 0, none⟩), .int .i64 r, .agg #[.int .i64 x, .int .i64 y]] e w' := by
  have hNw : N ≤ w.heap.size := Nat.le_trans hN h.st.b0_lt
  have cR : ∀ w1, Below N w w1 → ∀ qs1 ls1, RsAt w1 KR (cfA c vb vp vr vs) vc qs1 ls1 → ∀ u, Below w1.heap.size w1 u → Calls Try.prog 46 #[.pointer (some ⟨KR.s, 0, none⟩), .agg #[.int .i64 x, .int .i64 y]] u fun e w' => ∃ v, e = .returned v ∧ v = .int .i64 (roomP c us (x, y)) ∧ Below u.heap.size u w' := fun w1 b1 qs1 ls1 hr u bu => by
    have bN : Below N w u := b1.trans (bu.mono (Nat.le_trans hNw b1.size))
    rw [hro]
    exact rroom_any (hr.go bu) (hA.stable fun g hg => bN.block g (hF g hg)) (fun b hb => Nat.lt_of_lt_of_le (hF b hb) (Nat.le_trans hNw bN.size)) l1 l2 l3 x y
  cases ht : thereB ls r with
  | false => exact (drop_there h.st r x y ht).mono fun e w' ⟨v, e1, e2, b⟩ => by rw [e1]; exact h.stay hNw b fun u hu => by rw [e2]; exact rdrop_arg hu.rs r x y (Or.inl ht)
  | true =>
    cases ho : openU c.W c.H us (x, y) with
    | false => exact (drop_open h.st r x y ht ho).mono fun e w' ⟨v, e1, e2, b⟩ => by rw [e1]; exact h.stay hNw b fun u hu => by rw [e2]; exact rdrop_arg hu.rs r x y (Or.inr (h.like.no ho))
    | true =>
      obtain ⟨k, p, hk, _, _, hp, hpx⟩ := h.st.num (open_in ho)
      obtain ⟨i, q, hi, hq⟩ := h.like.hs h.nd hp (by rw [hpx]; exact ho)
      rw [hpx] at hi
      by_cases hl : loadP ls r = 0
      · exact (drop_state h.st r x y ht ho hl).mono fun e w' ⟨v, e1, e2, b⟩ => by rw [e1]; exact h.stay hNw b fun u hu => by rw [e2]; exact rdrop_state hu.rs r x y ht hi hl
      · by_cases hf : (p.2.2.length : Int) < roomP c us (x, y)
        · refine (drop_ok h.st r x y ht ho hl hk hp hf).mono fun e w' ⟨v', e1, S, T⟩ => ?_
          have b1 : Below N w w' := T.below hNw fun b hb => Nat.le_trans hN (h.st.foot_ge b hb)
          refine ⟨_, e1, b1, T.keep, fun u bu => ?_⟩
          have hr := (h.left T).1.go bu
          refine (rdrop_ok hr r x y (cR u (b1.trans (bu.mono (Nat.le_trans hNw b1.size))) _ _ hr) (room_le h.st (x, y)) ht hi hl (by rw [hq]; exact hf)).mono fun e2 w2 ⟨v2, q1, R, RT⟩ => ?_
          rw [hq] at R RT
          exact ⟨q1, h.step hN hp hi.1 (by rw [hi.2.1, hpx]) (by rw [hpx]; exact ho) S T bu R RT⟩
        · refine (drop_full h.st r x y ht ho hl hk hp (by omega)).mono fun e w' ⟨v, e1, e2, b⟩ => ?_
          rw [e1, e2]
          exact ⟨_, rfl, b.mono hNw, fun b' hb' _ => b.block b' hb', fun u bu => by
            have bN : Below N w u := (b.trans (bu.mono b.size)).mono hNw
            have hu := (h.go b).go bu
            exact (rdrop_full hu.rs r x y (cR u bN _ _ hu.rs) ht hi hl (by rw [hq]; omega)).mono fun e2 w2 ⟨q1, q2⟩ => ⟨q1, ps, qs, ls, hu.go q2, bN.trans (q2.mono (Nat.le_trans hNw bN.size))⟩⟩
end
end Go.Proofs.Ytabbdclpjghdbaa.Stk
