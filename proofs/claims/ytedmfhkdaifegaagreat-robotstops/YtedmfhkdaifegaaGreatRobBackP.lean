/-
  The way back of a move that a robot was led, in plain words; a robot that goes there and back.
-/
import Derived.Test.YtedmfhkdaifegaaGreatRobLed
namespace Go.Proofs.YtedmfhkdaifegaaGreat.Rob
set_option linter.unusedVariables false
set_option linter.unusedSimpArgs false
open Go Go.RowKit Go.Shelf Go.Proofs Go.Proofs.YtedmfhkdaifegaaGreat.Lk Go.Proofs.YtedmfhkdaifegaaGreat.Plain

def backD (m : Mv) : Int := if m.kd = 1 then (m.dr + 2).tmod 4 else m.dr
def backB (m : Mv) : Mv := { m with fx := m.tx, fy := m.ty, fd := m.td, tx := m.fx, ty := m.fy, td := m.fd, dr := backD m, ma := 5 }
def backV (turn hoist : Int) (ku ka kv : Nat) (m : Mv) : Mv := { backB m with me := 5 + lastsP turn hoist ku ka kv (backB m) }
theorem legal_dir {W H : Int} {us : List Int} {m : Mv} (h : Grid.legalU W H us (gm m) = true) (hk : m.kd = 1) : 0 ≤ m.dr ∧ m.dr ≤ 3 := by
  unfold Grid.legalU at h
  simp only [Bool.and_eq_true] at h
  have h1 := h.1.1.1
  change (Grid.leadsP m.kd m.dr m.n ((m.fx, m.fy), m.fd)).2 = true at h1
  unfold Grid.leadsP at h1
  rw [if_pos hk] at h1
  simp only [Grid.mayShift, Bool.and_eq_true, decide_eq_true_eq] at h1
  omega
theorem legal_fits {W H : Int} {us : List Int} {m : Mv} (h : Grid.legalU W H us (gm m) = true) : Grid.fitsU W H us ((m.fx, m.fy), m.fd) = true := by
  unfold Grid.legalU at h
  simp only [Bool.and_eq_true] at h
  exact h.1.2
theorem legal_stay {W H : Int} {us : List Int} {m : Mv} (h : Grid.legalU W H us (gm m) = true) (hk : m.kd = 3 ∨ m.kd = 4) : m.dr = 0 ∧ m.n = 0 ∧ ((m.tx, m.ty), m.td) = ((m.fx, m.fy), m.fd) := by
  unfold Grid.legalU at h
  simp only [Bool.and_eq_true, decide_eq_true_eq] at h
  have h1 := h.1.1.1
  have h2 := h.1.1.2
  change (Grid.leadsP m.kd m.dr m.n ((m.fx, m.fy), m.fd)).2 = true at h1
  change ((m.tx, m.ty), m.td) = (Grid.leadsP m.kd m.dr m.n ((m.fx, m.fy), m.fd)).1 at h2
  unfold Grid.leadsP at h1 h2
  rw [if_neg (by omega), if_neg (by omega), if_pos hk] at h1 h2
  simp only [Grid.still, Bool.and_eq_true, decide_eq_true_eq] at h1
  exact ⟨by omega, by omega, h2⟩
theorem back_legal {W H : Int} {us : List Int} (hW : W ≤ 16) (hH : H ≤ 16) {m : Mv} (h : Grid.legalU W H us (gm m) = true) (turn hoist : Int) (ku ka kv : Nat) : Grid.legalU W H us (gm (backV turn hoist ku ka kv m)) = true := by
  rcases legal_kind h with ⟨k, _, _⟩ | k | k
  · have hm := (Grid.mem_moves (m := gm { m with ma := 0, me := 0 }) hW hH rfl rfl).2 ⟨h, Or.inl k⟩
    have hb := (Grid.back_all hW hH hm).back
    refine legal_times (m := { backB m with ma := 0, me := 0 }) ?_ rfl
    have e : gm { backB m with ma := 0, me := 0 } = Grid.backM (gm { m with ma := 0, me := 0 }) := rfl
    rw [e]
    exact hb
  · have hm := (Grid.mem_moves (m := gm { m with ma := 0, me := 0 }) hW hH rfl rfl).2 ⟨h, Or.inr k⟩
    have hb := (Grid.back_all hW hH hm).back
    refine legal_times (m := { backB m with ma := 0, me := 0 }) ?_ rfl
    have e : gm { backB m with ma := 0, me := 0 } = Grid.backM (gm { m with ma := 0, me := 0 }) := rfl
    rw [e]
    exact hb
  · obtain ⟨a1, a2, a3⟩ := legal_stay h k
    have hd : backD m = 0 := by
      unfold backD
      rw [if_neg (by omega)]
      exact a1
    have e : gm (backV turn hoist ku ka kv m) = (m.kd, 0, 0, ((m.fx, m.fy), m.fd), ((m.fx, m.fy), m.fd), 5, 5 + lastsP turn hoist ku ka kv (backB m)) := by
      show (m.kd, backD m, m.n, ((m.tx, m.ty), m.td), ((m.fx, m.fy), m.fd), (5 : Int), _) = _
      rw [hd, a2, a3]
      rfl
    rw [e]
    exact lift_legal hW hH (legal_fits h) m.kd k _ _
theorem led_back {W H : Int} {us : List Int} {turn hoist : Int} {ku ka kv : Nat} (hW : W ≤ 16) (hH : H ≤ 16) (ok : Kin.Ok ku ka kv) (t1 : 1 ≤ turn) (t2 : turn ≤ 1000) (h1 : 1 ≤ hoist) (h2 : hoist ≤ 1000) {p : Grid.Pose} {m : Mv} (h : Led W H us turn hoist ku ka kv p m) :
    Led W H us turn hoist ku ka kv ((m.tx, m.ty), m.td) (backV turn hoist ku ka kv m) ∧ (((backV turn hoist ku ka kv m).tx, (backV turn hoist ku ka kv m).ty), (backV turn hoist ku ka kv m).td) = p := by
  have hl := back_legal hW hH h.legal turn hoist ku ka kv
  have hb := lasts_bd ok t1 t2 h1 h2 hl
  exact ⟨⟨rfl, hl, (by decide : (0 : Int) ≤ 5), (by decide : (5 : Int) ≤ 1000), rfl, hb.1, hb.2⟩, h.frm⟩
/- A robot on its way there and back, ahead of the k-th move. -/
structure Th (w : World) (R : Wh) (g : Nat) (turn hoist : Int) (p0 : Grid.Pose) (k : Nat) (rr : Rb) (mm : Mv) (nm : Int) (u : World) : Prop where
  rb : RbAt u R rr
  ok : OkR (20000 * (k : Int)) rr
  un : under rr = false
  lt_ : rr.lt = (k : Int)
  ep_ : rr.ep = 0
  nb : rr.nb = 0
  led : Led R.W R.H R.us turn hoist R.ku R.ka R.kv (posR rr) mm
  k2 : k ≤ 2
  nm_ : k < 2 → nm = (k : Int) + 1
  zero : k ≠ 1 → posR rr = p0
  one : k = 1 → ((mm.tx, mm.ty), mm.td) = p0
  bel : Below w.heap.size w u
  tl : u.heap[g]? = some (.cells (tlA (goT 0 0 nm mm)) 46 (0, 0))
/- The robot behind its last tick. -/
structure Fi (w : World) (R : Wh) (g : Nat) (T : Tl) (mm : Mv) (n lt : Int) (u : World) (rE : Rb) : Prop where
  rb : RbAt u R rE
  ok : OkR n rE
  un : under rE = false
  lt_ : rE.lt = lt
  ep_ : rE.ep = 0
  nb : rE.nb = 0
  pos : posR rE = ((mm.tx, mm.ty), mm.td)
  bel : Below w.heap.size w u
  tl : u.heap[g]? = some (.cells (tlA T) 46 (0, 0))
theorem Fi.go {w : World} {R : Wh} {g : Nat} {T : Tl} {mm : Mv} {n lt : Int} {u u' : World} {rE : Rb} (h : Fi w R g T mm n lt u rE) (b : Below u.heap.size u u') : Fi w R g T mm n lt u' rE :=
  ⟨h.rb.go b, h.ok, h.un, h.lt_, h.ep_, h.nb, h.pos, bcat h.bel b, (b.block _ (Array.getElem?_eq_some_iff.1 h.tl).1).trans h.tl⟩
theorem Dl.fin {w : World} {R : Wh} {g : Nat} {T : Tl} {m : Mv} {n lt left : Int} {u u' : World} {r : Rb} (h : Dl w R g T m 0 n lt left u r) (hn : 0 ≤ n) (hl : left ≤ 1) (hR : RbAt u' R (ended r)) (T1 : Tn R u u') : Fi w R g T m (n + 1) (lt + 1) u' (ended r) := by
  obtain ⟨_, _, _, a1, a2, a3, a4, a5⟩ := h.last hl
  exact ⟨hR, h.ok.ended hn, a4, a1, a2, a3, a5, bel_tn h.bel T1 h.pp h.pk h.bel.size, (T1.block _ h.gl h.gp h.gk).trans h.tl⟩
theorem Th.next {w : World} {R : Wh} {g : Nat} {turn hoist : Int} {p0 : Grid.Pose} {k : Nat} {rr : Rb} {mm : Mv} {nm : Int} {u u2 u' : World} {rE : Rb} {n : Int} {T : Tl} (h : Th w R g turn hoist p0 k rr mm nm u) (hk : k < 2) (hW : R.W ≤ 16) (hH : R.H ≤ 16) (ok : Kin.Ok R.ku R.ka R.kv) (t1 : 1 ≤ turn) (t2 : turn ≤ 1000) (h1 : 1 ≤ hoist) (h2 : hoist ≤ 1000) (hF : Fi w R g T mm n ((k : Int) + 1) u2 rE) (hn : n ≤ 20000 * ((k : Int) + 1)) (hR : RbAt u' R rE) (hb : Below w.heap.size w u')
    (ht : u'.heap[g]? = some (.cells (tlA (goT 0 0 2 (backV turn hoist R.ku R.ka R.kv mm))) 46 (0, 0))) : Th w R g turn hoist p0 (k + 1) rE (backV turn hoist R.ku R.ka R.kv mm) 2 u' := by
  obtain ⟨hL, hto⟩ := led_back hW hH ok t1 t2 h1 h2 h.led
  refine ⟨hR, hF.ok.more (by omega), hF.un, by rw [hF.lt_]; omega, hF.ep_, hF.nb, by rw [hF.pos]; exact hL, by omega, fun hh => by omega, fun hh => ?_, fun hh => ?_, hb, ht⟩
  · rw [hF.pos]
    exact h.one (by omega)
  · rw [hto]
    exact h.zero (by omega)
end Go.Proofs.YtedmfhkdaifegaaGreat.Rob
