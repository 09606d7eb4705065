/-
  A robot that is stopping, in memory and in plain words.
-/
import Derived.Test.YtedmfhkdaifegaaGreatRobStopsPlain
namespace Go.Proofs.YtedmfhkdaifegaaGreat.Rob
set_option linter.unusedVariables false
set_option linter.unusedSimpArgs false
open Go Go.RowKit Go.Shelf Go.Proofs Go.Proofs.YtedmfhkdaifegaaGreat.Lk Go.Proofs.YtedmfhkdaifegaaGreat.Plain

/- What a stop leaves of a move. -/
structure Cutted (W H : Int) (us : List Int) (m mc : Mv) : Prop where
  kd : mc.kd = m.kd
  frm : mc.fx = m.fx ∧ mc.fy = m.fy ∧ mc.fd = m.fd
  n1 : mc.n ≤ m.n
  n0 : 0 ≤ mc.n
  legal : m.kd = 1 → 0 < mc.n → Grid.legalU W H us (gm mc) = true
  stay : m.kd = 1 → mc.n = 0 → ((mc.tx, mc.ty), mc.td) = ((m.fx, m.fy), m.fd)
  same : m.kd ≠ 1 → mc = m
theorem legal_n {W H : Int} {us : List Int} {m : Mv} (h : Grid.legalU W H us (gm m) = true) : 0 ≤ m.n := by
  rcases legal_kind h with ⟨_, a, _⟩ | k | k
  · omega
  · unfold Grid.legalU at h
    simp only [Bool.and_eq_true, decide_eq_true_eq] at h
    have h1 := h.1.1.1
    change (Grid.leadsP m.kd m.dr m.n ((m.fx, m.fy), m.fd)).2 = true at h1
    unfold Grid.leadsP at h1
    rw [if_neg (by omega), if_pos k] at h1
    simp only [Grid.still, Bool.and_eq_true, decide_eq_true_eq] at h1
    omega
  · have := (legal_stay h k).2.1
    omega
/- A robot under way with a legal move, not stopping yet, hears a newer stop. -/
theorem stop_cut {R : Wh} {r : Rb} {m : Mv} {ep : Int} {n : Int} (hW : R.W ≤ 16) (hH : R.H ≤ 16) (okk : Kin.Ok R.ku R.ka R.kv) (ok : OkR n r) (hu : under r = true) (hm : r.mv = m) (hs : r.st = false) (hl : Grid.legalU R.W R.H R.us (gm m) = true) :
    Cutted R.W R.H R.us m (stopP R r ep).mv ∧ under (stopP R r ep) = true ∧ (stopP R r ep).st = true ∧ (stopP R r ep).la = r.la ∧ 1 ≤ (stopP R r ep).lf ∧ ((stopP R r ep).lf ≤ r.lf ∨ (m.kd = 1 ∧ (stopP R r ep).lf ≤ max (m.n * R.ku) 1)) := by
  have hlf : 1 ≤ r.lf := by unfold under at hu; simp only [decide_eq_true_eq] at hu; omega
  unfold stopP
  rw [if_pos hu]
  by_cases hk : m.kd = 1
  · rw [if_pos ⟨by rw [hm]; exact hk, hs⟩]
    obtain ⟨hr, d0, d3, n1, n2⟩ := run_of hl hk
    have hsm := stop_small (u := R.ku) (a := R.ka) (v := R.kv) okk (n := m.n) (t := r.gn) n1 n2
    have hmx : (1 : Int) ≤ max ((Kin.stopT R.ku R.ka R.kv m.n r.gn : Nat) : Int) 1 := by omega
    have hfit := (Grid.legal_run hW hH ⟨d0, d3⟩ ⟨n1, n2⟩).1 hr
    have hto : Grid.shiftR ((m.fx, m.fy), m.fd) m.dr (Kin.stopC R.ku R.ka R.kv m.n r.gn : Nat) = Grid.shiftP ((m.fx, m.fy), m.fd) m.dr (Kin.stopC R.ku R.ka R.kv m.n r.gn : Nat) := by
      unfold Grid.shiftR Grid.mayShift
      rw [if_pos (by simp only [Bool.and_eq_true, decide_eq_true_eq]; omega)]
    have ecut : cutTo R (newEp r ep) = Grid.shiftP ((m.fx, m.fy), m.fd) m.dr (Kin.stopC R.ku R.ka R.kv m.n r.gn : Nat) := by
      rw [← hto, ← hm]
      rfl
    refine ⟨⟨?_, ?_, ?_, ?_, fun _ hn => ?_, fun _ hn => ?_, fun h => absurd hk h⟩, ?_, rfl, rfl, ?_, Or.inr ⟨hk, ?_⟩⟩
    · show r.mv.kd = m.kd; rw [hm]
    · show r.mv.fx = m.fx ∧ r.mv.fy = m.fy ∧ r.mv.fd = m.fd; rw [hm]; exact ⟨rfl, rfl, rfl⟩
    · show ((Kin.stopC R.ku R.ka R.kv r.mv.n r.gn : Nat) : Int) ≤ m.n; rw [hm]; exact hsm.1
    · show (0 : Int) ≤ ((Kin.stopC R.ku R.ka R.kv r.mv.n r.gn : Nat) : Int); omega
    · have hn : (0 : Int) < ((Kin.stopC R.ku R.ka R.kv r.mv.n r.gn : Nat) : Int) := hn
      rw [hm] at hn
      have h := run_fewer hW hH hl hk (k := ((Kin.stopC R.ku R.ka R.kv m.n r.gn : Nat) : Int)) (by omega) hsm.1 (cutTo R (newEp r ep)).1.1 (cutTo R (newEp r ep)).1.2 m.ma m.me (cutTo R (newEp r ep)).2 (by rw [ecut])
      have e : (cutP R (newEp r ep)).mv = { m with n := ((Kin.stopC R.ku R.ka R.kv m.n r.gn : Nat) : Int), tx := (cutTo R (newEp r ep)).1.1, ty := (cutTo R (newEp r ep)).1.2, td := (cutTo R (newEp r ep)).2, ma := m.ma, me := m.me } := by
        show ({ r.mv with n := ((Kin.stopC R.ku R.ka R.kv r.mv.n r.gn : Nat) : Int), tx := (cutTo R (newEp r ep)).1.1, ty := (cutTo R (newEp r ep)).1.2, td := (cutTo R (newEp r ep)).2 } : Mv) = _
        rw [hm]
      show Grid.legalU R.W R.H R.us (gm (cutP R (newEp r ep)).mv) = true
      rw [e]
      exact h
    · have hn : ((Kin.stopC R.ku R.ka R.kv r.mv.n r.gn : Nat) : Int) = 0 := hn
      rw [hm] at hn
      show (cutTo R (newEp r ep)) = ((m.fx, m.fy), m.fd)
      rw [ecut, hn]
      obtain ⟨q1, q2, q3, q4⟩ := Grid.fits_near hW hH hfit.1
      exact Grid.shift_zero q1 q2 q3 q4
    · show decide (0 < max ((Kin.stopT R.ku R.ka R.kv r.mv.n r.gn : Nat) : Int) 1) = true
      rw [decide_eq_true_iff, hm]
      omega
    · show 1 ≤ max ((Kin.stopT R.ku R.ka R.kv r.mv.n r.gn : Nat) : Int) 1
      omega
    · show max ((Kin.stopT R.ku R.ka R.kv r.mv.n r.gn : Nat) : Int) 1 ≤ max (m.n * R.ku) 1
      rw [hm]
      have := hsm.2
      omega
  · rw [if_neg (fun f => hk (by rw [← hm]; exact f.1))]
    refine ⟨⟨?_, ?_, ?_, ?_, fun h => absurd h hk, fun h => absurd h hk, fun _ => hm⟩, hu, rfl, rfl, hlf, Or.inl (Int.le_refl _)⟩
    · show r.mv.kd = m.kd; rw [hm]
    · show r.mv.fx = m.fx ∧ r.mv.fy = m.fy ∧ r.mv.fd = m.fd; rw [hm]; exact ⟨rfl, rfl, rfl⟩
    · show r.mv.n ≤ m.n; rw [hm]; exact Int.le_refl _
    · show 0 ≤ r.mv.n; rw [hm]; exact legal_n hl
/- What it tells when it hears the stop: nothing, it goes on. -/
theorem stop_hear {R : Wh} {r : Rb} {t : Tl} (h : newStop r t) (hu : under r = true) : hearL R r t = none ∧ hearR R r t = stopP R r t.ep ∧ hearH R r t = 0 := by
  have hn := hear_new (R := R) h
  obtain ⟨h1, h2, h3⟩ := h
  have n1 : ¬ t.rb ≠ r.nb := fun f => f h1
  have n2 : ¬ (t.kd = 1 ∧ t.ep < r.ep) := fun f => by omega
  have n3 : ¬ (t.kd = 1 ∧ begs R r t = true) := fun f => by omega
  refine ⟨?_, hn.1, ?_⟩
  · unfold hearL
    rw [if_neg n1, if_neg n2, if_neg n3, if_pos ⟨h2, h3⟩, if_pos hu]
  · rw [hn.2]
    unfold stopH
    rw [if_pos hu]
/- A robot that is stopping: so many ticks are left. -/
structure Sd (w : World) (R : Wh) (g : Nat) (T : Tl) (mc : Mv) (n left : Int) (u : World) (r : Rb) : Prop where
  rb : RbAt u R r
  ok : OkR n r
  un : under r = true
  rest_ : rest r = left
  mv : r.mv = mc
  st : r.st = true
  ep_ : r.ep = 9
  nb : r.nb = 0
  bel : Below w.heap.size w u
  tl : u.heap[g]? = some (.cells (tlA T) 46 (0, 0))
  gp : g ≠ R.p
  gk : g ≠ R.k
  pp : w.heap.size ≤ R.p
  pk : w.heap.size ≤ R.k
theorem Sd.gl {w : World} {R : Wh} {g : Nat} {T : Tl} {mc : Mv} {n left : Int} {u : World} {r : Rb} (h : Sd w R g T mc n left u r) : g < u.heap.size := (Array.getElem?_eq_some_iff.1 h.tl).1
theorem Sd.go {w : World} {R : Wh} {g : Nat} {T : Tl} {mc : Mv} {n left : Int} {u u' : World} {r : Rb} (h : Sd w R g T mc n left u r) (b : Below u.heap.size u u') : Sd w R g T mc n left u' r :=
  ⟨h.rb.go b, h.ok, h.un, h.rest_, h.mv, h.st, h.ep_, h.nb, bcat h.bel b, (b.block _ h.gl).trans h.tl, h.gp, h.gk, h.pp, h.pk⟩
theorem Sd.tick {w : World} {R : Wh} {g : Nat} {T : Tl} {mc : Mv} {n left : Int} {u u' : World} {r : Rb} (h : Sd w R g T mc n left u r) (hn : 0 ≤ n) (hl : 1 < left) (hR : RbAt u' R (tickR r)) (T1 : Tn R u u') : Sd w R g T mc (n + 1) (left - 1) u' (tickR r) := by
  obtain ⟨_, _, a1, a2, a3, a4, a5, a6, a7, _, _, _⟩ := tick_more h.ok h.un (by rw [h.rest_]; exact hl)
  exact ⟨hR, h.ok.tick hn, a1, by rw [a2, h.rest_], a3.trans h.mv, a4.trans h.st, a6.trans h.ep_, a7.trans h.nb, bel_tn h.bel T1 h.pp h.pk h.bel.size, (T1.block _ h.gl h.gp h.gk).trans h.tl, h.gp, h.gk, h.pp, h.pk⟩
theorem Sd.how {w : World} {R : Wh} {g : Nat} {T : Tl} {mc : Mv} {n left : Int} {u : World} {r : Rb} (h : Sd w R g T mc n left u r) (hl : 1 < left) : tickH r = 0 ∧ tickM r = mv0 := by
  obtain ⟨a1, a2, _⟩ := tick_more h.ok h.un (by rw [h.rest_]; exact hl)
  exact ⟨a1, a2⟩
theorem Sd.late {w : World} {R : Wh} {g : Nat} {T : Tl} {mc : Mv} {n left : Int} {u u' : World} {r : Rb} (h : Sd w R g T mc n left u r) (d : Int) (hd : d ≤ 1000) (hl : r.la ≤ 900000) (hR : RbAt u' R (lateR r d)) (o : Only R.p u u') : Sd w R g T mc n (left + max 0 d) u' (lateR r d) := by
  obtain ⟨a1, a2, a3, a4, a5, a6, _, a8⟩ := late_under h.ok h.un d
  exact ⟨hR, h.ok.late d, a1, by rw [a8 hd hl, h.rest_], a2.trans h.mv, a3.trans h.st, a5.trans h.ep_, a6.trans h.nb, Below.only h.bel o h.pp, (o.block _ h.gp).trans h.tl, h.gp, h.gk, h.pp, h.pk⟩
theorem Sd.last {w : World} {R : Wh} {g : Nat} {T : Tl} {mc : Mv} {n left : Int} {u : World} {r : Rb} (h : Sd w R g T mc n left u r) (hl : left ≤ 1) : tickH r = 2 ∧ tickM r = mc ∧ tickR r = ended r ∧ under (ended r) = false ∧ (ended r).mv = mv0 ∧ posR (ended r) = ((mc.tx, mc.ty), mc.td) ∧ tellP (ended r) = haltP (ended r) ∧ (ended r).nb = 0 ∧ (ended r).ep = 9 := by
  obtain ⟨a1, a2, a3⟩ := tick_last h.ok h.un (by rw [h.rest_]; exact hl)
  rw [h.st] at a1
  have hlt : (ended r).lt = 0 := by
    show (if r.st then r.lt else r.lt + 1) = 0
    rw [h.st, if_pos rfl]
    exact (h.ok.halt h.st).1
  refine ⟨a1, a2.trans h.mv, a3, rfl, rfl, by rw [← h.mv]; rfl, ?_, h.nb, h.ep_⟩
  unfold tellP
  rw [if_pos]
  unfold stopd
  rw [hlt, show (ended r).ep = 9 from h.ep_]
  rfl
end Go.Proofs.YtedmfhkdaifegaaGreat.Rob
