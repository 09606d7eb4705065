/-
  The go-ahead that leads a robot on from where it stands, in plain words.
-/
import Derived.Test.YtedmfhkdaifegaaGreatRobOnceBase
import Derived.Test.YtedmfhkdaifegaaGreatRobRef
import Derived.Test.YtedmfhkdaifegaaGreatRgL
import Derived.Test.YtedmfhkdaifegaaGreatRgK
namespace Go.Proofs.YtedmfhkdaifegaaGreat.Rob
set_option linter.unusedVariables false
set_option linter.unusedSimpArgs false
open Go Go.RowKit Go.Shelf Go.Proofs Go.Proofs.YtedmfhkdaifegaaGreat.Lk Go.Proofs.YtedmfhkdaifegaaGreat.Plain

def mvOf (m : Grid.Move) : Mv := ⟨m.1, m.2.1, m.2.2.1, m.2.2.2.1.1.1, m.2.2.2.1.1.2, m.2.2.2.1.2, m.2.2.2.2.1.1.1, m.2.2.2.2.1.1.2, m.2.2.2.2.1.2, m.2.2.2.2.2.1, m.2.2.2.2.2.2⟩
theorem gm_of (m : Grid.Move) : gm (mvOf m) = m := rfl
theorem moveL_of (m : Grid.Move) : Grid.moveL m = mvL (mvOf m) := rfl
theorem mvOf_len (m : Grid.Move) : (Grid.moveL m).length = 11 := rfl
/- A move with the ticks of its beginning and its end. -/
def timed (turn hoist : Int) (ku ka kv : Nat) (b : Mv) (at_ : Int) : Mv := { b with ma := at_, me := at_ + lastsP turn hoist ku ka kv b }
/- What the law's gos says: the moves of a pose, the one picked, its beginning. -/
def gosM (turn hoist : Int) (ku ka kv : Nat) (l : List Grid.Move) (p : Grid.Pose) (n late : Int) : Mv :=
  if l = [] then ⟨3, 0, 0, p.1.1, p.1.2, p.2, p.1.1, p.1.2, p.2, 0, hoist⟩
  else timed turn hoist ku ka kv (mvOf ((l[(place n l.length).toNat]?).getD (gm mv0))) (place late 1000)
/- A go-ahead. -/
def goT (nb ep nm : Int) (m : Mv) : Tl := ⟨1, nb, ep, nm, m.kd, m.dr, m.n, m.fx, m.fy, m.fd, m.tx, m.ty, m.td, m.ma, m.me, 0, 0, false, 0⟩
theorem tmv_go (nb ep nm : Int) (m : Mv) : tmv (goT nb ep nm m) = m := rfl
/- A move that a robot at p can do, as long as it takes. -/
structure Led (W H : Int) (us : List Int) (turn hoist : Int) (ku ka kv : Nat) (p : Grid.Pose) (m : Mv) : Prop where
  frm : ((m.fx, m.fy), m.fd) = p
  legal : Grid.legalU W H us (gm m) = true
  at0 : 0 ≤ m.ma
  at1 : m.ma ≤ 1000
  en : m.me = m.ma + lastsP turn hoist ku ka kv m
  l1 : 1 ≤ lastsP turn hoist ku ka kv m
  l2 : lastsP turn hoist ku ka kv m ≤ 16000
theorem legal_times {W H : Int} {us : List Int} {m m' : Mv} (h : Grid.legalU W H us (gm m) = true) (e : m' = { m with ma := m'.ma, me := m'.me }) : Grid.legalU W H us (gm m') = true := by
  rw [e]
  exact h
theorem legal_kind {W H : Int} {us : List Int} {m : Mv} (h : Grid.legalU W H us (gm m) = true) : (m.kd = 1 ∧ 1 ≤ m.n ∧ m.n ≤ 16) ∨ m.kd = 2 ∨ m.kd = 3 ∨ m.kd = 4 := by
  unfold Grid.legalU at h
  simp only [Bool.and_eq_true] at h
  have h1 := h.1.1.1
  change (Grid.leadsP m.kd m.dr m.n ((m.fx, m.fy), m.fd)).2 = true at h1
  unfold Grid.leadsP at h1
  by_cases k1 : m.kd = 1
  · rw [if_pos k1] at h1
    simp only [Grid.mayShift, Bool.and_eq_true, decide_eq_true_eq] at h1
    exact Or.inl ⟨k1, by omega, by omega⟩
  · rw [if_neg k1] at h1
    by_cases k2 : m.kd = 2
    · exact Or.inr (Or.inl k2)
    · rw [if_neg k2] at h1
      by_cases k3 : m.kd = 3 ∨ m.kd = 4
      · exact Or.inr (Or.inr k3)
      · rw [if_neg k3] at h1
        cases h1
theorem lasts_bd {W H : Int} {us : List Int} {turn hoist : Int} {ku ka kv : Nat} (ok : Kin.Ok ku ka kv) (t1 : 1 ≤ turn) (t2 : turn ≤ 1000) (h1 : 1 ≤ hoist) (h2 : hoist ≤ 1000) {m : Mv} (h : Grid.legalU W H us (gm m) = true) : 1 ≤ lastsP turn hoist ku ka kv m ∧ lastsP turn hoist ku ka kv m ≤ 16000 := by
  unfold lastsP
  rcases legal_kind h with ⟨k, n1, n2⟩ | k | k
  · rw [if_pos k]
    obtain ⟨N, hN⟩ := Int.eq_ofNat_of_zero_le (show 0 ≤ m.n by omega)
    rw [hN, Kin.profI_in (by omega) (by omega), Kin.prof_len]
    have := Kin.spd_bd ok (n := N) (by omega) (by omega)
    omega
  · rw [if_neg (by omega), if_pos k]; omega
  · rw [if_neg (by omega), if_neg (by omega), if_pos k]; omega
/- A pose that fits may lift where it is. -/
theorem fits_zero {W H : Int} {us : List Int} {p : Grid.Pose} (hW : W ≤ 16) (hH : H ≤ 16) (hf : Grid.fitsU W H us p = true) : (Grid.boxOf p p).all (Grid.openU W H us) = true := by
  obtain ⟨n1, n2, n3, n4⟩ := Grid.fits_near hW hH hf
  obtain ⟨f1, f2⟩ := Grid.fits_iff.1 hf
  have hs := Grid.second_small (p := p) (by omega) (by omega) (by omega) (by omega)
  rw [List.all_eq_true]
  intro c hc
  unfold Grid.boxOf Grid.spanP at hc
  simp only at hc
  rw [Grid.mem_boxList] at hc
  rw [hs] at hc f2
  obtain ⟨⟨px, py⟩, pd⟩ := p
  obtain ⟨cx, cy⟩ := c
  cases pd
  · simp only [Bool.false_eq_true, if_false] at hc f2
    by_cases e : cx = px
    · have : cy = py := by omega
      rw [e, this]; exact f1
    · have e1 : cx = px + 1 := by omega
      have : cy = py := by omega
      rw [e1, this]; exact f2
  · simp only [if_true] at hc f2
    by_cases e : cy = py
    · have : cx = px := by omega
      rw [e, this]; exact f1
    · have e1 : cy = py + 1 := by omega
      have : cx = px := by omega
      rw [e1, this]; exact f2
theorem lift_legal {W H : Int} {us : List Int} {p : Grid.Pose} (hW : W ≤ 16) (hH : H ≤ 16) (hf : Grid.fitsU W H us p = true) (kd : Int) (hk : kd = 3 ∨ kd = 4) (a e : Int) : Grid.legalU W H us (kd, 0, 0, p, p, a, e) = true := by
  have hl : Grid.leadsP kd 0 0 p = (p, true) := by
    unfold Grid.leadsP
    rw [if_neg (by omega), if_neg (by omega), if_pos hk]
    rfl
  unfold Grid.legalU
  show ((Grid.leadsP kd 0 0 p).2 && decide (p = (Grid.leadsP kd 0 0 p).1) && Grid.fitsU W H us p && (Grid.boxOf p (Grid.leadsP kd 0 0 p).1).all (Grid.openU W H us)) = true
  rw [hl]
  show (true && decide (p = p) && Grid.fitsU W H us p && (Grid.boxOf p p).all (Grid.openU W H us)) = true
  rw [hf, fits_zero hW hH hf]
  simp
theorem home_fits {c : Grid.Conf} {G : Grid.GS} (hN : Grid.newP c = some G) {p : Grid.Pose} (hp : p ∈ c.robots) : Grid.fitsU c.W c.H G.uses p = true := by
  rw [Grid.fits_told hN, decide_eq_true_eq]
  have q := (Grid.new_some hN).1
  exact q.2.2.2.2.2.2.2.1 p hp
theorem place_pick (n : Int) {l : List Grid.Move} (hl : l ≠ []) : ∃ i : Nat, (place n l.length).toNat = i ∧ i < l.length := by
  have h0 : 0 < l.length := List.length_pos_iff.2 hl
  have := place_bd n l.length (by omega)
  exact ⟨_, rfl, by omega⟩
/- What gos tells is a move that the robot can do. -/
theorem gos_led {W H : Int} {us : List Int} {turn hoist : Int} {ku ka kv : Nat} (hW : W ≤ 16) (hH : H ≤ 16) (ok : Kin.Ok ku ka kv) (t1 : 1 ≤ turn) (t2 : turn ≤ 1000) (h1 : 1 ≤ hoist) (h2 : hoist ≤ 1000) {p : Grid.Pose} (hf : Grid.fitsU W H us p = true) (n late : Int) :
    Led W H us turn hoist ku ka kv p (gosM turn hoist ku ka kv (Grid.movesP W H us p) p n late) := by
  unfold gosM
  by_cases hl : Grid.movesP W H us p = []
  · rw [if_pos hl]
    refine ⟨rfl, lift_legal hW hH hf 3 (Or.inl rfl) 0 hoist, Int.le_refl _, (by decide : (0 : Int) ≤ 1000), ?_, ?_, ?_⟩
    · show hoist = 0 + lastsP turn hoist ku ka kv _
      unfold lastsP
      rw [if_neg (show ¬ (3 : Int) = 1 by decide), if_neg (show ¬ (3 : Int) = 2 by decide), if_pos (Or.inl rfl)]
      omega
    · unfold lastsP
      rw [if_neg (show ¬ (3 : Int) = 1 by decide), if_neg (show ¬ (3 : Int) = 2 by decide), if_pos (Or.inl rfl)]
      exact h1
    · unfold lastsP
      rw [if_neg (show ¬ (3 : Int) = 1 by decide), if_neg (show ¬ (3 : Int) = 2 by decide), if_pos (Or.inl rfl)]
      omega
  · rw [if_neg hl]
    obtain ⟨i, hi, hil⟩ := place_pick n hl
    rw [hi, List.getElem?_eq_getElem hil, Option.getD_some]
    obtain ⟨m, hm⟩ : ∃ m, (Grid.movesP W H us p)[i] = m := ⟨_, rfl⟩
    have hmem : m ∈ Grid.movesP W H us p := hm ▸ List.getElem_mem hil
    rw [hm]
    have hb := Grid.back_all hW hH hmem
    have hlg : Grid.legalU W H us (gm (timed turn hoist ku ka kv (mvOf m) (place late 1000))) = true := legal_times (m := mvOf m) (by rw [gm_of]; exact hb.legal) rfl
    have hbd := lasts_bd ok t1 t2 h1 h2 hlg
    have hpl := place_bd late 1000 (by decide)
    exact ⟨hb.from_, hlg, hpl.1, by show place late 1000 ≤ 1000; omega, rfl, hbd.1, hbd.2⟩
/- A robot that stands begins it. -/
theorem less_led {W H : Int} {us : List Int} {turn hoist : Int} {ku ka kv : Nat} {p : Grid.Pose} {m : Mv} (h : Led W H us turn hoist ku ka kv p m) : less m.me m.ma = lastsP turn hoist ku ka kv m := by
  have h1 := h.at0
  have h2 := h.at1
  have h3 := h.en
  have h4 := h.l1
  have h5 := h.l2
  unfold less cut
  repeat' split
  all_goals omega
theorem led_begs {R : Wh} {r : Rb} {turn hoist : Int} {ku ka kv : Nat} {m : Mv} (h : Led R.W R.H R.us turn hoist ku ka kv (posR r) m) (hu : under r = false) : begs R r (goT r.nb r.ep (r.lt + 1) m) = true := by
  have h4 := h.l1
  unfold begs
  rw [show (goT r.nb r.ep (r.lt + 1) m).ep = r.ep from rfl, show (goT r.nb r.ep (r.lt + 1) m).nm = r.lt + 1 from rfl, hu]
  rw [show (((goT r.nb r.ep (r.lt + 1) m).fx, (goT r.nb r.ep (r.lt + 1) m).fy), (goT r.nb r.ep (r.lt + 1) m).fd) = posR r from h.frm]
  rw [tmv_go, show (goT r.nb r.ep (r.lt + 1) m).me = m.me from rfl, show (goT r.nb r.ep (r.lt + 1) m).ma = m.ma from rfl, less_led h, h.legal]
  simp
  omega
/- A robot that was led: it has begun, as long as it takes is left. -/
theorem led_hear {R : Wh} {r : Rb} {turn hoist : Int} {ku ka kv : Nat} {m : Mv} (h : Led R.W R.H R.us turn hoist ku ka kv (posR r) m) (hu : under r = false) :
    hearL R r (goT r.nb r.ep (r.lt + 1) m) = none ∧ hearR R r (goT r.nb r.ep (r.lt + 1) m) = begun r (goT r.nb r.ep (r.lt + 1) m) ∧ hearH R r (goT r.nb r.ep (r.lt + 1) m) = 1 := by
  have hb := led_begs h hu
  have n1 : ¬ (goT r.nb r.ep (r.lt + 1) m).rb ≠ r.nb := fun f => f rfl
  have n2 : ¬ ((goT r.nb r.ep (r.lt + 1) m).kd = 1 ∧ (goT r.nb r.ep (r.lt + 1) m).ep < r.ep) := fun f => absurd f.2 (Int.lt_irrefl _)
  have p3 : (goT r.nb r.ep (r.lt + 1) m).kd = 1 ∧ begs R r (goT r.nb r.ep (r.lt + 1) m) = true := ⟨rfl, hb⟩
  exact ⟨by unfold hearL; rw [if_neg n1, if_neg n2, if_pos p3], by unfold hearR; rw [if_neg n1, if_neg n2, if_pos p3], by unfold hearH; rw [if_neg n1, if_neg n2, if_pos p3]⟩
theorem led_begun {R : Wh} {r : Rb} {turn hoist : Int} {ku ka kv : Nat} {m : Mv} (h : Led R.W R.H R.us turn hoist ku ka kv (posR r) m) (hu : under r = false) :
    under (begun r (goT r.nb r.ep (r.lt + 1) m)) = true ∧ rest (begun r (goT r.nb r.ep (r.lt + 1) m)) = m.me - m.ma ∧ (begun r (goT r.nb r.ep (r.lt + 1) m)).mv = m ∧ (begun r (goT r.nb r.ep (r.lt + 1) m)).st = false ∧ (begun r (goT r.nb r.ep (r.lt + 1) m)).la = 0 ∧ (begun r (goT r.nb r.ep (r.lt + 1) m)).gn = 0 := by
  have hl := less_led h
  have h4 := h.l1
  have h3 := h.en
  refine ⟨?_, ?_, rfl, rfl, rfl, rfl⟩
  · show decide (0 < less m.me m.ma) = true
    rw [hl, decide_eq_true_iff]
    omega
  · show less m.me m.ma + 0 = m.me - m.ma
    rw [hl]
    omega
end Go.Proofs.YtedmfhkdaifegaaGreat.Rob
