/-
  A robot in plain words: what each of its calls tells, and what it is behind it.
-/
import Derived.Test.YtedmfhkdaifegaaGreatRkE
import Derived.Test.YtedmfhkdaifegaaGreatRgD
import Derived.Test.YtedmfhkdaifegaaGreatRkB
namespace Go.Proofs.YtedmfhkdaifegaaGreat.Rob
set_option linter.unusedVariables false
set_option linter.unusedSimpArgs false
open Go Go.RowKit Go.Shelf Go.Proofs Go.Proofs.YtedmfhkdaifegaaGreat.Lk Go.Proofs.YtedmfhkdaifegaaGreat.Plain

/- A move. -/
structure Mv where
  kd : Int
  dr : Int
  n : Int
  fx : Int
  fy : Int
  fd : Bool
  tx : Int
  ty : Int
  td : Bool
  ma : Int
  me : Int
def gm (m : Mv) : Grid.Move := (m.kd, m.dr, m.n, ((m.fx, m.fy), m.fd), ((m.tx, m.ty), m.td), m.ma, m.me)
def mvL (m : Mv) : List Value := [.int .i64 m.kd, .int .i64 m.dr, .int .i64 m.n, .int .i64 m.fx, .int .i64 m.fy, .bool m.fd, .int .i64 m.tx, .int .i64 m.ty, .bool m.td, .int .i64 m.ma, .int .i64 m.me]
def mvA (m : Mv) : Array Value := (mvL m).toArray
def mv0 : Mv := ⟨0, 0, 0, 0, 0, false, 0, 0, false, 0, 0⟩
theorem gm_cs (m : Mv) : Grid.moveCs (gm m) = mvA m := rfl
theorem mvA_size (m : Mv) : (mvA m).size = 11 := rfl
/- The move of a telegram. -/
def tmv (t : Tl) : Mv := ⟨t.mq, t.md, t.mn, t.fx, t.fy, t.fd, t.tx, t.ty, t.td, t.ma, t.me⟩
/- A robot's own numbers: number, pose, load, epoch, last; the move under way; gone, left, late, stopping. -/
structure Rb where
  nb : Int
  px : Int
  py : Int
  pd : Bool
  ld : Int
  ep : Int
  lt : Int
  mv : Mv
  gn : Int
  lf : Int
  la : Int
  st : Bool
def dgL (r : Rb) : List Value := mvL r.mv ++ [.int .i64 r.gn, .int .i64 r.lf, .int .i64 r.la, .bool r.st]
def rbL (g k : Nat) (r : Rb) : List Value := [.pointer (some ⟨g, 0, none⟩), .pointer (some ⟨k, 0, none⟩), .int .i64 r.nb, .int .i64 r.px, .int .i64 r.py, .bool r.pd, .int .i64 r.ld, .int .i64 r.ep, .int .i64 r.lt] ++ dgL r
def rbA (g k : Nat) (r : Rb) : Array Value := (rbL g k r).toArray
/- What a robot stands on: its place in memory, its grid's, its kinem's. -/
structure Wh where
  p : Nat
  g : Nat
  u : Nat
  k : Nat
  W : Int
  H : Int
  us : List Int
  vp : Value
  ku : Nat
  ka : Nat
  kv : Nat
def under (r : Rb) : Bool := decide (0 < r.lf)
def stopd (r : Rb) : Bool := decide (r.lt = 0) && decide (0 < r.ep)
def posR (r : Rb) : Grid.Pose := ((r.px, r.py), r.pd)
def haltP (r : Rb) : Tl := ⟨4, r.nb, r.ep, 0, 0, 0, 0, 0, 0, false, 0, 0, false, 0, 0, r.px, r.py, r.pd, r.ld⟩
def ackP (r : Rb) : Tl := ⟨3, r.nb, r.ep, r.lt, 0, 0, 0, 0, 0, false, 0, 0, false, 0, 0, 0, 0, false, 0⟩
def tellP (r : Rb) : Tl := if stopd r then haltP r else ackP r
/- May a go-ahead be begun? -/
def begs (R : Wh) (r : Rb) (t : Tl) : Bool :=
  decide (t.ep = r.ep) && (!under r && (decide (t.nm = r.lt + 1) && (decide (((t.fx, t.fy), t.fd) = posR r) && (Grid.legalU R.W R.H R.us (gm (tmv t)) && decide (0 < less t.me t.ma)))))
def begun (r : Rb) (t : Tl) : Rb := { r with mv := tmv t, gn := 0, lf := less t.me t.ma, la := 0, st := false }
def lastP (r : Rb) (t : Tl) : Bool := decide (t.ep = r.ep) && (if t.kd = 1 then decide (t.nm = r.lt) && decide (0 < r.lt) else decide (t.kd = 2) && stopd r)
/- A run that is cut. -/
def cutTo (R : Wh) (r : Rb) : Grid.Pose := Grid.shiftR ((r.mv.fx, r.mv.fy), r.mv.fd) r.mv.dr (Kin.stopC R.ku R.ka R.kv r.mv.n r.gn : Nat)
def cutP (R : Wh) (r : Rb) : Rb :=
  { r with mv := { r.mv with n := (Kin.stopC R.ku R.ka R.kv r.mv.n r.gn : Nat), tx := (cutTo R r).1.1, ty := (cutTo R r).1.2, td := (cutTo R r).2 }, lf := max (Kin.stopT R.ku R.ka R.kv r.mv.n r.gn : Nat) 1 }
def newEp (r : Rb) (ep : Int) : Rb := { r with ep := ep, lt := 0 }
def stopP (R : Wh) (r : Rb) (ep : Int) : Rb :=
  if under r then { (if r.mv.kd = 1 ∧ r.st = false then cutP R (newEp r ep) else newEp r ep) with st := true } else newEp r ep
def stopH (r : Rb) : Int := if under r then 0 else 3
/- A telegram that is heard. -/
def hearR (R : Wh) (r : Rb) (t : Tl) : Rb :=
  if t.rb ≠ r.nb then r
  else if t.kd = 1 ∧ t.ep < r.ep then r
  else if t.kd = 1 ∧ begs R r t = true then begun r t
  else if t.kd = 2 ∧ r.ep < t.ep then stopP R r t.ep
  else r
def hearL (R : Wh) (r : Rb) (t : Tl) : Option Tl :=
  if t.rb ≠ r.nb then none
  else if t.kd = 1 ∧ t.ep < r.ep then none
  else if t.kd = 1 ∧ begs R r t = true then none
  else if t.kd = 2 ∧ r.ep < t.ep then (if under r then none else some (tellP (newEp r t.ep)))
  else if lastP r t && !under r then some (tellP r) else none
def hearH (R : Wh) (r : Rb) (t : Tl) : Int :=
  if t.rb ≠ r.nb then 0
  else if t.kd = 1 ∧ t.ep < r.ep then 2
  else if t.kd = 1 ∧ begs R r t = true then 1
  else if t.kd = 2 ∧ r.ep < t.ep then stopH r
  else 0
/- A tick. -/
def ended (r : Rb) : Rb := { r with mv := mv0, gn := 0, lf := 0, la := 0, st := false, px := r.mv.tx, py := r.mv.ty, pd := r.mv.td, lt := if r.st then r.lt else r.lt + 1 }
def tickR (r : Rb) : Rb :=
  if under r = false then r
  else if 0 < r.la then { r with la := r.la - 1 }
  else if 1 < r.lf then { r with lf := r.lf - 1, gn := r.gn + 1 }
  else ended r
def tickM (r : Rb) : Mv := if under r = false then mv0 else if 0 < r.la then mv0 else if 1 < r.lf then mv0 else r.mv
def tickH (r : Rb) : Int := if under r = false then 0 else if 0 < r.la then 0 else if 1 < r.lf then 0 else if r.st then 2 else 1
def lateR (r : Rb) (n : Int) : Rb := if under r = true ∧ 0 < n then { r with la := min (r.la + min n 1000000) 1000000 } else r
def carryR (r : Rb) (n : Int) : Rb := { r with ld := n }
/- What holds behind n ticks. -/
structure OkR (n : Int) (r : Rb) : Prop where
  lt0 : 0 ≤ r.lt
  ltn : r.lt ≤ n
  gn0 : 0 ≤ r.gn
  gnn : r.gn ≤ n
  la0 : 0 ≤ r.la
  la1 : r.la ≤ 1000000
  lf0 : 0 ≤ r.lf
  lf1 : r.lf ≤ 4611686018427387904
  ep0 : 0 ≤ r.ep
  none_ : under r = false → r.mv = mv0 ∧ r.gn = 0 ∧ r.lf = 0 ∧ r.la = 0 ∧ r.st = false
  halt : r.st = true → r.lt = 0 ∧ 0 < r.ep
theorem less_bd (a b : Int) : 0 ≤ less a b ∧ less a b ≤ 4611686018427387904 := by
  unfold less cut
  repeat' split
  all_goals omega
theorem OkR.more {n m : Int} {r : Rb} (h : OkR n r) (hm : n ≤ m) : OkR m r := ⟨h.lt0, Int.le_trans h.ltn hm, h.gn0, Int.le_trans h.gnn hm, h.la0, h.la1, h.lf0, h.lf1, h.ep0, h.none_, h.halt⟩
theorem OkR.begun {n : Int} {R : Wh} {r : Rb} {t : Tl} (h : OkR n r) (hn : 0 ≤ n) (hb : begs R r t = true) : OkR n (begun r t) := by
  have hl := less_bd t.me t.ma
  unfold begs at hb
  simp only [Bool.and_eq_true, decide_eq_true_eq] at hb
  obtain ⟨_, _, _, _, _, h0⟩ := hb
  refine ⟨h.lt0, h.ltn, Int.le_refl _, hn, Int.le_refl _, (by decide : (0 : Int) ≤ 1000000), hl.1, hl.2, h.ep0, fun hu => ?_, fun hs => ?_⟩
  · have hu' : decide (0 < less t.me t.ma) = false := hu
    rw [decide_eq_false_iff_not] at hu'
    exact absurd h0 hu'
  · cases (show false = true from hs)
theorem OkR.stop {n : Int} {R : Wh} {r : Rb} {ep : Int} (h : OkR n r) (hn : 0 ≤ n) (he : r.ep < ep) (hT : ∀ m t, (Kin.stopT R.ku R.ka R.kv m t : Int) ≤ 4611686018427387904) : OkR n (stopP R r ep) := by
  have hE : 0 < ep := by have := h.ep0; omega
  have h1 := hT r.mv.n r.gn
  unfold stopP
  cases hu : under r with
  | false =>
    rw [if_neg (by decide)]
    exact ⟨Int.le_refl _, hn, h.gn0, h.gnn, h.la0, h.la1, h.lf0, h.lf1, by show 0 ≤ ep; omega, fun _ => h.none_ hu, fun hs => ⟨rfl, hE⟩⟩
  | true =>
    rw [if_pos rfl]
    have hl : 0 < r.lf := by unfold under at hu; simpa using hu
    by_cases hc : r.mv.kd = 1 ∧ r.st = false
    · rw [if_pos hc]
      refine ⟨Int.le_refl _, hn, h.gn0, h.gnn, h.la0, h.la1, ?_, ?_, by show 0 ≤ ep; omega, fun hf => ?_, fun _ => ⟨rfl, hE⟩⟩
      · show 0 ≤ max ((Kin.stopT R.ku R.ka R.kv r.mv.n r.gn : Nat) : Int) 1; omega
      · show max ((Kin.stopT R.ku R.ka R.kv r.mv.n r.gn : Nat) : Int) 1 ≤ _; omega
      · have hf' : decide (0 < max ((Kin.stopT R.ku R.ka R.kv r.mv.n r.gn : Nat) : Int) 1) = false := hf
        rw [decide_eq_false_iff_not] at hf'
        omega
    · rw [if_neg hc]
      refine ⟨Int.le_refl _, hn, h.gn0, h.gnn, h.la0, h.la1, h.lf0, h.lf1, by show 0 ≤ ep; omega, fun hf => ?_, fun _ => ⟨rfl, hE⟩⟩
      have hf' : decide (0 < r.lf) = false := hf
      rw [decide_eq_false_iff_not] at hf'
      omega
theorem OkR.hear {n : Int} {R : Wh} {r : Rb} {t : Tl} (h : OkR n r) (hn : 0 ≤ n) (hT : ∀ m t, (Kin.stopT R.ku R.ka R.kv m t : Int) ≤ 4611686018427387904) : OkR n (hearR R r t) := by
  unfold hearR
  split
  · exact h
  · split
    · exact h
    · split
      · rename_i hb
        exact h.begun hn hb.2
      · split
        · rename_i hb
          exact h.stop hn hb.2 hT
        · exact h
theorem OkR.ended {n : Int} {r : Rb} (h : OkR n r) (hn : 0 ≤ n) : OkR (n + 1) (ended r) := by
  have h0 := h.lt0
  have h1 := h.ltn
  refine ⟨?_, ?_, Int.le_refl _, by show (0 : Int) ≤ n + 1; omega, Int.le_refl _, (by decide : (0 : Int) ≤ 1000000), Int.le_refl _, (by decide : (0 : Int) ≤ 4611686018427387904), h.ep0, fun _ => ⟨rfl, rfl, rfl, rfl, rfl⟩, fun hs => by cases (show false = true from hs)⟩
  · show 0 ≤ if r.st then r.lt else r.lt + 1
    split <;> omega
  · show (if r.st then r.lt else r.lt + 1) ≤ n + 1
    split <;> omega
theorem OkR.tick {n : Int} {r : Rb} (h : OkR n r) (hn : 0 ≤ n) : OkR (n + 1) (tickR r) := by
  unfold tickR
  by_cases hu : under r = false
  · rw [if_pos hu]; exact h.more (by omega)
  · rw [if_neg hu]
    have hl : 0 < r.lf := by unfold under at hu; simpa using hu
    by_cases h2 : 0 < r.la
    · rw [if_pos h2]
      have h3 := h.la1
      exact ⟨h.lt0, by have := h.ltn; show r.lt ≤ n + 1; omega, h.gn0, by have := h.gnn; show r.gn ≤ n + 1; omega, by show 0 ≤ r.la - 1; omega, by show r.la - 1 ≤ _; omega, h.lf0, h.lf1, h.ep0, fun hf => absurd hf hu, h.halt⟩
    · rw [if_neg h2]
      by_cases h3 : 1 < r.lf
      · rw [if_pos h3]
        have h4 := h.lf1
        have h5 := h.gn0
        have h6 := h.gnn
        exact ⟨h.lt0, by have := h.ltn; show r.lt ≤ n + 1; omega, by show 0 ≤ r.gn + 1; omega, by show r.gn + 1 ≤ n + 1; omega, h.la0, h.la1, by show 0 ≤ r.lf - 1; omega, by show r.lf - 1 ≤ _; omega, h.ep0, fun hf => by
          have hf' : decide (0 < r.lf - 1) = false := hf
          rw [decide_eq_false_iff_not] at hf'
          omega, h.halt⟩
      · rw [if_neg h3]
        exact h.ended hn
theorem OkR.late {n : Int} {r : Rb} (h : OkR n r) (m : Int) : OkR n (lateR r m) := by
  unfold lateR
  split
  · rename_i hb
    have h1 := h.la0
    have h2 := h.la1
    exact ⟨h.lt0, h.ltn, h.gn0, h.gnn, by show 0 ≤ min (r.la + min m 1000000) 1000000; omega, by show min (r.la + min m 1000000) 1000000 ≤ 1000000; omega, h.lf0, h.lf1, h.ep0, fun hf => (by rw [show under { r with la := min (r.la + min m 1000000) 1000000 } = under r from rfl, hb.1] at hf; cases hf), h.halt⟩
  · exact h
theorem OkR.carry {n : Int} {r : Rb} (h : OkR n r) (m : Int) : OkR n (carryR r m) := ⟨h.lt0, h.ltn, h.gn0, h.gnn, h.la0, h.la1, h.lf0, h.lf1, h.ep0, h.none_, h.halt⟩
/- A robot at its beginning. -/
def firstR (nb px py : Int) (pd : Bool) : Rb := ⟨nb, px, py, pd, 0, 0, 0, mv0, 0, 0, 0, false⟩
theorem OkR.first (nb px py : Int) (pd : Bool) : OkR 0 (firstR nb px py pd) := ⟨Int.le_refl _, Int.le_refl _, Int.le_refl _, Int.le_refl _, Int.le_refl _, (by decide : (0 : Int) ≤ 1000000), Int.le_refl _, (by decide : (0 : Int) ≤ 4611686018427387904), Int.le_refl _, fun _ => ⟨rfl, rfl, rfl, rfl, rfl⟩, fun h => by cases h⟩
end Go.Proofs.YtedmfhkdaifegaaGreat.Rob
