/-
  A robot in plain words: what each of its calls tells, and what it is behind it.
-/
import Derived.Test.YtedhoghleelhfaaGreatQRkE
import Derived.Test.YtedhoghleelhfaaGreatQRgD
import Derived.Test.YtedhoghleelhfaaGreatQRkB
import Derived.Deep.MidRow
namespace Go.Proofs.YtedhoghleelhfaaGreat.Rob
set_option linter.unusedVariables false
set_option linter.unusedSimpArgs false
open Go Go.RowKit Go.Shelf Go.Proofs Go.Proofs.YtedhoghleelhfaaGreat.Lk Go.Proofs.YtedhoghleelhfaaGreat.Plain

/- A move. -/
structure Mv where
  kd : Int
  dr : Int
  n : Int
  fx : Int
  fy : Int
  fd : Bool
  tx : Int
  ty : Int
  td : Bool
  ma : Int
  me : Int
def gm (m : Mv) : Grid.Move := (m.kd, m.dr, m.n, ((m.fx, m.fy), m.fd), ((m.tx, m.ty), m.td), m.ma, m.me)
def mvL (m : Mv) : List Value := [.int .i64 m.kd, .int .i64 m.dr, .int .i64 m.n, .int .i64 m.fx, .int .i64 m.fy, .bool m.fd, .int .i64 m.tx, .int .i64 m.ty, .bool m.td, .int .i64 m.ma, .int .i64 m.me]
def mvA (m : Mv) : Array Value := (mvL m).toArray
def mv0 : Mv := ⟨0, 0, 0, 0, 0, false, 0, 0, false, 0, 0⟩
/- The move of a telegram. -/
def tmv (t : Tl) : Mv := ⟨t.mq, t.md, t.mn, t.fx, t.fy, t.fd, t.tx, t.ty, t.td, t.ma, t.me⟩
/- A robot's own numbers: number, pose, load, epoch, last; the move under way; gone, left, late, stopping. -/
structure Rb where
  nb : Int
  px : Int
  py : Int
  pd : Bool
  ld : Int
  ep : Int
  lt : Int
  mv : Mv
  gn : Int
  lf : Int
  la : Int
  st : Bool
def dgL (r : Rb) : List Value := mvL r.mv ++ [.int .i64 r.gn, .int .i64 r.lf, .int .i64 r.la, .bool r.st]
def rbL (g k : Nat) (r : Rb) : List Value := [.pointer (some ⟨g, 0, none⟩), .pointer (some ⟨k, 0, none⟩), .int .i64 r.nb, .int .i64 r.px, .int .i64 r.py, .bool r.pd, .int .i64 r.ld, .int .i64 r.ep, .int .i64 r.lt] ++ dgL r
def rbA (g k : Nat) (r : Rb) : Array Value := (rbL g k r).toArray
/- What a robot stands on: its place in memory, its grid's, its kinem's. -/
structure Wh where
  p : Nat
  g : Nat
  u : Nat
  k : Nat
  W : Int
  H : Int
  us : List Int
  vp : Value
  ku : Nat
  ka : Nat
  kv : Nat
def under (r : Rb) : Bool := decide (0 < r.lf)
def stopd (r : Rb) : Bool := decide (r.lt = 0) && decide (0 < r.ep)
def posR (r : Rb) : Grid.Pose := ((r.px, r.py), r.pd)
def haltP (r : Rb) : Tl := ⟨4, r.nb, r.ep, 0, 0, 0, 0, 0, 0, false, 0, 0, false, 0, 0, r.px, r.py, r.pd, r.ld⟩
def ackP (r : Rb) : Tl := ⟨3, r.nb, r.ep, r.lt, 0, 0, 0, 0, 0, false, 0, 0, false, 0, 0, 0, 0, false, 0⟩
def tellP (r : Rb) : Tl := if stopd r then haltP r else ackP r
/- May a go-ahead be begun? -/
def begs (R : Wh) (r : Rb) (t : Tl) : Bool :=
  decide (t.ep = r.ep) && (!under r && (decide (t.nm = r.lt + 1) && (decide (((t.fx, t.fy), t.fd) = posR r) && (Grid.legalU R.W R.H R.us (gm (tmv t)) && decide (0 < less t.me t.ma)))))
def begun (r : Rb) (t : Tl) : Rb := { r with mv := tmv t, gn := 0, lf := less t.me t.ma, la := 0, st := false }
def lastP (r : Rb) (t : Tl) : Bool := decide (t.ep = r.ep) && (if t.kd = 1 then decide (t.nm = r.lt) && decide (0 < r.lt) else decide (t.kd = 2) && stopd r)
/- A run that is cut. -/
def cutTo (R : Wh) (r : Rb) : Grid.Pose := Grid.shiftR ((r.mv.fx, r.mv.fy), r.mv.fd) r.mv.dr (Kin.stopC R.ku R.ka R.kv r.mv.n r.gn : Nat)
def cutP (R : Wh) (r : Rb) : Rb :=
  { r with mv := { r.mv with n := (Kin.stopC R.ku R.ka R.kv r.mv.n r.gn : Nat), tx := (cutTo R r).1.1, ty := (cutTo R r).1.2, td := (cutTo R r).2 }, lf := max (Kin.stopT R.ku R.ka R.kv r.mv.n r.gn : Nat) 1 }
def newEp (r : Rb) (ep : Int) : Rb := { r with ep := ep, lt := 0 }
def stopP (R : Wh) (r : Rb) (ep : Int) : Rb :=
  if under r then { (if r.mv.kd = 1 ∧ r.st = false then cutP R (newEp r ep) else newEp r ep) with st := true } else newEp r ep
def stopH (r : Rb) : Int := if under r then 0 else 3
/- A telegram that is heard. -/
def hearR (R : Wh) (r : Rb) (t : Tl) : Rb :=
  if t.rb ≠ r.nb then r
  else if t.kd = 1 ∧ t.ep < r.ep then r
  else if t.kd = 1 ∧ begs R r t = true then begun r t
  else if t.kd = 2 ∧ r.ep < t.ep then stopP R r t.ep
  else r
def hearL (R : Wh) (r : Rb) (t : Tl) : Option Tl :=
  if t.rb ≠ r.nb then none
  else if t.kd = 1 ∧ t.ep < r.ep then none
  else if t.kd = 1 ∧ begs R r t = true then none
  else if t.kd = 2 ∧ r.ep < t.ep then (if under r then none else some (tellP (newEp r t.ep)))
  else if lastP r t && !under r then some (tellP r) else none
def hearH (R : Wh) (r : Rb) (t : Tl) : Int :=
  if t.rb ≠ r.nb then 0
  else if t.kd = 1 ∧ t.ep < r.ep then 2
  else if t.kd = 1 ∧ begs R r t = true then 1
  else if t.kd = 2 ∧ r.ep < t.ep then stopH r
  else 0
/- A tick. -/
def ended (r : Rb) : Rb := { r with mv := mv0, gn := 0, lf := 0, la := 0, st := false, px := r.mv.tx, py := r.mv.ty, pd := r.mv.td, lt := if r.st then r.lt else r.lt + 1 }
def tickR (r : Rb) : Rb :=
  if under r = false then r
  else if 0 < r.la then { r with la := r.la - 1 }
  else if 1 < r.lf then { r with lf := r.lf - 1, gn := r.gn + 1 }
  else ended r
def tickM (r : Rb) : Mv := if under r = false then mv0 else if 0 < r.la then mv0 else if 1 < r.lf then mv0 else r.mv
def tickH (r : Rb) : Int := if under r = false then 0 else if 0 < r.la then 0 else if 1 < r.lf then 0 else if r.st then 2 else 1
def lateR (r : Rb) (n : Int) : Rb := if under r = true ∧ 0 < n then { r with la := min (r.la + min n 1000000) 1000000 } else r
def carryR (r : Rb) (n : Int) : Rb := { r with ld := n }
/- What holds behind n ticks. -/
structure OkR (n : Int) (r : Rb) : Prop where
  lt0 : 0 ≤ r.lt
  ltn : r.lt ≤ n
  gn0 : 0 ≤ r.gn
  gnn : r.gn ≤ n
  la0 : 0 ≤ r.la
  la1 : r.la ≤ 1000000
  lf0 : 0 ≤ r.lf
  lf1 : r.lf ≤ 4611686018427387904
  ep0 : 0 ≤ r.ep
  none_ : under r = false → r.mv = mv0 ∧ r.gn = 0 ∧ r.lf = 0 ∧ r.la = 0 ∧ r.st = false
  halt : r.st = true → r.lt = 0 ∧ 0 < r.ep
theorem less_bd (a b : Int) : 0 ≤ less a b ∧ less a b ≤ 4611686018427387904 := by
  unfold less cut
  repeat' split
  all_goals omega
theorem OkR.more {n m : Int} {r : Rb} (h : OkR n r) (hm : n ≤ m) : OkR m r := ⟨h.lt0, Int.le_trans h.ltn hm, h.gn0, Int.le_trans h.gnn hm, h.la0, h.la1, h.lf0, h.lf1, h.ep0, h.none_, h.halt⟩
theorem OkR.begun {n : Int} {R : Wh} {r : Rb} {t : Tl} (h : OkR n r) (hn : 0 ≤ n) (hb : begs R r t = true) : OkR n (begun r t) := by
  have hl := less_bd t.me t.ma
  unfold begs at hb
  simp only [Bool.and_eq_true, decide_eq_true_eq] at hb
  obtain ⟨_, _, _, _, _, h0⟩ := hb
  refine ⟨h.lt0, h.ltn, Int.le_refl _, hn, Int.le_refl _, (by decide : (0 : Int) ≤ 1000000), hl.1, hl.2, h.ep0, fun hu => ?_, fun hs => ?_⟩
  · have hu' : decide (0 < less t.me t.ma) = false := hu
    rw [decide_eq_false_iff_not] at hu'
    exact absurd h0 hu'
  · cases (show false = true from hs)
theorem OkR.stop {n : Int} {R : Wh} {r : Rb} {ep : Int} (h : OkR n r) (hn : 0 ≤ n) (he : r.ep < ep) (hT : ∀ m t, (Kin.stopT R.ku R.ka R.kv m t : Int) ≤ 4611686018427387904) : OkR n (stopP R r ep) := by
  have hE : 0 < ep := by have := h.ep0; omega
  have h1 := hT r.mv.n r.gn
  unfold stopP
  cases hu : under r with
  | false =>
    rw [if_neg (by decide)]
    exact ⟨Int.le_refl _, hn, h.gn0, h.gnn, h.la0, h.la1, h.lf0, h.lf1, by show 0 ≤ ep; omega, fun _ => h.none_ hu, fun hs => ⟨rfl, hE⟩⟩
  | true =>
    rw [if_pos rfl]
    have hl : 0 < r.lf := by unfold under at hu; simpa using hu
    by_cases hc : r.mv.kd = 1 ∧ r.st = false
    · rw [if_pos hc]
      refine ⟨Int.le_refl _, hn, h.gn0, h.gnn, h.la0, h.la1, ?_, ?_, by show 0 ≤ ep; omega, fun hf => ?_, fun _ => ⟨rfl, hE⟩⟩
      · show 0 ≤ max ((Kin.stopT R.ku R.ka R.kv r.mv.n r.gn : Nat) : Int) 1; omega
      · show max ((Kin.stopT R.ku R.ka R.kv r.mv.n r.gn : Nat) : Int) 1 ≤ _; omega
      · have hf' : decide (0 < max ((Kin.stopT R.ku R.ka R.kv r.mv.n r.gn : Nat) : Int) 1) = false := hf
        rw [decide_eq_false_iff_not] at hf'
        omega
    · rw [if_neg hc]
      refine ⟨Int.le_refl _, hn, h.gn0, h.gnn, h.la0, h.la1, h.lf0, h.lf1, by show 0 ≤ ep; omega, fun hf => ?_, fun _ => ⟨rfl, hE⟩⟩
      have hf' : decide (0 < r.lf) = false := hf
      rw [decide_eq_false_iff_not] at hf'
      omega
theorem OkR.hear {n : Int} {R : Wh} {r : Rb} {t : Tl} (h : OkR n r) (hn : 0 ≤ n) (hT : ∀ m t, (Kin.stopT R.ku R.ka R.kv m t : Int) ≤ 4611686018427387904) : OkR n (hearR R r t) := by
  unfold hearR
  split
  · exact h
  · split
    · exact h
    · split
      · rename_i hb
        exact h.begun hn hb.2
      · split
        · rename_i hb
          exact h.stop hn hb.2 hT
        · exact h
theorem OkR.ended {n : Int} {r : Rb} (h : OkR n r) (hn : 0 ≤ n) : OkR (n + 1) (ended r) := by
  have h0 := h.lt0
  have h1 := h.ltn
  refine ⟨?_, ?_, Int.le_refl _, by show (0 : Int) ≤ n + 1; omega, Int.le_refl _, (by decide : (0 : Int) ≤ 1000000), Int.le_refl _, (by decide : (0 : Int) ≤ 4611686018427387904), h.ep0, fun _ => ⟨rfl, rfl, rfl, rfl, rfl⟩, fun hs => by cases (show false = true from hs)⟩
  · show 0 ≤ if r.st then r.lt else r.lt + 1
    split <;> omega
  · show (if r.st then r.lt else r.lt + 1) ≤ n + 1
    split <;> omega
theorem OkR.tick {n : Int} {r : Rb} (h : OkR n r) (hn : 0 ≤ n) : OkR (n + 1) (tickR r) := by
  unfold tickR
  by_cases hu : under r = false
  · rw [if_pos hu]; exact h.more (by omega)
  · rw [if_neg hu]
    have hl : 0 < r.lf := by unfold under at hu; simpa using hu
    by_cases h2 : 0 < r.la
    · rw [if_pos h2]
      have h3 := h.la1
      exact ⟨h.lt0, by have := h.ltn; show r.lt ≤ n + 1; omega, h.gn0, by have := h.gnn; show r.gn ≤ n + 1; omega, by show 0 ≤ r.la - 1; omega, by show r.la - 1 ≤ _; omega, h.lf0, h.lf1, h.ep0, fun hf => absurd hf hu, h.halt⟩
    · rw [if_neg h2]
      by_cases h3 : 1 < r.lf
      · rw [if_pos h3]
        have h4 := h.lf1
        have h5 := h.gn0
        have h6 := h.gnn
        exact ⟨h.lt0, by have := h.ltn; show r.lt ≤ n + 1; omega, by show 0 ≤ r.gn + 1; omega, by show r.gn + 1 ≤ n + 1; omega, h.la0, h.la1, by show 0 ≤ r.lf - 1; omega, by show r.lf - 1 ≤ _; omega, h.ep0, fun hf => by
          have hf' : decide (0 < r.lf - 1) = false := hf
          rw [decide_eq_false_iff_not] at hf'
          omega, h.halt⟩
      · rw [if_neg h3]
        exact h.ended hn
theorem OkR.late {n : Int} {r : Rb} (h : OkR n r) (m : Int) : OkR n (lateR r m) := by
  unfold lateR
  split
  · rename_i hb
    have h1 := h.la0
    have h2 := h.la1
    exact ⟨h.lt0, h.ltn, h.gn0, h.gnn, by show 0 ≤ min (r.la + min m 1000000) 1000000; omega, by show min (r.la + min m 1000000) 1000000 ≤ 1000000; omega, h.lf0, h.lf1, h.ep0, fun hf => (by rw [show under { r with la := min (r.la + min m 1000000) 1000000 } = under r from rfl, hb.1] at hf; cases hf), h.halt⟩
  · exact h
theorem OkR.carry {n : Int} {r : Rb} (h : OkR n r) (m : Int) : OkR n (carryR r m) := ⟨h.lt0, h.ltn, h.gn0, h.gnn, h.la0, h.la1, h.lf0, h.lf1, h.ep0, h.none_, h.halt⟩
/- A robot at its beginning. -/
def firstR (nb px py : Int) (pd : Bool) : Rb := ⟨nb, px, py, pd, 0, 0, 0, mv0, 0, 0, 0, false⟩
theorem OkR.first (nb px py : Int) (pd : Bool) : OkR 0 (firstR nb px py pd) := ⟨Int.le_refl _, Int.le_refl _, Int.le_refl _, Int.le_refl _, Int.le_refl _, (by decide : (0 : Int) ≤ 1000000), Int.le_refl _, (by decide : (0 : Int) ≤ 4611686018427387904), Int.le_refl _, fun _ => ⟨rfl, rfl, rfl, rfl, rfl⟩, fun h => by cases h⟩
end Go.Proofs.YtedhoghleelhfaaGreat.Rob
/-
  A robot in memory: its cells, what a call of it may turn.
-/
namespace Go.Proofs.YtedhoghleelhfaaGreat.Rob
set_option linter.unusedVariables false
set_option linter.unusedSimpArgs false
open Go Go.RowKit Go.Shelf Go.Proofs Go.Proofs.YtedhoghleelhfaaGreat.Lk Go.Proofs.YtedhoghleelhfaaGreat.Plain

/- One block alone is turned. -/
structure Only (p : Nat) (w w' : World) : Prop where
  os : w'.os = w.os
  tape : w'.tape = w.tape
  output : w'.output = w.output
  size : w'.heap.size = w.heap.size
  block : ∀ i, i ≠ p → w'.heap[i]? = w.heap[i]?
theorem Only.refl (p : Nat) (w : World) : Only p w w := ⟨rfl, rfl, rfl, rfl, fun _ _ => rfl⟩
theorem Only.trans {p : Nat} {a b c : World} (h : Only p a b) (k : Only p b c) : Only p a c := ⟨k.os.trans h.os, k.tape.trans h.tape, k.output.trans h.output, k.size.trans h.size, fun i hi => (k.block i hi).trans (h.block i hi)⟩
theorem Only.setCell (p o : Nat) (v : Value) (w : World) : Only p w (w.setCell ⟨p, o, none⟩ v) := ⟨rfl, rfl, rfl, by simp [World.setCell], fun i hi => by simp [World.setCell, Array.getElem?_modify, Ne.symm hi]⟩
theorem Only.setCells (p : Nat) : ∀ (vs : List Value) (o : Nat) (w : World), Only p w (w.setCells p o vs)
  | [], _, w => Only.refl p w
  | v :: r, o, w => (Only.setCell p o v w).trans (Only.setCells p r (o + 1) (w.setCell ⟨p, o, none⟩ v))
/- Cells put into a row. -/
def setAll (cs : Array Value) (o : Nat) : List Value → Array Value
  | [] => cs
  | v :: r => setAll (cs.setIfInBounds o v) (o + 1) r
theorem setCells_same (g : Nat) (T : TypeId) (fr : Nat × Nat) : ∀ (vs : List Value) (o : Nat) (w : World) (cs : Array Value), w.heap[g]? = some (.cells cs T fr) → (w.setCells g o vs).heap[g]? = some (.cells (setAll cs o vs) T fr)
  | [], _, _, _, h => h
  | v :: r, o, w, cs, h => setCells_same g T fr r (o + 1) (w.setCell ⟨g, o, none⟩ v) (cs.setIfInBounds o v) (by unfold World.setCell; simp [Array.getElem?_modify, h])
/- A robot and what it stands on. -/
structure RbAt (w : World) (R : Wh) (r : Rb) : Prop where
  at_ : w.heap[R.p]? = some (.cells (rbA R.g R.k r) 64 (0, 0))
  grid : Grid.GridAt w R.g R.u R.W R.H R.us R.vp
  kin : Kin.KinAt w R.k R.ku R.ka R.kv
  ok : Kin.Ok R.ku R.ka R.kv
  pg : R.p ≠ R.g
  pu : R.p ≠ R.u
  pk : R.p ≠ R.k
  kg : R.k ≠ R.g
  ku : R.k ≠ R.u
/- What a robot's call may turn: its own block, its kinem's. -/
structure Tn (R : Wh) (w w' : World) : Prop where
  os : w'.os = w.os
  tape : w'.tape = w.tape
  output : w'.output = w.output
  size : w.heap.size ≤ w'.heap.size
  block : ∀ i, i < w.heap.size → i ≠ R.p → i ≠ R.k → w'.heap[i]? = w.heap[i]?
theorem Tn.refl (R : Wh) (w : World) : Tn R w w := ⟨rfl, rfl, rfl, Nat.le_refl _, fun _ _ _ _ => rfl⟩
theorem Tn.trans {R : Wh} {a b c : World} (h : Tn R a b) (k : Tn R b c) : Tn R a c := ⟨k.os.trans h.os, k.tape.trans h.tape, k.output.trans h.output, Nat.le_trans h.size k.size, fun i hi h1 h2 => (k.block i (Nat.lt_of_lt_of_le hi h.size) h1 h2).trans (h.block i hi h1 h2)⟩
theorem Tn.below {R : Wh} {w w' : World} (h : Below w.heap.size w w') : Tn R w w' := ⟨h.os, h.tape, h.output, h.size, fun i hi _ _ => h.block i hi⟩
theorem Tn.only {R : Wh} {w w' : World} (h : Only R.p w w') : Tn R w w' := ⟨h.os, h.tape, h.output, by rw [h.size]; exact Nat.le_refl _, fun i _ h1 _ => h.block i h1⟩
theorem Tn.kin {R : Wh} {w w' : World} (h : w.grownBy w' (some R.k)) : Tn R w w' := ⟨h.os, h.tape, h.output, h.size, fun i hi _ h2 => h.block i hi (fun e => h2 (by cases e; rfl))⟩
theorem Tn.past {R : Wh} {B : Nat} {w w' : World} (h : Tn R w w') (hp : B ≤ R.p) (hk : B ≤ R.k) (hB : B ≤ w.heap.size) : Below B w w' := ⟨h.os, h.tape, h.output, h.size, fun i hi => h.block i (by omega) (by omega) (by omega)⟩
theorem bel_tn {R : Wh} {B : Nat} {w0 w w' : World} (b : Below B w0 w) (h : Tn R w w') (hp : B ≤ R.p) (hk : B ≤ R.k) (hB : B ≤ w.heap.size) : Below B w0 w' := b.trans (h.past hp hk hB)
section
variable {w : World} {R : Wh} {r : Rb}
theorem RbAt.plt (h : RbAt w R r) : R.p < w.heap.size := (Array.getElem?_eq_some_iff.1 h.at_).1
theorem RbAt.klt (h : RbAt w R r) : R.k < w.heap.size := h.kin.nums.lt
theorem RbAt.cell (h : RbAt w R r) (j : Nat) : w.cell? ⟨R.p, j, none⟩ = (rbA R.g R.k r)[j]? := by simp [World.cell?, h.at_]
theorem RbAt.froz (h : RbAt w R r) (j : Nat) : w.frozen? ⟨R.p, j, none⟩ = false := by simp [World.frozen?, h.at_]
theorem RbAt.go {w' : World} (h : RbAt w R r) (hb : Below w.heap.size w w') : RbAt w' R r :=
  ⟨(hb.block _ h.plt).trans h.at_, h.grid.go hb, h.kin.go hb, h.ok, h.pg, h.pu, h.pk, h.kg, h.ku⟩
/- A kinem stays where another block is turned that is no row of numbers. -/
theorem kin_other {w w' : World} {k u a v p : Nat} {cs : Array Value} {T : TypeId} (hT : T ≠ 3) (h : Kin.KinAt w k u a v) (hp : w.heap[p]? = some (.cells cs T (0, 0))) (hk : p ≠ k) (hb : Only p w w') : Kin.KinAt w' k u a v := by
  have e := hb.block k (Ne.symm hk)
  have hc : ∀ o, w'.cell? ⟨k, o, none⟩ = w.cell? ⟨k, o, none⟩ := fun o => Kin.cell_same e
  refine ⟨⟨(hc 0).trans h.nums.unit, (hc 1).trans h.nums.accel, (hc 2).trans h.nums.speed⟩, fun o => (Kin.frozen_same e).trans (h.froz o), fun n h1 h2 => ?_⟩
  obtain ⟨l, s⟩ := h.prof n h1 h2
  refine ⟨(hc _).trans l, ?_⟩
  rcases s with ⟨e0, e3⟩ | ⟨e0, x, e3, hr⟩
  · exact .inl ⟨(hc _).trans e0, (hc _).trans e3⟩
  · refine .inr ⟨(hc _).trans e0, x, (hc _).trans e3, ?_⟩
    refine ⟨hr.1, ?_⟩
    rcases hr.2 with hn | ⟨g, cap, cur, rfl, hb', hg, rest⟩
    · exact .inl hn
    · refine .inr ⟨g, cap, cur, rfl, hb', ?_, rest⟩
      by_cases hgp : g = p
      · rw [hgp, hp] at hg
        cases hg
        exact absurd rfl hT
      · exact (hb.block g hgp).trans hg
theorem grid_other {w w' : World} {g u p : Nat} {W H : Int} {us : List Int} {vp : Value} (h : Grid.GridAt w g u W H us vp) (e1 : w'.heap[g]? = w.heap[g]?) (e2 : w'.heap[u]? = w.heap[u]?) : Grid.GridAt w' g u W H us vp :=
  ⟨e1.trans h.hd, e2.trans h.row, h.w1, h.w2, h.h1, h.h2, h.len, h.small, h.ne⟩
theorem RbAt.only {w' : World} {r' : Rb} (h : RbAt w R r) (hb : Only R.p w w') (e : w'.heap[R.p]? = some (.cells (rbA R.g R.k r') 64 (0, 0))) : RbAt w' R r' :=
  ⟨e, grid_other (p := R.p) h.grid (hb.block _ (Ne.symm h.pg)) (hb.block _ (Ne.symm h.pu)), kin_other (by decide) h.kin h.at_ h.pk hb, h.ok, h.pg, h.pu, h.pk, h.kg, h.ku⟩
theorem RbAt.set {r' : Rb} (h : RbAt w R r) (o : Nat) (vs : List Value) (e : setAll (rbA R.g R.k r) o vs = rbA R.g R.k r') : RbAt (w.setCells R.p o vs) R r' :=
  h.only (Only.setCells _ _ _ _) (by rw [← e]; exact setCells_same _ _ _ _ _ _ _ h.at_)
/- Behind a kinem's call. -/
theorem RbAt.kgo {w' : World} (h : RbAt w R r) (hk : Kin.KGo R.k R.ku R.ka R.kv w w') : RbAt w' R r := by
  have hb : ∀ i, i < w.heap.size → i ≠ R.k → w'.heap[i]? = w.heap[i]? := fun i hi hn => hk.grow.block i hi (fun e => hn (by cases e; rfl))
  exact ⟨(hb _ h.plt h.pk).trans h.at_, grid_other (p := R.k) h.grid (hb _ h.grid.ltg (Ne.symm h.kg)) (hb _ h.grid.ltu (Ne.symm h.ku)), hk.kin, h.ok, h.pg, h.pu, h.pk, h.kg, h.ku⟩
theorem RbAt.c2 (h : RbAt w R r) : w.cell? ⟨R.p, 2, none⟩ = some (.int .i64 r.nb) := h.cell 2
theorem RbAt.c0 (h : RbAt w R r) : w.cell? ⟨R.p, 0, none⟩ = some (.pointer (some ⟨R.g, 0, none⟩)) := h.cell 0
theorem RbAt.c1 (h : RbAt w R r) : w.cell? ⟨R.p, 1, none⟩ = some (.pointer (some ⟨R.k, 0, none⟩)) := h.cell 1
theorem RbAt.c3 (h : RbAt w R r) : w.cell? ⟨R.p, 3, none⟩ = some (.int .i64 r.px) := h.cell 3
theorem RbAt.c4 (h : RbAt w R r) : w.cell? ⟨R.p, 4, none⟩ = some (.int .i64 r.py) := h.cell 4
theorem RbAt.c5 (h : RbAt w R r) : w.cell? ⟨R.p, 5, none⟩ = some (.bool r.pd) := h.cell 5
theorem RbAt.c6 (h : RbAt w R r) : w.cell? ⟨R.p, 6, none⟩ = some (.int .i64 r.ld) := h.cell 6
theorem RbAt.c7 (h : RbAt w R r) : w.cell? ⟨R.p, 7, none⟩ = some (.int .i64 r.ep) := h.cell 7
theorem RbAt.c8 (h : RbAt w R r) : w.cell? ⟨R.p, 8, none⟩ = some (.int .i64 r.lt) := h.cell 8
theorem RbAt.c9 (h : RbAt w R r) : w.cell? ⟨R.p, 9, none⟩ = some (.int .i64 r.mv.kd) := h.cell 9
theorem RbAt.c10 (h : RbAt w R r) : w.cell? ⟨R.p, 10, none⟩ = some (.int .i64 r.mv.dr) := h.cell 10
theorem RbAt.c11 (h : RbAt w R r) : w.cell? ⟨R.p, 11, none⟩ = some (.int .i64 r.mv.n) := h.cell 11
theorem RbAt.c20 (h : RbAt w R r) : w.cell? ⟨R.p, 20, none⟩ = some (.int .i64 r.gn) := h.cell 20
theorem RbAt.c21 (h : RbAt w R r) : w.cell? ⟨R.p, 21, none⟩ = some (.int .i64 r.lf) := h.cell 21
theorem RbAt.c22 (h : RbAt w R r) : w.cell? ⟨R.p, 22, none⟩ = some (.int .i64 r.la) := h.cell 22
theorem RbAt.c23 (h : RbAt w R r) : w.cell? ⟨R.p, 23, none⟩ = some (.bool r.st) := h.cell 23
theorem infoPose : (Tryz.prog.info? 42).map (·.size) = some 3 := by kernel_rfl
theorem infoMove : (Tryz.prog.info? 44).map (·.size) = some 11 := by kernel_rfl
theorem infoDoing : (Tryz.prog.info? 62).map (·.size) = some 15 := by kernel_rfl
theorem aggPose (w : World) : (isAgg 42).run Tryz.prog w = .ok true w := by unfold isAgg; rw [Sem.run_bind, run_underlying Tryz.underlying42 w]; rfl
theorem aggMove (w : World) : (isAgg 44).run Tryz.prog w = .ok true w := by unfold isAgg; rw [Sem.run_bind, run_underlying Tryz.underlying44 w]; rfl
theorem aggDoing (w : World) : (isAgg 62).run Tryz.prog w = .ok true w := by unfold isAgg; rw [Sem.run_bind, run_underlying Tryz.underlying62 w]; rfl
def poA (x y : Int) (d : Bool) : Array Value := #[.int .i64 x, .int .i64 y, .bool d]
def dgA (r : Rb) : Array Value := (dgL r).toArray
theorem RbAt.pose (h : RbAt w R r) : (loadVar 42 ⟨R.p, 3, none⟩).run Tryz.prog w = .ok (.agg (poA r.px r.py r.pd)) w :=
  run_loadVar_at w _ _ _ (fun j v hv => by
    rw [Addr.add_mid, h.cell]
    match j with
    | 0 => exact hv
    | 1 => exact hv
    | 2 => exact hv
    | j + 3 => simp [poA] at hv) (aggPose _) infoPose
theorem pre_at (l1 l2 l3 : List Value) (j : Nat) (v : Value) (h : l2[j]? = some v) : (l1 ++ (l2 ++ l3))[l1.length + j]? = some v := by
  rw [List.getElem?_append_right (by omega), Nat.add_sub_cancel_left, List.getElem?_append_left (List.getElem?_eq_some_iff.1 h).1]
  exact h
theorem RbAt.move (h : RbAt w R r) : (loadVar 44 ⟨R.p, 9, none⟩).run Tryz.prog w = .ok (.agg (mvA r.mv)) w :=
  run_loadVar_at w _ _ _ (fun j v hv => by
    rw [Addr.add_mid, h.cell]
    unfold mvA at hv
    rw [List.getElem?_toArray] at hv
    unfold rbA rbL dgL
    rw [List.getElem?_toArray]
    exact pre_at [_, _, _, _, _, _, _, _, _] (mvL r.mv) [_, _, _, _] j v hv) (aggMove _) infoMove
theorem RbAt.doing (h : RbAt w R r) : (loadVar 62 ⟨R.p, 9, none⟩).run Tryz.prog w = .ok (.agg (dgA r)) w :=
  run_loadVar_at w _ _ _ (fun j v hv => by
    rw [Addr.add_mid, h.cell]
    unfold dgA at hv
    rw [List.getElem?_toArray] at hv
    unfold rbA rbL
    rw [List.getElem?_toArray, List.getElem?_append_right (by simp only [List.length_cons, List.length_nil]; omega)]
    simp only [List.length_cons, List.length_nil]
    rw [show 9 + j - (0 + 1 + 1 + 1 + 1 + 1 + 1 + 1 + 1 + 1) = j by omega]
    exact hv) (aggDoing _) infoDoing
end
/- A telegram that was boxed. -/
section
variable {w : World} {g : Nat} {t : Tl} {T : TypeId} {fr : Nat × Nat} (h : w.heap[g]? = some (.cells (tlA t) T fr))
include h
theorem tl_cell (j : Nat) : w.cell? ⟨g, j, none⟩ = (tlA t)[j]? := by simp [World.cell?, h]
theorem tl_ep : w.cell? ⟨g, 2, none⟩ = some (.int .i64 t.ep) := tl_cell h 2
theorem tl_me : w.cell? ⟨g, 14, none⟩ = some (.int .i64 t.me) := tl_cell h 14
theorem tl_ma : w.cell? ⟨g, 13, none⟩ = some (.int .i64 t.ma) := tl_cell h 13
theorem tl_move : (loadVar 44 ⟨g, 4, none⟩).run Tryz.prog w = .ok (.agg (mvA (tmv t))) w :=
  run_loadVar_at w _ _ _ (fun j v hv => by
    rw [Addr.add_mid, tl_cell h]
    unfold mvA at hv
    rw [List.getElem?_toArray] at hv
    unfold tlA tlL
    rw [List.getElem?_toArray]
    exact pre_at [_, _, _, _] (mvL (tmv t)) [_, _, _, _] j v hv) (aggMove _) infoMove
end
theorem mvA_one (m : Mv) : (mvA m).all (·.oneCell') = true := by cases m; simp [mvA, mvL, Value.oneCell']
theorem dgA_one (r : Rb) : (dgA r).all (·.oneCell') = true := by cases r; simp [dgA, dgL, mvL, Value.oneCell']
theorem there_of {w : World} {g : Nat} {cs : Array Value} {T : TypeId} (h : w.heap[g]? = some (.cells cs T (0, 0))) (o n : Nat) (hn : o + n ≤ cs.size) : w.there g o n := fun j hj => by
  refine ⟨?_, by simp [World.frozen?, h]⟩
  have : o + j < cs.size := by omega
  simp [World.cell?, h, this]
end Go.Proofs.YtedhoghleelhfaaGreat.Rob
/-
  What each call of a robot tells and leaves.
-/
namespace Go.Proofs.YtedhoghleelhfaaGreat.Rob
set_option linter.unusedVariables false
set_option linter.unusedSimpArgs false
open Go Go.RowKit Go.Shelf Go.Proofs Go.Proofs.YtedhoghleelhfaaGreat.Lk Go.Proofs.YtedhoghleelhfaaGreat.Plain
attribute [local go_sem] Oper.semAt_some

section
variable {w : World} {R : Wh} {r : Rb} (h : RbAt w R r)
include h
set_option maxHeartbeats 1000000 in
theorem moves_any : Calls Tryz.prog 57 #[.pointer (some ⟨R.p, 0, none⟩)] w fun e w' => e = .returned (.bool (under r)) ∧ w' = w := by
  have c := h.c21
  generalize hp : R.p = p at *
  go_enter Tryz.func57, Tryz.ntmps57
  go_wp2
  go_ret
  exact ⟨rfl, rfl⟩
set_option maxHeartbeats 1000000 in
theorem load_any : Calls Tryz.prog 30 #[.pointer (some ⟨R.p, 0, none⟩)] w fun e w' => e = .returned (.int .i64 r.ld) ∧ w' = w := by
  have c := h.c6
  go_enter Tryz.func30, Tryz.ntmps30
  go_wp2
  go_ret
  exact ⟨rfl, rfl⟩
set_option maxHeartbeats 1000000 in
theorem epoch_any : Calls Tryz.prog 27 #[.pointer (some ⟨R.p, 0, none⟩)] w fun e w' => e = .returned (.int .i64 r.ep) ∧ w' = w := by
  have c := h.c7
  go_enter Tryz.func27, Tryz.ntmps27
  go_wp2
  go_ret
  exact ⟨rfl, rfl⟩
set_option maxHeartbeats 1000000 in
theorem carry_any (n : Int) : Calls Tryz.prog 39 #[.pointer (some ⟨R.p, 0, none⟩), .int .i64 n] w fun e w' => e = .returned (.tuple #[]) ∧ RbAt w' R (carryR r n) ∧ Only R.p w w' := by
  have c := h.c6
  have f := h.froz 6
  have HE : Hid (RbAt (w.setCell ⟨R.p, 6, none⟩ (.int .i64 n)) R (carryR r n) ∧ Only R.p w (w.setCell ⟨R.p, 6, none⟩ (.int .i64 n))) := ⟨h.set 6 [.int .i64 n] rfl, Only.setCell _ _ _ _⟩
  clear h
  go_enter Tryz.func39, Tryz.ntmps39
  go_wp2
  go_end0
  exact ⟨rfl, HE.out⟩
set_option maxHeartbeats 1000000 in
theorem stopped_any : Calls Tryz.prog 58 #[.pointer (some ⟨R.p, 0, none⟩)] w fun e w' => e = .returned (.bool (stopd r)) ∧ w' = w := by
  have c7 := h.c7
  have c8 := h.c8
  unfold stopd
  clear h
  by_cases h0 : r.lt = 0
  · have d0 : decide (r.lt = 0) = true := decide_eq_true h0
    have e0 : (r.lt == 0) = true := by rw [beq_iff_eq]; exact h0
    rw [d0]
    go_enter Tryz.func58, Tryz.ntmps58
    go_wp2
    go_ret
    exact ⟨by simp [h0], rfl⟩
  · have d0 : decide (r.lt = 0) = false := decide_eq_false h0
    have e0 : (r.lt == 0) = false := by rw [beq_eq_false_iff_ne]; exact h0
    rw [d0]
    go_enter Tryz.func58, Tryz.ntmps58
    go_wp2
    go_ret
    exact ⟨by simp [h0], rfl⟩
end
end Go.Proofs.YtedhoghleelhfaaGreat.Rob
/-
  What a robot tells; where it stands; what it does now; a delay.
-/
namespace Go.Proofs.YtedhoghleelhfaaGreat.Rob
set_option linter.unusedVariables false
set_option linter.unusedSimpArgs false
open Go Go.RowKit Go.Shelf Go.Proofs Go.Proofs.YtedhoghleelhfaaGreat.Lk Go.Proofs.YtedhoghleelhfaaGreat.Plain
attribute [local go_sem] Oper.semAt_some

theorem run_build_op {o : Oper} {a : Act} {w : World} (t : TypeId) (parts : Array (Nat × Operand)) (ho : o.op = .build t parts) (vs : List (Nat × Value)) (cs : Array Value) (hv : (parts.map fun (i, x) => (i, a.eval x)).toList = vs) (hf : Tryz.prog.built t vs = some cs) :
    (execOp a.eval o).run Tryz.prog w = .ok (.value (.agg cs)) w := by
  subst hv
  unfold execOp
  simp only [ho, Sem.run_bind, run_build w t _ _ hf, Result.andThen_ok, Sem.run_pure]
theorem wpList_buildAs {ops : Array Oper} {rest : List Oper} {o : Oper} {a : Act} {w : World} {Q : Exit → Act → World → Prop} (hg : o.guard = none) (t : TypeId) (parts : Array (Nat × Operand)) (ho : o.op = .build t parts) (cs : Array Value) (vs : List (Nat × Value))
    (hv : (parts.map fun (i, x) => (i, a.eval x)).toList = vs) (hf : Tryz.prog.built t vs = some cs) (h : wpList Tryz.prog ops Q rest (a.put o.dst (.agg cs)) w) : wpList Tryz.prog ops Q (o :: rest) a w :=
  wpList_plain hg fun K hK => by
    unfold Oper.wp
    rw [run_build_op t parts ho vs cs hv hf]
    exact hK _ _ h
theorem run_one (t : Tl) (w : World) : (Instr.buildSlice 71 1 #[(0, .agg (tlA t))]).run Tryz.prog w = .ok (.slice (some ⟨w.heap.size, 0, none⟩) 1 1) (w.alloc (.cells (tlA t) 46)) := by
  cases t
  kernel_rfl
theorem run_one_op {o : Oper} {a : Act} {w : World} (x : Operand) (ho : o.op = .buildSlice 71 1 #[(0, x)]) (t : Tl) (hx : a.eval x = .agg (tlA t)) :
    (execOp a.eval o).run Tryz.prog w = .ok (.value (.slice (some ⟨w.heap.size, 0, none⟩) 1 1)) (w.alloc (.cells (tlA t) 46)) := by
  unfold execOp
  simp only [ho, List.map_toArray, List.map_cons, List.map_nil, hx, Sem.run_bind, run_one, Result.andThen_ok, Sem.run_pure]
theorem builtHalt (r : Rb) : Tryz.prog.built 46 [(0, .int .i64 4), (1, .int .i64 r.nb), (2, .int .i64 r.ep), (5, .agg (poA r.px r.py r.pd)), (6, .int .i64 r.ld)] = some (tlA (haltP r)) := by cases r; kernel_rfl
theorem builtAck (r : Rb) : Tryz.prog.built 46 [(0, .int .i64 3), (1, .int .i64 r.nb), (2, .int .i64 r.ep), (3, .int .i64 r.lt)] = some (tlA (ackP r)) := by cases r; kernel_rfl
/- The telegrams that a call tells: none, or one, in a block of one's own. -/
def LsAt (B : Nat) (w : World) (v : Value) : Option Tl → Prop
  | none => v = .slice none 0 0
  | some t => ∃ g, v = .slice (some ⟨g, 0, none⟩) 1 1 ∧ B ≤ g ∧ w.heap[g]? = some (.cells (tlA t) 46 (0, 0))
theorem LsAt.go {B : Nat} {w w' : World} {v : Value} {o : Option Tl} (h : LsAt B w v o) (hb : Below w.heap.size w w') : LsAt B w' v o := by
  cases o with
  | none => exact h
  | some t =>
    obtain ⟨g, e, hg, ha⟩ := h
    exact ⟨g, e, hg, (hb.block _ (Array.getElem?_eq_some_iff.1 ha).1).trans ha⟩
theorem LsAt.mono {B B' : Nat} {w : World} {v : Value} {o : Option Tl} (h : LsAt B w v o) (hb : B' ≤ B) : LsAt B' w v o := by
  cases o with
  | none => exact h
  | some t =>
    obtain ⟨g, e, hg, ha⟩ := h
    exact ⟨g, e, Nat.le_trans hb hg, ha⟩
theorem wpList_allocAs {ops : Array Oper} {rest : List Oper} {o : Oper} {a : Act} {w : World} {Q : Exit → Act → World → Prop} (hg : o.guard = none) (ty : TypeId) (h1 : o.op = .alloc ty) (cs : Array Value) (hz : (zeroValue ty).run Tryz.prog w = .ok (.agg cs) w)
    (h : wpList Tryz.prog ops Q rest (a.put o.dst (.pointer (some ⟨w.heap.size, 0, none⟩))) (w.alloc (.cells cs ty))) : wpList Tryz.prog ops Q (o :: rest) a w := by
  refine wpList_plain hg fun K hK => ?_
  unfold Oper.wp execOp
  simp only [h1, Instr.alloc, Sem.run_bind, hz, newVar, newRow, run_newObj_alloc, Sem.run_pure, Result.andThen_ok, Value.cells]
  exact hK _ _ h
theorem poA_one (x y : Int) (d : Bool) : (poA x y d).all (·.oneCell') = true := by simp [poA, Value.oneCell']
theorem zeroPose (w : World) : (zeroValue 42).run Tryz.prog w = .ok (.agg (poA 0 0 false)) w := by kernel_rfl
theorem zeroMove (w : World) : (zeroValue 44).run Tryz.prog w = .ok (.agg (mvA mv0)) w := by kernel_rfl
theorem results_one {fn : Func} {p : Tmp} {ty : TypeId} (h : fn.results = #[.cell p ty]) (tmps : Array Value) (w : World) (N : Nat) (cs : Array Value)
    (hp : tmps.getD p undef = .pointer (some ⟨N, 0, none⟩)) (hg : (loadVar ty ⟨N, 0, none⟩).run Tryz.prog w = .ok (.agg cs) w) : (results fn tmps).run Tryz.prog w = .ok (.agg cs) w := by
  have hp' : tmps[p]?.getD undef = .pointer (some ⟨N, 0, none⟩) := by simpa using hp
  simp [results, h, hp', asAddr, hg]
theorem load_row_of {w : World} {g : Nat} {cs : Array Value} {T ty : TypeId} {fr : Nat × Nat} (h : w.heap[g]? = some (.cells cs T fr)) (ha : (isAgg ty).run Tryz.prog w = .ok true w) (hi : (Tryz.prog.info? ty).map (·.size) = some cs.size) : (loadVar ty ⟨g, 0, none⟩).run Tryz.prog w = .ok (.agg cs) w :=
  run_loadVar_at w _ _ _ (fun j v hv => by rw [Lk.add_zero]; simpa [World.cell?, h] using hv) ha hi
section
variable {w : World} {R : Wh} {r : Rb} (h : RbAt w R r)
include h
set_option maxRecDepth 100000 in
set_option maxHeartbeats 2000000 in
theorem tell_any : Calls Tryz.prog 32 #[.pointer (some ⟨R.p, 0, none⟩)] w fun e w' => ∃ v, e = .returned v ∧ LsAt w.heap.size w' v (some (tellP r)) ∧ Below w.heap.size w w' := by
  have cs := stopped_any h
  have HR : Hid (RbAt w R r) := h
  clear h
  unfold tellP
  cases hs : stopd r with
  | true =>
    rw [hs] at cs
    rw [if_pos rfl]
    clear hs
    go_enter Tryz.func32, Tryz.ntmps32
    go_upto_region 2 with (first | (go_at_call 58; refine cs.mono ?_; rintro e w1 ⟨rfl, hw1⟩; rw [hw1]; clear hw1))
    clear cs
    refine start_held (S := fun u => RbAt u R r) 19 rfl (by kernel_rfl) (HR.out.go (Below.refl _ _).drew) ?_
    simp only [Array.replicate_succ, Array.replicate_zero, List.push_toArray, List.nil_append, List.cons_append]
    have B0 : Below w.heap.size w w.drew := (Below.refl _ _).drew
    have hS0 : RbAt w.drew R r := HR.out.go B0
    generalize w.drew = x0 at *
    refine tkq 0 hS0 ?_
    refine tkq 1 hS0 ?_
    refine tkq 2 hS0 ?_
    refine tkf 3 hS0 rfl (fun u hu => by have zz0 := (fun (u : World) (hu : RbAt u R r) => hu.c2) u hu; go_simp; try rfl) ?_
    refine tkq 4 hS0 ?_
    refine tkq 5 hS0 ?_
    refine tkq 6 hS0 ?_
    refine tkf 7 hS0 rfl (fun u hu => by have zz0 := (fun (u : World) (hu : RbAt u R r) => hu.c7) u hu; go_simp; try rfl) ?_
    refine tkq 8 hS0 ?_
    refine tkq 9 hS0 ?_
    refine tkq 10 hS0 ?_
    refine tkf 11 hS0 rfl (v := .agg (poA r.px r.py r.pd)) (fun u hu => by exact run_load_at 42 _ rfl ⟨R.p, 3, none⟩ rfl _ (RbAt.pose hu)) ?_
    refine tkq 12 hS0 ?_
    refine tkq 13 hS0 ?_
    refine tkq 14 hS0 ?_
    refine tkf 15 hS0 rfl (fun u hu => by have zz0 := (fun (u : World) (hu : RbAt u R r) => hu.c6) u hu; go_simp; try rfl) ?_
    refine tkf 16 hS0 rfl (v := .agg (tlA (haltP r))) (fun u hu => by refine run_build_op _ _ rfl _ _ ?_ (builtHalt r); simp only [List.map_toArray, List.map_cons, List.map_nil]; rfl) ?_
    refine wpAnyH_ready (rs := [17]) (by kernel_rfl) (by simp) (AllReadyH.cons ((nth_eq _ 17).trans rfl) ?_ AllReadyH.nil)
    intro K1 hK1
    obtain ⟨x1, hx1⟩ : ∃ x, x = x0.alloc (.cells (tlA (haltP r)) 46) := ⟨_, rfl⟩
    have hS1 := hS0.go (show Below x0.heap.size x0 x1 by rw [hx1]; exact (Below.refl _ _).alloc (Nat.le_refl _) _)
    refine value_in hK1 (by kernel_rfl) (.slice (some ⟨x0.heap.size, 0, none⟩) 1 1) x1 (by rw [hx1]; exact run_one_op _ rfl (haltP r) rfl) hS1 ?_
    simp only [Act.put, List.setIfInBounds_toArray, List.set_cons_zero, List.set_cons_succ]
    refine tkq 18 hS1 ?_
    refine done_held (by kernel_rfl) ?_ _
    go_wp2
    go_ret
    exact ⟨_, rfl, ⟨_, rfl, B0.size, by rw [hx1]; exact World.alloc_heap_new _ _⟩, B0.trans (by rw [hx1]; exact (Below.refl _ _).alloc B0.size _)⟩
  | false =>
    rw [hs] at cs
    rw [if_neg (by decide)]
    clear hs
    go_enter Tryz.func32, Tryz.ntmps32
    go_upto_region 3 with (first | (go_at_call 58; refine cs.mono ?_; rintro e w1 ⟨rfl, hw1⟩; rw [hw1]; clear hw1))
    clear cs
    refine start_held (S := fun u => RbAt u R r) 15 rfl (by kernel_rfl) (HR.out.go (Below.refl _ _).drew) ?_
    simp only [Array.replicate_succ, Array.replicate_zero, List.push_toArray, List.nil_append, List.cons_append]
    have B0 : Below w.heap.size w w.drew := (Below.refl _ _).drew
    have hS0 : RbAt w.drew R r := HR.out.go B0
    generalize w.drew = x0 at *
    refine tkq 0 hS0 ?_
    refine tkq 1 hS0 ?_
    refine tkq 2 hS0 ?_
    refine tkf 3 hS0 rfl (fun u hu => by have zz0 := (fun (u : World) (hu : RbAt u R r) => hu.c2) u hu; go_simp; try rfl) ?_
    refine tkq 4 hS0 ?_
    refine tkq 5 hS0 ?_
    refine tkq 6 hS0 ?_
    refine tkf 7 hS0 rfl (fun u hu => by have zz0 := (fun (u : World) (hu : RbAt u R r) => hu.c7) u hu; go_simp; try rfl) ?_
    refine tkq 8 hS0 ?_
    refine tkq 9 hS0 ?_
    refine tkq 10 hS0 ?_
    refine tkf 11 hS0 rfl (fun u hu => by have zz0 := (fun (u : World) (hu : RbAt u R r) => hu.c8) u hu; go_simp; try rfl) ?_
    refine tkf 12 hS0 rfl (v := .agg (tlA (ackP r))) (fun u hu => by refine run_build_op _ _ rfl _ _ ?_ (builtAck r); simp only [List.map_toArray, List.map_cons, List.map_nil]; rfl) ?_
    refine wpAnyH_ready (rs := [13]) (by kernel_rfl) (by simp) (AllReadyH.cons ((nth_eq _ 13).trans rfl) ?_ AllReadyH.nil)
    intro K1 hK1
    obtain ⟨x1, hx1⟩ : ∃ x, x = x0.alloc (.cells (tlA (ackP r)) 46) := ⟨_, rfl⟩
    have hS1 := hS0.go (show Below x0.heap.size x0 x1 by rw [hx1]; exact (Below.refl _ _).alloc (Nat.le_refl _) _)
    refine value_in hK1 (by kernel_rfl) (.slice (some ⟨x0.heap.size, 0, none⟩) 1 1) x1 (by rw [hx1]; exact run_one_op _ rfl (ackP r) rfl) hS1 ?_
    simp only [Act.put, List.setIfInBounds_toArray, List.set_cons_zero, List.set_cons_succ]
    refine tkq 14 hS1 ?_
    refine done_held (by kernel_rfl) ?_ _
    go_wp2
    go_ret
    exact ⟨_, rfl, ⟨_, rfl, B0.size, by rw [hx1]; exact World.alloc_heap_new _ _⟩, B0.trans (by rw [hx1]; exact (Below.refl _ _).alloc B0.size _)⟩
set_option maxRecDepth 100000 in
set_option maxHeartbeats 2000000 in
theorem pose_any : Calls Tryz.prog 29 #[.pointer (some ⟨R.p, 0, none⟩)] w fun e w' => e = .returned (.agg (poA r.px r.py r.pd)) ∧ Below w.heap.size w w' := by
  obtain ⟨w1, hw1⟩ : ∃ w1, w1 = w.alloc (.cells (poA 0 0 false) 42) := ⟨_, rfl⟩
  have b1 : Below w.heap.size w w1 := by rw [hw1]; exact (Below.refl _ _).alloc (Nat.le_refl _) _
  have a1 : w1.heap[w.heap.size]? = some (.cells (poA 0 0 false) 42 (0, 0)) := by rw [hw1]; exact World.alloc_heap_new _ _
  have HR : Hid (RbAt w1 R r) := h.go b1
  have HE : Hid (Below w.heap.size w (w1.setRow w.heap.size (poA r.px r.py r.pd))) := Grid.below_row b1 (Nat.le_refl _) _
  have HA : Hid (w1.heap[w.heap.size]? = some (.cells (poA 0 0 false) 42 (0, 0))) := a1
  clear h b1 a1
  go_enter Tryz.func29, Tryz.ntmps29
  go_wp2_with (first
    | (refine wpList_allocAs rfl 42 rfl (poA 0 0 false) (zeroPose _) ?_; rw [← hw1]; clear hw1)
    | (refine wpList_load_at rfl 42 (.tmp 5) rfl ⟨R.p, 3, none⟩ rfl (poA r.px r.py r.pd) HR.out.pose ?_)
    | (refine wpList_store_row rfl 42 (.tmp 2) (.tmp 6) rfl w.heap.size (poA r.px r.py r.pd) rfl rfl 42 (poA 0 0 false) HA.out infoPose rfl (poA_one _ _ _) ?_))
  exact bodyPost_ret (results_one Tryz.results29 _ _ w.heap.size (poA r.px r.py r.pd) rfl (load_row_of (cs := poA r.px r.py r.pd) (setRow_heap _ _ _ _ _ _ HA.out) (aggPose _) infoPose)) rfl ⟨rfl, HE.out⟩
end
end Go.Proofs.YtedhoghleelhfaaGreat.Rob
/-
  What a robot does now; a delay; whether a telegram is the last one, whether it may begin.
-/
namespace Go.Proofs.YtedhoghleelhfaaGreat.Rob
set_option linter.unusedVariables false
set_option linter.unusedSimpArgs false
open Go Go.RowKit Go.Shelf Go.Proofs Go.Proofs.YtedhoghleelhfaaGreat.Lk Go.Proofs.YtedhoghleelhfaaGreat.Plain
attribute [local go_sem] Oper.semAt_some

/- A call with a telegram that was boxed. -/
structure Hr (w : World) (R : Wh) (r : Rb) (b : Nat) (t : Tl) (u : World) : Prop where
  rb : RbAt u R r
  tl : u.heap[b]? = some (.cells (tlA t) 46 (0, 0))
  bel : Below w.heap.size w u
theorem Hr.go {w : World} {R : Wh} {r : Rb} {b : Nat} {t : Tl} {u u' : World} (h : Hr w R r b t u) (hb : Below u.heap.size u u') : Hr w R r b t u' :=
  ⟨h.rb.go hb, (hb.block _ (Array.getElem?_eq_some_iff.1 h.tl).1).trans h.tl, bcat h.bel hb⟩
theorem Hr.make {w w1 : World} {R : Wh} {r : Rb} {t : Tl} (h : RbAt w R r) (hw1 : w1 = w.alloc (.cells (tlA t) 46)) : Hr w R r w.heap.size t w1 := by
  have b1 : Below w.heap.size w w1 := by rw [hw1]; exact (Below.refl _ _).alloc (Nat.le_refl _) _
  exact ⟨h.go b1, by rw [hw1]; exact World.alloc_heap_new _ _, b1⟩
theorem moves_ret {w : World} {R : Wh} {r : Rb} (h : RbAt w R r) : Calls Tryz.prog 57 #[.pointer (some ⟨R.p, 0, none⟩)] w fun e w' => ∃ v, e = .returned v ∧ (v = .bool (under r) ∧ w' = w) := (moves_any h).mono fun e w' ⟨a, b⟩ => ⟨_, a, rfl, b⟩
theorem legal_ret {w : World} {R : Wh} {r : Rb} (h : RbAt w R r) (m : Mv) : Calls Tryz.prog 76 #[.pointer (some ⟨R.g, 0, none⟩), .agg (mvA m)] w fun e w' => ∃ v, e = .returned v ∧ (v = .bool (Grid.legalU R.W R.H R.us (gm m)) ∧ Below w.heap.size w w') :=
  (Grid.legal_any R.g R.u R.W R.H R.us R.vp (gm m) w h.grid).mono fun e w' ⟨a, b⟩ => ⟨_, a, rfl, b⟩
theorem less_ret (a b : Int) (w : World) : Calls Tryz.prog 77 #[.int .i64 a, .int .i64 b] w fun e w' => ∃ v, e = .returned v ∧ (v = .int .i64 (less a b) ∧ Below w.heap.size w w') := (Tick.less_any a b w).mono fun e w' ⟨h, k⟩ => ⟨_, h, rfl, k.below⟩
/- What is held against nothing, and a telegram in the heap beside a move. -/
structure Hm (w : World) (R : Wh) (r : Rb) (b : Nat) (t : Tl) (u : World) : Prop where
  hr : Hr w R r b t u
  mv : u.heap[b + 1]? = some (.cells (mvA (tmv t)) 44 (0, 0))
theorem Hm.go {w : World} {R : Wh} {r : Rb} {b : Nat} {t : Tl} {u u' : World} (h : Hm w R r b t u) (hb : Below u.heap.size u u') : Hm w R r b t u' :=
  ⟨h.hr.go hb, (hb.block _ (Array.getElem?_eq_some_iff.1 h.mv).1).trans h.mv⟩
theorem mv_cell {w : World} {g : Nat} {m : Mv} {T : TypeId} {fr : Nat × Nat} (h : w.heap[g]? = some (.cells (mvA m) T fr)) (j : Nat) : w.cell? ⟨g, j, none⟩ = (mvA m)[j]? := by simp [World.cell?, h]
theorem mv_from {w : World} {g : Nat} {m : Mv} {T : TypeId} {fr : Nat × Nat} (h : w.heap[g]? = some (.cells (mvA m) T fr)) : (loadVar 42 ⟨g, 3, none⟩).run Tryz.prog w = .ok (.agg (poA m.fx m.fy m.fd)) w :=
  run_loadVar_at w _ _ _ (fun j v hv => by
    rw [Addr.add_mid, mv_cell h]
    match j with
    | 0 => exact hv
    | 1 => exact hv
    | 2 => exact hv
    | j + 3 => simp [poA] at hv) (aggPose _) infoPose
theorem mv_to {w : World} {g : Nat} {m : Mv} {T : TypeId} {fr : Nat × Nat} (h : w.heap[g]? = some (.cells (mvA m) T fr)) : (loadVar 42 ⟨g, 6, none⟩).run Tryz.prog w = .ok (.agg (poA m.tx m.ty m.td)) w :=
  run_loadVar_at w _ _ _ (fun j v hv => by
    rw [Addr.add_mid, mv_cell h]
    match j with
    | 0 => exact hv
    | 1 => exact hv
    | 2 => exact hv
    | j + 3 => simp [poA] at hv) (aggPose _) infoPose
theorem mv_all {w : World} {g : Nat} {m : Mv} {T : TypeId} {fr : Nat × Nat} (h : w.heap[g]? = some (.cells (mvA m) T fr)) : (loadVar 44 ⟨g, 0, none⟩).run Tryz.prog w = .ok (.agg (mvA m)) w := load_row_of h (aggMove _) infoMove
section
variable {w : World} {R : Wh} {r : Rb} (h : RbAt w R r)
include h
set_option maxRecDepth 100000 in
set_option maxHeartbeats 2000000 in
theorem now_any : Calls Tryz.prog 28 #[.pointer (some ⟨R.p, 0, none⟩)] w fun e w' => e = .returned (.tuple #[.agg (mvA r.mv), .bool (under r)]) ∧ Below w.heap.size w w' := by
  obtain ⟨w1, hw1⟩ : ∃ w1, w1 = w.alloc (.cells (mvA mv0) 44) := ⟨_, rfl⟩
  have b1 : Below w.heap.size w w1 := by rw [hw1]; exact (Below.refl _ _).alloc (Nat.le_refl _) _
  have a1 : w1.heap[w.heap.size]? = some (.cells (mvA mv0) 44 (0, 0)) := by rw [hw1]; exact World.alloc_heap_new _ _
  have HW : Hid (Below w.heap.size w w1.drew ∧ w1.drew.heap[w.heap.size]? = some (.cells (mvA mv0) 44 (0, 0)) ∧ RbAt w1.drew R r) := ⟨b1.drew, a1, (h.go b1).go (Below.refl _ _).drew⟩
  have HP : Hid (RbAt w R r) := h
  clear h b1 a1
  go_enter Tryz.func28, Tryz.ntmps28
  go_upto_region 1 with (refine wpList_allocAs rfl 44 rfl (mvA mv0) (zeroMove _) ?_; rw [← hw1]; clear hw1)
  refine start_held (S := fun u => RbAt u R r) 9 rfl (by kernel_rfl) (HW.out.2.2) ?_
  simp only [Array.replicate_succ, Array.replicate_zero, List.push_toArray, List.nil_append, List.cons_append]
  have hS0 : RbAt w1.drew R r := HW.out.2.2
  have HA : Hid (w1.drew.heap[w.heap.size]? = some (.cells (mvA mv0) 44 (0, 0))) := HW.out.2.1
  have HE : Hid (Below w.heap.size w (w1.drew.setRow w.heap.size (mvA r.mv))) := Grid.below_row HW.out.1 (Nat.le_refl _) _
  have HG : Hid (RbAt (w1.drew.setRow w.heap.size (mvA r.mv)) R r) := HP.out.go HE.out
  clear HW
  generalize w1.drew = x0 at *
  refine tkq 0 hS0 ?_
  refine tkq 1 hS0 ?_
  refine tkq 2 hS0 ?_
  refine tkq 3 hS0 ?_
  refine tkf 4 hS0 rfl (v := .agg (mvA r.mv)) (fun u hu => by exact run_load_at 44 _ rfl ⟨R.p, 9, none⟩ rfl _ (RbAt.move hu)) ?_
  refine tkq 5 hS0 ?_
  refine wpAnyH_ready (rs := [6]) (by kernel_rfl) (by simp) (AllReadyH.cons ((nth_eq _ 6).trans rfl) ?_ AllReadyH.nil)
  intro K1 hK1
  refine call_in hK1 (by kernel_rfl) 57 #[.pointer (some ⟨R.p, 0, none⟩)] (by go_simp) _ (moves_ret (hS0)) ?_
  rintro v1 x1 ⟨rfl, hx1⟩
  rw [hx1]
  clear hx1 x1
  refine ⟨hS0, ?_⟩
  simp only [Act.put, List.setIfInBounds_toArray, List.set_cons_zero, List.set_cons_succ]
  refine wpAnyH_ready (rs := [7]) (by kernel_rfl) (by simp) (AllReadyH.cons ((nth_eq _ 7).trans rfl) ?_ AllReadyH.nil)
  intro K2 hK2
  obtain ⟨x2, hx2⟩ : ∃ x, x = x0.setRow w.heap.size (mvA r.mv) := ⟨_, rfl⟩
  have hS2 := (show RbAt x2 R r by rw [hx2]; exact HG.out)
  refine skip_in hK2 (by kernel_rfl) x2 (by rw [hx2]; exact run_store_op 44 _ _ rfl w.heap.size (mvA r.mv) rfl rfl (run_storeVar_row _ _ 44 44 (mvA mv0) (mvA r.mv) HA.out infoMove rfl (mvA_one _))) hS2 ?_
  simp only [Act.put, List.setIfInBounds_toArray, List.set_cons_zero, List.set_cons_succ]
  refine tkq 8 hS2 ?_
  refine done_held (by kernel_rfl) ?_ _
  go_wp2
  exact bodyPost_ret (Lk.results_cell_tmp Tryz.results28 _ _ w.heap.size (mvA r.mv) rfl (load_row_of (cs := mvA r.mv) (by rw [hx2]; exact setRow_heap _ _ _ _ _ _ HA.out) (aggMove _) infoMove)) rfl ⟨rfl, by rw [hx2]; exact HE.out⟩
set_option maxRecDepth 100000 in
set_option maxHeartbeats 2000000 in
theorem delay_any (n : Int) (h0 : 0 ≤ r.la) (h1 : r.la ≤ 1000000) : Calls Tryz.prog 37 #[.pointer (some ⟨R.p, 0, none⟩), .int .i64 n] w fun e w' => e = .returned (.tuple #[]) ∧ RbAt w' R (lateR r n) ∧ Only R.p w w' := by
  have cm := moves_any h
  have c22 := h.c22
  have f22 := h.froz 22
  unfold lateR
  by_cases hu : under r = true ∧ 0 < n
  · rw [if_pos hu]
    obtain ⟨hu, hn⟩ := hu
    rw [hu] at cm
    have HE : Hid (RbAt (w.setCell ⟨R.p, 22, none⟩ (.int .i64 (min (r.la + min n 1000000) 1000000))) R { r with la := min (r.la + min n 1000000) 1000000 } ∧ Only R.p w (w.setCell ⟨R.p, 22, none⟩ (.int .i64 (min (r.la + min n 1000000) 1000000)))) := ⟨h.set 22 [_] rfl, Only.setCell _ _ _ _⟩
    clear h hu
    have hm : min n 1000000 ≤ 1000000 := by omega
    have hm0 : 0 ≤ min n 1000000 := by omega
    go_enter Tryz.func37, Tryz.ntmps37
    go_wp2_with (go_at_call 57; refine cm.mono ?_; rintro e w1 ⟨rfl, hw1⟩; rw [hw1]; clear hw1)
    go_end0
    exact ⟨rfl, HE.out⟩
  · rw [if_neg hu]
    have HE : Hid (RbAt w R r ∧ Only R.p w w) := ⟨h, Only.refl _ _⟩
    clear h
    cases hq : under r with
    | true =>
      rw [hq] at cm hu
      have hn : ¬ 0 < n := fun q => hu ⟨rfl, q⟩
      clear hu hq
      go_enter Tryz.func37, Tryz.ntmps37
      go_wp2_with (go_at_call 57; refine cm.mono ?_; rintro e w1 ⟨rfl, hw1⟩; rw [hw1]; clear hw1)
      go_end0
      exact ⟨rfl, HE.out⟩
    | false =>
      rw [hq] at cm
      clear hu hq
      go_enter Tryz.func37, Tryz.ntmps37
      go_wp2_with (go_at_call 57; refine cm.mono ?_; rintro e w1 ⟨rfl, hw1⟩; rw [hw1]; clear hw1)
      go_end0
      exact ⟨rfl, HE.out⟩
set_option maxRecDepth 100000 in
set_option maxHeartbeats 2000000 in
theorem isLast_any (t : Tl) : Calls Tryz.prog 56 #[.pointer (some ⟨R.p, 0, none⟩), .agg (tlA t)] w fun e w' => e = .returned (.bool (lastP r t)) ∧ Below w.heap.size w w' := by
  obtain ⟨w1, hw1⟩ : ∃ w1, w1 = w.alloc (.cells (tlA t) 46) := ⟨_, rfl⟩
  have w1H : Hr w R r w.heap.size t w1 := Hr.make h hw1
  clear h
  obtain ⟨lb, hlb⟩ : ∃ lb, lastP r t = lb := ⟨_, rfl⟩
  rw [hlb]
  have HL : Hid (lastP r t = lb) := hlb
  clear hlb
  by_cases h1 : t.ep = r.ep
  · have q1 : (t.ep != r.ep) = false := by simp [h1]
    by_cases h2 : t.kd = 1
    · have q2 : (t.kd == 1) = true := by rw [beq_iff_eq]; exact h2
      by_cases h3 : t.nm = r.lt
      · have q3 : (t.nm == r.lt) = true := by rw [beq_iff_eq]; exact h3
        go_enter Tryz.func56, Tryz.ntmps56
        go_upto_region 1 with (refine wpList_boxAt rfl 46 (.tmp 1) rfl (tlA t) rfl ?_; rw [← hw1]; clear hw1)
        refine start_held (S := Hr w R r w.heap.size t) 8 rfl (by kernel_rfl) (w1H.go (Below.refl _ _).drew) ?_
        simp only [Array.replicate_succ, Array.replicate_zero, List.push_toArray, List.nil_append, List.cons_append]
        have hS0 : Hr w R r w.heap.size t w1.drew := w1H.go (Below.refl _ _).drew
        generalize w1.drew = x0 at *
        refine tkq 0 hS0 ?_
        refine tkf 1 hS0 rfl (fun u hu => by have zz0 := (fun u hu => tl_ep (Hr.tl hu)) u hu; go_simp; try rfl) ?_
        refine tkq 2 hS0 ?_
        refine tkq 3 hS0 ?_
        refine tkq 4 hS0 ?_
        refine tkf 5 hS0 rfl (fun u hu => by have zz0 := (fun u hu => RbAt.c7 (Hr.rb hu)) u hu; go_simp; try rfl) ?_
        refine tkq 6 hS0 ?_
        refine tkq 7 hS0 ?_
        refine done_held (by kernel_rfl) ?_ _
        have k0 := tl_kd hS0.tl
        go_upto_region 4 with fail
        refine start_held (S := Hr w R r w.heap.size t) 15 rfl (by kernel_rfl) (hS0.go (Below.refl _ _).drew) ?_
        simp only [Array.replicate_succ, Array.replicate_zero, List.push_toArray, List.nil_append, List.cons_append]
        have hS4 : Hr w R r w.heap.size t x0.drew := hS0.go (Below.refl _ _).drew
        generalize x0.drew = x4 at *
        refine tkq 0 hS4 ?_
        refine tkf 1 hS4 rfl (fun u hu => by have zz0 := (fun u hu => tl_nm (Hr.tl hu)) u hu; go_simp; try rfl) ?_
        refine tkq 2 hS4 ?_
        refine tkq 3 hS4 ?_
        refine tkq 4 hS4 ?_
        refine tkf 5 hS4 rfl (fun u hu => by have zz0 := (fun u hu => RbAt.c8 (Hr.rb hu)) u hu; go_simp; try rfl) ?_
        refine tkq 6 hS4 ?_
        refine tkq 7 hS4 ?_
        refine tkq 8 hS4 ?_
        refine tkq 9 hS4 ?_
        refine tkq 10 hS4 ?_
        refine tkf 11 hS4 rfl (fun u hu => by have zz0 := (fun u hu => RbAt.c8 (Hr.rb hu)) u hu; go_simp; try rfl) ?_
        refine tkq 12 hS4 ?_
        refine tkq 13 hS4 ?_
        refine tkq 14 hS4 ?_
        refine done_held (by kernel_rfl) ?_ _
        go_wp2
        go_ret
        exact ⟨ret_bool (by rw [← HL.out]; simp [lastP, h1, h2, h3]), hS4.bel⟩
      · have q3 : (t.nm == r.lt) = false := by rw [beq_eq_false_iff_ne]; exact h3
        go_enter Tryz.func56, Tryz.ntmps56
        go_upto_region 1 with (refine wpList_boxAt rfl 46 (.tmp 1) rfl (tlA t) rfl ?_; rw [← hw1]; clear hw1)
        refine start_held (S := Hr w R r w.heap.size t) 8 rfl (by kernel_rfl) (w1H.go (Below.refl _ _).drew) ?_
        simp only [Array.replicate_succ, Array.replicate_zero, List.push_toArray, List.nil_append, List.cons_append]
        have hS0 : Hr w R r w.heap.size t w1.drew := w1H.go (Below.refl _ _).drew
        generalize w1.drew = x0 at *
        refine tkq 0 hS0 ?_
        refine tkf 1 hS0 rfl (fun u hu => by have zz0 := (fun u hu => tl_ep (Hr.tl hu)) u hu; go_simp; try rfl) ?_
        refine tkq 2 hS0 ?_
        refine tkq 3 hS0 ?_
        refine tkq 4 hS0 ?_
        refine tkf 5 hS0 rfl (fun u hu => by have zz0 := (fun u hu => RbAt.c7 (Hr.rb hu)) u hu; go_simp; try rfl) ?_
        refine tkq 6 hS0 ?_
        refine tkq 7 hS0 ?_
        refine done_held (by kernel_rfl) ?_ _
        have k0 := tl_kd hS0.tl
        go_upto_region 4 with fail
        refine start_held (S := Hr w R r w.heap.size t) 15 rfl (by kernel_rfl) (hS0.go (Below.refl _ _).drew) ?_
        simp only [Array.replicate_succ, Array.replicate_zero, List.push_toArray, List.nil_append, List.cons_append]
        have hS4 : Hr w R r w.heap.size t x0.drew := hS0.go (Below.refl _ _).drew
        generalize x0.drew = x4 at *
        refine tkq 0 hS4 ?_
        refine tkf 1 hS4 rfl (fun u hu => by have zz0 := (fun u hu => tl_nm (Hr.tl hu)) u hu; go_simp; try rfl) ?_
        refine tkq 2 hS4 ?_
        refine tkq 3 hS4 ?_
        refine tkq 4 hS4 ?_
        refine tkf 5 hS4 rfl (fun u hu => by have zz0 := (fun u hu => RbAt.c8 (Hr.rb hu)) u hu; go_simp; try rfl) ?_
        refine tkq 6 hS4 ?_
        refine tkq 7 hS4 ?_
        refine skq 8 hS4 ?_
        refine skq 9 hS4 ?_
        refine skq 10 hS4 ?_
        refine skq 11 hS4 ?_
        refine skq 12 hS4 ?_
        refine tkq 13 hS4 ?_
        refine tkq 14 hS4 ?_
        refine done_held (by kernel_rfl) ?_ _
        go_wp2
        go_ret
        exact ⟨ret_bool (by rw [← HL.out]; simp [lastP, h1, h2, h3]), hS4.bel⟩
    · have q2 : (t.kd == 1) = false := by rw [beq_eq_false_iff_ne]; exact h2
      by_cases h3 : t.kd = 2
      · have q3 : (t.kd == 2) = true := by rw [beq_iff_eq]; exact h3
        go_enter Tryz.func56, Tryz.ntmps56
        go_upto_region 1 with (refine wpList_boxAt rfl 46 (.tmp 1) rfl (tlA t) rfl ?_; rw [← hw1]; clear hw1)
        refine start_held (S := Hr w R r w.heap.size t) 8 rfl (by kernel_rfl) (w1H.go (Below.refl _ _).drew) ?_
        simp only [Array.replicate_succ, Array.replicate_zero, List.push_toArray, List.nil_append, List.cons_append]
        have hS0 : Hr w R r w.heap.size t w1.drew := w1H.go (Below.refl _ _).drew
        generalize w1.drew = x0 at *
        refine tkq 0 hS0 ?_
        refine tkf 1 hS0 rfl (fun u hu => by have zz0 := (fun u hu => tl_ep (Hr.tl hu)) u hu; go_simp; try rfl) ?_
        refine tkq 2 hS0 ?_
        refine tkq 3 hS0 ?_
        refine tkq 4 hS0 ?_
        refine tkf 5 hS0 rfl (fun u hu => by have zz0 := (fun u hu => RbAt.c7 (Hr.rb hu)) u hu; go_simp; try rfl) ?_
        refine tkq 6 hS0 ?_
        refine tkq 7 hS0 ?_
        refine done_held (by kernel_rfl) ?_ _
        have k0 := tl_kd hS0.tl
        have cs := stopped_any hS0.rb
        go_wp2_with (go_at_call 58; refine cs.mono ?_; rintro e wz ⟨rfl, hwz⟩; rw [hwz]; clear hwz)
        go_ret
        exact ⟨ret_bool (by rw [← HL.out]; simp [lastP, h1, h2, h3]), hS0.bel⟩
      · have q3 : (t.kd == 2) = false := by rw [beq_eq_false_iff_ne]; exact h3
        go_enter Tryz.func56, Tryz.ntmps56
        go_upto_region 1 with (refine wpList_boxAt rfl 46 (.tmp 1) rfl (tlA t) rfl ?_; rw [← hw1]; clear hw1)
        refine start_held (S := Hr w R r w.heap.size t) 8 rfl (by kernel_rfl) (w1H.go (Below.refl _ _).drew) ?_
        simp only [Array.replicate_succ, Array.replicate_zero, List.push_toArray, List.nil_append, List.cons_append]
        have hS0 : Hr w R r w.heap.size t w1.drew := w1H.go (Below.refl _ _).drew
        generalize w1.drew = x0 at *
        refine tkq 0 hS0 ?_
        refine tkf 1 hS0 rfl (fun u hu => by have zz0 := (fun u hu => tl_ep (Hr.tl hu)) u hu; go_simp; try rfl) ?_
        refine tkq 2 hS0 ?_
        refine tkq 3 hS0 ?_
        refine tkq 4 hS0 ?_
        refine tkf 5 hS0 rfl (fun u hu => by have zz0 := (fun u hu => RbAt.c7 (Hr.rb hu)) u hu; go_simp; try rfl) ?_
        refine tkq 6 hS0 ?_
        refine tkq 7 hS0 ?_
        refine done_held (by kernel_rfl) ?_ _
        have k0 := tl_kd hS0.tl
        have cs := stopped_any hS0.rb
        go_wp2_with (go_at_call 58; refine cs.mono ?_; rintro e wz ⟨rfl, hwz⟩; rw [hwz]; clear hwz)
        go_ret
        exact ⟨ret_bool (by rw [← HL.out]; simp [lastP, h1, h2, h3]), hS0.bel⟩
  · have q1 : (t.ep != r.ep) = true := by simp [h1]
    go_enter Tryz.func56, Tryz.ntmps56
    go_upto_region 1 with (refine wpList_boxAt rfl 46 (.tmp 1) rfl (tlA t) rfl ?_; rw [← hw1]; clear hw1)
    refine start_held (S := Hr w R r w.heap.size t) 8 rfl (by kernel_rfl) (w1H.go (Below.refl _ _).drew) ?_
    simp only [Array.replicate_succ, Array.replicate_zero, List.push_toArray, List.nil_append, List.cons_append]
    have hS0 : Hr w R r w.heap.size t w1.drew := w1H.go (Below.refl _ _).drew
    generalize w1.drew = x0 at *
    refine tkq 0 hS0 ?_
    refine tkf 1 hS0 rfl (fun u hu => by have zz0 := (fun u hu => tl_ep (Hr.tl hu)) u hu; go_simp; try rfl) ?_
    refine tkq 2 hS0 ?_
    refine tkq 3 hS0 ?_
    refine tkq 4 hS0 ?_
    refine tkf 5 hS0 rfl (fun u hu => by have zz0 := (fun u hu => RbAt.c7 (Hr.rb hu)) u hu; go_simp; try rfl) ?_
    refine tkq 6 hS0 ?_
    refine tkq 7 hS0 ?_
    refine done_held (by kernel_rfl) ?_ _
    go_wp2
    go_ret
    exact ⟨ret_bool (by rw [← HL.out]; simp [lastP, h1]), hS0.bel⟩
end
end Go.Proofs.YtedhoghleelhfaaGreat.Rob
