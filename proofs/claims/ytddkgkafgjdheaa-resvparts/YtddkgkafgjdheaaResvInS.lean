/-
  Scripts that came in, opened.
-/
import Derived.Test.YtddkgkafgjdheaaResvIn
namespace Go.Proofs.Ytddkgkafgjdheaa.Rs
set_option linter.unusedVariables false
set_option linter.unusedSimpArgs false
open Go Go.RowKit Go.ChangeShapes Go.WideShapes Hp
/- A call that is asked for. -/
structure Cl where
  kd : Int
  r : Int
  c : Int
  ti : Int
  by_ : Int
  a : Option Addr
  n : Nat
  cap : Nat
  ws : List Wn
instance : Inhabited Cl := ⟨⟨0, 0, 0, 0, 0, none, 0, 0, []⟩⟩
def clL (x : Cl) : List Value := [.int .i64 x.kd, .int .i64 x.r, .int .i64 x.c, .int .i64 x.ti, .int .i64 x.by_, .slice x.a x.n x.cap]
structure InS (w : World) (a : Option Addr) (n cap : Nat) (os : List Cl) : Prop where
  len : os.length = n
  lay : ∀ i (hi : i < os.length), ∃ p : Addr, a = some p ∧ (∀ j u, (clL os[i])[j]? = some u → w.cell? ((p.add (i * 6)).add j) = some u) ∧ InW w (os[i]).a (os[i]).n (os[i]).cap (os[i]).ws
theorem InS.go {w w' : World} {a : Option Addr} {n cap : Nat} {os : List Cl} (h : InS w a n cap os) (hb : Below w.heap.size w w') : InS w' a n cap os :=
  ⟨h.len, fun i hi => by
    obtain ⟨p, e, hc, q⟩ := h.lay i hi
    exact ⟨p, e, fun j u hj => (hb.cell (p := (p.add (i * 6)).add j) (World.block_lt_of_cell? _ _ (hc j u hj))).trans (hc j u hj), q.go hb⟩⟩
theorem InS.at {w : World} {a : Option Addr} {n cap : Nat} {os : List Cl} (h : InS w a n cap os) (i : Nat) (hi : i < os.length) : ∃ p : Addr, a = some p ∧ w.cell? (p.add (i * 6)) = some (.int .i64 (os[i]).kd) ∧ w.cell? ⟨(p.add (i * 6)).block, (p.add (i * 6)).off + 1, none⟩ = some (.int .i64 (os[i]).r) ∧ w.cell? ⟨(p.add (i * 6)).block, (p.add (i * 6)).off + 2, none⟩ = some (.int .i64 (os[i]).c) ∧ w.cell? ⟨(p.add (i * 6)).block, (p.add (i * 6)).off + 3, none⟩ = some (.int .i64 (os[i]).ti) ∧ w.cell? ⟨(p.add (i * 6)).block, (p.add (i * 6)).off + 4, none⟩ = some (.int .i64 (os[i]).by_) ∧ w.cell? ⟨(p.add (i * 6)).block, (p.add (i * 6)).off + 5, none⟩ = some (.slice (os[i]).a (os[i]).n (os[i]).cap) ∧ InW w (os[i]).a (os[i]).n (os[i]).cap (os[i]).ws := by
  obtain ⟨p, e, k, q⟩ := h.lay i hi
  refine ⟨p, e, ?_, ?_, ?_, ?_, ?_, ?_, q⟩
  · have := k 0 _ rfl; rw [Addr.add_zero'] at this; exact this
  · have := k 1 _ rfl; rw [Addr.add_succ'] at this; exact this
  · have := k 2 _ rfl; rw [Addr.add_succ'] at this; exact this
  · have := k 3 _ rfl; rw [Addr.add_succ'] at this; exact this
  · have := k 4 _ rfl; rw [Addr.add_succ'] at this; exact this
  · have := k 5 _ rfl; rw [Addr.add_succ'] at this; exact this
set_option maxRecDepth 100000 in
theorem in_call {H : Type} {enc : TypeId × Value → H} {W : World} {n : Nat} {cs : List Value} {d : DataW H × List MemPlace} (h : DataW.trod enc Try.prog W 0 (fun _ => true) true n 33 cs = some d) : ∃ x : Cl, cs = clL x ∧ InW W x.a x.n x.cap x.ws := by
  obtain ⟨xs, k, hk, hxy, hlen, hxl, hf⟩ := DataW.trod_struct Try.underlying33 h
  rw [show Try.prog.cellsOf 33 = 6 by kernel_rfl] at hlen
  match cs, hlen with
  | [v0, v1, v2, v3, v4, v5], _ =>
    match xs, hxl with
    | [y0, y1, y2, y3, y4, y5], _ =>
      have g0 : DataW.trod enc Try.prog W 0 (fun _ => true) true k 3 [v0] = some y0 := by
        have q := hf 0 _ rfl
        simp only [show Try.prog.cellsOf 3 = 1 by kernel_rfl, List.drop_zero, List.drop_succ_cons, List.take_succ_cons, List.take_zero, List.getElem?_cons_zero, List.getElem?_cons_succ] at q
        exact q
      have g1 : DataW.trod enc Try.prog W 0 (fun _ => true) true k 3 [v1] = some y1 := by
        have q := hf 1 _ rfl
        simp only [show Try.prog.cellsOf 3 = 1 by kernel_rfl, List.drop_zero, List.drop_succ_cons, List.take_succ_cons, List.take_zero, List.getElem?_cons_zero, List.getElem?_cons_succ] at q
        exact q
      have g2 : DataW.trod enc Try.prog W 0 (fun _ => true) true k 3 [v2] = some y2 := by
        have q := hf 2 _ rfl
        simp only [show Try.prog.cellsOf 3 = 1 by kernel_rfl, List.drop_zero, List.drop_succ_cons, List.take_succ_cons, List.take_zero, List.getElem?_cons_zero, List.getElem?_cons_succ] at q
        exact q
      have g3 : DataW.trod enc Try.prog W 0 (fun _ => true) true k 3 [v3] = some y3 := by
        have q := hf 3 _ rfl
        simp only [show Try.prog.cellsOf 3 = 1 by kernel_rfl, List.drop_zero, List.drop_succ_cons, List.take_succ_cons, List.take_zero, List.getElem?_cons_zero, List.getElem?_cons_succ] at q
        exact q
      have g4 : DataW.trod enc Try.prog W 0 (fun _ => true) true k 3 [v4] = some y4 := by
        have q := hf 4 _ rfl
        simp only [show Try.prog.cellsOf 3 = 1 by kernel_rfl, List.drop_zero, List.drop_succ_cons, List.take_succ_cons, List.take_zero, List.getElem?_cons_zero, List.getElem?_cons_succ] at q
        exact q
      have g5 : DataW.trod enc Try.prog W 0 (fun _ => true) true k 31 [v5] = some y5 := by
        have q := hf 5 _ rfl
        simp only [show Try.prog.cellsOf 31 = 1 by kernel_rfl, List.drop_zero, List.drop_succ_cons, List.take_succ_cons, List.take_zero, List.getElem?_cons_zero, List.getElem?_cons_succ] at q
        exact q
      obtain ⟨x0, q0⟩ := in_int g0
      simp only [List.cons.injEq, and_true] at q0
      obtain rfl := q0
      obtain ⟨x1, q1⟩ := in_int g1
      simp only [List.cons.injEq, and_true] at q1
      obtain rfl := q1
      obtain ⟨x2, q2⟩ := in_int g2
      simp only [List.cons.injEq, and_true] at q2
      obtain rfl := q2
      obtain ⟨x3, q3⟩ := in_int g3
      simp only [List.cons.injEq, and_true] at q3
      obtain rfl := q3
      obtain ⟨x4, q4⟩ := in_int g4
      simp only [List.cons.injEq, and_true] at q4
      obtain rfl := q4
      obtain ⟨a, n, cap, ws, q5, I5⟩ := in_wants g5
      simp only [List.cons.injEq, and_true] at q5
      obtain rfl := q5
      exact ⟨⟨x0, x1, x2, x3, x4, a, n, cap, ws⟩, rfl, I5⟩
theorem in_script {H : Type} {enc : TypeId × Value → H} {W : World} {n : Nat} {cs : List Value} {d : DataW H × List MemPlace} (h : DataW.trod enc Try.prog W 0 (fun _ => true) true n 22 cs = some d) : ∃ a n cap os, cs = [.slice a n cap] ∧ InS W a n cap os := by
  rcases Go.Deep.open_slice Try.underlying22 h with ⟨hcs, hd⟩ | ⟨x, l, cp, mm, k, D, Pl, hcs, _, hl, hm, hmm, hd, hx⟩
  · exact ⟨none, 0, 0, [], hcs, rfl, fun i hi => by simp at hi⟩
  · refine ⟨some x, l, cp, ?_⟩
    have each : ∀ i, i < l → ∃ z : Cl, (∀ j u, (clL z)[j]? = some u → W.cell? ((x.add (i * 6)).add j) = some u) ∧ InW W z.a z.n z.cap z.ws := fun i hi => by
      obtain ⟨cs', k1, k2⟩ := hx i (by simp at hmm; omega)
      rw [show Try.prog.cellsOf 33 = 6 by kernel_rfl] at k1
      obtain ⟨z, rfl, hz⟩ := in_call k2
      obtain ⟨_, hlen, hc⟩ := World.cells?_some k1
      refine ⟨z, fun j u hj => ?_, hz⟩
      match j with
      | 0 => cases hj; exact hc 0 (by omega)
      | 1 => cases hj; exact hc 1 (by omega)
      | 2 => cases hj; exact hc 2 (by omega)
      | 3 => cases hj; exact hc 3 (by omega)
      | 4 => cases hj; exact hc 4 (by omega)
      | 5 => cases hj; exact hc 5 (by omega)
      | j + 6 => simp [clL] at hj
    obtain ⟨z, hz⟩ := Go.Deep.choose_lt each
    refine ⟨(List.range l).map z, hcs, by simp, fun i hi => ?_⟩
    have hi' : i < l := by simpa using hi
    have q := hz i hi'
    rw [List.getElem_map, List.getElem_range]
    exact ⟨x, rfl, q.1, q.2⟩
end Go.Proofs.Ytddkgkafgjdheaa.Rs
