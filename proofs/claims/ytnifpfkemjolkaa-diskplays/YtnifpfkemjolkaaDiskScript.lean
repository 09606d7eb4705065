/-
  A script of calls that came in: each call's numbers and bytes, as they lie in memory.
-/
import Derived.Test.YtnifpfkemjolkaaDiskOrder
import Derived.Deep.Slices
namespace Go.Proofs.Ytnifpfkemjolkaa.Disk
set_option linter.unusedVariables false
set_option linter.unusedSimpArgs false
open Go Go.RowKit Go.ChangeShapes Go.WideShapes Go.ChangeAt

structure Op1 where
  kind : Int
  file : Int
  n : Int
  m : Int
  a : Option Addr
  len : Nat
  cap : Nat
  bs : List Int
def Fits (z : Int) : Prop := -9223372036854775808 ≤ z ∧ z ≤ 9223372036854775807

structure OpAt (w : World) (x : Addr) (i : Nat) (o : Op1) : Prop where
  c0 : w.cell? (x.add (i * 5)) = some (.int .i64 o.kind)
  c1 : w.cell? (x.add (i * 5 + 1)) = some (.int .i64 o.file)
  c2 : w.cell? (x.add (i * 5 + 2)) = some (.int .i64 o.n)
  c3 : w.cell? (x.add (i * 5 + 3)) = some (.int .i64 o.m)
  c4 : w.cell? (x.add (i * 5 + 4)) = some (.slice o.a o.len o.cap)
  row : Row w o.a o.len o.bs
  nil : o.a = none → o.len = 0 ∧ o.cap = 0
  le : o.len ≤ o.cap
  fk : Fits o.kind
  ff : Fits o.file
  fn : Fits o.n
  fm : Fits o.m
def Ops (w : World) (sa : Option Addr) (sl : Nat) (os : Nat → Op1) : Prop := ∀ i, i < sl → ∃ x, sa = some x ∧ OpAt w x i (os i)

theorem OpAt.after {w w' : World} {x : Addr} {i : Nat} {o : Op1} (h : OpAt w x i o) (hb : Below w.heap.size w w') : OpAt w' x i o := by
  have hl : x.block < w.heap.size := by have := World.block_lt_of_cell? w _ h.c0; rwa [block_add] at this
  have hc : ∀ j, w'.cell? (x.add j) = w.cell? (x.add j) := fun j => hb.cell (by rw [block_add]; exact hl)
  exact ⟨(hc _).trans h.c0, (hc _).trans h.c1, (hc _).trans h.c2, (hc _).trans h.c3, (hc _).trans h.c4, h.row.after hb, h.nil, h.le, h.fk, h.ff, h.fn, h.fm⟩

theorem add_field (x : Addr) (i j : Nat) (h : j ≠ 0) : x.add (i + j) = ⟨(x.add i).block, (x.add i).off + j, none⟩ := by
  unfold Addr.add
  by_cases hi : i = 0
  · subst hi
    rw [if_neg (by omega), if_pos rfl, Nat.zero_add]
  · rw [if_neg (by omega), if_neg hi, Nat.add_assoc]
theorem OpAt.fields {w : World} {x : Addr} {i : Nat} {o : Op1} (h : OpAt w x i o) : w.cell? (x.add (i * 5)) = some (.int .i64 o.kind) ∧ w.cell? ⟨(x.add (i * 5)).block, (x.add (i * 5)).off + 1, none⟩ = some (.int .i64 o.file) ∧
    w.cell? ⟨(x.add (i * 5)).block, (x.add (i * 5)).off + 2, none⟩ = some (.int .i64 o.n) ∧ w.cell? ⟨(x.add (i * 5)).block, (x.add (i * 5)).off + 3, none⟩ = some (.int .i64 o.m) ∧ w.cell? ⟨(x.add (i * 5)).block, (x.add (i * 5)).off + 4, none⟩ = some (.slice o.a o.len o.cap) :=
  ⟨h.c0, by rw [← add_field _ _ _ (by decide)]; exact h.c1, by rw [← add_field _ _ _ (by decide)]; exact h.c2, by rw [← add_field _ _ _ (by decide)]; exact h.c3, by rw [← add_field _ _ _ (by decide)]; exact h.c4⟩
theorem fits_of {z : Int} (h : (Lit.int .i64 z).wf = true) : Fits z := by
  simp [Lit.wf, IntKind.min, IntKind.max, IntKind.bits, IntKind.signed] at h
  unfold Fits
  omega

theorem op_open {H : Type} {enc : TypeId × Value → H} {W : World} {n : Nat} {x : Addr} {i : Nat} {cs : List Value} {d : DataW H × List MemPlace} (hc : W.cells? 0 (x.add (i * 5)) 5 = some cs)
    (h : DataW.trod enc Try.prog W 0 (fun _ => true) true n 30 cs = some d) : ∃ o, OpAt W x i o := by
  obtain ⟨_, hlen, hcell⟩ := World.cells?_some hc
  obtain ⟨xs, k, hk, hxy, _, hxl, hf⟩ := DataW.trod_struct Try.underlying30 h
  match cs, hlen with
  | [v0, v1, v2, v3, v4], _ =>
    have hc0 := hcell 0 (by decide)
    have hc1 := hcell 1 (by decide)
    have hc2 := hcell 2 (by decide)
    have hc3 := hcell 3 (by decide)
    have hc4 := hcell 4 (by decide)
    rw [add_add] at hc0 hc1 hc2 hc3 hc4
    match xs, hxl with
    | [y0, y1, y2, y3, y4], _ =>
      have e1 : Try.prog.cellsOf 3 = 1 := by kernel_rfl
      have e2 : Try.prog.cellsOf 28 = 1 := by kernel_rfl
      have g0 := hf 0 _ rfl
      have g1 := hf 1 _ rfl
      have g2 := hf 2 _ rfl
      have g3 := hf 3 _ rfl
      have g4 := hf 4 _ rfl
      simp only [e1, e2, List.drop_zero, List.drop_succ_cons, List.take_succ_cons, List.take_zero, List.getElem?_cons_zero, List.getElem?_cons_succ] at g0 g1 g2 g3 g4
      have g5 : DataW.trod enc Try.prog W 0 (fun _ => true) true k 28 (List.take (Try.prog.cellsOf 28) [v4]) = some y4 := g4
      rw [e2] at g5
      obtain ⟨z0, q0, _, f0⟩ := DataW.trod_int Try.underlying3 g0
      obtain ⟨z1, q1, _, f1⟩ := DataW.trod_int Try.underlying3 g1
      obtain ⟨z2, q2, _, f2⟩ := DataW.trod_int Try.underlying3 g2
      obtain ⟨z3, q3, _, f3⟩ := DataW.trod_int Try.underlying3 g3
      obtain rfl : v0 = .int .i64 z0 := by simpa [e1] using q0
      obtain rfl : v1 = .int .i64 z1 := by simpa [e1] using q1
      obtain rfl : v2 = .int .i64 z2 := by simpa [e1] using q2
      obtain rfl : v3 = .int .i64 z3 := by simpa [e1] using q3
      rcases open_ints Try.underlying28 Try.underlying5 (by kernel_rfl) g5 with ⟨hcs, _⟩ | ⟨a, l, c, zs, hcs, _, hl, hm, hz, hd, hbc, hwz⟩
      · obtain rfl : v4 = .slice none 0 0 := by simpa using hcs
        exact ⟨⟨z0, z1, z2, z3, none, 0, 0, []⟩, hc0, hc1, hc2, hc3, hc4, nil_row W, fun _ => ⟨rfl, rfl⟩, Nat.le_refl _, fits_of f0, fits_of f1, fits_of f2, fits_of f3⟩
      · obtain rfl : v4 = .slice (some a) l c := by simpa using hcs
        have hz' : zs.length = c := by simpa using hz
        refine ⟨⟨z0, z1, z2, z3, some a, l, c, zs.take l⟩, hc0, hc1, hc2, hc3, hc4, ⟨by show (zs.take l).length = l; rw [List.length_take]; omega, fun z hzm => ?_, fun j hj => ⟨a, rfl, ?_⟩⟩, fun h => (by cases h), hl, fits_of f0, fits_of f1, fits_of f2, fits_of f3⟩
        · have := hwz z (List.mem_of_mem_take hzm)
          simp [Lit.wf, IntKind.min, IntKind.max, IntKind.bits, IntKind.signed] at this
          omega
        · have hj' : j < l := hj
          rw [hbc j (by omega), getD_in zs j (by omega), getD_in _ j (by rw [List.length_take]; omega), List.getElem_take]

theorem ops_open {H : Type} {enc : TypeId × Value → H} {W : World} {fuel : Nat} {a : Option Addr} {len cap : Nat} {d : DataW H × List MemPlace} (h : DataW.trod enc Try.prog W 0 (fun _ => true) true fuel 22 [.slice a len cap] = some d) :
    (a = none → len = 0) ∧ len ≤ cap ∧ cap ≤ maxLen ∧ ∃ os, Ops W a len os := by
  rcases Go.Deep.open_slice Try.underlying22 h with ⟨hcs, _⟩ | ⟨x, l, c, m, n, D, Pl, hcs, _, hl, hm, hmm, _, hx⟩
  · simp at hcs
    obtain ⟨rfl, rfl, rfl⟩ := hcs
    exact ⟨fun _ => rfl, Nat.le_refl _, by decide, fun _ => ⟨0, 0, 0, 0, none, 0, 0, []⟩, fun i hi => by omega⟩
  · simp at hcs
    obtain ⟨rfl, rfl, rfl⟩ := hcs
    refine ⟨fun h => (by cases h), hl, hm, ?_⟩
    have hm' : m = cap := by simpa using hmm
    have hex : ∀ i, i < len → ∃ o, OpAt W x i o := fun i hi => by
      obtain ⟨cs', h1, h2⟩ := hx i (by omega)
      rw [show Try.prog.cellsOf 30 = 5 by kernel_rfl] at h1
      exact op_open h1 h2
    refine ⟨fun i => if hi : i < len then (hex i hi).choose else ⟨0, 0, 0, 0, none, 0, 0, []⟩, fun i hi => ⟨x, rfl, ?_⟩⟩
    simp only [dif_pos hi]
    exact (hex i hi).choose_spec

end Go.Proofs.Ytnifpfkemjolkaa.Disk
