/-
  A heap in memory; which of two comes ahead; two that change their places.
-/
import Derived.Test.YtpbmkflkggeggaaHeapKit
namespace Go.Proofs.Ytpbmkflkggeggaa.Hp
set_option linter.unusedVariables false
set_option linter.unusedSimpArgs false
open Go Go.RowKit Go.Shelf Go.Proofs
attribute [local go_sem] Oper.semAt_some

/- An item: its key, its name, its turn. -/
structure It where
  k : Int
  n : Int
  t : Nat
instance : Ranked It := ⟨It.k, It.t⟩
def itL (x : It) : List Value := [.int .i64 x.k, .int .i64 x.n, .int .i64 (x.t : Nat)]
theorem itL_len (x : It) : (itL x).length = 3 := rfl
def LessV : Value := .func (.func 12) #[] #[]
/- A heap that lies at b: its items in a row of its own. -/
structure HAt (B : Nat) (w : World) (b : Nat) (v : Value) (l : List It) (c : Nat) : Prop where
  less : w.cell? ⟨b, 0, none⟩ = some LessV
  items : w.cell? ⟨b, 1, none⟩ = some v
  puts : w.cell? ⟨b, 2, none⟩ = some (.int .i64 (c : Nat))
  froz : ∀ o, w.frozen? ⟨b, o, none⟩ = false
  row : w.ownsRow B 65 3 v l.length (rowL itL l)
  apart : v.ownBlock ≠ some b
  low : B ≤ b
theorem HAt.lt {B : Nat} {w : World} {b : Nat} {v : Value} {l : List It} {c : Nat} (h : HAt B w b v l c) : b < w.heap.size := World.block_lt_of_cell? w _ h.less
/- What stays where a heap stays. -/
theorem HAt.same {B : Nat} {w w' : World} {b : Nat} {v : Value} {l : List It} {c : Nat} (h : HAt B w b v l c) (hb : w'.heap[b]? = w.heap[b]?) (hv : ∀ k, v.ownBlock = some k → w'.heap[k]? = w.heap[k]?) : HAt B w' b v l c :=
  ⟨(cell_same hb).trans h.less, (cell_same hb).trans h.items, (cell_same hb).trans h.puts, fun o => (frozen_same hb).trans (h.froz o), owns_same h.row hv, h.apart, h.low⟩
theorem HAt.go {B : Nat} {w w' : World} {b : Nat} {v : Value} {l : List It} {c : Nat} (h : HAt B w b v l c) (hb : Below w.heap.size w w') : HAt B w' b v l c :=
  h.same (hb.block b h.lt) fun k hk => hb.block k (own_since h.row k hk).2
/- The row of a heap that is not empty, cell by cell. -/
theorem HAt.form {B : Nat} {w : World} {b : Nat} {v : Value} {l : List It} {c : Nat} (h : HAt B w b v l c) (h0 : 0 < l.length) : ∃ g cap, v = .slice (some ⟨g, 0, none⟩) l.length cap ∧ g ≠ b ∧ g < w.heap.size ∧ B ≤ g ∧ l.length ≤ cap ∧ cap ≤ maxLen ∧ (∀ o, w.frozen? ⟨g, o, none⟩ = false) ∧
    ∀ i (hi : i < l.length), w.cell? ⟨g, i * 3, none⟩ = some (.int .i64 (l[i]).k) ∧ w.cell? ⟨g, i * 3 + 1, none⟩ = some (.int .i64 (l[i]).n) ∧ w.cell? ⟨g, i * 3 + 2, none⟩ = some (.int .i64 ((l[i]).t : Nat)) := by
  have hr := h.row
  rcases hr.2 with ⟨_, q⟩ | ⟨g, cap, cur, rfl, hb, hg, hnc, hcm, hcs, htake⟩
  · omega
  · refine ⟨g, cap, rfl, fun e => h.apart (by rw [e]; rfl), (Array.getElem?_eq_some_iff.1 hg).1, hb, hnc, hcm, fun o => hr.frozenAt o, fun i hi => ?_⟩
    have q : ∀ j u, (itL l[i])[j]? = some u → w.cell? ⟨g, i * 3 + j, none⟩ = some u := fun j u hj => by
      have hk := rowL_at itL_len l i hi j u hj
      have := (List.getElem?_eq_some_iff.1 hk).1
      rw [rowL_len itL_len] at this
      rw [hr.cellAt _ this]
      exact hk
    exact ⟨q 0 _ rfl, q 1 _ rfl, q 2 _ rfl⟩
theorem less_any (a b : Int) (x y : Int) (w : World) : Calls Try.prog 12 #[.agg #[.int .i64 a, .int .i64 x], .agg #[.int .i64 b, .int .i64 y]] w fun e w' => e = .returned (.bool (decide (a < b))) ∧ Below w.heap.size w w' := by
  go_enter Try.func12, Try.ntmps12
  go_wp2
  go_ret
  all_goals exact ⟨rfl, ((Below.refl _ _).alloc (Nat.le_refl _) _).alloc (by simp) _⟩
/- What a call of a heap's method turns: the heap's own block, the row that it had, new memory. -/
structure Tn (b : Nat) (v v' : Value) (w w' : World) : Prop where
  os : w'.os = w.os
  tape : w'.tape = w.tape
  output : w'.output = w.output
  size : w.heap.size ≤ w'.heap.size
  block : ∀ k, k < w.heap.size → k ≠ b → v.ownBlock ≠ some k → w'.heap[k]? = w.heap[k]?
  own : ∀ k, v'.ownBlock = some k → v.ownBlock = some k ∨ w.heap.size ≤ k
theorem Tn.trans {b : Nat} {v v1 v2 : Value} {w w1 w2 : World} (h : Tn b v v1 w w1) (k : Tn b v1 v2 w1 w2) : Tn b v v2 w w2 := by
  refine ⟨k.os.trans h.os, k.tape.trans h.tape, k.output.trans h.output, Nat.le_trans h.size k.size, fun j hj hb hv => ?_, fun j hj => ?_⟩
  · refine (k.block j (Nat.lt_of_lt_of_le hj h.size) hb fun e => ?_).trans (h.block j hj hb hv)
    rcases h.own j e with q | q
    · exact hv q
    · omega
  · rcases k.own j hj with q | q
    · exact h.own j q
    · exact Or.inr (Nat.le_trans h.size q)
theorem Tn.below {b : Nat} {v : Value} {w w' : World} (h : Below w.heap.size w w') : Tn b v v w w' := ⟨h.os, h.tape, h.output, h.size, fun k hk _ _ => h.block k hk, fun k hk => Or.inl hk⟩
theorem Tn.refl (b : Nat) (v : Value) (w : World) : Tn b v v w w := Tn.below (Below.refl _ _)
theorem Tn.then {b : Nat} {v v1 : Value} {w w1 w2 : World} (h : Tn b v v1 w w1) (hb : Below w1.heap.size w1 w2) : Tn b v v1 w w2 := h.trans (Tn.below hb)
theorem Tn.drew {b : Nat} {v v1 : Value} {w w1 : World} (h : Tn b v v1 w w1) : Tn b v v1 w w1.drew := h.then (Below.refl _ _).drew
/- What lies below B stays. -/
theorem Tn.since {B b : Nat} {v v' : Value} {w w' : World} {l : List It} {c : Nat} (t : Tn b v v' w w') (h : HAt B w b v l c) (hB : B ≤ w.heap.size) : Below B w w' :=
  ⟨t.os, t.tape, t.output, t.size, fun k hk => t.block k (by omega) (by have := h.low; omega) (fun e => by have := (own_since h.row k e).1; omega)⟩
theorem rowL_set {f : It → List Value} : ∀ (l : List It) (i : Nat) (x : It) (h : i < l.length) (a b c a' b' c' : Value), f x = [a, b, c] → (∀ y, (f y).length = 3) → (((rowL f l).set (i * 3) a).set (i * 3 + 1) b).set (i * 3 + 2) c = rowL f (l.set i x)
  | [], i, x, h, a, b, c, a', b', c', hx, hf => by simp at h
  | y :: l, 0, x, h, a, b, c, a', b', c', hx, hf => by
    obtain ⟨p, q, r, e⟩ : ∃ p q r, f y = [p, q, r] := by
      have := hf y
      match hy : f y, this with
      | [p, q, r], _ => exact ⟨p, q, r, rfl⟩
    simp [rowL, e, hx]
  | y :: l, i + 1, x, h, a, b, c, a', b', c', hx, hf => by
    obtain ⟨p, q, r, e⟩ : ∃ p q r, f y = [p, q, r] := by
      have := hf y
      match hy : f y, this with
      | [p, q, r], _ => exact ⟨p, q, r, rfl⟩
    have ih := rowL_set l i x (by simpa using h) a b c a' b' c' hx hf
    have e1 : rowL f (y :: l) = p :: q :: r :: rowL f l := by simp [rowL, e]
    have e2 : rowL f ((y :: l).set (i + 1) x) = p :: q :: r :: rowL f (l.set i x) := by simp [rowL, e]
    rw [e1, e2, ← ih, show (i + 1) * 3 = i * 3 + 3 by omega]
    rfl
/- A place of the row is written anew. -/
theorem row_put {B : Nat} {w : World} {g n cap : Nat} {l : List It} (hr : w.ownsRow B 65 3 (.slice (some ⟨g, 0, none⟩) n cap) n (rowL itL l)) (i : Nat) (x : It) (hi : i < l.length) :
    (((w.setCell ⟨g, i * 3, none⟩ (.int .i64 x.k)).setCell ⟨g, i * 3 + 1, none⟩ (.int .i64 x.n)).setCell ⟨g, i * 3 + 2, none⟩ (.int .i64 (x.t : Nat))).ownsRow B 65 3 (.slice (some ⟨g, 0, none⟩) n cap) n (rowL itL (l.set i x)) := by
  have := ((hr.stored (i * 3) (.int .i64 x.k)).1.stored (i * 3 + 1) (.int .i64 x.n)).1.stored (i * 3 + 2) (.int .i64 (x.t : Nat)) |>.1
  rw [rowL_set l i x hi _ _ _ undef undef undef rfl itL_len] at this
  exact this
def put3 (w : World) (g i : Nat) (x : It) : World := ((w.setCell ⟨g, i * 3, none⟩ (.int .i64 x.k)).setCell ⟨g, i * 3 + 1, none⟩ (.int .i64 x.n)).setCell ⟨g, i * 3 + 2, none⟩ (.int .i64 (x.t : Nat))
theorem put3_other (w : World) (g i : Nat) (x : It) (k : Nat) (hk : k ≠ g) : (put3 w g i x).heap[k]? = w.heap[k]? :=
  (Below.heap_setCell _ _ _ k hk).trans ((Below.heap_setCell _ _ _ k hk).trans (Below.heap_setCell _ _ _ k hk))
theorem put3_size (w : World) (g i : Nat) (x : It) : (put3 w g i x).heap.size = w.heap.size := by simp [put3, World.setCell]
theorem HAt.put {B : Nat} {w : World} {b g n cap : Nat} {l : List It} {c : Nat} (h : HAt B w b (.slice (some ⟨g, 0, none⟩) n cap) l c) (hn : l.length = n) (i : Nat) (x : It) (hi : i < l.length) :
    HAt B (put3 w g i x) b (.slice (some ⟨g, 0, none⟩) n cap) (l.set i x) c ∧ Tn b (.slice (some ⟨g, 0, none⟩) n cap) (.slice (some ⟨g, 0, none⟩) n cap) w (put3 w g i x) := by
  have hgb : b ≠ g := fun e => h.apart (by rw [e]; rfl)
  have hb := put3_other w g i x b hgb
  refine ⟨⟨(cell_same hb).trans h.less, (cell_same hb).trans h.items, (cell_same hb).trans h.puts, fun o => (frozen_same hb).trans (h.froz o), ?_, h.apart, h.low⟩, ⟨rfl, rfl, rfl, by rw [put3_size]; exact Nat.le_refl _, fun k _ _ hv => put3_other w g i x k (fun e => hv (by rw [e]; rfl)), fun k hk => Or.inl hk⟩⟩
  have hr := h.row
  rw [List.length_set]
  rw [hn] at hr ⊢
  exact row_put hr i x hi
set_option maxHeartbeats 2000000 in
theorem swap_any (B b : Nat) (v : Value) (l : List It) (c : Nat) (w : World) (h : HAt B w b v l c) (i j : Nat) (hi : i < l.length) (hj : j < l.length) (hij : i ≠ j) :
    Calls Try.prog 47 #[.pointer (some ⟨b, 0, none⟩), .int .i64 i, .int .i64 j] w fun e w' => e = .returned (.tuple #[]) ∧ HAt B w' b v (swp l i j hi hj) c ∧ Tn b v v w w' := by
  obtain ⟨g, cap, rfl, hgb, hgl, hBg, hlc, hcm, hfz, hc⟩ := h.form (by omega)
  obtain ⟨i0, i1, i2⟩ := hc i hi
  obtain ⟨j0, j1, j2⟩ := hc j hj
  have hbl := h.lt
  have h1 := h.items
  have hi' : (i : Int) < (l.length : Int) := by omega
  have hj' : (j : Int) < (l.length : Int) := by omega
  have R : Hid (HAt B w b (.slice (some ⟨g, 0, none⟩) l.length cap) l c) := h
  clear hc h
  obtain ⟨a, ha⟩ : ∃ a, l[i] = a := ⟨_, rfl⟩
  obtain ⟨z, hz⟩ : ∃ z, l[j] = z := ⟨_, rfl⟩
  have HS : Hid (swp l i j hi hj = (l.set i z).set j a) := by unfold Hid swp; rw [ha, hz]
  rw [ha] at i0 i1 i2
  rw [hz] at j0 j1 j2
  clear ha hz
  obtain ⟨n, hn⟩ : ∃ n, l.length = n := ⟨_, rfl⟩
  rw [hn] at hi' hj' h1 hlc ⊢
  have HN : Hid (l.length = n) := hn
  clear hn
  go_enter Try.func47, Try.ntmps47
  go_wp2
  go_region
  all_goals
    go_wp2
    go_end0
    have R' := R.out
    rw [HN.out] at R'
    have q1 := R'.put HN.out i z hi
    have q2 := q1.1.put (by rw [List.length_set]; exact HN.out) j a (by rw [List.length_set]; exact hj)
    rw [HS.out]
    refine ⟨rfl, q2.1.go (Below.refl _ _).drew, (q1.2.trans q2.2).drew⟩
end Go.Proofs.Ytpbmkflkggeggaa.Hp
