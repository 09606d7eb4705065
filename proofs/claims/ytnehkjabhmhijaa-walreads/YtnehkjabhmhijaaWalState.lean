/-
  A disk in memory and what lies beside it: texts (a slice of bytes' slices), a log; which blocks are the disk's, and that the others stay.
-/
import Derived.Test.YtnehkjabhmhijaaWalIter
namespace Go.Proofs.Ytnehkjabhmhijaa.Wal
set_option linter.unusedVariables false
set_option linter.unusedSimpArgs false
open Go Go.RowKit Go.Shelf Go.Proofs
open Go.Proofs.Ytnehkjabhmhijaa.Disk (Row getD_in ret_int add_add DiskIs Kept St now setSt owns_row owns_same)

abbrev Owns := Disk.Own
/- What a call that may turn the disk leaves of all else. -/
structure Fr (own own' : Owns) (w w' : World) : Prop where
  up : ∀ k, k < w.heap.size → own' k = own k
  kept : Kept own w w'
theorem Fr.refl (own : Owns) (w : World) : Fr own own w w := ⟨fun _ _ => rfl, Disk.Kept.refl _ _⟩
theorem Fr.trans {o o1 o2 : Owns} {w w1 w2 : World} (h : Fr o o1 w w1) (k : Fr o1 o2 w1 w2) : Fr o o2 w w2 :=
  ⟨fun i hi => (k.up i (Nat.lt_of_lt_of_le hi h.kept.size)).trans (h.up i hi),
   ⟨k.kept.os.trans h.kept.os, k.kept.tape.trans h.kept.tape, k.kept.output.trans h.kept.output, Nat.le_trans h.kept.size k.kept.size,
    fun i hi hn => (k.kept.block i (Nat.lt_of_lt_of_le hi h.kept.size) ((h.up i hi).trans hn)).trans (h.kept.block i hi hn)⟩⟩
theorem Fr.below {o : Owns} {w w' : World} (h : Below w.heap.size w w') : Fr o o w w' := ⟨fun _ _ => rfl, ⟨h.os, h.tape, h.output, h.size, fun k hk _ => h.block k hk⟩⟩

structure Live (W w : World) (own : Owns) (D : Nat) (σ : St) (m : Nat) : Prop where
  disk : DiskIs w own D σ m
  base : ∀ k, own k ≠ none → W.heap.size ≤ k
  below : Below W.heap.size W w
theorem Live.later {W w w' : World} {own : Owns} {D : Nat} {σ : St} {m : Nat} (h : Live W w own D σ m) (hb : Below w.heap.size w w') : Live W w' own D σ m :=
  ⟨h.disk.later hb, h.base, h.below.trans (hb.mono h.below.size)⟩
theorem Live.goes {W w w' : World} {own : Owns} {D : Nat} {σ σ' : St} {m m' : Nat} (h : Live W w own D σ m) (hg : Disk.Goes own D w w' σ' m') : ∃ own', Live W w' own' D σ' m' ∧ Fr own own' w w' := by
  obtain ⟨own', hd, hu, hk⟩ := hg
  refine ⟨own', ⟨hd, fun k hn => ?_, h.below.trans ⟨hk.os, hk.tape, hk.output, hk.size, fun k hlt => ?_⟩⟩, ⟨hu, hk⟩⟩
  · by_cases hlt : k < w.heap.size
    · rw [hu k hlt] at hn; exact h.base k hn
    · have := h.below.size; omega
  · refine hk.block k (Nat.lt_of_lt_of_le hlt h.below.size) ?_
    by_cases hn : own k = none
    · exact hn
    · have := h.base k hn; omega
theorem Live.more {W w : World} {own : Owns} {D : Nat} {σ : St} {m m' : Nat} (h : Live W w own D σ m) (hm : m ≤ m') : Live W w own D σ m' := ⟨h.disk.more hm, h.base, h.below⟩
theorem Live.rebase {V W w : World} {own : Owns} {D : Nat} {σ : St} {m : Nat} (h : Live W w own D σ m) (hb : Below V.heap.size V W) : Live V w own D σ m :=
  ⟨h.disk, fun k hk => Nat.le_trans hb.size (h.base k hk), hb.trans (h.below.mono hb.size)⟩

/- A block that is not the disk's. -/
def Free (own : Owns) (w : World) (k : Nat) : Prop := k < w.heap.size ∧ own k = none
theorem Free.go {own own' : Owns} {w w' : World} {k : Nat} (h : Free own w k) (f : Fr own own' w w') : Free own' w' k ∧ w'.heap[k]? = w.heap[k]? :=
  ⟨⟨Nat.lt_of_lt_of_le h.1 f.kept.size, (f.up k h.1).trans h.2⟩, f.kept.block k h.1 h.2⟩
theorem Live.free {W w w' : World} {own : Owns} {D : Nat} {σ : St} {m : Nat} (h : Live W w own D σ m) {k : Nat} (h1 : w.heap.size ≤ k) (h2 : k < w'.heap.size) : Free own w' k := by
  refine ⟨h2, ?_⟩
  by_cases hn : own k = none
  · exact hn
  · have := h.disk.old k hn; omega
theorem Live.old {W w : World} {own : Owns} {D : Nat} {σ : St} {m : Nat} (h : Live W w own D σ m) {k : Nat} (h1 : k < W.heap.size) : Free own w k := by
  refine ⟨Nat.lt_of_lt_of_le h1 h.below.size, ?_⟩
  by_cases hn : own k = none
  · exact hn
  · have := h.base k hn; omega

/- Bytes at some place. -/
structure Piece where
  a : Option Addr
  cap : Nat
  zs : List Int
def Piece.val (p : Piece) : Value := .slice p.a p.zs.length p.cap
structure PieceIn (w : World) (p : Piece) : Prop where
  row : Row w p.a p.zs.length p.zs
  nil : p.a = none → p.zs.length = 0 ∧ p.cap = 0
  le : p.zs.length ≤ p.cap
  bd : p.cap ≤ 9223372036854775807
structure Texts (w : World) (a : Option Addr) (n : Nat) (ps : List Piece) : Prop where
  len : ps.length = n
  cell : ∀ (i : Nat) (h : i < ps.length), ∃ x, a = Option.some x ∧ w.cell? (x.add i) = Option.some (ps[i]'h).val
  piece : ∀ p ∈ ps, PieceIn w p
/- .. none of them in the disk's blocks. -/
structure FreeTexts (own : Owns) (w : World) (a : Option Addr) (n : Nat) (ps : List Piece) : Prop extends Texts w a n ps where
  free : ∀ x, a = Option.some x → ps ≠ [] → Free own w x.block
  frees : ∀ p ∈ ps, ∀ x, p.a = Option.some x → p.zs.length ≠ 0 → Free own w x.block
theorem PieceIn.keep {w w' : World} {p : Piece} (h : PieceIn w p) (hb : ∀ x, p.a = Option.some x → p.zs.length ≠ 0 → w'.heap[x.block]? = w.heap[x.block]?) : PieceIn w' p := by
  refine ⟨⟨h.row.len, h.row.small, fun i hi => ?_⟩, h.nil, h.le, h.bd⟩
  obtain ⟨x, hx, hc⟩ := h.row.cell i hi
  exact ⟨x, hx, (cell_block (by rw [Disk.block_add]; exact hb x hx (by omega))).trans hc⟩
theorem Texts.keep {w w' : World} {a : Option Addr} {n : Nat} {ps : List Piece} (h : Texts w a n ps) (hb : ∀ x, a = Option.some x → ps ≠ [] → w'.heap[x.block]? = w.heap[x.block]?)
    (hp : ∀ p ∈ ps, ∀ x, p.a = Option.some x → p.zs.length ≠ 0 → w'.heap[x.block]? = w.heap[x.block]?) : Texts w' a n ps := by
  refine ⟨h.len, fun i hi => ?_, fun p hpm => (h.piece p hpm).keep (hp p hpm)⟩
  obtain ⟨x, hx, hc⟩ := h.cell i hi
  exact ⟨x, hx, (cell_block (by rw [Disk.block_add]; exact hb x hx (fun e => by rw [e] at hi; simp at hi))).trans hc⟩
theorem PieceIn.lt {w : World} {p : Piece} (h : PieceIn w p) : ∀ x, p.a = Option.some x → p.zs.length ≠ 0 → x.block < w.heap.size := h.row.lt
theorem Texts.lt {w : World} {a : Option Addr} {n : Nat} {ps : List Piece} (h : Texts w a n ps) : ∀ x, a = Option.some x → ps ≠ [] → x.block < w.heap.size := by
  intro x hx hne
  obtain ⟨y, hy, hc⟩ := h.cell 0 (List.length_pos_iff.2 hne)
  obtain rfl : y = x := by rw [hx] at hy; exact (Option.some.inj hy).symm
  have := World.block_lt_of_cell? w _ hc
  rwa [Disk.block_add] at this
theorem Texts.after {w w' : World} {a : Option Addr} {n : Nat} {ps : List Piece} (h : Texts w a n ps) (hb : Below w.heap.size w w') : Texts w' a n ps :=
  h.keep (fun x hx hne => hb.block _ (h.lt x hx hne)) (fun p hp x hx hne => hb.block _ ((h.piece p hp).lt x hx hne))
theorem FreeTexts.go {own own' : Owns} {w w' : World} {a : Option Addr} {n : Nat} {ps : List Piece} (h : FreeTexts own w a n ps) (f : Fr own own' w w') : FreeTexts own' w' a n ps :=
  ⟨h.toTexts.keep (fun x hx hne => ((h.free x hx hne).go f).2) (fun p hp x hx hne => ((h.frees p hp x hx hne).go f).2),
   fun x hx hne => ((h.free x hx hne).go f).1, fun p hp x hx hne => ((h.frees p hp x hx hne).go f).1⟩
theorem FreeTexts.of {W w : World} {own : Owns} {D : Nat} {σ : St} {m : Nat} (hl : Live W w own D σ m) {a : Option Addr} {n : Nat} {ps : List Piece} (h : Texts W a n ps) : FreeTexts own w a n ps :=
  ⟨h.after hl.below, fun x hx hne => hl.old (h.lt x hx hne), fun p hp x hx hne => hl.old ((h.piece p hp).lt x hx hne)⟩

/- A log: its disk, its file. -/
structure LogIs (own : Owns) (w : World) (L D : Nat) (f : Int) : Prop where
  free : Free own w L
  disk : w.cell? ⟨L, 0, none⟩ = Option.some (.pointer (Option.some ⟨D, 0, none⟩))
  file : w.cell? ⟨L, 1, none⟩ = Option.some (.int .i64 f)
theorem LogIs.go {own own' : Owns} {w w' : World} {L D : Nat} {f : Int} (h : LogIs own w L D f) (g : Fr own own' w w') : LogIs own' w' L D f :=
  ⟨(h.free.go g).1, (cell_block (p := ⟨L, 0, none⟩) (h.free.go g).2).trans h.disk, (cell_block (p := ⟨L, 1, none⟩) (h.free.go g).2).trans h.file⟩
end Go.Proofs.Ytnehkjabhmhijaa.Wal
