/-
  A disk in memory, and what its files' own methods do to it.
-/
import Derived.Test.YtnifpfkemjolkaaDiskMem
import Derived.Deep.RegionHeld3
import Derived.Deep.DrawnRows
import Derived.WalkSpells
import Derived.StillTactics
namespace Go.Proofs.Ytnifpfkemjolkaa.Disk
set_option linter.unusedVariables false
set_option linter.unusedSimpArgs false
open Go Go.RowKit
attribute [local go_sem ↓] Go.wp_at_zero Go.wp_at_succ

/- Whose block it is: (0, 2, 0) the disk itself; (1, i, 0) what is certain of file i; (2, i, 0) the list of what is pending; (3, i, j) the bytes of its change j. -/
abbrev Own := Nat → Option (Nat × Nat × Nat)

structure FileS where
  ca : Option Addr
  ccap : Nat
  zs : List Int
  pa : Option Addr
  pcap : Nat
  cs : List Ch
def FileS.us (f : FileS) : List U := units f.cs
def FileS.now (f : FileS) : List Int := run f.zs (units f.cs)

structure FileIn (w : World) (own : Own) (i : Nat) (f : FileS) (m : Nat) : Prop where
  crow : w.ownsRow 0 5 1 (.slice f.ca f.zs.length f.ccap) f.zs.length (f.zs.map (Value.int .u8))
  cown : ∀ k, Value.ownBlock (.slice f.ca f.zs.length f.ccap) = some k → own k = some (1, i, 0)
  prow : w.ownsRow 0 67 3 (.slice f.pa f.cs.length f.pcap) f.cs.length (cellsOf f.cs)
  pown : ∀ k, Value.ownBlock (.slice f.pa f.cs.length f.pcap) = some k → own k = some (2, i, 0)
  brow : ∀ (j : Nat) (h : j < f.cs.length), w.ownsRow 0 5 1 (f.cs[j]'h).val (f.cs[j]'h).bytes.length ((f.cs[j]'h).bytes.map (Value.int .u8))
  bown : ∀ (j : Nat) (h : j < f.cs.length) (k : Nat), (f.cs[j]'h).val.ownBlock = some k → own k = some (3, i, j)
  zsmall : ∀ z ∈ f.zs, 0 ≤ z ∧ z < 256
  usmall : ∀ z, Sum.inl z ∈ units f.cs → 0 ≤ z ∧ z < 256
  ok : okb f.zs (units f.cs)
  full : ∀ k, (run f.zs ((units f.cs).take k)).length ≤ 16777216
  few : f.cs.length ≤ m
  less : (units f.cs).length ≤ m * 16777216

theorem FileIn.kept {w w' : World} {own own' : Own} {i : Nat} {f : FileS} {m m' : Nat} (h : FileIn w own i f m) (hb : ∀ k t j, own k = some (t, i, j) → t ≠ 0 → w'.heap[k]? = w.heap[k]?)
    (ho : ∀ k, k < w.heap.size → own' k = own k) (hm : m ≤ m') : FileIn w' own' i f m' := by
  refine ⟨owns_same h.crow fun k hk => hb k _ _ (h.cown k hk) (by decide), fun k hk => ?_, owns_same h.prow fun k hk => hb k _ _ (h.pown k hk) (by decide), fun k hk => ?_,
    fun j hj => owns_same (h.brow j hj) fun k hk => hb k _ _ (h.bown j hj k hk) (by decide), fun j hj k hk => ?_, h.zsmall, h.usmall, h.ok, h.full, Nat.le_trans h.few hm, Nat.le_trans h.less (Nat.mul_le_mul_right _ hm)⟩
  · rw [ho k (h.crow.lt k hk).2]; exact h.cown k hk
  · rw [ho k (h.prow.lt k hk).2]; exact h.pown k hk
  · rw [ho k ((h.brow j hj).lt k hk).2]; exact h.bown j hj k hk

def rowOf (f g : FileS) : Array Value := #[.slice f.ca f.zs.length f.ccap, .slice f.pa f.cs.length f.pcap, .int .i64 (run f.zs (units f.cs)).length, .int .i64 (units f.cs).length,
  .slice g.ca g.zs.length g.ccap, .slice g.pa g.cs.length g.pcap, .int .i64 (run g.zs (units g.cs)).length, .int .i64 (units g.cs).length]

structure DiskIn (w : World) (own : Own) (D : Nat) (F : Nat → FileS) (m : Nat) : Prop where
  block : w.heap[D]? = some (.cells (rowOf (F 0) (F 1)) 47 (0, 0))
  mine : own D = some (0, 2, 0)
  old : ∀ k, own k ≠ none → k < w.heap.size
  file : ∀ i, i < 2 → FileIn w own i (F i) m

theorem DiskIn.cell {w : World} {own : Own} {D : Nat} {F : Nat → FileS} {m : Nat} (h : DiskIn w own D F m) (i : Nat) (hi : i < 2) :
    w.cell? ⟨D, 4 * i, none⟩ = some (.slice (F i).ca (F i).zs.length (F i).ccap) ∧ w.cell? ⟨D, 4 * i + 1, none⟩ = some (.slice (F i).pa (F i).cs.length (F i).pcap) ∧
    w.cell? ⟨D, 4 * i + 2, none⟩ = some (.int .i64 (run (F i).zs (units (F i).cs)).length) ∧ w.cell? ⟨D, 4 * i + 3, none⟩ = some (.int .i64 (units (F i).cs).length) := by
  have hc := fun j => cell_of_row w D j _ _ _ h.block
  rcases (show i = 0 ∨ i = 1 by omega) with rfl | rfl
  · exact ⟨hc 0, hc 1, hc 2, hc 3⟩
  · exact ⟨hc 4, hc 5, hc 6, hc 7⟩
theorem DiskIn.frozen {w : World} {own : Own} {D : Nat} {F : Nat → FileS} {m : Nat} (h : DiskIn w own D F m) (j : Nat) : w.frozen? ⟨D, j, none⟩ = false := frozen_of_row w D j _ _ h.block
theorem DiskIn.lt {w : World} {own : Own} {D : Nat} {F : Nat → FileS} {m : Nat} (h : DiskIn w own D F m) : D < w.heap.size := h.old D (by rw [h.mine]; simp)

theorem owns_base {w : World} {base : Nat} {e : TypeId} {size : Nat} {v : Value} {n : Nat} {xs : List Value} (h : w.ownsRow 0 e size v n xs) (hb : ∀ k, v.ownBlock = some k → base ≤ k) : w.ownsRow base e size v n xs := by
  refine ⟨h.1, ?_⟩
  rcases h.2 with hn | ⟨g, cap, cur, rfl, _, rest⟩
  · exact .inl hn
  · exact .inr ⟨g, cap, cur, rfl, hb g rfl, rest⟩
theorem owns_zero {w : World} {base : Nat} {e : TypeId} {size : Nat} {v : Value} {n : Nat} {xs : List Value} (h : w.ownsRow base e size v n xs) : w.ownsRow 0 e size v n xs := by
  refine ⟨h.1, ?_⟩
  rcases h.2 with hn | ⟨g, cap, cur, rfl, _, rest⟩
  · exact .inl hn
  · exact .inr ⟨g, cap, cur, rfl, Nat.zero_le _, rest⟩

set_option maxHeartbeats 1000000 in
theorem left_any (D o : Nat) (w : World) (own : Own) (i : Nat) (f : FileS) (m : Nat) (hf : FileIn w own i f m) (hm : m < 4194304) (hD : D < w.heap.size)
    (hc0 : w.cell? ⟨D, o, none⟩ = some (.slice f.ca f.zs.length f.ccap)) (hc1 : w.cell? ⟨D, o + 1, none⟩ = some (.slice f.pa f.cs.length f.pcap)) (N : Int) (hN : N ≤ 9223372036854775807) :
    Calls Try.prog 29 #[.pointer (some ⟨D, o, none⟩), .int .i64 N] w fun e w' => ∃ a' cap', e = .returned (.slice a' (run f.zs ((units f.cs).take N.toNat)).length cap') ∧
      w'.ownsRow w.heap.size 5 1 (.slice a' (run f.zs ((units f.cs).take N.toNat)).length cap') (run f.zs ((units f.cs).take N.toNat)).length ((run f.zs ((units f.cs).take N.toNat)).map (Value.int .u8)) ∧ Below w.heap.size w w' := by
  obtain ⟨hrow, h0, _⟩ := owns_row hf.crow hf.zsmall
  have hz := hf.full 0
  rw [List.take_zero, run_nil] at hz
  have hless := hf.less
  have hfew := hf.few
  have c1 := clone_any f.ca f.zs.length f.ccap f.zs w hrow (by omega) h0
  go_enter Try.func29, Try.ntmps29
  go_wp2_with (first | (go_at_call 31; refine c1.mono ?_; rintro e w1 ⟨ba, bcap, rfl, hown1, hb1⟩) |
    (go_at_call 27; refine (redo_any D o w1 ba bcap f.zs N f.pa f.pcap f.cs ((hb1.cell (p := ⟨D, o + 1, none⟩) hD).trans hc1) (owns_same hf.prow fun k hk => hb1.block k (hf.prow.lt k hk).2) (fun j h => owns_same (hf.brow j h) fun k hk => hb1.block k ((hf.brow j h).lt k hk).2) (owns_zero hown1) (fun g hg => ⟨fun e => by have := (hf.prow.lt g e).2; have := (hown1.lt g hg).1; omega, fun j h e => by have := ((hf.brow j h).lt g e).2; have := (hown1.lt g hg).1; omega⟩) hf.usmall hf.ok (by omega) hN (by omega)).mono ?_; rintro e w2 ⟨a', cap', rfl, hown2, hg2, hat2⟩))
  go_ret
  refine ⟨a', cap', rfl, owns_base hown2 fun k hk => ?_, hb1.grown (hg2) hb1.size fun k hk => (hown1.lt k hk).1⟩
  rcases hat2 k hk with h | h
  · exact (hown1.lt k h).1
  · exact Nat.le_trans hb1.size h

structure Kept (own : Own) (w w' : World) : Prop where
  os : w'.os = w.os
  tape : w'.tape = w.tape
  output : w'.output = w.output
  size : w.heap.size ≤ w'.heap.size
  block : ∀ k, k < w.heap.size → own k = none → w'.heap[k]? = w.heap[k]?

def upd (F : Nat → FileS) (i : Nat) (f : FileS) : Nat → FileS := fun j => if j = i then f else F j

/- What a method of file i leaves: the disk, with other units of that file; no block that is not the disk's is turned. -/
def Turned (own : Own) (D : Nat) (F : Nat → FileS) (m : Nat) (i : Nat) (w W : World) (zs : List Int) (us : List U) : Prop :=
  ∃ own' f', DiskIn W own' D (upd F i f') m ∧ (∀ k, k < w.heap.size → own' k = own k) ∧ Kept own w W ∧ f'.zs = zs ∧ units f'.cs = us

theorem full_on (zs : List Int) (us vs : List U) (M : Nat) (h : ∀ k, (run zs (us.take k)).length ≤ M) (hv : ∀ k, (run (run zs us) (vs.take k)).length ≤ M) (k : Nat) : (run zs ((us ++ vs).take k)).length ≤ M := by
  by_cases hk : k ≤ us.length
  · rw [take_pre _ _ _ hk]; exact h k
  · rw [take_on _ _ _ (by omega), List.take_of_length_le (by omega), run_append]; exact hv _

theorem cellsOf_snoc (cs : List Ch) (c : Ch) : cellsOf (cs ++ [c]) = cellsOf cs ++ c.cells := by unfold cellsOf; rw [List.flatMap_append]; simp
theorem units_snoc (cs : List Ch) (c : Ch) : units (cs ++ [c]) = units cs ++ c.us := by unfold units; rw [List.flatMap_append]; simp
theorem length_snoc (cs : List Ch) (c : Ch) : (cs ++ [c]).length = cs.length + 1 := by simp

/- Three stores into the disk's own block. -/
theorem row_turned {w1 W : World} {D : Nat} {f0 f1 : FileS} (hb : w1.heap[D]? = some (.cells (rowOf f0 f1) 47 (0, 0))) (i : Nat) (hi : i < 2) (v : Value) (x y : Int)
    (hW : W.heap = (((w1.setCell ⟨D, 4 * i + 1, none⟩ v).setCell ⟨D, 4 * i + 2, none⟩ (.int .i64 x)).setCell ⟨D, 4 * i + 3, none⟩ (.int .i64 y)).heap) :
    W.heap[D]? = some (.cells ((((rowOf f0 f1).setIfInBounds (4 * i + 1) v).setIfInBounds (4 * i + 2) (.int .i64 x)).setIfInBounds (4 * i + 3) (.int .i64 y)) 47 (0, 0)) ∧ (∀ k, k ≠ D → W.heap[k]? = w1.heap[k]?) ∧ W.heap.size = w1.heap.size := by
  have h1 := heap_setCell_same w1 D (4 * i + 1) _ _ v hb
  have h2 := heap_setCell_same _ D (4 * i + 2) _ _ (.int .i64 x) h1
  have h3 := heap_setCell_same _ D (4 * i + 3) _ _ (.int .i64 y) h2
  rw [hW]
  refine ⟨h3, fun k hk => ?_, by simp⟩
  rw [Below.heap_setCell _ _ _ _ hk, Below.heap_setCell _ _ _ _ hk, Below.heap_setCell _ _ _ _ hk]

theorem push_in {w w1 : World} {own : Own} {D : Nat} {F : Nat → FileS} {m i : Nat} (hd : DiskIn w own D F m) (hi : i < 2) (c : Ch) (g cap : Nat)
    (hown : w1.ownsRow 0 67 3 (.slice (some ⟨g, 0, none⟩) ((F i).cs.length + 1) cap) ((F i).cs.length + 1) (cellsOf (F i).cs ++ c.cells))
    (hgrow : w.grownBy w1 (Value.slice (F i).pa (F i).cs.length (F i).pcap).ownBlock) (hat : (Value.slice (F i).pa (F i).cs.length (F i).pcap).ownBlock = some g ∨ w.heap.size ≤ g)
    (hc : w1.ownsRow 0 5 1 c.val c.bytes.length (c.bytes.map (Value.int .u8))) (hcat : ∀ k, c.val.ownBlock = some k → w.heap.size ≤ k ∧ k ≠ g)
    (hsm : ∀ z, Sum.inl z ∈ c.us → 0 ≤ z ∧ z < 256) (hok : okb (run (F i).zs (units (F i).cs)) c.us) (hfull : ∀ k, (run (run (F i).zs (units (F i).cs)) (c.us.take k)).length ≤ 16777216) (hlen : c.us.length ≤ 16777216)
    (W : World) (x y : Int) (hx : x = (run (run (F i).zs (units (F i).cs)) c.us).length) (hy : y = ((units (F i).cs).length : Int) + c.us.length)
    (hW : W.heap = (((w1.setCell ⟨D, 4 * i + 1, none⟩ (.slice (some ⟨g, 0, none⟩) ((F i).cs.length + 1) cap)).setCell ⟨D, 4 * i + 2, none⟩ (.int .i64 x)).setCell ⟨D, 4 * i + 3, none⟩ (.int .i64 y)).heap)
    (hos : W.os = w1.os) (hta : W.tape = w1.tape) (hou : W.output = w1.output) : Turned own D F (m + 1) i w W (F i).zs (units (F i).cs ++ c.us) := by
  have hf := hd.file i hi
  have hpD : some D ≠ (Value.slice (F i).pa (F i).cs.length (F i).pcap).ownBlock := fun e => by
    have := hf.pown D e.symm
    rw [hd.mine] at this
    simp at this
  have hgD : g ≠ D := by
    rcases hat with h | h
    · intro e; subst e; exact hpD h.symm
    · have := hd.lt; omega
  obtain ⟨hWD, hWk, hWs⟩ := row_turned (by rw [hgrow.block D hd.lt hpD]; exact hd.block) i hi _ x y hW
  have hsame : ∀ k, k < w.heap.size → k ≠ D → own k ≠ some (2, i, 0) → W.heap[k]? = w.heap[k]? := fun k hk hkD ho => by
    rw [hWk k hkD, hgrow.block k hk fun e => ho (hf.pown k e.symm)]
  have hDt : ∀ k t j, own k = some (t, i, j) → t ≠ 0 → k ≠ D := fun k t j h ht e => by
    subst e; rw [hd.mine] at h; simp at h; omega
  have hup : ∀ k, k < w.heap.size → (if k = g then some (2, i, 0) else if c.val.ownBlock = some k then some (3, i, (F i).cs.length) else own k) = own k := fun k hk => by
    by_cases h : k = g
    · subst h
      rw [if_pos rfl]
      rcases hat with h | h
      · exact (hf.pown k h).symm
      · omega
    · rw [if_neg h, if_neg]
      intro e
      have := (hcat k e).1
      omega
  refine ⟨fun k => if k = g then some (2, i, 0) else if c.val.ownBlock = some k then some (3, i, (F i).cs.length) else own k,
    { F i with pa := some ⟨g, 0, none⟩, pcap := cap, cs := (F i).cs ++ [c] }, ⟨?_, ?_, fun k hk => ?_, fun i' hi' => ?_⟩, hup, ⟨?_, ?_, ?_, ?_, fun k hk hn => ?_⟩, rfl, units_snoc _ _⟩
  · rw [hWD, hx, hy]
    rcases (show i = 0 ∨ i = 1 by omega) with rfl | rfl
    · simp [rowOf, upd, units_snoc, run_append]
    · simp [rowOf, upd, units_snoc, run_append]
  · rw [hup D hd.lt]; exact hd.mine
  · rw [hWs]
    have hsz := hgrow.size
    by_cases h : k = g
    · subst h; exact (hown.lt k rfl).2
    · rw [if_neg h] at hk
      by_cases h2 : c.val.ownBlock = some k
      · exact (hc.lt k h2).2
      · rw [if_neg h2] at hk
        have := hd.old k hk
        omega
  · unfold upd
    by_cases hii : i' = i
    · subst hii
      rw [if_pos rfl]
      refine ⟨owns_same hf.crow fun k hk => hsame k (hf.crow.lt k hk).2 (hDt k _ _ (hf.cown k hk) (by decide)) (by rw [hf.cown k hk]; simp), fun k hk => ?_, ?_, fun k hk => ?_, fun j hj => ?_, fun j hj k hk => ?_, hf.zsmall, ?_, ?_, ?_, ?_, ?_⟩
      · rw [hup k (hf.crow.lt k hk).2]; exact hf.cown k hk
      · show W.ownsRow 0 _ 3 (.slice _ ((F i').cs ++ [c]).length cap) ((F i').cs ++ [c]).length (cellsOf ((F i').cs ++ [c]))
        rw [length_snoc, cellsOf_snoc]
        exact owns_same hown fun k hk => hWk k (by have : g = k := by simpa [Value.ownBlock] using hk
                                                   omega)
      · have : g = k := by simpa [Value.ownBlock] using hk
        rw [if_pos this.symm]
      · show W.ownsRow 0 _ 1 (((F i').cs ++ [c])[j]'hj).val _ _
        by_cases hjl : j < (F i').cs.length
        · have e : ((F i').cs ++ [c])[j]'hj = (F i').cs[j]'hjl := List.getElem_append_left hjl
          show W.ownsRow 0 _ 1 (((F i').cs ++ [c])[j]'hj).val (((F i').cs ++ [c])[j]'hj).bytes.length ((((F i').cs ++ [c])[j]'hj).bytes.map _)
          rw [e]
          exact owns_same (hf.brow j hjl) fun k hk => hsame k ((hf.brow j hjl).lt k hk).2 (hDt k _ _ (hf.bown j hjl k hk) (by decide)) (by rw [hf.bown j hjl k hk]; simp)
        · have e : ((F i').cs ++ [c])[j]'hj = c := by
            have : j = (F i').cs.length := by have := hj; simp at this; omega
            subst this
            simp
          show W.ownsRow 0 _ 1 (((F i').cs ++ [c])[j]'hj).val (((F i').cs ++ [c])[j]'hj).bytes.length ((((F i').cs ++ [c])[j]'hj).bytes.map _)
          rw [e]
          exact owns_same hc fun k hk => hWk k (by have := (hcat k hk).1; have := hd.lt; omega)
      · have hk' : (((F i').cs ++ [c])[j]'hj).val.ownBlock = some k := hk
        by_cases hjl : j < (F i').cs.length
        · have e : ((F i').cs ++ [c])[j]'hj = (F i').cs[j]'hjl := List.getElem_append_left hjl
          rw [e] at hk'
          rw [hup k ((hf.brow j hjl).lt k hk').2]
          exact hf.bown j hjl k hk'
        · have hjl' : j = (F i').cs.length := by have := hj; simp at this; omega
          have e : ((F i').cs ++ [c])[j]'hj = c := by subst hjl'; simp
          rw [e] at hk'
          rw [if_neg (hcat k hk').2, if_pos hk', hjl']
      · intro z hz
        have hz' : Sum.inl z ∈ units ((F i').cs ++ [c]) := hz
        rw [units_snoc] at hz'
        rcases List.mem_append.1 hz' with h | h
        · exact hf.usmall z h
        · exact hsm z h
      · show okb (F i').zs (units ((F i').cs ++ [c]))
        rw [units_snoc]
        exact (okb_append _ _ _).2 ⟨hf.ok, hok⟩
      · intro k
        show (run (F i').zs ((units ((F i').cs ++ [c])).take k)).length ≤ _
        rw [units_snoc]
        exact full_on _ _ _ _ hf.full hfull k
      · show ((F i').cs ++ [c]).length ≤ m + 1
        rw [length_snoc]
        have := hf.few
        omega
      · show (units ((F i').cs ++ [c])).length ≤ (m + 1) * 16777216
        rw [units_snoc, List.length_append]
        have := hf.less
        omega
    · rw [if_neg hii]
      refine (hd.file i' hi').kept (fun k t j hk ht => hsame k (hd.old k (by rw [hk]; simp)) (fun e => by subst e; rw [hd.mine] at hk; simp at hk; omega) (by rw [hk]; simp; omega)) hup (by omega)
  · exact hos.trans hgrow.os
  · exact hta.trans hgrow.tape
  · exact hou.trans hgrow.output
  · rw [hWs]; exact hgrow.size
  · exact hsame k hk (fun e => by subst e; rw [hd.mine] at hn; simp at hn) (by rw [hn]; simp)

theorem info70 : (Try.prog.info? 67).map (fun i => (i.zero, i.size, i.bytes)) = some (some (.agg #[.bool false, .int .i64 0, .slice none 0 0]), 3, 40) := by kernel_rfl

set_option maxHeartbeats 1000000 in
theorem shorten_any (D : Nat) (w : World) (own : Own) (F : Nat → FileS) (m i s : Nat) (hd : DiskIn w own D F m) (hi : i < 2) (hm : m < 4194304) (hs : s ≤ (run (F i).zs (units (F i).cs)).length) :
    Calls Try.prog 28 #[.pointer (some ⟨D, 4 * i, none⟩), .int .i64 s] w fun e W => e = .returned (.tuple #[]) ∧ Turned own D F (m + 1) i w W (F i).zs (units (F i).cs ++ [.inr s]) := by
  obtain ⟨i0, hi0, hz0, hz1, hz2⟩ := info_parts info70
  have hD := hd.lt
  have hf := hd.file i hi
  obtain ⟨hc0, hc1, hc2, hc3⟩ := hd.cell i hi
  have hfz := hd.frozen
  have hless := hf.less
  have hfew := hf.few
  have hprow := hf.prow
  have hpD : some D ≠ (Value.slice (F i).pa (F i).cs.length (F i).pcap).ownBlock := fun e => by
    have := hf.pown D e.symm
    rw [hd.mine] at this
    simp at this
  have HP : Hid (∀ (g cap : Nat) (w1 W : World), w1.ownsRow 0 67 3 (.slice (some ⟨g, 0, none⟩) ((F i).cs.length + 1) cap) ((F i).cs.length + 1) (cellsOf (F i).cs ++ [.bool true, .int .i64 s, .slice none 0 0]) →
      w.grownBy w1 (Value.slice (F i).pa (F i).cs.length (F i).pcap).ownBlock → ((Value.slice (F i).pa (F i).cs.length (F i).pcap).ownBlock = some g ∨ w.heap.size ≤ g) →
      W = (((w1.setCell ⟨D, 4 * i + 1, none⟩ (.slice (some ⟨g, 0, none⟩) ((F i).cs.length + 1) cap)).setCell ⟨D, 4 * i + 2, none⟩ (.int .i64 s)).setCell ⟨D, 4 * i + 3, none⟩ (.int .i64 ((units (F i).cs).length + 1))) →
      Turned own D F (m + 1) i w W (F i).zs (units (F i).cs ++ [.inr s])) := by
    intro g cap w1 W h1 h2 h3 h4
    have hnow := hf.full (units (F i).cs).length
    rw [List.take_length] at hnow
    refine push_in hd hi ⟨true, s, none, 0, []⟩ g cap h1 h2 h3 (World.ownsRow_nil _ _ _ _) (fun k hk => by cases hk) (fun z hz => by simp [Ch.us] at hz) ⟨fun n hn => by cases hn; exact hs, trivial⟩ (fun k => ?_) (by simp [Ch.us]) W _ _ ?_ ?_ (by rw [h4]) (by rw [h4]; rfl) (by rw [h4]; rfl) (by rw [h4]; rfl)
    · have := run_len (List.take k (Ch.us ⟨true, s, none, 0, []⟩)) (run (F i).zs (units (F i).cs))
      cases k with
      | zero => rw [List.take_zero, run_nil]; exact hnow
      | succ k => simp only [Ch.us, if_true, List.take_succ_cons, List.take_nil, run_cut, List.length_take]; omega
    · simp only [Ch.us, if_true, run_cut, List.length_take]; omega
    · simp [Ch.us]
  generalize hfd : F i = f at *
  obtain ⟨ca, ccap, zs, pa, pcap, cs⟩ := f
  simp only at *
  generalize hul : (units cs).length = ul at *
  generalize hnl : (run zs (units cs)).length = nl at *
  generalize ho : 4 * i = o at *
  clear hfd hul hnl ho hd hf
  go_enter Try.func28, Try.ntmps28
  go_wp2_with (at_builtin; refine wpList_append_lies _ rfl (.tmp 8) (.tmp 11) 42 rfl 0 67 i0 _ 3 40 Try.underlying42 hi0 hz0 hz1 hz2 rfl (by decide) (.slice pa cs.length pcap) cs.length (cellsOf cs) rfl (hprow.alloc _) ⟨w.heap.size, 0, none⟩ 1 1 [.bool true, .int .i64 s, .slice none 0 0] rfl rfl (World.news_of_block (cs := #[.bool true, .int .i64 s, .slice none 0 0]) (t := 67) (fr := (0, 0)) (heap_alloc_new w _)) (by simp [Value.oneCell']) (by decide) (by unfold maxLen; omega) (by omega) (Nat.zero_le _) (w.heap.size + 1) (by simp) ?_; intro g cap w1 hown1 hgrow1 hat1 hlt1; have k1 := hgrow1.cell_far ⟨D, o + 1, none⟩ (by simp; omega) hpD; have k2 := hgrow1.cell_far ⟨D, o + 2, none⟩ (by simp; omega) hpD; have k3 := hgrow1.cell_far ⟨D, o + 3, none⟩ (by simp; omega) hpD; have f1 := hgrow1.frozen_far ⟨D, o + 1, none⟩ (by simp; omega) hpD; have f2 := hgrow1.frozen_far ⟨D, o + 2, none⟩ (by simp; omega) hpD; have f3 := hgrow1.frozen_far ⟨D, o + 3, none⟩ (by simp; omega) hpD)
  go_end0
  exact ⟨rfl, HP.out g cap w1 _ hown1 ((World.grownBy_alloc _ _ _).trans hgrow1) (hat1.imp id fun h => by omega) rfl⟩

end Go.Proofs.Ytnifpfkemjolkaa.Disk
