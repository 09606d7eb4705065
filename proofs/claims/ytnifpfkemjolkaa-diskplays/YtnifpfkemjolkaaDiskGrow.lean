/-
  Bytes that are put behind a file's, as pending: what the disk is behind that.
-/
import Derived.Test.YtnifpfkemjolkaaDiskWrite
import Derived.Test.YtnifpfkemjolkaaDiskWrite2
namespace Go.Proofs.Ytnifpfkemjolkaa.Disk
set_option linter.unusedVariables false
set_option linter.unusedSimpArgs false
open Go Go.RowKit

theorem cellsOf_append (cs ds : List Ch) : cellsOf (cs ++ ds) = cellsOf cs ++ cellsOf ds := by unfold cellsOf; rw [List.flatMap_append]
theorem cellsOf_set (cs : List Ch) (c c' : Ch) (hc : c'.cut = c.cut) (hs : c'.size = c.size) : (cellsOf (cs ++ [c])).set (cs.length * 3 + 2) c'.val = cellsOf (cs ++ [c']) := by
  rw [cellsOf_snoc, cellsOf_snoc, List.set_append_right _ _ (by rw [cellsOf_length]; omega), cellsOf_length, show cs.length * 3 + 2 - cs.length * 3 = 2 by omega]
  simp [Ch.cells, hc, hs, Ch.val]
theorem units_last (cs : List Ch) (c : Ch) (bs : List Int) (a : Option Addr) (cap : Nat) (hc : c.cut = false) : units (cs ++ [{ c with a := a, cap := cap, bytes := c.bytes ++ bs }]) = units (cs ++ [c]) ++ bs.map Sum.inl := by
  rw [units_snoc, units_snoc]
  simp [Ch.us, hc]

theorem bytes_full (b bs : List Int) (M : Nat) (h : b.length + bs.length ≤ M) (k : Nat) : (run b ((bs.map (Sum.inl : Int → U)).take k)).length ≤ M := by
  rw [take_map_inl, run_bytes, List.length_append, List.length_take]
  omega

theorem grow_in {w w1 : World} {own : Own} {D : Nat} {F : Nat → FileS} {m i : Nat} (hd : DiskIn w own D F m) (hi : i < 2) (c : Ch) (cs0 : List Ch) (hcs : (F i).cs = cs0 ++ [c]) (hcut : c.cut = false) (pg : Nat) (hpa : (F i).pa = some ⟨pg, 0, none⟩)
    (bs : List Int) (a' : Option Addr) (cap' : Nat) (hown : w1.ownsRow 0 5 1 (.slice a' (c.bytes.length + bs.length) cap') (c.bytes.length + bs.length) ((c.bytes ++ bs).map (Value.int .u8)))
    (hgrow : w.grownBy w1 c.val.ownBlock) (hat : (Value.slice a' (c.bytes.length + bs.length) cap').ownBlock = c.val.ownBlock ∨ (Value.slice a' (c.bytes.length + bs.length) cap').ownBlock = some w.heap.size)
    (hbs : ∀ z ∈ bs, 0 ≤ z ∧ z < 256) (hfull : (run (F i).zs (units (F i).cs)).length + bs.length ≤ 16777216)
    (W : World) (x y : Int) (hx : x = ((run (F i).zs (units (F i).cs)).length : Int) + bs.length) (hy : y = ((units (F i).cs).length : Int) + bs.length)
    (hW : W.heap = (((w1.setCell ⟨pg, cs0.length * 3 + 2, none⟩ (.slice a' (c.bytes.length + bs.length) cap')).setCell ⟨D, 4 * i + 2, none⟩ (.int .i64 x)).setCell ⟨D, 4 * i + 3, none⟩ (.int .i64 y)).heap)
    (hos : W.os = w1.os) (hta : W.tape = w1.tape) (hou : W.output = w1.output) : Turned own D F (m + 1) i w W (F i).zs (units (F i).cs ++ bs.map Sum.inl) := by
  have hf := hd.file i hi
  have hjl : cs0.length < (F i).cs.length := by rw [hcs]; simp
  have hcj : (F i).cs[cs0.length]'hjl = c := by simp [hcs]
  have hcown : ∀ k, c.val.ownBlock = some k → own k = some (3, i, cs0.length) := fun k hk => hf.bown cs0.length hjl k (by rw [hcj]; exact hk)
  have hpown : own pg = some (2, i, 0) := hf.pown pg (by rw [hpa]; rfl)
  have hpglt : pg < w.heap.size := hd.old pg (by rw [hpown]; simp)
  have hpD : pg ≠ D := fun e => by rw [e, hd.mine] at hpown; simp at hpown
  have hbD : some D ≠ c.val.ownBlock := fun e => by have := hcown D e.symm; rw [hd.mine] at this; simp at this
  have hbp : some pg ≠ c.val.ownBlock := fun e => by have := hcown pg e.symm; rw [hpown] at this; simp at this
  have hDw : w1.heap[D]? = some (.cells (rowOf (F 0) (F 1)) 47 (0, 0)) := by rw [hgrow.block D hd.lt hbD]; exact hd.block
  have hprow1 : w1.ownsRow 0 67 3 (.slice (some ⟨pg, 0, none⟩) (F i).cs.length (F i).pcap) (F i).cs.length (cellsOf (F i).cs) := by
    have h := hf.prow
    rw [hpa] at h
    exact owns_same h fun k hk => by
      have : pg = k := by simpa [Value.ownBlock] using hk
      subst this
      exact hgrow.block pg hpglt hbp
  obtain ⟨hpr2, hpg2⟩ := hprow1.stored (cs0.length * 3 + 2) (.slice a' (c.bytes.length + bs.length) cap')
  have h1 : (w1.setCell ⟨pg, cs0.length * 3 + 2, none⟩ (.slice a' (c.bytes.length + bs.length) cap')).heap[D]? = some (.cells (rowOf (F 0) (F 1)) 47 (0, 0)) := by rw [Below.heap_setCell _ _ _ _ hpD.symm]; exact hDw
  have h2 := heap_setCell_same _ D (4 * i + 2) _ _ (.int .i64 x) h1
  have h3 := heap_setCell_same _ D (4 * i + 3) _ _ (.int .i64 y) h2
  rw [← hW] at h3
  have hWp : ∀ k, k ≠ D → W.heap[k]? = (w1.setCell ⟨pg, cs0.length * 3 + 2, none⟩ (.slice a' (c.bytes.length + bs.length) cap')).heap[k]? := fun k hk => by rw [hW, Below.heap_setCell _ _ _ _ hk, Below.heap_setCell _ _ _ _ hk]
  have hWk : ∀ k, k ≠ D → k ≠ pg → W.heap[k]? = w1.heap[k]? := fun k hk hp => by rw [hWp k hk, Below.heap_setCell _ _ _ _ hp]
  have hWs : W.heap.size = w1.heap.size := by rw [hW]; simp
  have hsame : ∀ k, k < w.heap.size → k ≠ D → own k ≠ some (2, i, 0) → own k ≠ some (3, i, cs0.length) → W.heap[k]? = w.heap[k]? := fun k hk hkD ho ho3 => by
    rw [hWk k hkD (fun e => ho (by rw [e]; exact hpown)), hgrow.block k hk fun e => ho3 (hcown k e.symm)]
  have hDt : ∀ k t j, own k = some (t, i, j) → t ≠ 0 → k ≠ D := fun k t j h ht e => by
    subst e; rw [hd.mine] at h; simp at h; omega
  have hup : ∀ k, k < w.heap.size → (if (Value.slice a' (c.bytes.length + bs.length) cap').ownBlock = some k then some (3, i, cs0.length) else own k) = own k := fun k hk => by
    by_cases h : (Value.slice a' (c.bytes.length + bs.length) cap').ownBlock = some k
    · rw [if_pos h]
      rcases hat with h4 | h4
      · exact (hcown k (h4.symm.trans h)).symm
      · rw [h4] at h
        have := Option.some.inj h
        omega
    · rw [if_neg h]
  have hus := units_last cs0 c bs a' cap' hcut
  rw [← hcs] at hus
  have hnl : (run (F i).zs (units (cs0 ++ [{ c with a := a', cap := cap', bytes := c.bytes ++ bs }]))).length = (run (F i).zs (units (F i).cs)).length + bs.length := by
    rw [hus, run_append, run_bytes, List.length_append]
  have hul : (units (cs0 ++ [{ c with a := a', cap := cap', bytes := c.bytes ++ bs }])).length = (units (F i).cs).length + bs.length := by rw [hus, List.length_append, List.length_map]
  have hll : (cs0 ++ [{ c with a := a', cap := cap', bytes := c.bytes ++ bs }]).length = (F i).cs.length := by rw [hcs]; simp
  refine ⟨fun k => if (Value.slice a' (c.bytes.length + bs.length) cap').ownBlock = some k then some (3, i, cs0.length) else own k,
    { F i with cs := cs0 ++ [{ c with a := a', cap := cap', bytes := c.bytes ++ bs }] }, ⟨?_, ?_, fun k hk => ?_, fun i' hi' => ?_⟩, hup, ⟨?_, ?_, ?_, ?_, fun k hk hn => ?_⟩, rfl, hus⟩
  · rw [h3, hx, hy]
    rcases (show i = 0 ∨ i = 1 by omega) with rfl | rfl
    · simp only [rowOf, upd, if_true, if_false, hnl, hul, hll]
      simp
    · simp only [rowOf, upd, if_true, if_false, hnl, hul, hll]
      simp
  · rw [hup D hd.lt]; exact hd.mine
  · rw [hWs]
    have hsz := hgrow.size
    by_cases h : (Value.slice a' (c.bytes.length + bs.length) cap').ownBlock = some k
    · exact (hown.lt k h).2
    · rw [if_neg h] at hk
      have := hd.old k hk
      omega
  · unfold upd
    by_cases hii : i' = i
    · subst hii
      rw [if_pos rfl]
      refine ⟨owns_same hf.crow fun k hk => hsame k (hf.crow.lt k hk).2 (hDt k _ _ (hf.cown k hk) (by decide)) (by rw [hf.cown k hk]; simp) (by rw [hf.cown k hk]; simp), fun k hk => ?_, ?_, fun k hk => ?_, fun j hj => ?_, fun j hj k hk => ?_, hf.zsmall, ?_, ?_, ?_, ?_, ?_⟩
      · rw [hup k (hf.crow.lt k hk).2]; exact hf.cown k hk
      · show W.ownsRow 0 _ 3 (.slice (F i').pa (cs0 ++ [_]).length (F i').pcap) (cs0 ++ [_]).length (cellsOf (cs0 ++ [_]))
        rw [hll, hpa, ← cellsOf_set cs0 c { c with a := a', cap := cap', bytes := c.bytes ++ bs } rfl rfl, ← hcs]
        have hv : Ch.val { c with a := a', cap := cap', bytes := c.bytes ++ bs } = .slice a' (c.bytes.length + bs.length) cap' := by simp [Ch.val]
        rw [hv]
        exact owns_same hpr2 fun k hk => hWp k (by have : pg = k := by simpa [Value.ownBlock] using hk
                                                   omega)
      · have hk' : (Value.slice (F i').pa (F i').cs.length (F i').pcap).ownBlock = some k := by
          rw [← hk]; exact ownBlock_any _ _ _ _ _
        rw [hup k (hf.prow.lt k hk').2]
        exact hf.pown k hk'
      · show W.ownsRow 0 _ 1 ((cs0 ++ [_])[j]'hj).val ((cs0 ++ [_])[j]'hj).bytes.length (((cs0 ++ [_])[j]'hj).bytes.map _)
        by_cases hjl' : j < cs0.length
        · have hjl2 : j < (F i').cs.length := by omega
          have e : (cs0 ++ [{ c with a := a', cap := cap', bytes := c.bytes ++ bs }])[j]'hj = (F i').cs[j]'hjl2 := by
            simp [List.getElem_append_left hjl', hcs]
          rw [e]
          exact owns_same (hf.brow j hjl2) fun k hk => hsame k ((hf.brow j hjl2).lt k hk).2 (hDt k _ _ (hf.bown j hjl2 k hk) (by decide)) (by rw [hf.bown j hjl2 k hk]; simp) (by rw [hf.bown j hjl2 k hk]; simp; omega)
        · have e : (cs0 ++ [{ c with a := a', cap := cap', bytes := c.bytes ++ bs }])[j]'hj = { c with a := a', cap := cap', bytes := c.bytes ++ bs } := by
            have : j = cs0.length := by have := hj; simp at this; omega
            subst this
            simp
          rw [e]
          show W.ownsRow 0 _ 1 (.slice a' (c.bytes ++ bs).length cap') (c.bytes ++ bs).length ((c.bytes ++ bs).map _)
          rw [List.length_append]
          refine owns_same hown fun k hk => hWk k ?_ ?_
          · rcases hat with h4 | h4
            · intro e; subst e; exact hbD (h4.symm.trans hk).symm
            · rw [h4] at hk; have := Option.some.inj hk; have := hd.lt; omega
          · rcases hat with h4 | h4
            · intro e; subst e; exact hbp (h4.symm.trans hk).symm
            · rw [h4] at hk; have := Option.some.inj hk; omega
      · have hk' : ((cs0 ++ [{ c with a := a', cap := cap', bytes := c.bytes ++ bs }])[j]'hj).val.ownBlock = some k := hk
        by_cases hjl' : j < cs0.length
        · have hjl2 : j < (F i').cs.length := by omega
          have e : (cs0 ++ [{ c with a := a', cap := cap', bytes := c.bytes ++ bs }])[j]'hj = (F i').cs[j]'hjl2 := by
            simp [List.getElem_append_left hjl', hcs]
          rw [e] at hk'
          rw [hup k ((hf.brow j hjl2).lt k hk').2]
          exact hf.bown j hjl2 k hk'
        · have hj' : j = cs0.length := by have := hj; simp at this; omega
          have e : (cs0 ++ [{ c with a := a', cap := cap', bytes := c.bytes ++ bs }])[j]'hj = { c with a := a', cap := cap', bytes := c.bytes ++ bs } := by subst hj'; simp
          rw [e] at hk'
          have hv : Ch.val { c with a := a', cap := cap', bytes := c.bytes ++ bs } = .slice a' (c.bytes.length + bs.length) cap' := by simp [Ch.val]
          rw [hv] at hk'
          rw [if_pos hk', hj']
      · intro z hz
        have hz' : Sum.inl z ∈ units (cs0 ++ [{ c with a := a', cap := cap', bytes := c.bytes ++ bs }]) := hz
        rw [hus] at hz'
        rcases List.mem_append.1 hz' with h | h
        · exact hf.usmall z h
        · obtain ⟨z', hz1, hz2⟩ := List.mem_map.1 h
          cases hz2
          exact hbs z hz1
      · show okb (F i').zs (units (cs0 ++ [_]))
        rw [hus]
        exact (okb_append _ _ _).2 ⟨hf.ok, okb_bytes _ _⟩
      · intro k
        show (run (F i').zs ((units (cs0 ++ [_])).take k)).length ≤ _
        rw [hus]
        exact full_on _ _ _ _ hf.full (bytes_full _ _ _ hfull) k
      · show (cs0 ++ [_]).length ≤ m + 1
        rw [hll]
        have := hf.few
        omega
      · show (units (cs0 ++ [_])).length ≤ (m + 1) * 16777216
        rw [hul]
        have := hf.less
        omega
    · rw [if_neg hii]
      refine (hd.file i' hi').kept (fun k t j hk ht => hsame k (hd.old k (by rw [hk]; simp)) (fun e => by subst e; rw [hd.mine] at hk; simp at hk; omega) (by rw [hk]; simp; omega) (by rw [hk]; simp; omega)) hup (by omega)
  · exact hos.trans hgrow.os
  · exact hta.trans hgrow.tape
  · exact hou.trans hgrow.output
  · rw [hWs]; exact hgrow.size
  · exact hsame k hk (fun e => by subst e; rw [hd.mine] at hn; simp at hn) (by rw [hn]; simp) (by rw [hn]; simp)

theorem nil_or_snoc (cs : List Ch) : cs = [] ∨ ∃ cs0 c, cs = cs0 ++ [c] := by
  rcases List.eq_nil_or_concat cs with h | ⟨l, c, h⟩
  · exact Or.inl h
  · exact Or.inr ⟨l, c, by simpa using h⟩

set_option maxHeartbeats 1000000 in
theorem write_any (D : Nat) (w : World) (own : Own) (F : Nat → FileS) (m i : Nat) (hd : DiskIn w own D F m) (hi : i < 2) (hm : m < 4194304) (a : Option Addr) (l cap : Nat) (bs : List Int) (hr : Row w a l bs) (h0 : a = none → cap = 0)
    (hfull : (run (F i).zs (units (F i).cs)).length + l ≤ 16777216) :
    Calls Try.prog 26 #[.pointer (some ⟨D, 4 * i, none⟩), .slice a l cap] w fun e W => e = .returned (.tuple #[]) ∧ Turned own D F (m + 1) i w W (F i).zs (units (F i).cs ++ bs.map Sum.inl) := by
  have hf := hd.file i hi
  obtain ⟨hc0, hc1, hc2, hc3⟩ := hd.cell i hi
  have hless := hf.less
  have hfew := hf.few
  have hbl := hr.len
  subst hbl
  have hpD : some D ≠ (Value.slice (F i).pa (F i).cs.length (F i).pcap).ownBlock := fun e => by
    have := hf.pown D e.symm
    rw [hd.mine] at this
    simp at this
  have hnew : ((F i).cs.length = 0 ∨ ∃ k pg, (F i).cs.length = k + 1 ∧ (F i).pa = some ⟨pg, 0, none⟩ ∧ w.cell? ⟨pg, k * 3, none⟩ = some (.bool true)) →
      Calls Try.prog 26 #[.pointer (some ⟨D, 4 * i, none⟩), .slice a bs.length cap] w fun e W => e = .returned (.tuple #[]) ∧ Turned own D F (m + 1) i w W (F i).zs (units (F i).cs ++ bs.map Sum.inl) := fun hlast => by
    refine (write_new D (4 * i) w (F i).pa (F i).pcap (F i).cs.length (cellsOf (F i).cs) (units (F i).cs).length (run (F i).zs (units (F i).cs)).length a bs.length cap bs hd.lt hc1 hc2 hc3 hd.frozen hf.prow hpD (by omega) (by omega) (by omega) (by omega) hr h0 hlast).mono ?_
    rintro e W ⟨rfl, g, cap', ba, bcap, w1, w2, hown1, hb1, hown2, hgrow2, hat2, hW, hos, hta, hou⟩
    refine ⟨rfl, ?_⟩
    have hpr := hf.prow
    have hcv : (⟨false, 0, ba, bcap, bs⟩ : Ch).us = bs.map Sum.inl := rfl
    have hg12 : w.grownBy w2 (Value.slice (F i).pa (F i).cs.length (F i).pcap).ownBlock := grown_on ⟨hb1.os, hb1.tape, hb1.output, hb1.size, fun k hk _ => hb1.block k hk⟩ hgrow2 fun g h => Or.inl h
    rw [← hcv]
    refine push_in hd hi ⟨false, 0, ba, bcap, bs⟩ g cap' hown2 hg12 (hat2.imp id fun h => by have := hb1.size; omega) ?_ (fun k hk => ?_) (fun z hz => ?_) ?_ ?_ ?_ W _ _ ?_ ?_ hW hos hta hou
    · show w2.ownsRow 0 _ 1 (.slice ba bs.length bcap) bs.length (bs.map _)
      exact owns_same (owns_zero hown1) fun k hk => hgrow2.block k (hown1.lt k hk).2 fun e => by
        have h1 := (hf.prow.lt k e.symm).2
        have h2 := (hown1.lt k hk).1
        omega
    · have h2 := hown1.lt k hk
      refine ⟨h2.1, fun e => ?_⟩
      subst e
      rcases hat2 with h | h
      · have := (hf.prow.lt k h).2; omega
      · omega
    · rw [hcv] at hz
      obtain ⟨z', hz1, hz2⟩ := List.mem_map.1 hz
      cases hz2
      exact hr.small z hz1
    · rw [hcv]; exact okb_bytes _ _
    · rw [hcv]; exact bytes_full _ _ _ (by omega)
    · rw [hcv, List.length_map]; omega
    · rw [hcv, run_bytes, List.length_append]; simp
    · rw [hcv, List.length_map]
  rcases nil_or_snoc (F i).cs with h | ⟨cs0, c, hcs⟩
  · exact hnew (Or.inl (by rw [h]; rfl))
  · have hl : (F i).cs.length = cs0.length + 1 := by rw [hcs]; simp
    have hjl : cs0.length < (F i).cs.length := by omega
    have hcj : (F i).cs[cs0.length]'hjl = c := by simp [hcs]
    have hpr := hf.prow
    obtain ⟨pg, hpa⟩ := own_at3 hpr (by omega)
    rw [hpa] at hpr
    have e0 := hpr.cellAt (cs0.length * 3) (by omega)
    have e2 := hpr.cellAt (cs0.length * 3 + 2) (by omega)
    rw [show cs0.length * 3 = cs0.length * 3 + 0 from rfl, cellsOf_at _ cs0.length 0 hjl (by omega), hcj] at e0
    rw [cellsOf_at _ cs0.length 2 hjl (by omega), hcj] at e2
    cases hcut : c.cut with
    | true => exact hnew (Or.inr ⟨cs0.length, pg, hl, hpa, by rw [← hcut]; exact e0⟩)
    | false =>
      have hbr := hf.brow cs0.length hjl
      have hbo := hf.bown cs0.length hjl
      rw [hcj] at hbr hbo
      have hpown : own pg = some (2, i, 0) := hf.pown pg (by rw [hpa]; rfl)
      have hbD : some D ≠ c.val.ownBlock := fun e => by have := hbo D e.symm; rw [hd.mine] at this; simp at this
      have hbp : some pg ≠ c.val.ownBlock := fun e => by have := hbo pg e.symm; rw [hpown] at this; simp at this
      have hcl : c.bytes.length ≤ (units (F i).cs).length := by rw [hcs, units_snoc]; simp [Ch.us, hcut]
      rw [hpa, hl] at hc1
      refine (write_old D (4 * i) w pg (F i).pcap cs0.length c.a c.bytes.length c.cap c.bytes (units (F i).cs).length (run (F i).zs (units (F i).cs)).length a bs.length cap bs hd.lt hc1 hc2 hc3 hd.frozen (by rw [← hcut]; exact e0) e2 (by rw [hl] at hpr; exact hpr.frozenAt _) (hd.old pg (by rw [hpown]; simp)) hbr hbD hbp
        (fun e => by rw [e, hd.mine] at hpown; simp at hpown) (by omega) (by omega) (by omega) (by omega) (by omega) hr h0).mono ?_
      rintro e W ⟨rfl, a', cap', w1, hown1, hgrow1, hat1, hW, hos, hta, hou⟩
      exact ⟨rfl, grow_in hd hi c cs0 hcs hcut pg hpa bs a' cap' hown1 hgrow1 hat1 hr.small hfull W _ _ rfl rfl hW hos hta hou⟩

end Go.Proofs.Ytnifpfkemjolkaa.Disk
