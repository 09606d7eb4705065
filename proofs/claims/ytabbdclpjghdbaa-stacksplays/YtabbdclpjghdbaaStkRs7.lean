/-
  The chapter's own stacks while they are being made.
-/
import Derived.Test.YtabbdclpjghdbaaStkRs4
namespace Go.Proofs.Ytabbdclpjghdbaa.Stk
set_option linter.unusedVariables false
set_option linter.unusedSimpArgs false
open Go Go.RowKit Go.Shelf Go.Proofs Go.Proofs.Ytabbdclpjghdbaa.Grid
attribute [local go_sem] Oper.semAt_some

def pz (z : SV × List Int) : Pile := (z.1.1, .slice z.1.2.1 z.1.2.2.1 z.1.2.2.2, z.2)
def stkV (z : SV × List Int) : List Value := stkL z.1
theorem kindZ : Kind stkV 24 59 3 40 :=
  ⟨fun _ => rfl, fun x u hu => by simp [stkV, stkL] at hu; rcases hu with rfl | rfl | rfl <;> rfl, Try.underlying24, by decide, by obtain ⟨i0, hi, hz0, hz1, hz2⟩ := info_parts infoStack3; exact ⟨i0, _, hi, hz0, hz1, hz2, rfl⟩⟩
structure Nw (N B cb s lb n0 : Nat) (wi : World) (cs : Array Value) (vc : Value) (zs : List (SV × List Int)) (w : World) : Prop where
  bel : Below N wi w
  bx : w.heap[cb]? = some (.cells cs 26 (0, 0))
  hd : w.heap[s]? = some (.cells (cs.toList ++ [vc, .slice (some ⟨lb, 0, none⟩) n0 n0]).toArray 76 (0, 0))
  lds : w.heap[lb]? = some (.cells ((List.replicate n0 (0 : Int)).map (Value.int .i64)).toArray 3 (0, 0))
  row : w.ownsRow B 59 3 vc zs.length (rowL stkV zs)
  own : ∀ (i : Nat) (z : SV × List Int), zs[i]? = some z → w.ownsRow B 3 1 (pz z).2.1 z.2.length (rowL intL z.2)
  sep : ∀ (i : Nat) (z : SV × List Int), zs[i]? = some z → ∀ b, (pz z).2.1.ownBlock = some b → vc.ownBlock ≠ some b
  len : cs.size = 16
  nN : N = wi.heap.size
  cN : N ≤ cb
  sN : N ≤ s
  lN : N ≤ lb
  cB : cb < B
  sB : s < B
  lB : lb < B
  sc : s ≠ cb
  slb : s ≠ lb
  clb : cb ≠ lb
  big : B ≤ w.heap.size
section
variable {N B cb s lb n0 : Nat} {wi : World} {cs : Array Value} {vc : Value} {zs : List (SV × List Int)} {w : World} {w' : World}
theorem Nw.go (h : Nw N B cb s lb n0 wi cs vc zs w) (b : Below w.heap.size w w') : Nw N B cb s lb n0 wi cs vc zs w' :=
  { h with
    bel := h.bel.trans (b.mono (by have := h.big; have := h.cB; have := h.cN; omega))
    bx := (b.block _ (lt_of_heap h.bx)).trans h.bx
    hd := (b.block _ (lt_of_heap h.hd)).trans h.hd
    lds := (b.block _ (lt_of_heap h.lds)).trans h.lds
    row := owns_go h.row b
    own := fun i z hz => owns_go (h.own i z hz) b
    big := Nat.le_trans h.big b.size }
theorem Nw.c16 (h : Nw N B cb s lb n0 wi cs vc zs w) : w.cell? ⟨s, 16, none⟩ = some vc := by
  have hl : cs.toList.length = 16 := by rw [Array.length_toList]; exact h.len
  rw [cell_of h.hd, List.getElem?_toArray, List.getElem?_append_right (by rw [hl]; omega), hl]
  rfl
/- A stack put behind the others. -/
theorem Nw.push (h : Nw N B cb s lb n0 wi cs vc zs w) (x : Cell) (a : Option Addr) (n cap : Nat) (bs : List Int) (ho : w.ownsRow B 3 1 (.slice a n cap) bs.length (rowL intL bs)) (hs : ∀ b, (Value.slice a n cap).ownBlock = some b → vc.ownBlock ≠ some b) (hm : zs.length < 1000) (ty : TypeId) :
    ∃ v' w', (Builtin.append_ #[24, 24] ty #[vc, .slice (some ⟨w.heap.size, 0, none⟩) 1 1]).run Try.prog (w.alloc (.cells #[.int .i64 x.1, .int .i64 x.2, .slice a n cap] 59)) = .ok v' w' ∧ w'.cell? ⟨s, 16, none⟩ = some vc ∧ w'.frozen? ⟨s, 16, none⟩ = false ∧ (∀ k, k < w.heap.size → vc.ownBlock ≠ some k → w'.heap[k]? = w.heap[k]?) ∧ (∃ t n c, v' = .slice t n c) ∧ Nw N B cb s lb n0 wi cs v' (zs ++ [((x, a, n, cap), bs)]) (w'.setCell ⟨s, 16, none⟩ v') := by
  have b1 : Below w.heap.size w (w.alloc (.cells #[.int .i64 x.1, .int .i64 x.2, .slice a n cap] 59)) := below_new (Below.refl _ _) _
  have h1 := h.go b1
  have hL := list_one (f := stkV) (S := 3) w ((x, a, n, cap), bs) 59 rfl
  obtain ⟨v', w', hrun, own', hg, hat⟩ := run_app kindZ h1.row hL (by simp; omega) (by unfold maxLen; simp; omega) h1.big ty
  have sz : w.heap.size < (w.alloc (.cells #[.int .i64 x.1, .int .i64 x.2, .slice a n cap] 59)).heap.size := by simp
  have hB := h.big
  have lB := h.lB
  have sB := h.sB
  have cB := h.cB
  have kp : ∀ k, k < w.heap.size → vc.ownBlock ≠ some k → w'.heap[k]? = w.heap[k]? := fun k hk hv => (hg.block k (by omega) (fun e => hv e.symm)).trans (b1.block k hk)
  have lowb : ∀ k, k < B → vc.ownBlock ≠ some k := fun k hk e => by have := (h.row.lt k e).1; omega
  have hd' := (kp s (by omega) (lowb s sB)).trans h.hd
  have hat' : ∀ b, v'.ownBlock = some b → b < w.heap.size → vc.ownBlock = some b := fun b hb hlt => by
    rcases hat with e | e
    · rw [← e]; exact hb
    · rw [e] at hb; cases hb; omega
  have e16 : w'.cell? ⟨s, 16, none⟩ = some vc := by
    have hl : cs.toList.length = 16 := by rw [Array.length_toList]; exact h.len
    rw [cell_of hd', List.getElem?_toArray, List.getElem?_append_right (by rw [hl]; omega), hl]
    rfl
  have e0 : ∀ b, b ≠ s → (w'.setCell ⟨s, 16, none⟩ v').heap[b]? = w'.heap[b]? := fun b hb => heap_setCell_other _ _ _ _ hb
  have hsl : ∃ t n c, v' = .slice t n c := by
    rcases own'.2 with ⟨e, _⟩ | ⟨g, c, cur, e, _⟩
    · exact ⟨_, _, _, e⟩
    · exact ⟨_, _, _, e⟩
  have pzn : (pz ((x, a, n, cap), bs)).2.1 = .slice a n cap := rfl
  have get : ∀ (i : Nat) (z : SV × List Int), (zs ++ [((x, a, n, cap), bs)])[i]? = some z → zs[i]? = some z ∨ z = ((x, a, n, cap), bs) := fun i z hz => by
    by_cases hi : i < zs.length
    · rw [List.getElem?_append_left hi] at hz; exact Or.inl hz
    · rw [List.getElem?_append_right (by omega)] at hz
      right
      have := List.mem_of_getElem? hz
      simpa using this
  refine ⟨v', w', hrun, e16, by simp [World.frozen?, hd'], kp, hsl, ?_⟩
  exact
  { bel := ⟨hg.os.trans h1.bel.os, hg.tape.trans h1.bel.tape, hg.output.trans h1.bel.output, by rw [World.size_setCell]; exact Nat.le_trans h1.bel.size hg.size, fun b hb => by
      have hbN : b < N := hb
      have := h.sN
      have := h.cN
      have := h.nN
      exact (e0 b (by omega)).trans ((kp b (by omega) (lowb b (by omega))).trans (h.bel.block b hb))⟩
    bx := (e0 cb h.sc.symm).trans ((kp cb (by omega) (lowb cb cB)).trans h.bx)
    hd := by
      have hl : cs.toList.length = 16 := by rw [Array.length_toList]; exact h.len
      rw [heap_setCell_same _ _ _ _ _ _ hd', List.setIfInBounds_toArray, List.set_append_right _ _ (by rw [hl]; exact Nat.le_refl _), hl]
      rfl
    lds := (e0 lb h.slb.symm).trans ((kp lb (by omega) (lowb lb lB)).trans h.lds)
    row := owns_same own' fun k hk => e0 k (by have := (own'.lt k hk).1; omega)
    own := fun i z hz => by
      rcases get i z hz with hz | rfl
      · have o := h.own i z hz
        exact owns_same o fun k hk => (e0 k (by have := (o.lt k hk).1; omega)).trans (kp k (o.lt k hk).2 (h.sep i z hz k hk))
      · exact owns_same ho fun k hk => (e0 k (by have := (ho.lt k hk).1; omega)).trans (kp k (ho.lt k hk).2 (hs k hk))
    sep := fun i z hz b hb e => by
      rcases get i z hz with hz | rfl
      · exact h.sep i z hz b hb (hat' b e ((h.own i z hz).lt b hb).2)
      · exact hs b hb (hat' b e (ho.lt b hb).2)
    len := h.len
    nN := h.nN
    cN := h.cN
    sN := h.sN
    lN := h.lN
    cB := cB
    sB := sB
    lB := lB
    sc := h.sc
    slb := h.slb
    clb := h.clb
    big := by rw [World.size_setCell]; exact Nat.le_trans h1.big hg.size }
theorem pile_of_own {K : Rk} {q : Pile} {B : Nat} (h : w.ownsRow B 3 1 q.2.1 q.2.2.length (rowL intL q.2.2)) (hB : K.B ≤ B) (hs : K.s < B) (hl : K.lb < B) (hr : ∀ b, q.2.1.ownBlock = some b → b ≠ K.rb) : PlAt w K q := by
  have hlt := h.lt
  obtain ⟨_, ⟨e1, e2⟩ | ⟨g, cap, cur, e1, e2, e3, e4, e5, e6, e7⟩⟩ := h
  · exact ⟨none, 0, by rw [e1, e2], fun _ => ⟨e2, rfl⟩, by omega, Nat.zero_le _, (fun x hx => by cases hx), fun j hj => by omega⟩
  · have hg := hlt g (by rw [e1]; rfl)
    refine ⟨some ⟨g, 0, none⟩, cap, e1, (fun e => by cases e), e4, e5, (fun x hx => by cases hx; exact ⟨by show K.B ≤ g; omega, by show g ≠ K.s; omega, hr g (by rw [e1]; rfl), by show g ≠ K.lb; omega, hg.2⟩), fun j hj => ⟨_, rfl, ?_⟩⟩
    have e : (⟨g, 0, none⟩ : Addr).add j = ⟨g, j, none⟩ := by unfold Addr.add; split <;> simp_all
    have e8 : rowL intL q.2.2 = q.2.2.map (Value.int .i64) := by
      have hf : ∀ l : List Int, l.flatMap (fun x => [Value.int .i64 x]) = l.map (Value.int .i64) := fun l => by
        induction l with
        | nil => rfl
        | cons a l ih => rw [List.flatMap_cons, ih]; rfl
      exact hf _
    rw [e, cell_of e3, ← Array.getElem?_toList]
    have e9 : (cur.toList.take (q.2.2.length * 1))[j]? = cur.toList[j]? := by rw [List.getElem?_take_of_lt (by omega)]
    rw [← e9, e7, e8, List.getElem?_map, List.getElem?_eq_getElem hj]
    rfl
/- The stacks that were made. -/
theorem Nw.done (h : Nw N B cb s lb n0 wi cs vc zs w) (hn : n0 ≤ 8) (hz : zs.length ≤ 256) (h8 : ∀ z ∈ zs, z.2.length ≤ 8) : ∃ K : Rk, K.s = s ∧ K.lb = lb ∧ K.B = N ∧ RsAt w K cs vc (zs.map pz) (List.replicate n0 0) ∧ ∀ b, RB K (zs.map pz) b → N ≤ b := by
  have hg : ∀ (i : Nat) (q : Pile), (zs.map pz)[i]? = some q → ∃ z, zs[i]? = some z ∧ q = pz z := fun i q hq => by
    rw [List.getElem?_map] at hq
    cases e : zs[i]? with
    | none => rw [e] at hq; cases hq
    | some z => rw [e] at hq; cases hq; exact ⟨z, rfl, rfl⟩
  have hB := h.big
  have lB := h.lB
  have sB := h.sB
  have cB := h.cB
  have hN := h.cN
  have hr := h.row
  have hlt := h.row.lt
  obtain ⟨_, ⟨e1, e2⟩ | ⟨g, cap, cur, e1, e2, e3, e4, e5, e6, e7⟩⟩ := hr
  · have ez : zs = [] := List.eq_nil_of_length_eq_zero e2
    refine ⟨⟨s, cb, lb, 0, N⟩, rfl, rfl, rfl, ⟨?_, h.len, Or.inl ⟨by rw [ez]; rfl, e1⟩, h.lds, fun i q hq => by rw [ez] at hq; simp at hq, by rw [List.length_replicate]; exact hn, by rw [List.length_map]; exact hz, fun i q hq => by rw [ez] at hq; simp at hq, h.slb, h.sc, h.clb, h.sN, h.lN, h.cN, by show cb < _; omega⟩, fun b hb => ?_⟩
    · show w.heap[s]? = _
      rw [List.length_replicate]; exact h.hd
    · rcases hb with e | e | e | ⟨i, q, a, n, c, hq, _⟩
      · rw [e]; exact h.sN
      · rw [e]; exact h.cN
      · rw [e]; exact h.lN
      · rw [ez] at hq; simp at hq
  · have hgl := hlt g (by rw [e1]; rfl)
    have pl : ∀ (i : Nat) (q : Pile), (zs.map pz)[i]? = some q → PlAt w ⟨s, g, lb, cap, N⟩ q := fun i q hq => by
      obtain ⟨z, h1, rfl⟩ := hg i q hq
      exact pile_of_own (h.own i z h1) (by show N ≤ B; omega) sB lB fun b hb e => h.sep i z h1 b hb (by rw [e1, e]; rfl)
    refine ⟨⟨s, g, lb, cap, N⟩, rfl, rfl, rfl, ⟨?_, h.len, Or.inr ⟨by rw [List.length_map]; exact e1, by rw [List.length_map]; exact e4, e5, cur, e3, fun i q j u hq hj => ?_⟩, h.lds, pl, by rw [List.length_replicate]; exact hn, by rw [List.length_map]; exact hz, fun i q hq => by obtain ⟨z, h1, rfl⟩ := hg i q hq; exact h8 z (List.mem_of_getElem? h1), h.slb, by show s ≠ g; omega, by show g ≠ lb; omega, h.sN, h.lN, by show N ≤ g; omega, by show g < _; omega⟩, fun b hb => ?_⟩
    · show w.heap[s]? = _
      rw [List.length_replicate]; exact h.hd
    · have er : rowL stkV zs = rowL pileL (zs.map pz) := by unfold rowL; rw [List.flatMap_map]; rfl
      have q1 := row_at hq j u hj
      rw [← er, ← e7] at q1
      rw [← Array.getElem?_toList]
      have hlen := (List.getElem?_eq_some_iff.1 q1).1
      rw [List.getElem?_take_of_lt (by rw [List.length_take] at hlen; omega)] at q1
      exact q1
    · rcases hb with e | e | e | ⟨i, q, a, n, c, hq, hv, rfl⟩
      · rw [e]; exact h.sN
      · rw [e]; show N ≤ g; omega
      · rw [e]; exact h.lN
      · obtain ⟨a', cap', h1, _, _, _, h5, _⟩ := pl i q hq
        rw [hv] at h1
        injection h1 with q1 _ _
        exact (h5 a q1.symm).1
end
end Go.Proofs.Ytabbdclpjghdbaa.Stk
