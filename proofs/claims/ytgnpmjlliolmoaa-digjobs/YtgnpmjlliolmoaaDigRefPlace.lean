/-
  The chapter's own place for a bin: the first of the nearest that may be.
-/
import Derived.Test.YtgnpmjlliolmoaaDigRef
import Derived.Test.YtgnpmjlliolmoaaDgV
import Derived.Test.YtgnpmjlliolmoaaGridRStacks
namespace Go.Proofs.Ytgnpmjlliolmoaa.Dig
set_option linter.unusedVariables false
set_option linter.unusedSimpArgs false
open Go Go.RowKit Go.Shelf Go.Proofs Go.Proofs.Ytgnpmjlliolmoaa.Grid Go.Proofs.Ytgnpmjlliolmoaa.Srt
attribute [local go_sem] Oper.semAt_some

theorem aw_call (f p : Cell) (w : World) : Calls Try.prog 59 #[.agg #[.int .i64 f.1, .int .i64 f.2], .agg #[.int .i64 p.1, .int .i64 p.2]] w fun e w' => ∃ v, e = .returned v ∧ (v = .int .i64 (awayP f p) ∧ Below w.heap.size w w') := (refAway_any f.1 f.2 p.1 p.2 w).mono fun e w' ⟨h, b⟩ => ⟨_, h, rfl, b⟩
/- The best of the first i, as the chapter goes through them. -/
def BU (may : Nat → Prop) (key : Nat → Int) (i : Nat) (bv : Int) : Prop := (bv = -1 ∧ ∀ j, j < i → ¬ may j) ∨ ∃ b : Nat, bv = (b : Int) ∧ b < i ∧ may b ∧ ∀ j, j < i → may j → key b ≤ key j ∧ (j < b → key b < key j)
section
variable {may : Nat → Prop} {key : Nat → Int} {i : Nat} {bv : Int}
theorem bu_start : BU may key 0 (-1) := Or.inl ⟨rfl, fun j h => by omega⟩
theorem bu_no (h : BU may key i bv) (hn : ¬ may i) : BU may key (i + 1) bv := by
  rcases h with ⟨h1, h2⟩ | ⟨b, h1, h2, h3, h4⟩
  · exact Or.inl ⟨h1, fun j hj hm => by
      rcases Nat.lt_succ_iff_lt_or_eq.1 hj with q | q
      · exact h2 j q hm
      · exact hn (q ▸ hm)⟩
  · exact Or.inr ⟨b, h1, by omega, h3, fun j hj hm => by
      rcases Nat.lt_succ_iff_lt_or_eq.1 hj with q | q
      · exact h4 j q hm
      · exact absurd (q ▸ hm) hn⟩
theorem bu_first (h : BU may key i bv) (hb : bv < 0) (hm : may i) : BU may key (i + 1) (i : Int) := by
  rcases h with ⟨h1, h2⟩ | ⟨b, h1, _⟩
  · exact Or.inr ⟨i, rfl, by omega, hm, fun j hj hmj => by
      rcases Nat.lt_succ_iff_lt_or_eq.1 hj with q | q
      · exact absurd hmj (h2 j q)
      · subst q; exact ⟨Int.le_refl _, fun q => by omega⟩⟩
  · omega
theorem bu_less {b : Nat} (h : BU may key i (b : Int)) (hl : key i < key b) (hm : may i) : BU may key (i + 1) (i : Int) := by
  rcases h with ⟨h1, _⟩ | ⟨b', h1, h2, h3, h4⟩
  · omega
  · obtain rfl : b = b' := by omega
    exact Or.inr ⟨i, rfl, by omega, hm, fun j hj hmj => by
      rcases Nat.lt_succ_iff_lt_or_eq.1 hj with q | q
      · have := (h4 j q hmj).1; exact ⟨by omega, fun _ => by omega⟩
      · subst q; exact ⟨Int.le_refl _, fun q => by omega⟩⟩
theorem bu_keep {b : Nat} (h : BU may key i (b : Int)) (hl : ¬ key i < key b) : BU may key (i + 1) (b : Int) := by
  rcases h with ⟨h1, _⟩ | ⟨b', h1, h2, h3, h4⟩
  · omega
  · obtain rfl : b = b' := by omega
    exact Or.inr ⟨b, rfl, by omega, h3, fun j hj hmj => by
      rcases Nat.lt_succ_iff_lt_or_eq.1 hj with q | q
      · exact h4 j q hmj
      · subst q; exact ⟨by omega, fun q => by omega⟩⟩
theorem bu_at (h : BU may key i bv) : bv = -1 ∨ ∃ b : Nat, bv = (b : Int) ∧ b < i := by
  rcases h with ⟨h, _⟩ | ⟨b, h1, h2, _⟩
  · exact Or.inl h
  · exact Or.inr ⟨b, h1, h2⟩
end
/- A cell where one may be put, beside those that were given. -/
def MayG (stks : List Stk) (height : Int) (tl gl : List Cell) (f x : Cell) : Prop := x ≠ f ∧ x ∉ tl ∧ (((pileOf stks x).length + cntC x gl : Nat) : Int) < height
theorem cntC_snoc (x y : Cell) (l : List Cell) : cntC x (l ++ [y]) = cntC x l + if y = x then 1 else 0 := by
  unfold cntC
  rw [@List.count_append Cell instBEqOfDecidableEq]
  congr 1
  by_cases h : y = x
  · subst h; rw [if_pos rfl]; exact @List.count_singleton_self Cell instBEqOfDecidableEq _ y
  · rw [if_neg h]
    refine @List.count_eq_zero_of_not_mem Cell instBEqOfDecidableEq _ x [y] ?_
    simp
    exact fun e => h e.symm
/- What it comes to: the first of the nearest, or none. -/
def PlaceR (stks : List Stk) (height : Int) (L tl gl : List Cell) (f : Cell) : Option Cell → Prop
  | none => ∀ x ∈ L, ¬ MayG stks height tl gl f x
  | some p => ∃ i, ∃ h : First (fun x => awayP f x) (fun x => MayG stks height tl gl f x) L i, L[i]'h.lt = p
theorem bu_none {stks : List Stk} {height : Int} {L tl gl : List Cell} {f : Cell} {bv : Int} (hb : bv < 0) (h : BU (fun j => MayG stks height tl gl f (L.getD j (0, 0))) (fun j => awayP f (L.getD j (0, 0))) L.length bv) : PlaceR stks height L tl gl f none := by
  rcases h with ⟨_, h⟩ | ⟨b, h1, _⟩
  · intro x hx
    obtain ⟨j, hj, e⟩ := List.getElem_of_mem hx
    have : ¬ MayG stks height tl gl f (L.getD j (0, 0)) := h j hj
    rw [getD_at hj, e] at this
    exact this
  · omega
theorem bu_some {stks : List Stk} {height : Int} {L tl gl : List Cell} {f : Cell} {b : Nat} (h : BU (fun j => MayG stks height tl gl f (L.getD j (0, 0))) (fun j => awayP f (L.getD j (0, 0))) L.length (b : Int)) : PlaceR stks height L tl gl f (some (L.getD b (0, 0))) := by
  rcases h with ⟨h, _⟩ | ⟨b', h1, h2, h3, h4⟩
  · omega
  · obtain rfl : b = b' := by omega
    refine ⟨b, ⟨h2, ?_, fun j hj hm => ?_⟩, ?_⟩
    · rw [getD_at h2] at h3; exact h3
    · have : awayP f (L.getD b (0, 0)) ≤ awayP f (L.getD j (0, 0)) ∧ (j < b → awayP f (L.getD b (0, 0)) < awayP f (L.getD j (0, 0))) := h4 j hj (show MayG stks height tl gl f (L.getD j (0, 0)) by rw [getD_at hj]; exact hm)
      rw [getD_at hj, getD_at h2] at this
      exact this
    · exact (getD_at h2).symm
def cellOf (o : Option Cell) : Cell := o.getD (0, 0)
set_option maxRecDepth 100000 in
set_option maxHeartbeats 4000000 in
theorem refPlace_any {F : Nat → Prop} {c : Conf} {v1 v2 v3 v4 : Value} {w : World} (hA : ConfAt F c v1 v2 v3 v4 w) (hF : ∀ b, F b → b < w.heap.size) (l1 : c.blocked.length ≤ 8796093022208) (l2 : c.ports.length ≤ 8796093022208) (l3 : c.robots.length ≤ 5864062014805) (l4 : c.stacks.length ≤ 3518437208880) (l5 : ∀ s ∈ c.stacks, s.2.length ≤ 17592186044416) {G : GS} (hN : newP c = some G)
    (Fs : Nat → Prop) (stks : List Stk) (sa : Option Addr) (sn sc : Nat) (hS : ListAt 3 stackEl Fs stks (.slice sa sn sc) w) (hFs : ∀ b, Fs b → b < w.heap.size) (hsn : sn ≤ 1000000) (hp : ∀ x, (pileOf stks x).length ≤ 17592186044416)
    (Ft : Nat → Prop) (tl : List Cell) (ta : Option Addr) (tn tc : Nat) (hT : ListAt 2 cellEl Ft tl (.slice ta tn tc) w) (hFt : ∀ b, Ft b → b < w.heap.size) (htn : tn ≤ 1000000)
    (Fg : Nat → Prop) (gl : List Cell) (ga : Option Addr) (gn gc : Nat) (hG : ListAt 2 cellEl Fg gl (.slice ga gn gc) w) (hFg : ∀ b, Fg b → b < w.heap.size) (hgn : gn ≤ 1000000) (f : Cell) :
    Calls Try.prog 43 #[.agg #[.int .i64 c.W, .int .i64 c.H, .int .i64 c.height, v1, v2, v3, v4, .int .i64 c.unit, .int .i64 c.accel, .int .i64 c.speed, .int .i64 c.turn, .int .i64 c.hoist, .int .i64 c.queue, .int .i64 c.resend, .int .i64 c.budget, .bool c.back], .slice sa sn sc, .slice ta tn tc, .slice ga gn gc, .agg #[.int .i64 f.1, .int .i64 f.2]] w fun e w' => ∃ r, e = .returned r ∧ (∃ o : Option Cell, r = .tuple #[.agg #[.int .i64 (cellOf o).1, .int .i64 (cellOf o).2], .bool o.isSome] ∧ PlaceR stks c.height (stkUpTo c.W G.uses G.uses.length) tl gl f o) ∧ Below w.heap.size w w' := by
  obtain ⟨w3, hw3⟩ : ∃ w3, w3 = ((w.alloc (.cells #[.int .i64 c.W, .int .i64 c.H, .int .i64 c.height, v1, v2, v3, v4, .int .i64 c.unit, .int .i64 c.accel, .int .i64 c.speed, .int .i64 c.turn, .int .i64 c.hoist, .int .i64 c.queue, .int .i64 c.resend, .int .i64 c.budget, .bool c.back] 26)).alloc (.cells #[.int .i64 f.1, .int .i64 f.2] 28)).alloc (.cells #[.int .i64 0, .int .i64 0] 28) := ⟨_, rfl⟩
  have b3 : Below w.heap.size w w3 := by rw [hw3]; exact ((((Below.refl _ _).alloc (Nat.le_refl _) _).alloc (by simp) _).alloc (by simp; omega) _)
  have s3 : w3.heap.size = w.heap.size + 3 := by rw [hw3]; simp
  have hc3 : w3.heap[w.heap.size]? = some (.cells #[.int .i64 c.W, .int .i64 c.H, .int .i64 c.height, v1, v2, v3, v4, .int .i64 c.unit, .int .i64 c.accel, .int .i64 c.speed, .int .i64 c.turn, .int .i64 c.hoist, .int .i64 c.queue, .int .i64 c.resend, .int .i64 c.budget, .bool c.back] 26 (0, 0)) := by rw [hw3]; exact (alloc_old _ _ _ (by simp; omega)).trans ((alloc_old _ _ _ (by simp)).trans (heap_alloc_new w _))
  have hf3 : w3.heap[w.heap.size + 1]? = some (.cells #[.int .i64 f.1, .int .i64 f.2] 28 (0, 0)) := by rw [hw3]; exact (alloc_old _ _ _ (by simp)).trans (heap_new2 _ _ _)
  have hz3 : w3.heap[w.heap.size + 2]? = some (.cells #[.int .i64 0, .int .i64 0] 28 (0, 0)) := by
    rw [hw3, show w.heap.size + 2 = ((w.alloc (.cells #[.int .i64 c.W, .int .i64 c.H, .int .i64 c.height, v1, v2, v3, v4, .int .i64 c.unit, .int .i64 c.accel, .int .i64 c.speed, .int .i64 c.turn, .int .i64 c.hoist, .int .i64 c.queue, .int .i64 c.resend, .int .i64 c.budget, .bool c.back] 26)).alloc (.cells #[.int .i64 f.1, .int .i64 f.2] 28)).heap.size by simp]
    exact heap_alloc_new _ _
  have hli := limited_sides (new_some hN).1.1
  have hA3 : ConfAt (Old w3) c v1 v2 v3 v4 w3 := by
    have q := hA.go hF b3
    have m : ∀ g, F g → Old w3 g := fun g hg => Nat.lt_of_lt_of_le (hF g hg) b3.size
    exact ⟨q.b.mono heldCell m, q.p.mono heldCell m, q.r.mono heldPose m, q.s.mono heldStack m⟩
  have hW : c.W = ((c.W.toNat : Nat) : Int) := by omega
  have hH : c.H = ((c.H.toNat : Nat) : Int) := by omega
  have hlen : G.uses.length = c.W.toNat * c.H.toNat := by
    have := (new_some hN).2.2.2.2.len
    rw [hW, hH] at this
    have e : ((c.W.toNat : Nat) : Int) * ((c.H.toNat : Nat) : Int) = ((c.W.toNat * c.H.toNat : Nat) : Int) := by simp
    omega
  have cR := rstacks_any c v1 v2 v3 v4 w3 hA3 l1 l2 l3 l4 l5 c.W.toNat c.H.toNat hW hH (by omega) (by omega)
  rw [← stacks_same hN hW hH (by omega) hlen] at cR
  obtain ⟨L, hL⟩ : ∃ L, stkUpTo c.W G.uses G.uses.length = L := ⟨_, rfl⟩
  have hLl : L.length ≤ 256 := by rw [← hL]; exact Nat.le_trans (stkUpTo_len _ _ _) (by have h1 : c.W.toNat * c.H.toNat ≤ 16 * 16 := Nat.mul_le_mul (by omega) (by omega); omega)
  rw [hL] at cR ⊢
  have HT : Hid (∀ u, Below w.heap.size w u → ListAt 2 cellEl Ft tl (.slice ta tn tc) u) := fun u b => hT.go heldCell hFt b
  have HGl : Hid (∀ u, Below w.heap.size w u → ListAt 2 cellEl Fg gl (.slice ga gn gc) u) := fun u b => hG.go heldCell hFg b
  have HS : Hid (∀ u, Below w.heap.size w u → ListAt 3 stackEl Fs stks (.slice sa sn sc) u) := fun u b => hS.go heldStack hFs b
  have HTn : Hid (tl.length = tn) := by obtain ⟨a, cap, e, _⟩ := hT.form; injection e with _ e2 _; exact e2.symm
  have HGn : Hid (gl.length = gn) := by obtain ⟨a, cap, e, _⟩ := hG.form; injection e with _ e2 _; exact e2.symm
  have HSn : Hid (stks.length = sn) := by obtain ⟨a, cap, e, _⟩ := hS.form; injection e with _ e2 _; exact e2.symm
  have HPl : Hid (∀ x, (pileOf stks x).length ≤ 17592186044416) := hp
  have HB3 : Hid (Below w.heap.size w w3) := b3
  clear hA hF hS hT hG hp hA3 hli hlen hW hH l5 hL
  go_enter Try.func43, Try.ntmps43
  go_upto_region 1 with fail
  rw [← hw3]
  clear hw3
  go_upto_region 2 with (first
    | (refine wpList_load_row rfl 26 (.tmp 5) rfl w.heap.size rfl 26 _ (0, 0) _ hc3 Try.underlying26 rfl info_conf ?_)
    | (go_at_call 40; refine cR.mono ?_; rintro e w1 ⟨rv, rfl, ownL, b1⟩))
  have HB1 : Hid (Below w.heap.size w w1) := bcat HB3.out b1 (Nat.le_refl _)
  have hc1 := (b1.block _ (lt_of_heap hc3)).trans hc3
  have hf1 := (b1.block _ (lt_of_heap hf3)).trans hf3
  have hz1 := (b1.block _ (lt_of_heap hz3)).trans hz3
  obtain ⟨la, lc, hvL, _⟩ := own_form ownL
  obtain ⟨n, hn⟩ : ∃ n, L.length = n := ⟨_, rfl⟩
  have HNn : Hid (L.length = n) := hn
  rw [hn] at hvL hLl
  subst hvL
  have HOL : Hid (w1.ownsRow w3.heap.size 28 2 (.slice la n lc) L.length (rowL cellL L)) := ownL
  have HZ1 : Hid (w1.heap[w.heap.size + 2]? = some (.cells #[.int .i64 0, .int .i64 0] 28 (0, 0))) := hz1
  have HFr : Hid (∀ u, Below w1.heap.size w1 u → ∀ j z, #[.int .i64 f.1, .int .i64 f.2][j]? = some z → u.cell? ((⟨w.heap.size + 1, 0, none⟩ : Addr).add j) = some z) := fun u hu => row_below hf1 hu
  have HHt : Hid (∀ u, Below w1.heap.size w1 u → u.cell? ⟨w.heap.size, 2, none⟩ = some (.int .i64 c.height)) := fun u hu => cell_below ((cell_of hc1 2).trans rfl) hu
  have HBz : Hid (Below w1.heap.size w1 w1) := Below.refl _ _
  have HIt : Hid (∀ (lp : Addr) (u : World), la = some lp → Below w1.heap.size w1 u → ∀ i (h : i < L.length) j z, #[Value.int .i64 (L[i]'h).1, .int .i64 (L[i]'h).2][j]? = some z → u.cell? ((lp.add (i * 2)).add j) = some z) := fun lp u hlp hu i h j z hj => by
    obtain ⟨p2, c2, hv, hrd⟩ := own_item (own_go HOL.out hu) h
    injection hv with q1 _ _
    rw [hlp] at q1
    injection q1 with q1
    subst q1
    exact hrd j z hj
  have HSome : Hid (0 < n → ∃ lp, la = some lp) := fun q => by
    obtain ⟨p2, c2, hv, _⟩ := own_item HOL.out (k := 0) (by rw [HNn.out]; exact q)
    injection hv with q1 _ _
    exact ⟨p2, q1⟩
  clear hc3 hf3 hz3 hc1 hf1 hz1 cR b1 ownL hn
  go_wp2_with fail
  go_loopw [13, 14] (fun bv i wq => ∃ (k : Nat) (b : Int), k ≤ n ∧ i = .int .i64 k ∧ bv = .int .i64 b ∧ Hid (BU (fun j => MayG stks c.height tl gl f (L.getD j (0, 0))) (fun j => awayP f (L.getD j (0, 0))) k b) ∧ Hid (Below w1.heap.size w1 wq)) (fun _ i _ => n - (intOf i).toNat)
  case atStart => exact ⟨0, -1, Nat.zero_le _, rfl, rfl, bu_start, HBz⟩
  case round =>
    clear HBz
    obtain ⟨i, b, hi, rfl, rfl, HU, HB⟩ := hrel
    by_cases hlt : i < n
    · have hd : decide ((i : Int) < (n : Int)) = true := decide_eq_true (by omega)
      obtain ⟨lp, rfl⟩ := HSome.out (by omega)
      have hiL : i < L.length := by rw [HNn.out]; exact hlt
      have HGd : Hid (L.getD i (0, 0) = L[i]'hiL) := getD_at hiL
      have HCk0 : Hid (∀ u, Below w1.heap.size w1 u → ∀ j z, #[Value.int .i64 (L[i]'hiL).1, .int .i64 (L[i]'hiL).2][j]? = some z → u.cell? ((lp.add (i * 2)).add j) = some z) := fun u hu => HIt.out lp u rfl hu i hiL
      generalize L[i]'hiL = ck at *
      have HCk : Hid (∀ u, Below w1.heap.size w1 u → ∀ j z, #[Value.int .i64 ck.1, .int .i64 ck.2][j]? = some z → u.cell? ((lp.add (i * 2)).add j) = some z) := HCk0.out
      have hin : (i : Int) < (n : Int) := by omega
      have bwr := bcat HB1.out HB.out (Nat.le_refl _)
      have cB := refBins_any Fs stks (.slice sa sn sc) ck wr (HS.out _ bwr) (fun b hb => Nat.lt_of_lt_of_le (hFs b hb) bwr.size) (by rw [HSn.out]; omega)
      have hck := HCk.out _ HB.out
      obtain ⟨ln, hln⟩ : ∃ ln, (pileOf stks ck).length = ln := ⟨_, rfl⟩
      have HLn : Hid ((pileOf stks ck).length = ln) := hln
      have hlnb := HPl.out ck
      rw [hln] at hlnb
      clear HCk0 hln
      go_upto_region 7 with (first
        | (refine wpList_load_at rfl 28 (.tmp 28) rfl (lp.add (i * 2)) rfl #[Value.int .i64 ck.1, .int .i64 ck.2] hck (aggCell _) infoCell2 ?_)
        | (go_at_call 41; refine cB.mono ?_; rintro e w2 ⟨rb, rfl, hLb, b2⟩; obtain ⟨ba, bc, hvb, _⟩ := hLb.form; rw [HLn.out] at hvb; subst hvb))
      have HB2 : Hid (Below w1.heap.size w1 w2) := bcat HB.out b2 (Nat.le_refl _)
      clear cB hLb hck bwr b2
      go_wp2_with fail
      go_loopw [15, 16] (fun nv kv wq => ∃ k : Nat, k ≤ gn ∧ kv = .int .i64 k ∧ nv = .int .i64 ((ln + cntC ck (gl.take k) : Nat) : Int) ∧ Hid (Below w1.heap.size w1 wq)) (fun _ kv _ => gn - (intOf kv).toNat)
      case atStart => exact ⟨0, Nat.zero_le _, rfl, by simp [cntC], HB2⟩
      case round =>
        clear HB2
        obtain ⟨k, hk, rfl, rfl, HBk⟩ := hrel
        by_cases hkg : k < gn
        · have hd2 : decide ((k : Int) < (gn : Int)) = true := decide_eq_true (by omega)
          have hkl : k < gl.length := by rw [HGn.out]; exact hkg
          have bwk := bcat HB1.out HBk.out (Nat.le_refl _)
          obtain ⟨gp, gcs, gcap, hgv, hgF, hgc, hgrd⟩ := (HGl.out _ bwk).item hkl
          have e2 : gcs = #[Value.int .i64 (gl[k]'hkl).1, .int .i64 (gl[k]'hkl).2] := hgc
          subst e2
          have HTk : Hid (gl.take (k + 1) = gl.take k ++ [gl[k]'hkl]) := by show _ = _; rw [List.take_add_one, List.getElem?_eq_getElem hkl]; rfl
          generalize gl[k]'hkl = gk at *
          obtain ⟨rfl, rfl⟩ : ga = some gp ∧ gc = gcap := by injection hgv with h1 h2 h3; exact ⟨h1, h3⟩
          have HGk : Hid (∀ u, Below w1.heap.size w1 u → ∀ j z, #[Value.int .i64 gk.1, .int .i64 gk.2][j]? = some z → u.cell? ((gp.add (k * 2)).add j) = some z) := fun u hu j z hj => (cell_same (by rw [block_add, block_add]; exact ((bcat HB1.out hu (Nat.le_refl _)).block _ (hFg _ hgF)).trans (bwk.block _ (hFg _ hgF)).symm)).trans (hgrd j z hj)
          have hkn : (k : Int) < (gn : Int) := by omega
          have hcb : cntC ck (gl.take k) ≤ k := by unfold cntC; exact Nat.le_trans (@List.count_le_length Cell instBEqOfDecidableEq _ _) (by rw [List.length_take]; omega)
          obtain ⟨cn, hcn⟩ : ∃ cn, cntC ck (gl.take k) = cn := ⟨_, rfl⟩
          rw [hcn] at hcb ⊢
          have HCn : Hid (cntC ck (gl.take (k + 1)) = cn + if gk = ck then 1 else 0) := by show _ = _; rw [HTk.out, cntC_snoc, hcn]
          have S0 : Below w1.heap.size w1 wr.drew := bcat HBk.out (Below.refl _ _).drew (Nat.le_refl _)
          clear hgv hgc hgrd hcn bwk hgF
          by_cases hg : gk = ck
          · have hdg := decide_eq_true hg
            have HC2 : Hid (cntC ck (gl.take (k + 1)) = cn + 1) := by show _ = _; rw [HCn.out, if_pos hg]
            clear hg HCn
            go_upto_region 10 with fail
            refine start_held (S := fun u => Below w1.heap.size w1 u) 9 rfl (by kernel_rfl) (S0) ?_
            simp only [Array.replicate_succ, Array.replicate_zero, List.push_toArray, List.nil_append, List.cons_append]
            refine take_held 0 S0 rfl (by kernel_rfl) (by kernel_rfl) (by kernel_rfl) (fun _ _ _ h => h) (by kernel_rfl) (v := ?v0) ?y0 ?r0
            case y0 => (intro u hu; go_simp; try rfl)
            simp only [Act.put, List.setIfInBounds_toArray, List.set_cons_zero, List.set_cons_succ]
            refine take_held 1 S0 rfl (by kernel_rfl) (by kernel_rfl) (by kernel_rfl) (fun _ _ _ h => h) (by kernel_rfl) (v := ?v1) ?y1 ?r1
            case y1 => (intro u hu; go_simp; try rfl)
            simp only [Act.put, List.setIfInBounds_toArray, List.set_cons_zero, List.set_cons_succ]
            refine take_held 2 S0 rfl (by kernel_rfl) (by kernel_rfl) (by kernel_rfl) (fun _ _ _ h => h) (by kernel_rfl) (v := ?v2) ?y2 ?r2
            case y2 => (intro u hu; go_simp; try rfl)
            simp only [Act.put, List.setIfInBounds_toArray, List.set_cons_zero, List.set_cons_succ]
            refine take_held 3 S0 rfl (by kernel_rfl) (by kernel_rfl) (by kernel_rfl) (fun _ _ _ h => h) (by kernel_rfl) (v := .agg #[.int .i64 gk.1, .int .i64 gk.2]) ?y3 ?r3
            case y3 => (intro u hu; exact run_load_op 28 _ rfl (gp.add (k * 2)) _ rfl (HGk.out u hu) (aggCell u) infoCell2)
            simp only [Act.put, List.setIfInBounds_toArray, List.set_cons_zero, List.set_cons_succ]
            refine take_held 4 S0 rfl (by kernel_rfl) (by kernel_rfl) (by kernel_rfl) (fun _ _ _ h => h) (by kernel_rfl) (v := ?v4) ?y4 ?r4
            case y4 => (intro u hu; go_simp; try rfl)
            simp only [Act.put, List.setIfInBounds_toArray, List.set_cons_zero, List.set_cons_succ]
            refine take_held 5 S0 rfl (by kernel_rfl) (by kernel_rfl) (by kernel_rfl) (fun _ _ _ h => h) (by kernel_rfl) (v := ?v5) ?y5 ?r5
            case y5 => (intro u hu; go_simp; try rfl)
            simp only [Act.put, List.setIfInBounds_toArray, List.set_cons_zero, List.set_cons_succ]
            refine take_held 6 S0 rfl (by kernel_rfl) (by kernel_rfl) (by kernel_rfl) (fun _ _ _ h => h) (by kernel_rfl) (v := ?v6) ?y6 ?r6
            case y6 => (intro u hu; go_simp; try rfl)
            simp only [Act.put, List.setIfInBounds_toArray, List.set_cons_zero, List.set_cons_succ]
            refine take_held 7 S0 rfl (by kernel_rfl) (by kernel_rfl) (by kernel_rfl) (fun _ _ _ h => h) (by kernel_rfl) (v := .agg #[.int .i64 ck.1, .int .i64 ck.2]) ?y7 ?r7
            case y7 => (intro u hu; exact run_load_op 28 _ rfl (lp.add (i * 2)) _ rfl (HCk.out u hu) (aggCell u) infoCell2)
            simp only [Act.put, List.setIfInBounds_toArray, List.set_cons_zero, List.set_cons_succ]
            refine take_held 8 S0 rfl (by kernel_rfl) (by kernel_rfl) (by kernel_rfl) (fun _ _ _ h => h) (by kernel_rfl) (v := .bool true) ?y8 ?r8
            case y8 => (intro u hu; exact (run_eql_cell (.tmp 41) (.tmp 45) rfl gk.1 gk.2 ck.1 ck.2 rfl rfl).trans (by rw [show decide ((gk.1, gk.2) = (ck.1, ck.2)) = true from hdg]))
            simp only [Act.put, List.setIfInBounds_toArray, List.set_cons_zero, List.set_cons_succ]
            refine done_held (by kernel_rfl) ?_ _
            have hw : IntKind.i64.wrap (((ln + cn : Nat) : Int) + 1) = ((ln + (cn + 1) : Nat) : Int) := by rw [IntKind.wrap_i64]; omega
            go_wp2_with fail
            go_roundw
            case rel => exact ⟨k + 1, by omega, by go_num, by rw [HC2.out]; first | rfl | (congr 1; omega) | (try rw [hw]), S0⟩
            case measure => simp only [intOf]; omega
          · have hdg := decide_eq_false hg
            have HC2 : Hid (cntC ck (gl.take (k + 1)) = cn) := by show _ = _; rw [HCn.out, if_neg hg, Nat.add_zero]
            clear hg HCn
            go_upto_region 10 with fail
            refine start_held (S := fun u => Below w1.heap.size w1 u) 9 rfl (by kernel_rfl) (S0) ?_
            simp only [Array.replicate_succ, Array.replicate_zero, List.push_toArray, List.nil_append, List.cons_append]
            refine take_held 0 S0 rfl (by kernel_rfl) (by kernel_rfl) (by kernel_rfl) (fun _ _ _ h => h) (by kernel_rfl) (v := ?v9) ?y9 ?r9
            case y9 => (intro u hu; go_simp; try rfl)
            simp only [Act.put, List.setIfInBounds_toArray, List.set_cons_zero, List.set_cons_succ]
            refine take_held 1 S0 rfl (by kernel_rfl) (by kernel_rfl) (by kernel_rfl) (fun _ _ _ h => h) (by kernel_rfl) (v := ?v10) ?y10 ?r10
            case y10 => (intro u hu; go_simp; try rfl)
            simp only [Act.put, List.setIfInBounds_toArray, List.set_cons_zero, List.set_cons_succ]
            refine take_held 2 S0 rfl (by kernel_rfl) (by kernel_rfl) (by kernel_rfl) (fun _ _ _ h => h) (by kernel_rfl) (v := ?v11) ?y11 ?r11
            case y11 => (intro u hu; go_simp; try rfl)
            simp only [Act.put, List.setIfInBounds_toArray, List.set_cons_zero, List.set_cons_succ]
            refine take_held 3 S0 rfl (by kernel_rfl) (by kernel_rfl) (by kernel_rfl) (fun _ _ _ h => h) (by kernel_rfl) (v := .agg #[.int .i64 gk.1, .int .i64 gk.2]) ?y12 ?r12
            case y12 => (intro u hu; exact run_load_op 28 _ rfl (gp.add (k * 2)) _ rfl (HGk.out u hu) (aggCell u) infoCell2)
            simp only [Act.put, List.setIfInBounds_toArray, List.set_cons_zero, List.set_cons_succ]
            refine take_held 4 S0 rfl (by kernel_rfl) (by kernel_rfl) (by kernel_rfl) (fun _ _ _ h => h) (by kernel_rfl) (v := ?v13) ?y13 ?r13
            case y13 => (intro u hu; go_simp; try rfl)
            simp only [Act.put, List.setIfInBounds_toArray, List.set_cons_zero, List.set_cons_succ]
            refine take_held 5 S0 rfl (by kernel_rfl) (by kernel_rfl) (by kernel_rfl) (fun _ _ _ h => h) (by kernel_rfl) (v := ?v14) ?y14 ?r14
            case y14 => (intro u hu; go_simp; try rfl)
            simp only [Act.put, List.setIfInBounds_toArray, List.set_cons_zero, List.set_cons_succ]
            refine take_held 6 S0 rfl (by kernel_rfl) (by kernel_rfl) (by kernel_rfl) (fun _ _ _ h => h) (by kernel_rfl) (v := ?v15) ?y15 ?r15
            case y15 => (intro u hu; go_simp; try rfl)
            simp only [Act.put, List.setIfInBounds_toArray, List.set_cons_zero, List.set_cons_succ]
            refine take_held 7 S0 rfl (by kernel_rfl) (by kernel_rfl) (by kernel_rfl) (fun _ _ _ h => h) (by kernel_rfl) (v := .agg #[.int .i64 ck.1, .int .i64 ck.2]) ?y16 ?r16
            case y16 => (intro u hu; exact run_load_op 28 _ rfl (lp.add (i * 2)) _ rfl (HCk.out u hu) (aggCell u) infoCell2)
            simp only [Act.put, List.setIfInBounds_toArray, List.set_cons_zero, List.set_cons_succ]
            refine take_held 8 S0 rfl (by kernel_rfl) (by kernel_rfl) (by kernel_rfl) (fun _ _ _ h => h) (by kernel_rfl) (v := .bool false) ?y17 ?r17
            case y17 => (intro u hu; exact (run_eql_cell (.tmp 41) (.tmp 45) rfl gk.1 gk.2 ck.1 ck.2 rfl rfl).trans (by rw [show decide ((gk.1, gk.2) = (ck.1, ck.2)) = false from hdg]))
            simp only [Act.put, List.setIfInBounds_toArray, List.set_cons_zero, List.set_cons_succ]
            refine done_held (by kernel_rfl) ?_ _
            go_wp2_with fail
            go_roundw
            case rel => exact ⟨k + 1, by omega, by go_num, by rw [HC2.out], S0⟩
            case measure => simp only [intOf]; omega
        · obtain rfl : k = gn := by omega
          have hd2 : decide ((k : Int) < (k : Int)) = false := decide_eq_false (by omega)
          have hall : gl.take k = gl := List.take_of_length_le (by rw [HGn.out]; exact Nat.le_refl _)
          rw [hall]
          have hcb : cntC ck gl ≤ k := by unfold cntC; exact Nat.le_trans (@List.count_le_length Cell instBEqOfDecidableEq _ _) (by rw [HGn.out]; exact Nat.le_refl _)
          obtain ⟨tot, htot⟩ : ∃ tot, ln + cntC ck gl = tot := ⟨_, rfl⟩
          have HTot : Hid ((pileOf stks ck).length + cntC ck gl = tot) := by show _ = _; rw [HLn.out]; exact htot
          rw [htot]
          have htb : tot ≤ 17592187044416 := by omega
          have S0 : Below w1.heap.size w1 wr.drew := bcat HBk.out (Below.refl _ _).drew (Nat.le_refl _)
          have HAm : Hid (∀ uu, Below w1.heap.size w1 uu → Calls Try.prog 42 #[.slice ta tn tc, .agg #[Value.int .i64 ck.1, .int .i64 ck.2]] uu fun e w' => ∃ r, e = .returned r ∧ (r = .bool (decide (ck ∈ tl)) ∧ Below uu.heap.size uu w')) := fun uu hu => by
            have bb := bcat HB1.out hu (Nat.le_refl _)
            exact refAmong_any Ft tl (.slice ta tn tc) ck uu (HT.out _ bb) (fun b hb => Nat.lt_of_lt_of_le (hFt b hb) bb.size) (by rw [HTn.out]; omega)
          have HMay : Hid (MayG stks c.height tl gl f (L.getD i (0, 0)) ↔ (ck ≠ f ∧ ck ∉ tl ∧ (tot : Int) < c.height)) := by
            show _ ↔ _
            rw [HGd.out]
            unfold MayG
            rw [HTot.out]
          clear hall hcb htot
          go_upto_region 12 with fail
          by_cases hcf : ck = f
          · have hdf := decide_eq_true hcf
            have HNo := bu_no HU.out (fun q => (HMay.out.1 q).1 hcf)
            have HNo2 : Hid (BU (fun j => MayG stks c.height tl gl f (L.getD j (0, 0))) (fun j => awayP f (L.getD j (0, 0))) (i + 1) b) := HNo
            clear hcf HNo
            refine start_held (S := fun u => Below w1.heap.size w1 u) 20 rfl (by kernel_rfl) (S0) ?_
            simp only [Array.replicate_succ, Array.replicate_zero, List.push_toArray, List.nil_append, List.cons_append]
            refine take_held 0 S0 rfl (by kernel_rfl) (by kernel_rfl) (by kernel_rfl) (fun _ _ _ h => h) (by kernel_rfl) (v := ?v18) ?y18 ?r18
            case y18 => (intro u hu; go_simp; try rfl)
            simp only [Act.put, List.setIfInBounds_toArray, List.set_cons_zero, List.set_cons_succ]
            refine take_held 1 S0 rfl (by kernel_rfl) (by kernel_rfl) (by kernel_rfl) (fun _ _ _ h => h) (by kernel_rfl) (v := ?v19) ?y19 ?r19
            case y19 => (intro u hu; go_simp; try rfl)
            simp only [Act.put, List.setIfInBounds_toArray, List.set_cons_zero, List.set_cons_succ]
            refine take_held 2 S0 rfl (by kernel_rfl) (by kernel_rfl) (by kernel_rfl) (fun _ _ _ h => h) (by kernel_rfl) (v := ?v20) ?y20 ?r20
            case y20 => (intro u hu; go_simp; try rfl)
            simp only [Act.put, List.setIfInBounds_toArray, List.set_cons_zero, List.set_cons_succ]
            refine take_held 3 S0 rfl (by kernel_rfl) (by kernel_rfl) (by kernel_rfl) (fun _ _ _ h => h) (by kernel_rfl) (v := .agg #[.int .i64 ck.1, .int .i64 ck.2]) ?y21 ?r21
            case y21 => (intro u hu; exact run_load_op 28 _ rfl (lp.add (i * 2)) _ rfl (HCk.out u hu) (aggCell u) infoCell2)
            simp only [Act.put, List.setIfInBounds_toArray, List.set_cons_zero, List.set_cons_succ]
            refine take_held 4 S0 rfl (by kernel_rfl) (by kernel_rfl) (by kernel_rfl) (fun _ _ _ h => h) (by kernel_rfl) (v := .agg #[.int .i64 f.1, .int .i64 f.2]) ?y22 ?r22
            case y22 => (intro u hu; exact run_load_op 28 _ rfl ⟨w.heap.size + 1, 0, none⟩ _ rfl (HFr.out u hu) (aggCell u) infoCell2)
            simp only [Act.put, List.setIfInBounds_toArray, List.set_cons_zero, List.set_cons_succ]
            refine take_held 5 S0 rfl (by kernel_rfl) (by kernel_rfl) (by kernel_rfl) (fun _ _ _ h => h) (by kernel_rfl) (v := .bool true) ?y23 ?r23
            case y23 => (intro u hu; exact (run_eql_cell (.tmp 52) (.tmp 53) rfl ck.1 ck.2 f.1 f.2 rfl rfl).trans (by rw [show decide ((ck.1, ck.2) = (f.1, f.2)) = true from hdf]))
            simp only [Act.put, List.setIfInBounds_toArray, List.set_cons_zero, List.set_cons_succ]
            refine take_held 6 S0 rfl (by kernel_rfl) (by kernel_rfl) (by kernel_rfl) (fun _ _ _ h => h) (by kernel_rfl) (v := ?v24) ?y24 ?r24
            case y24 => (intro u hu; go_simp; try rfl)
            simp only [Act.put, List.setIfInBounds_toArray, List.set_cons_zero, List.set_cons_succ]
            refine skip_held 7 S0 rfl (by kernel_rfl) (by kernel_rfl) (by kernel_rfl) (fun _ _ _ h => h) (by kernel_rfl) ?_
            simp only [Act.put, List.setIfInBounds_toArray, List.set_cons_zero, List.set_cons_succ]
            refine skip_held 8 S0 rfl (by kernel_rfl) (by kernel_rfl) (by kernel_rfl) (fun _ _ _ h => h) (by kernel_rfl) ?_
            simp only [Act.put, List.setIfInBounds_toArray, List.set_cons_zero, List.set_cons_succ]
            refine skip_held 9 S0 rfl (by kernel_rfl) (by kernel_rfl) (by kernel_rfl) (fun _ _ _ h => h) (by kernel_rfl) ?_
            simp only [Act.put, List.setIfInBounds_toArray, List.set_cons_zero, List.set_cons_succ]
            refine skip_held 10 S0 rfl (by kernel_rfl) (by kernel_rfl) (by kernel_rfl) (fun _ _ _ h => h) (by kernel_rfl) ?_
            simp only [Act.put, List.setIfInBounds_toArray, List.set_cons_zero, List.set_cons_succ]
            refine skip_held 11 S0 rfl (by kernel_rfl) (by kernel_rfl) (by kernel_rfl) (fun _ _ _ h => h) (by kernel_rfl) ?_
            simp only [Act.put, List.setIfInBounds_toArray, List.set_cons_zero, List.set_cons_succ]
            refine skip_held 12 S0 rfl (by kernel_rfl) (by kernel_rfl) (by kernel_rfl) (fun _ _ _ h => h) (by kernel_rfl) ?_
            simp only [Act.put, List.setIfInBounds_toArray, List.set_cons_zero, List.set_cons_succ]
            refine take_held 13 S0 rfl (by kernel_rfl) (by kernel_rfl) (by kernel_rfl) (fun _ _ _ h => h) (by kernel_rfl) (v := .bool true) ?y25 ?r25
            case y25 => (intro u hu; go_simp; try rfl)
            simp only [Act.put, List.setIfInBounds_toArray, List.set_cons_zero, List.set_cons_succ]
            refine take_held 14 S0 rfl (by kernel_rfl) (by kernel_rfl) (by kernel_rfl) (fun _ _ _ h => h) (by kernel_rfl) (v := ?v26) ?y26 ?r26
            case y26 => (intro u hu; go_simp; try rfl)
            simp only [Act.put, List.setIfInBounds_toArray, List.set_cons_zero, List.set_cons_succ]
            refine skip_held 15 S0 rfl (by kernel_rfl) (by kernel_rfl) (by kernel_rfl) (fun _ _ _ h => h) (by kernel_rfl) ?_
            simp only [Act.put, List.setIfInBounds_toArray, List.set_cons_zero, List.set_cons_succ]
            refine skip_held 16 S0 rfl (by kernel_rfl) (by kernel_rfl) (by kernel_rfl) (fun _ _ _ h => h) (by kernel_rfl) ?_
            simp only [Act.put, List.setIfInBounds_toArray, List.set_cons_zero, List.set_cons_succ]
            refine skip_held 17 S0 rfl (by kernel_rfl) (by kernel_rfl) (by kernel_rfl) (fun _ _ _ h => h) (by kernel_rfl) ?_
            simp only [Act.put, List.setIfInBounds_toArray, List.set_cons_zero, List.set_cons_succ]
            refine skip_held 18 S0 rfl (by kernel_rfl) (by kernel_rfl) (by kernel_rfl) (fun _ _ _ h => h) (by kernel_rfl) ?_
            simp only [Act.put, List.setIfInBounds_toArray, List.set_cons_zero, List.set_cons_succ]
            refine take_held 19 S0 rfl (by kernel_rfl) (by kernel_rfl) (by kernel_rfl) (fun _ _ _ h => h) (by kernel_rfl) (v := .bool true) ?y27 ?r27
            case y27 => (intro u hu; go_simp; try rfl)
            simp only [Act.put, List.setIfInBounds_toArray, List.set_cons_zero, List.set_cons_succ]
            refine done_held (by kernel_rfl) ?_ _
            go_wp2_with fail
            go_roundw
            case rel => exact ⟨i + 1, b, by omega, by go_num, rfl, HNo2, S0⟩
            case measure => simp only [intOf]; omega
          · have hdf := decide_eq_false hcf
            by_cases hct : ck ∈ tl
            · have HAt : Hid (decide (ck ∈ tl) = true) := decide_eq_true hct
              have HNo2 : Hid (BU (fun j => MayG stks c.height tl gl f (L.getD j (0, 0))) (fun j => awayP f (L.getD j (0, 0))) (i + 1) b) := bu_no HU.out (fun q => (HMay.out.1 q).2.1 hct)
              clear hcf hct
              refine start_held (S := fun u => Below w1.heap.size w1 u) 20 rfl (by kernel_rfl) (S0) ?_
              simp only [Array.replicate_succ, Array.replicate_zero, List.push_toArray, List.nil_append, List.cons_append]
              refine take_held 0 S0 rfl (by kernel_rfl) (by kernel_rfl) (by kernel_rfl) (fun _ _ _ h => h) (by kernel_rfl) (v := ?v28) ?y28 ?r28
              case y28 => (intro u hu; go_simp; try rfl)
              simp only [Act.put, List.setIfInBounds_toArray, List.set_cons_zero, List.set_cons_succ]
              refine take_held 1 S0 rfl (by kernel_rfl) (by kernel_rfl) (by kernel_rfl) (fun _ _ _ h => h) (by kernel_rfl) (v := ?v29) ?y29 ?r29
              case y29 => (intro u hu; go_simp; try rfl)
              simp only [Act.put, List.setIfInBounds_toArray, List.set_cons_zero, List.set_cons_succ]
              refine take_held 2 S0 rfl (by kernel_rfl) (by kernel_rfl) (by kernel_rfl) (fun _ _ _ h => h) (by kernel_rfl) (v := ?v30) ?y30 ?r30
              case y30 => (intro u hu; go_simp; try rfl)
              simp only [Act.put, List.setIfInBounds_toArray, List.set_cons_zero, List.set_cons_succ]
              refine take_held 3 S0 rfl (by kernel_rfl) (by kernel_rfl) (by kernel_rfl) (fun _ _ _ h => h) (by kernel_rfl) (v := .agg #[.int .i64 ck.1, .int .i64 ck.2]) ?y31 ?r31
              case y31 => (intro u hu; exact run_load_op 28 _ rfl (lp.add (i * 2)) _ rfl (HCk.out u hu) (aggCell u) infoCell2)
              simp only [Act.put, List.setIfInBounds_toArray, List.set_cons_zero, List.set_cons_succ]
              refine take_held 4 S0 rfl (by kernel_rfl) (by kernel_rfl) (by kernel_rfl) (fun _ _ _ h => h) (by kernel_rfl) (v := .agg #[.int .i64 f.1, .int .i64 f.2]) ?y32 ?r32
              case y32 => (intro u hu; exact run_load_op 28 _ rfl ⟨w.heap.size + 1, 0, none⟩ _ rfl (HFr.out u hu) (aggCell u) infoCell2)
              simp only [Act.put, List.setIfInBounds_toArray, List.set_cons_zero, List.set_cons_succ]
              refine take_held 5 S0 rfl (by kernel_rfl) (by kernel_rfl) (by kernel_rfl) (fun _ _ _ h => h) (by kernel_rfl) (v := .bool false) ?y33 ?r33
              case y33 => (intro u hu; exact (run_eql_cell (.tmp 52) (.tmp 53) rfl ck.1 ck.2 f.1 f.2 rfl rfl).trans (by rw [show decide ((ck.1, ck.2) = (f.1, f.2)) = false from hdf]))
              simp only [Act.put, List.setIfInBounds_toArray, List.set_cons_zero, List.set_cons_succ]
              refine take_held 6 S0 rfl (by kernel_rfl) (by kernel_rfl) (by kernel_rfl) (fun _ _ _ h => h) (by kernel_rfl) (v := ?v34) ?y34 ?r34
              case y34 => (intro u hu; go_simp; try rfl)
              simp only [Act.put, List.setIfInBounds_toArray, List.set_cons_zero, List.set_cons_succ]
              refine take_held 7 S0 rfl (by kernel_rfl) (by kernel_rfl) (by kernel_rfl) (fun _ _ _ h => h) (by kernel_rfl) (v := ?v35) ?y35 ?r35
              case y35 => (intro u hu; go_simp; try rfl)
              simp only [Act.put, List.setIfInBounds_toArray, List.set_cons_zero, List.set_cons_succ]
              refine take_held 8 S0 rfl (by kernel_rfl) (by kernel_rfl) (by kernel_rfl) (fun _ _ _ h => h) (by kernel_rfl) (v := ?v36) ?y36 ?r36
              case y36 => (intro u hu; go_simp; try rfl)
              simp only [Act.put, List.setIfInBounds_toArray, List.set_cons_zero, List.set_cons_succ]
              refine take_held 9 S0 rfl (by kernel_rfl) (by kernel_rfl) (by kernel_rfl) (fun _ _ _ h => h) (by kernel_rfl) (v := ?v37) ?y37 ?r37
              case y37 => (intro u hu; go_simp; try rfl)
              simp only [Act.put, List.setIfInBounds_toArray, List.set_cons_zero, List.set_cons_succ]
              refine take_held 10 S0 rfl (by kernel_rfl) (by kernel_rfl) (by kernel_rfl) (fun _ _ _ h => h) (by kernel_rfl) (v := ?v38) ?y38 ?r38
              case y38 => (intro u hu; go_simp; try rfl)
              simp only [Act.put, List.setIfInBounds_toArray, List.set_cons_zero, List.set_cons_succ]
              refine take_held 11 S0 rfl (by kernel_rfl) (by kernel_rfl) (by kernel_rfl) (fun _ _ _ h => h) (by kernel_rfl) (v := .agg #[.int .i64 ck.1, .int .i64 ck.2]) ?y39 ?r39
              case y39 => (intro u hu; exact run_load_op 28 _ rfl (lp.add (i * 2)) _ rfl (HCk.out u hu) (aggCell u) infoCell2)
              simp only [Act.put, List.setIfInBounds_toArray, List.set_cons_zero, List.set_cons_succ]
              refine wpAnyH_ready (rs := [12]) (by kernel_rfl) (by simp) (AllReadyH.cons ((nth_eq _ 12).trans rfl) ?_ AllReadyH.nil)
              intro K' hK
              refine call_in hK (by kernel_rfl) 42 #[.slice ta tn tc, .agg #[.int .i64 ck.1, .int .i64 ck.2]] (by go_simp) _ (HAm.out _ S0) ?_
              rintro v1 x1 ⟨rfl, b1⟩
              have S1 : Below w1.heap.size w1 x1 := bcat S0 b1 (Nat.le_refl _)
              try rw [HAt.out]
              refine ⟨S1, ?_⟩
              simp only [Act.put, List.setIfInBounds_toArray, List.set_cons_zero, List.set_cons_succ]
              refine take_held 13 S1 rfl (by kernel_rfl) (by kernel_rfl) (by kernel_rfl) (fun _ _ _ h => h) (by kernel_rfl) (v := .bool true) ?y40 ?r40
              case y40 => (intro u hu; go_simp; try rfl)
              simp only [Act.put, List.setIfInBounds_toArray, List.set_cons_zero, List.set_cons_succ]
              refine take_held 14 S1 rfl (by kernel_rfl) (by kernel_rfl) (by kernel_rfl) (fun _ _ _ h => h) (by kernel_rfl) (v := ?v41) ?y41 ?r41
              case y41 => (intro u hu; go_simp; try rfl)
              simp only [Act.put, List.setIfInBounds_toArray, List.set_cons_zero, List.set_cons_succ]
              refine skip_held 15 S1 rfl (by kernel_rfl) (by kernel_rfl) (by kernel_rfl) (fun _ _ _ h => h) (by kernel_rfl) ?_
              simp only [Act.put, List.setIfInBounds_toArray, List.set_cons_zero, List.set_cons_succ]
              refine skip_held 16 S1 rfl (by kernel_rfl) (by kernel_rfl) (by kernel_rfl) (fun _ _ _ h => h) (by kernel_rfl) ?_
              simp only [Act.put, List.setIfInBounds_toArray, List.set_cons_zero, List.set_cons_succ]
              refine skip_held 17 S1 rfl (by kernel_rfl) (by kernel_rfl) (by kernel_rfl) (fun _ _ _ h => h) (by kernel_rfl) ?_
              simp only [Act.put, List.setIfInBounds_toArray, List.set_cons_zero, List.set_cons_succ]
              refine skip_held 18 S1 rfl (by kernel_rfl) (by kernel_rfl) (by kernel_rfl) (fun _ _ _ h => h) (by kernel_rfl) ?_
              simp only [Act.put, List.setIfInBounds_toArray, List.set_cons_zero, List.set_cons_succ]
              refine take_held 19 S1 rfl (by kernel_rfl) (by kernel_rfl) (by kernel_rfl) (fun _ _ _ h => h) (by kernel_rfl) (v := .bool true) ?y42 ?r42
              case y42 => (intro u hu; go_simp; try rfl)
              simp only [Act.put, List.setIfInBounds_toArray, List.set_cons_zero, List.set_cons_succ]
              refine done_held (by kernel_rfl) ?_ _
              go_wp2_with fail
              go_roundw
              case rel => exact ⟨i + 1, b, by omega, by go_num, rfl, HNo2, S1⟩
              case measure => simp only [intOf]; omega
            · have HAt : Hid (decide (ck ∈ tl) = false) := decide_eq_false hct
              by_cases hch : c.height ≤ (tot : Int)
              · have hdh : decide (c.height ≤ (tot : Int)) = true := decide_eq_true hch
                have HNo2 : Hid (BU (fun j => MayG stks c.height tl gl f (L.getD j (0, 0))) (fun j => awayP f (L.getD j (0, 0))) (i + 1) b) := bu_no HU.out (fun q => by have := (HMay.out.1 q).2.2; omega)
                clear hcf hct
                refine start_held (S := fun u => Below w1.heap.size w1 u) 20 rfl (by kernel_rfl) (S0) ?_
                simp only [Array.replicate_succ, Array.replicate_zero, List.push_toArray, List.nil_append, List.cons_append]
                refine take_held 0 S0 rfl (by kernel_rfl) (by kernel_rfl) (by kernel_rfl) (fun _ _ _ h => h) (by kernel_rfl) (v := ?v43) ?y43 ?r43
                case y43 => (intro u hu; go_simp; try rfl)
                simp only [Act.put, List.setIfInBounds_toArray, List.set_cons_zero, List.set_cons_succ]
                refine take_held 1 S0 rfl (by kernel_rfl) (by kernel_rfl) (by kernel_rfl) (fun _ _ _ h => h) (by kernel_rfl) (v := ?v44) ?y44 ?r44
                case y44 => (intro u hu; go_simp; try rfl)
                simp only [Act.put, List.setIfInBounds_toArray, List.set_cons_zero, List.set_cons_succ]
                refine take_held 2 S0 rfl (by kernel_rfl) (by kernel_rfl) (by kernel_rfl) (fun _ _ _ h => h) (by kernel_rfl) (v := ?v45) ?y45 ?r45
                case y45 => (intro u hu; go_simp; try rfl)
                simp only [Act.put, List.setIfInBounds_toArray, List.set_cons_zero, List.set_cons_succ]
                refine take_held 3 S0 rfl (by kernel_rfl) (by kernel_rfl) (by kernel_rfl) (fun _ _ _ h => h) (by kernel_rfl) (v := .agg #[.int .i64 ck.1, .int .i64 ck.2]) ?y46 ?r46
                case y46 => (intro u hu; exact run_load_op 28 _ rfl (lp.add (i * 2)) _ rfl (HCk.out u hu) (aggCell u) infoCell2)
                simp only [Act.put, List.setIfInBounds_toArray, List.set_cons_zero, List.set_cons_succ]
                refine take_held 4 S0 rfl (by kernel_rfl) (by kernel_rfl) (by kernel_rfl) (fun _ _ _ h => h) (by kernel_rfl) (v := .agg #[.int .i64 f.1, .int .i64 f.2]) ?y47 ?r47
                case y47 => (intro u hu; exact run_load_op 28 _ rfl ⟨w.heap.size + 1, 0, none⟩ _ rfl (HFr.out u hu) (aggCell u) infoCell2)
                simp only [Act.put, List.setIfInBounds_toArray, List.set_cons_zero, List.set_cons_succ]
                refine take_held 5 S0 rfl (by kernel_rfl) (by kernel_rfl) (by kernel_rfl) (fun _ _ _ h => h) (by kernel_rfl) (v := .bool false) ?y48 ?r48
                case y48 => (intro u hu; exact (run_eql_cell (.tmp 52) (.tmp 53) rfl ck.1 ck.2 f.1 f.2 rfl rfl).trans (by rw [show decide ((ck.1, ck.2) = (f.1, f.2)) = false from hdf]))
                simp only [Act.put, List.setIfInBounds_toArray, List.set_cons_zero, List.set_cons_succ]
                refine take_held 6 S0 rfl (by kernel_rfl) (by kernel_rfl) (by kernel_rfl) (fun _ _ _ h => h) (by kernel_rfl) (v := ?v49) ?y49 ?r49
                case y49 => (intro u hu; go_simp; try rfl)
                simp only [Act.put, List.setIfInBounds_toArray, List.set_cons_zero, List.set_cons_succ]
                refine take_held 7 S0 rfl (by kernel_rfl) (by kernel_rfl) (by kernel_rfl) (fun _ _ _ h => h) (by kernel_rfl) (v := ?v50) ?y50 ?r50
                case y50 => (intro u hu; go_simp; try rfl)
                simp only [Act.put, List.setIfInBounds_toArray, List.set_cons_zero, List.set_cons_succ]
                refine take_held 8 S0 rfl (by kernel_rfl) (by kernel_rfl) (by kernel_rfl) (fun _ _ _ h => h) (by kernel_rfl) (v := ?v51) ?y51 ?r51
                case y51 => (intro u hu; go_simp; try rfl)
                simp only [Act.put, List.setIfInBounds_toArray, List.set_cons_zero, List.set_cons_succ]
                refine take_held 9 S0 rfl (by kernel_rfl) (by kernel_rfl) (by kernel_rfl) (fun _ _ _ h => h) (by kernel_rfl) (v := ?v52) ?y52 ?r52
                case y52 => (intro u hu; go_simp; try rfl)
                simp only [Act.put, List.setIfInBounds_toArray, List.set_cons_zero, List.set_cons_succ]
                refine take_held 10 S0 rfl (by kernel_rfl) (by kernel_rfl) (by kernel_rfl) (fun _ _ _ h => h) (by kernel_rfl) (v := ?v53) ?y53 ?r53
                case y53 => (intro u hu; go_simp; try rfl)
                simp only [Act.put, List.setIfInBounds_toArray, List.set_cons_zero, List.set_cons_succ]
                refine take_held 11 S0 rfl (by kernel_rfl) (by kernel_rfl) (by kernel_rfl) (fun _ _ _ h => h) (by kernel_rfl) (v := .agg #[.int .i64 ck.1, .int .i64 ck.2]) ?y54 ?r54
                case y54 => (intro u hu; exact run_load_op 28 _ rfl (lp.add (i * 2)) _ rfl (HCk.out u hu) (aggCell u) infoCell2)
                simp only [Act.put, List.setIfInBounds_toArray, List.set_cons_zero, List.set_cons_succ]
                refine wpAnyH_ready (rs := [12]) (by kernel_rfl) (by simp) (AllReadyH.cons ((nth_eq _ 12).trans rfl) ?_ AllReadyH.nil)
                intro K' hK
                refine call_in hK (by kernel_rfl) 42 #[.slice ta tn tc, .agg #[.int .i64 ck.1, .int .i64 ck.2]] (by go_simp) _ (HAm.out _ S0) ?_
                rintro v1 x1 ⟨rfl, b1⟩
                have S1 : Below w1.heap.size w1 x1 := bcat S0 b1 (Nat.le_refl _)
                try rw [HAt.out]
                refine ⟨S1, ?_⟩
                simp only [Act.put, List.setIfInBounds_toArray, List.set_cons_zero, List.set_cons_succ]
                refine take_held 13 S1 rfl (by kernel_rfl) (by kernel_rfl) (by kernel_rfl) (fun _ _ _ h => h) (by kernel_rfl) (v := .bool false) ?y55 ?r55
                case y55 => (intro u hu; go_simp; try rfl)
                simp only [Act.put, List.setIfInBounds_toArray, List.set_cons_zero, List.set_cons_succ]
                refine take_held 14 S1 rfl (by kernel_rfl) (by kernel_rfl) (by kernel_rfl) (fun _ _ _ h => h) (by kernel_rfl) (v := ?v56) ?y56 ?r56
                case y56 => (intro u hu; go_simp; try rfl)
                simp only [Act.put, List.setIfInBounds_toArray, List.set_cons_zero, List.set_cons_succ]
                refine take_held 15 S1 rfl (by kernel_rfl) (by kernel_rfl) (by kernel_rfl) (fun _ _ _ h => h) (by kernel_rfl) (v := ?v57) ?y57 ?r57
                case y57 => (intro u hu; go_simp; try rfl)
                simp only [Act.put, List.setIfInBounds_toArray, List.set_cons_zero, List.set_cons_succ]
                refine take_held 16 S1 rfl (by kernel_rfl) (by kernel_rfl) (by kernel_rfl) (fun _ _ _ h => h) (by kernel_rfl) (v := ?v58) ?y58 ?r58
                case y58 => (intro u hu; go_simp; try rfl)
                simp only [Act.put, List.setIfInBounds_toArray, List.set_cons_zero, List.set_cons_succ]
                refine take_held 17 S1 rfl (by kernel_rfl) (by kernel_rfl) (by kernel_rfl) (fun _ _ _ h => h) (by kernel_rfl) (v := .int .i64 c.height) ?y59 ?r59
                case y59 => (intro u hu; have zz := HHt.out u hu; go_simp; try rfl)
                simp only [Act.put, List.setIfInBounds_toArray, List.set_cons_zero, List.set_cons_succ]
                refine take_held 18 S1 rfl (by kernel_rfl) (by kernel_rfl) (by kernel_rfl) (fun _ _ _ h => h) (by kernel_rfl) (v := .bool true) ?y60 ?r60
                case y60 => (intro u hu; go_simp <;> first | rfl | omega)
                simp only [Act.put, List.setIfInBounds_toArray, List.set_cons_zero, List.set_cons_succ]
                refine take_held 19 S1 rfl (by kernel_rfl) (by kernel_rfl) (by kernel_rfl) (fun _ _ _ h => h) (by kernel_rfl) (v := .bool true) ?y61 ?r61
                case y61 => (intro u hu; go_simp; try rfl)
                simp only [Act.put, List.setIfInBounds_toArray, List.set_cons_zero, List.set_cons_succ]
                refine done_held (by kernel_rfl) ?_ _
                go_wp2_with fail
                go_roundw
                case rel => exact ⟨i + 1, b, by omega, by go_num, rfl, HNo2, S1⟩
                case measure => simp only [intOf]; omega
              · have hdh : decide (c.height ≤ (tot : Int)) = false := decide_eq_false hch
                have HYes : Hid (MayG stks c.height tl gl f (L.getD i (0, 0))) := HMay.out.2 ⟨hcf, hct, by omega⟩
                clear hcf hct
                refine start_held (S := fun u => Below w1.heap.size w1 u) 20 rfl (by kernel_rfl) (S0) ?_
                simp only [Array.replicate_succ, Array.replicate_zero, List.push_toArray, List.nil_append, List.cons_append]
                refine take_held 0 S0 rfl (by kernel_rfl) (by kernel_rfl) (by kernel_rfl) (fun _ _ _ h => h) (by kernel_rfl) (v := ?v62) ?y62 ?r62
                case y62 => (intro u hu; go_simp; try rfl)
                simp only [Act.put, List.setIfInBounds_toArray, List.set_cons_zero, List.set_cons_succ]
                refine take_held 1 S0 rfl (by kernel_rfl) (by kernel_rfl) (by kernel_rfl) (fun _ _ _ h => h) (by kernel_rfl) (v := ?v63) ?y63 ?r63
                case y63 => (intro u hu; go_simp; try rfl)
                simp only [Act.put, List.setIfInBounds_toArray, List.set_cons_zero, List.set_cons_succ]
                refine take_held 2 S0 rfl (by kernel_rfl) (by kernel_rfl) (by kernel_rfl) (fun _ _ _ h => h) (by kernel_rfl) (v := ?v64) ?y64 ?r64
                case y64 => (intro u hu; go_simp; try rfl)
                simp only [Act.put, List.setIfInBounds_toArray, List.set_cons_zero, List.set_cons_succ]
                refine take_held 3 S0 rfl (by kernel_rfl) (by kernel_rfl) (by kernel_rfl) (fun _ _ _ h => h) (by kernel_rfl) (v := .agg #[.int .i64 ck.1, .int .i64 ck.2]) ?y65 ?r65
                case y65 => (intro u hu; exact run_load_op 28 _ rfl (lp.add (i * 2)) _ rfl (HCk.out u hu) (aggCell u) infoCell2)
                simp only [Act.put, List.setIfInBounds_toArray, List.set_cons_zero, List.set_cons_succ]
                refine take_held 4 S0 rfl (by kernel_rfl) (by kernel_rfl) (by kernel_rfl) (fun _ _ _ h => h) (by kernel_rfl) (v := .agg #[.int .i64 f.1, .int .i64 f.2]) ?y66 ?r66
                case y66 => (intro u hu; exact run_load_op 28 _ rfl ⟨w.heap.size + 1, 0, none⟩ _ rfl (HFr.out u hu) (aggCell u) infoCell2)
                simp only [Act.put, List.setIfInBounds_toArray, List.set_cons_zero, List.set_cons_succ]
                refine take_held 5 S0 rfl (by kernel_rfl) (by kernel_rfl) (by kernel_rfl) (fun _ _ _ h => h) (by kernel_rfl) (v := .bool false) ?y67 ?r67
                case y67 => (intro u hu; exact (run_eql_cell (.tmp 52) (.tmp 53) rfl ck.1 ck.2 f.1 f.2 rfl rfl).trans (by rw [show decide ((ck.1, ck.2) = (f.1, f.2)) = false from hdf]))
                simp only [Act.put, List.setIfInBounds_toArray, List.set_cons_zero, List.set_cons_succ]
                refine take_held 6 S0 rfl (by kernel_rfl) (by kernel_rfl) (by kernel_rfl) (fun _ _ _ h => h) (by kernel_rfl) (v := ?v68) ?y68 ?r68
                case y68 => (intro u hu; go_simp; try rfl)
                simp only [Act.put, List.setIfInBounds_toArray, List.set_cons_zero, List.set_cons_succ]
                refine take_held 7 S0 rfl (by kernel_rfl) (by kernel_rfl) (by kernel_rfl) (fun _ _ _ h => h) (by kernel_rfl) (v := ?v69) ?y69 ?r69
                case y69 => (intro u hu; go_simp; try rfl)
                simp only [Act.put, List.setIfInBounds_toArray, List.set_cons_zero, List.set_cons_succ]
                refine take_held 8 S0 rfl (by kernel_rfl) (by kernel_rfl) (by kernel_rfl) (fun _ _ _ h => h) (by kernel_rfl) (v := ?v70) ?y70 ?r70
                case y70 => (intro u hu; go_simp; try rfl)
                simp only [Act.put, List.setIfInBounds_toArray, List.set_cons_zero, List.set_cons_succ]
                refine take_held 9 S0 rfl (by kernel_rfl) (by kernel_rfl) (by kernel_rfl) (fun _ _ _ h => h) (by kernel_rfl) (v := ?v71) ?y71 ?r71
                case y71 => (intro u hu; go_simp; try rfl)
                simp only [Act.put, List.setIfInBounds_toArray, List.set_cons_zero, List.set_cons_succ]
                refine take_held 10 S0 rfl (by kernel_rfl) (by kernel_rfl) (by kernel_rfl) (fun _ _ _ h => h) (by kernel_rfl) (v := ?v72) ?y72 ?r72
                case y72 => (intro u hu; go_simp; try rfl)
                simp only [Act.put, List.setIfInBounds_toArray, List.set_cons_zero, List.set_cons_succ]
                refine take_held 11 S0 rfl (by kernel_rfl) (by kernel_rfl) (by kernel_rfl) (fun _ _ _ h => h) (by kernel_rfl) (v := .agg #[.int .i64 ck.1, .int .i64 ck.2]) ?y73 ?r73
                case y73 => (intro u hu; exact run_load_op 28 _ rfl (lp.add (i * 2)) _ rfl (HCk.out u hu) (aggCell u) infoCell2)
                simp only [Act.put, List.setIfInBounds_toArray, List.set_cons_zero, List.set_cons_succ]
                refine wpAnyH_ready (rs := [12]) (by kernel_rfl) (by simp) (AllReadyH.cons ((nth_eq _ 12).trans rfl) ?_ AllReadyH.nil)
                intro K' hK
                refine call_in hK (by kernel_rfl) 42 #[.slice ta tn tc, .agg #[.int .i64 ck.1, .int .i64 ck.2]] (by go_simp) _ (HAm.out _ S0) ?_
                rintro v1 x1 ⟨rfl, b1⟩
                have S1 : Below w1.heap.size w1 x1 := bcat S0 b1 (Nat.le_refl _)
                try rw [HAt.out]
                refine ⟨S1, ?_⟩
                simp only [Act.put, List.setIfInBounds_toArray, List.set_cons_zero, List.set_cons_succ]
                refine take_held 13 S1 rfl (by kernel_rfl) (by kernel_rfl) (by kernel_rfl) (fun _ _ _ h => h) (by kernel_rfl) (v := .bool false) ?y74 ?r74
                case y74 => (intro u hu; go_simp; try rfl)
                simp only [Act.put, List.setIfInBounds_toArray, List.set_cons_zero, List.set_cons_succ]
                refine take_held 14 S1 rfl (by kernel_rfl) (by kernel_rfl) (by kernel_rfl) (fun _ _ _ h => h) (by kernel_rfl) (v := ?v75) ?y75 ?r75
                case y75 => (intro u hu; go_simp; try rfl)
                simp only [Act.put, List.setIfInBounds_toArray, List.set_cons_zero, List.set_cons_succ]
                refine take_held 15 S1 rfl (by kernel_rfl) (by kernel_rfl) (by kernel_rfl) (fun _ _ _ h => h) (by kernel_rfl) (v := ?v76) ?y76 ?r76
                case y76 => (intro u hu; go_simp; try rfl)
                simp only [Act.put, List.setIfInBounds_toArray, List.set_cons_zero, List.set_cons_succ]
                refine take_held 16 S1 rfl (by kernel_rfl) (by kernel_rfl) (by kernel_rfl) (fun _ _ _ h => h) (by kernel_rfl) (v := ?v77) ?y77 ?r77
                case y77 => (intro u hu; go_simp; try rfl)
                simp only [Act.put, List.setIfInBounds_toArray, List.set_cons_zero, List.set_cons_succ]
                refine take_held 17 S1 rfl (by kernel_rfl) (by kernel_rfl) (by kernel_rfl) (fun _ _ _ h => h) (by kernel_rfl) (v := .int .i64 c.height) ?y78 ?r78
                case y78 => (intro u hu; have zz := HHt.out u hu; go_simp; try rfl)
                simp only [Act.put, List.setIfInBounds_toArray, List.set_cons_zero, List.set_cons_succ]
                refine take_held 18 S1 rfl (by kernel_rfl) (by kernel_rfl) (by kernel_rfl) (fun _ _ _ h => h) (by kernel_rfl) (v := .bool false) ?y79 ?r79
                case y79 => (intro u hu; go_simp <;> first | rfl | omega)
                simp only [Act.put, List.setIfInBounds_toArray, List.set_cons_zero, List.set_cons_succ]
                refine take_held 19 S1 rfl (by kernel_rfl) (by kernel_rfl) (by kernel_rfl) (fun _ _ _ h => h) (by kernel_rfl) (v := .bool false) ?y80 ?r80
                case y80 => (intro u hu; go_simp; try rfl)
                simp only [Act.put, List.setIfInBounds_toArray, List.set_cons_zero, List.set_cons_succ]
                refine done_held (by kernel_rfl) ?_ _
                have T0 : Below w1.heap.size w1 x1.drew := bcat S1 (Below.refl _ _).drew (Nat.le_refl _)
                go_upto_region 13 with fail
                rcases bu_at HU.out with rfl | ⟨bi, rfl, hbi⟩
                · have HN1 : Hid (BU (fun j => MayG stks c.height tl gl f (L.getD j (0, 0))) (fun j => awayP f (L.getD j (0, 0))) (i + 1) (i : Int)) := bu_first HU.out (by omega) HYes.out
                  refine start_held (S := fun u => Below w1.heap.size w1 u) 17 rfl (by kernel_rfl) (T0) ?_
                  simp only [Array.replicate_succ, Array.replicate_zero, List.push_toArray, List.nil_append, List.cons_append]
                  refine take_held 0 T0 rfl (by kernel_rfl) (by kernel_rfl) (by kernel_rfl) (fun _ _ _ h => h) (by kernel_rfl) (v := ?v81) ?y81 ?r81
                  case y81 => (intro u hu; go_simp; try rfl)
                  simp only [Act.put, List.setIfInBounds_toArray, List.set_cons_zero, List.set_cons_succ]
                  refine take_held 1 T0 rfl (by kernel_rfl) (by kernel_rfl) (by kernel_rfl) (fun _ _ _ h => h) (by kernel_rfl) (v := .bool true) ?y82 ?r82
                  case y82 => (intro u hu; go_simp <;> first | rfl | omega)
                  simp only [Act.put, List.setIfInBounds_toArray, List.set_cons_zero, List.set_cons_succ]
                  refine take_held 2 T0 rfl (by kernel_rfl) (by kernel_rfl) (by kernel_rfl) (fun _ _ _ h => h) (by kernel_rfl) (v := ?v83) ?y83 ?r83
                  case y83 => (intro u hu; go_simp; try rfl)
                  simp only [Act.put, List.setIfInBounds_toArray, List.set_cons_zero, List.set_cons_succ]
                  refine skip_held 3 T0 rfl (by kernel_rfl) (by kernel_rfl) (by kernel_rfl) (fun _ _ _ h => h) (by kernel_rfl) ?_
                  simp only [Act.put, List.setIfInBounds_toArray, List.set_cons_zero, List.set_cons_succ]
                  refine skip_held 4 T0 rfl (by kernel_rfl) (by kernel_rfl) (by kernel_rfl) (fun _ _ _ h => h) (by kernel_rfl) ?_
                  simp only [Act.put, List.setIfInBounds_toArray, List.set_cons_zero, List.set_cons_succ]
                  refine skip_held 5 T0 rfl (by kernel_rfl) (by kernel_rfl) (by kernel_rfl) (fun _ _ _ h => h) (by kernel_rfl) ?_
                  simp only [Act.put, List.setIfInBounds_toArray, List.set_cons_zero, List.set_cons_succ]
                  refine skip_held 6 T0 rfl (by kernel_rfl) (by kernel_rfl) (by kernel_rfl) (fun _ _ _ h => h) (by kernel_rfl) ?_
                  simp only [Act.put, List.setIfInBounds_toArray, List.set_cons_zero, List.set_cons_succ]
                  refine skip_held 7 T0 rfl (by kernel_rfl) (by kernel_rfl) (by kernel_rfl) (fun _ _ _ h => h) (by kernel_rfl) ?_
                  simp only [Act.put, List.setIfInBounds_toArray, List.set_cons_zero, List.set_cons_succ]
                  refine skip_held 8 T0 rfl (by kernel_rfl) (by kernel_rfl) (by kernel_rfl) (fun _ _ _ h => h) (by kernel_rfl) ?_
                  simp only [Act.put, List.setIfInBounds_toArray, List.set_cons_zero, List.set_cons_succ]
                  refine skip_held 9 T0 rfl (by kernel_rfl) (by kernel_rfl) (by kernel_rfl) (fun _ _ _ h => h) (by kernel_rfl) ?_
                  simp only [Act.put, List.setIfInBounds_toArray, List.set_cons_zero, List.set_cons_succ]
                  refine skip_held 10 T0 rfl (by kernel_rfl) (by kernel_rfl) (by kernel_rfl) (fun _ _ _ h => h) (by kernel_rfl) ?_
                  simp only [Act.put, List.setIfInBounds_toArray, List.set_cons_zero, List.set_cons_succ]
                  refine skip_held 11 T0 rfl (by kernel_rfl) (by kernel_rfl) (by kernel_rfl) (fun _ _ _ h => h) (by kernel_rfl) ?_
                  simp only [Act.put, List.setIfInBounds_toArray, List.set_cons_zero, List.set_cons_succ]
                  refine skip_held 12 T0 rfl (by kernel_rfl) (by kernel_rfl) (by kernel_rfl) (fun _ _ _ h => h) (by kernel_rfl) ?_
                  simp only [Act.put, List.setIfInBounds_toArray, List.set_cons_zero, List.set_cons_succ]
                  refine skip_held 13 T0 rfl (by kernel_rfl) (by kernel_rfl) (by kernel_rfl) (fun _ _ _ h => h) (by kernel_rfl) ?_
                  simp only [Act.put, List.setIfInBounds_toArray, List.set_cons_zero, List.set_cons_succ]
                  refine skip_held 14 T0 rfl (by kernel_rfl) (by kernel_rfl) (by kernel_rfl) (fun _ _ _ h => h) (by kernel_rfl) ?_
                  simp only [Act.put, List.setIfInBounds_toArray, List.set_cons_zero, List.set_cons_succ]
                  refine skip_held 15 T0 rfl (by kernel_rfl) (by kernel_rfl) (by kernel_rfl) (fun _ _ _ h => h) (by kernel_rfl) ?_
                  simp only [Act.put, List.setIfInBounds_toArray, List.set_cons_zero, List.set_cons_succ]
                  refine take_held 16 T0 rfl (by kernel_rfl) (by kernel_rfl) (by kernel_rfl) (fun _ _ _ h => h) (by kernel_rfl) (v := ?v84) ?y84 ?r84
                  case y84 => (intro u hu; go_simp; try rfl)
                  simp only [Act.put, List.setIfInBounds_toArray, List.set_cons_zero, List.set_cons_succ]
                  refine done_held (by kernel_rfl) ?_ _
                  go_wp2_with fail
                  go_roundw
                  case rel => exact ⟨i + 1, i, by omega, by go_num, rfl, HN1, T0⟩
                  case measure => simp only [intOf]; omega
                · have hbiL : bi < L.length := by rw [HNn.out]; omega
                  have HGb : Hid (L.getD bi (0, 0) = L[bi]'hbiL) := getD_at hbiL
                  have HCb0 : Hid (∀ u, Below w1.heap.size w1 u → ∀ j z, #[Value.int .i64 (L[bi]'hbiL).1, .int .i64 (L[bi]'hbiL).2][j]? = some z → u.cell? ((lp.add (bi * 2)).add j) = some z) := fun u hu => HIt.out lp u rfl hu bi hbiL
                  generalize L[bi]'hbiL = cb at *
                  have HCb : Hid (∀ u, Below w1.heap.size w1 u → ∀ j z, #[Value.int .i64 cb.1, .int .i64 cb.2][j]? = some z → u.cell? ((lp.add (bi * 2)).add j) = some z) := HCb0.out
                  have hbn : (bi : Int) < (n : Int) := by omega
                  have hb0 : decide ((bi : Int) < 0) = false := decide_eq_false (by omega)
                  clear HCb0
                  by_cases hka : awayP f ck < awayP f cb
                  · have hdk : decide (awayP f ck < awayP f cb) = true := decide_eq_true hka
                    have HN1 : Hid (BU (fun j => MayG stks c.height tl gl f (L.getD j (0, 0))) (fun j => awayP f (L.getD j (0, 0))) (i + 1) (i : Int)) := bu_less HU.out (show awayP f (L.getD i (0, 0)) < awayP f (L.getD bi (0, 0)) by rw [HGd.out, HGb.out]; exact hka) HYes.out
                    clear hka
                    refine start_held (S := fun u => Below w1.heap.size w1 u) 17 rfl (by kernel_rfl) (T0) ?_
                    simp only [Array.replicate_succ, Array.replicate_zero, List.push_toArray, List.nil_append, List.cons_append]
                    refine take_held 0 T0 rfl (by kernel_rfl) (by kernel_rfl) (by kernel_rfl) (fun _ _ _ h => h) (by kernel_rfl) (v := ?v85) ?y85 ?r85
                    case y85 => (intro u hu; go_simp; try rfl)
                    simp only [Act.put, List.setIfInBounds_toArray, List.set_cons_zero, List.set_cons_succ]
                    refine take_held 1 T0 rfl (by kernel_rfl) (by kernel_rfl) (by kernel_rfl) (fun _ _ _ h => h) (by kernel_rfl) (v := .bool false) ?y86 ?r86
                    case y86 => (intro u hu; go_simp <;> first | rfl | omega)
                    simp only [Act.put, List.setIfInBounds_toArray, List.set_cons_zero, List.set_cons_succ]
                    refine take_held 2 T0 rfl (by kernel_rfl) (by kernel_rfl) (by kernel_rfl) (fun _ _ _ h => h) (by kernel_rfl) (v := ?v87) ?y87 ?r87
                    case y87 => (intro u hu; go_simp; try rfl)
                    simp only [Act.put, List.setIfInBounds_toArray, List.set_cons_zero, List.set_cons_succ]
                    refine take_held 3 T0 rfl (by kernel_rfl) (by kernel_rfl) (by kernel_rfl) (fun _ _ _ h => h) (by kernel_rfl) (v := .agg #[.int .i64 f.1, .int .i64 f.2]) ?y88 ?r88
                    case y88 => (intro u hu; exact run_load_op 28 _ rfl ⟨w.heap.size + 1, 0, none⟩ _ rfl (HFr.out u hu) (aggCell u) infoCell2)
                    simp only [Act.put, List.setIfInBounds_toArray, List.set_cons_zero, List.set_cons_succ]
                    refine take_held 4 T0 rfl (by kernel_rfl) (by kernel_rfl) (by kernel_rfl) (fun _ _ _ h => h) (by kernel_rfl) (v := ?v89) ?y89 ?r89
                    case y89 => (intro u hu; go_simp; try rfl)
                    simp only [Act.put, List.setIfInBounds_toArray, List.set_cons_zero, List.set_cons_succ]
                    refine take_held 5 T0 rfl (by kernel_rfl) (by kernel_rfl) (by kernel_rfl) (fun _ _ _ h => h) (by kernel_rfl) (v := ?v90) ?y90 ?r90
                    case y90 => (intro u hu; go_simp; try rfl)
                    simp only [Act.put, List.setIfInBounds_toArray, List.set_cons_zero, List.set_cons_succ]
                    refine take_held 6 T0 rfl (by kernel_rfl) (by kernel_rfl) (by kernel_rfl) (fun _ _ _ h => h) (by kernel_rfl) (v := ?v91) ?y91 ?r91
                    case y91 => (intro u hu; go_simp; try rfl)
                    simp only [Act.put, List.setIfInBounds_toArray, List.set_cons_zero, List.set_cons_succ]
                    refine take_held 7 T0 rfl (by kernel_rfl) (by kernel_rfl) (by kernel_rfl) (fun _ _ _ h => h) (by kernel_rfl) (v := .agg #[.int .i64 ck.1, .int .i64 ck.2]) ?y92 ?r92
                    case y92 => (intro u hu; exact run_load_op 28 _ rfl (lp.add (i * 2)) _ rfl (HCk.out u hu) (aggCell u) infoCell2)
                    simp only [Act.put, List.setIfInBounds_toArray, List.set_cons_zero, List.set_cons_succ]
                    refine take_held 9 T0 rfl (by kernel_rfl) (by kernel_rfl) (by kernel_rfl) (fun _ _ _ h => h) (by kernel_rfl) (v := .agg #[.int .i64 f.1, .int .i64 f.2]) ?y93 ?r93
                    case y93 => (intro u hu; exact run_load_op 28 _ rfl ⟨w.heap.size + 1, 0, none⟩ _ rfl (HFr.out u hu) (aggCell u) infoCell2)
                    simp only [Act.put, List.setIfInBounds_toArray, List.set_cons_zero, List.set_cons_succ]
                    refine take_held 10 T0 rfl (by kernel_rfl) (by kernel_rfl) (by kernel_rfl) (fun _ _ _ h => h) (by kernel_rfl) (v := ?v94) ?y94 ?r94
                    case y94 => (intro u hu; go_simp; try rfl)
                    simp only [Act.put, List.setIfInBounds_toArray, List.set_cons_zero, List.set_cons_succ]
                    refine take_held 11 T0 rfl (by kernel_rfl) (by kernel_rfl) (by kernel_rfl) (fun _ _ _ h => h) (by kernel_rfl) (v := ?v95) ?y95 ?r95
                    case y95 => (intro u hu; go_simp; try rfl)
                    simp only [Act.put, List.setIfInBounds_toArray, List.set_cons_zero, List.set_cons_succ]
                    refine take_held 12 T0 rfl (by kernel_rfl) (by kernel_rfl) (by kernel_rfl) (fun _ _ _ h => h) (by kernel_rfl) (v := ?v96) ?y96 ?r96
                    case y96 => (intro u hu; go_simp; try rfl)
                    simp only [Act.put, List.setIfInBounds_toArray, List.set_cons_zero, List.set_cons_succ]
                    refine take_held 13 T0 rfl (by kernel_rfl) (by kernel_rfl) (by kernel_rfl) (fun _ _ _ h => h) (by kernel_rfl) (v := .agg #[.int .i64 cb.1, .int .i64 cb.2]) ?y97 ?r97
                    case y97 => (intro u hu; exact run_load_op 28 _ rfl (lp.add (bi * 2)) _ rfl (HCb.out u hu) (aggCell u) infoCell2)
                    simp only [Act.put, List.setIfInBounds_toArray, List.set_cons_zero, List.set_cons_succ]
                    refine wpAnyH_ready (rs := [8]) (by kernel_rfl) (by simp) (AllReadyH.cons ((nth_eq _ 8).trans rfl) ?_ AllReadyH.nil)
                    intro K' hK
                    refine call_in hK (by kernel_rfl) 59 #[.agg #[.int .i64 f.1, .int .i64 f.2], .agg #[.int .i64 ck.1, .int .i64 ck.2]] (by go_simp) _ (aw_call f ck _) ?_
                    rintro v2 x2 ⟨rfl, b2⟩
                    have S2 : Below w1.heap.size w1 x2 := bcat T0 b2 (Nat.le_refl _)
                    refine ⟨S2, ?_⟩
                    simp only [Act.put, List.setIfInBounds_toArray, List.set_cons_zero, List.set_cons_succ]
                    refine wpAnyH_ready (rs := [14]) (by kernel_rfl) (by simp) (AllReadyH.cons ((nth_eq _ 14).trans rfl) ?_ AllReadyH.nil)
                    intro K' hK
                    refine call_in hK (by kernel_rfl) 59 #[.agg #[.int .i64 f.1, .int .i64 f.2], .agg #[.int .i64 cb.1, .int .i64 cb.2]] (by go_simp) _ (aw_call f cb _) ?_
                    rintro v3 x3 ⟨rfl, b3⟩
                    have S3 : Below w1.heap.size w1 x3 := bcat S2 b3 (Nat.le_refl _)
                    refine ⟨S3, ?_⟩
                    simp only [Act.put, List.setIfInBounds_toArray, List.set_cons_zero, List.set_cons_succ]
                    refine take_held 15 S3 rfl (by kernel_rfl) (by kernel_rfl) (by kernel_rfl) (fun _ _ _ h => h) (by kernel_rfl) (v := .bool true) ?y98 ?r98
                    case y98 => (intro u hu; go_simp <;> first | rfl | omega)
                    simp only [Act.put, List.setIfInBounds_toArray, List.set_cons_zero, List.set_cons_succ]
                    refine take_held 16 S3 rfl (by kernel_rfl) (by kernel_rfl) (by kernel_rfl) (fun _ _ _ h => h) (by kernel_rfl) (v := ?v99) ?y99 ?r99
                    case y99 => (intro u hu; go_simp; try rfl)
                    simp only [Act.put, List.setIfInBounds_toArray, List.set_cons_zero, List.set_cons_succ]
                    refine done_held (by kernel_rfl) ?_ _
                    go_wp2_with fail
                    go_roundw
                    case rel => exact ⟨i + 1, i, by omega, by go_num, rfl, HN1, S3⟩
                    case measure => simp only [intOf]; omega
                  · have hdk : decide (awayP f ck < awayP f cb) = false := decide_eq_false hka
                    have HN1 : Hid (BU (fun j => MayG stks c.height tl gl f (L.getD j (0, 0))) (fun j => awayP f (L.getD j (0, 0))) (i + 1) (bi : Int)) := bu_keep HU.out (show ¬ awayP f (L.getD i (0, 0)) < awayP f (L.getD bi (0, 0)) by rw [HGd.out, HGb.out]; exact hka)
                    clear hka
                    refine start_held (S := fun u => Below w1.heap.size w1 u) 17 rfl (by kernel_rfl) (T0) ?_
                    simp only [Array.replicate_succ, Array.replicate_zero, List.push_toArray, List.nil_append, List.cons_append]
                    refine take_held 0 T0 rfl (by kernel_rfl) (by kernel_rfl) (by kernel_rfl) (fun _ _ _ h => h) (by kernel_rfl) (v := ?v100) ?y100 ?r100
                    case y100 => (intro u hu; go_simp; try rfl)
                    simp only [Act.put, List.setIfInBounds_toArray, List.set_cons_zero, List.set_cons_succ]
                    refine take_held 1 T0 rfl (by kernel_rfl) (by kernel_rfl) (by kernel_rfl) (fun _ _ _ h => h) (by kernel_rfl) (v := .bool false) ?y101 ?r101
                    case y101 => (intro u hu; go_simp <;> first | rfl | omega)
                    simp only [Act.put, List.setIfInBounds_toArray, List.set_cons_zero, List.set_cons_succ]
                    refine take_held 2 T0 rfl (by kernel_rfl) (by kernel_rfl) (by kernel_rfl) (fun _ _ _ h => h) (by kernel_rfl) (v := ?v102) ?y102 ?r102
                    case y102 => (intro u hu; go_simp; try rfl)
                    simp only [Act.put, List.setIfInBounds_toArray, List.set_cons_zero, List.set_cons_succ]
                    refine take_held 3 T0 rfl (by kernel_rfl) (by kernel_rfl) (by kernel_rfl) (fun _ _ _ h => h) (by kernel_rfl) (v := .agg #[.int .i64 f.1, .int .i64 f.2]) ?y103 ?r103
                    case y103 => (intro u hu; exact run_load_op 28 _ rfl ⟨w.heap.size + 1, 0, none⟩ _ rfl (HFr.out u hu) (aggCell u) infoCell2)
                    simp only [Act.put, List.setIfInBounds_toArray, List.set_cons_zero, List.set_cons_succ]
                    refine take_held 4 T0 rfl (by kernel_rfl) (by kernel_rfl) (by kernel_rfl) (fun _ _ _ h => h) (by kernel_rfl) (v := ?v104) ?y104 ?r104
                    case y104 => (intro u hu; go_simp; try rfl)
                    simp only [Act.put, List.setIfInBounds_toArray, List.set_cons_zero, List.set_cons_succ]
                    refine take_held 5 T0 rfl (by kernel_rfl) (by kernel_rfl) (by kernel_rfl) (fun _ _ _ h => h) (by kernel_rfl) (v := ?v105) ?y105 ?r105
                    case y105 => (intro u hu; go_simp; try rfl)
                    simp only [Act.put, List.setIfInBounds_toArray, List.set_cons_zero, List.set_cons_succ]
                    refine take_held 6 T0 rfl (by kernel_rfl) (by kernel_rfl) (by kernel_rfl) (fun _ _ _ h => h) (by kernel_rfl) (v := ?v106) ?y106 ?r106
                    case y106 => (intro u hu; go_simp; try rfl)
                    simp only [Act.put, List.setIfInBounds_toArray, List.set_cons_zero, List.set_cons_succ]
                    refine take_held 7 T0 rfl (by kernel_rfl) (by kernel_rfl) (by kernel_rfl) (fun _ _ _ h => h) (by kernel_rfl) (v := .agg #[.int .i64 ck.1, .int .i64 ck.2]) ?y107 ?r107
                    case y107 => (intro u hu; exact run_load_op 28 _ rfl (lp.add (i * 2)) _ rfl (HCk.out u hu) (aggCell u) infoCell2)
                    simp only [Act.put, List.setIfInBounds_toArray, List.set_cons_zero, List.set_cons_succ]
                    refine take_held 9 T0 rfl (by kernel_rfl) (by kernel_rfl) (by kernel_rfl) (fun _ _ _ h => h) (by kernel_rfl) (v := .agg #[.int .i64 f.1, .int .i64 f.2]) ?y108 ?r108
                    case y108 => (intro u hu; exact run_load_op 28 _ rfl ⟨w.heap.size + 1, 0, none⟩ _ rfl (HFr.out u hu) (aggCell u) infoCell2)
                    simp only [Act.put, List.setIfInBounds_toArray, List.set_cons_zero, List.set_cons_succ]
                    refine take_held 10 T0 rfl (by kernel_rfl) (by kernel_rfl) (by kernel_rfl) (fun _ _ _ h => h) (by kernel_rfl) (v := ?v109) ?y109 ?r109
                    case y109 => (intro u hu; go_simp; try rfl)
                    simp only [Act.put, List.setIfInBounds_toArray, List.set_cons_zero, List.set_cons_succ]
                    refine take_held 11 T0 rfl (by kernel_rfl) (by kernel_rfl) (by kernel_rfl) (fun _ _ _ h => h) (by kernel_rfl) (v := ?v110) ?y110 ?r110
                    case y110 => (intro u hu; go_simp; try rfl)
                    simp only [Act.put, List.setIfInBounds_toArray, List.set_cons_zero, List.set_cons_succ]
                    refine take_held 12 T0 rfl (by kernel_rfl) (by kernel_rfl) (by kernel_rfl) (fun _ _ _ h => h) (by kernel_rfl) (v := ?v111) ?y111 ?r111
                    case y111 => (intro u hu; go_simp; try rfl)
                    simp only [Act.put, List.setIfInBounds_toArray, List.set_cons_zero, List.set_cons_succ]
                    refine take_held 13 T0 rfl (by kernel_rfl) (by kernel_rfl) (by kernel_rfl) (fun _ _ _ h => h) (by kernel_rfl) (v := .agg #[.int .i64 cb.1, .int .i64 cb.2]) ?y112 ?r112
                    case y112 => (intro u hu; exact run_load_op 28 _ rfl (lp.add (bi * 2)) _ rfl (HCb.out u hu) (aggCell u) infoCell2)
                    simp only [Act.put, List.setIfInBounds_toArray, List.set_cons_zero, List.set_cons_succ]
                    refine wpAnyH_ready (rs := [8]) (by kernel_rfl) (by simp) (AllReadyH.cons ((nth_eq _ 8).trans rfl) ?_ AllReadyH.nil)
                    intro K' hK
                    refine call_in hK (by kernel_rfl) 59 #[.agg #[.int .i64 f.1, .int .i64 f.2], .agg #[.int .i64 ck.1, .int .i64 ck.2]] (by go_simp) _ (aw_call f ck _) ?_
                    rintro v2 x2 ⟨rfl, b2⟩
                    have S2 : Below w1.heap.size w1 x2 := bcat T0 b2 (Nat.le_refl _)
                    refine ⟨S2, ?_⟩
                    simp only [Act.put, List.setIfInBounds_toArray, List.set_cons_zero, List.set_cons_succ]
                    refine wpAnyH_ready (rs := [14]) (by kernel_rfl) (by simp) (AllReadyH.cons ((nth_eq _ 14).trans rfl) ?_ AllReadyH.nil)
                    intro K' hK
                    refine call_in hK (by kernel_rfl) 59 #[.agg #[.int .i64 f.1, .int .i64 f.2], .agg #[.int .i64 cb.1, .int .i64 cb.2]] (by go_simp) _ (aw_call f cb _) ?_
                    rintro v3 x3 ⟨rfl, b3⟩
                    have S3 : Below w1.heap.size w1 x3 := bcat S2 b3 (Nat.le_refl _)
                    refine ⟨S3, ?_⟩
                    simp only [Act.put, List.setIfInBounds_toArray, List.set_cons_zero, List.set_cons_succ]
                    refine take_held 15 S3 rfl (by kernel_rfl) (by kernel_rfl) (by kernel_rfl) (fun _ _ _ h => h) (by kernel_rfl) (v := .bool false) ?y113 ?r113
                    case y113 => (intro u hu; go_simp <;> first | rfl | omega)
                    simp only [Act.put, List.setIfInBounds_toArray, List.set_cons_zero, List.set_cons_succ]
                    refine take_held 16 S3 rfl (by kernel_rfl) (by kernel_rfl) (by kernel_rfl) (fun _ _ _ h => h) (by kernel_rfl) (v := ?v114) ?y114 ?r114
                    case y114 => (intro u hu; go_simp; try rfl)
                    simp only [Act.put, List.setIfInBounds_toArray, List.set_cons_zero, List.set_cons_succ]
                    refine done_held (by kernel_rfl) ?_ _
                    go_wp2_with fail
                    go_roundw
                    case rel => exact ⟨i + 1, bi, by omega, by go_num, rfl, HN1, S3⟩
                    case measure => simp only [intOf]; omega
    · obtain rfl : i = n := by omega
      have hd : decide ((i : Int) < (i : Int)) = false := decide_eq_false (by omega)
      have HUn : Hid (BU (fun j => MayG stks c.height tl gl f (L.getD j (0, 0))) (fun j => awayP f (L.getD j (0, 0))) L.length b) := by show BU _ _ _ _; rw [HNn.out]; exact HU.out
      have hz9 := (HB.out.block _ (lt_of_heap HZ1.out)).trans HZ1.out
      have B9 := bcat HB1.out HB.out (Nat.le_refl _)
      rcases bu_at HU.out with rfl | ⟨bi, rfl, hbi⟩
      · go_wp2_with (refine wpList_store_row rfl 28 (.tmp 10) (.tmp 89) rfl (w.heap.size + 2) #[.int .i64 0, .int .i64 0] rfl rfl 28 #[.int .i64 0, .int .i64 0] hz9 infoCell2 rfl (by simp [Value.oneCell']) ?_)
        exact bodyPost_ret (results_cell_tmp Try.results43 _ _ (w.heap.size + 2) _ rfl (load_cell2 _ _ _ rfl (setRow_heap _ _ _ _ _ _ hz9))) rfl ⟨_, rfl, ⟨none, rfl, bu_none (by omega) HUn.out⟩, below_row B9 (by omega) _⟩
      · obtain ⟨lp, rfl⟩ := HSome.out (by omega)
        have hbiL : bi < L.length := by rw [HNn.out]; omega
        have hps := bu_some HUn.out
        rw [getD_at hbiL] at hps
        have hcb := HIt.out lp wr rfl HB.out bi hbiL
        generalize L[bi]'hbiL = cb at *
        have HPS : Hid (PlaceR stks c.height L tl gl f (some cb)) := hps
        have hbn : (bi : Int) < (i : Int) := by omega
        have hb0 : decide ((bi : Int) < 0) = false := decide_eq_false (by omega)
        clear hps HUn
        go_wp2_with (first
          | (refine wpList_load_at rfl 28 (.tmp 92) rfl (lp.add (bi * 2)) rfl #[.int .i64 cb.1, .int .i64 cb.2] hcb (aggCell _) infoCell2 ?_)
          | (refine wpList_store_row rfl 28 (.tmp 10) (.tmp 93) rfl (w.heap.size + 2) #[.int .i64 cb.1, .int .i64 cb.2] rfl rfl 28 #[.int .i64 0, .int .i64 0] hz9 infoCell2 rfl (by simp [Value.oneCell']) ?_))
        exact bodyPost_ret (results_cell_tmp Try.results43 _ _ (w.heap.size + 2) _ rfl (load_cell2 _ _ _ rfl (setRow_heap _ _ _ _ _ _ hz9))) rfl ⟨_, rfl, ⟨some cb, rfl, HPS.out⟩, below_row B9 (by omega) _⟩
end Go.Proofs.Ytgnpmjlliolmoaa.Dig
