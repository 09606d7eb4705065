/-
  A yard is laid out of a config and stacks: of two stacks for one cell the first counts.
-/
import Derived.Test.YtebfjldbhmmmlaaDgU
import Derived.Test.YtebfjldbhmmmlaaDgS
import Derived.Test.YtebfjldbhmmmlaaDigRef
namespace Go.Proofs.Ytebfjldbhmmmlaa.Dig
set_option linter.unusedVariables false
set_option linter.unusedSimpArgs false
open Go Go.RowKit Go.Shelf Go.Proofs Go.Proofs.Ytebfjldbhmmmlaa.Grid Go.Proofs.Ytebfjldbhmmmlaa.Srt
attribute [local go_sem] Oper.semAt_some

/- The rows of a list of stacks. -/
theorem stk_rows {Fs : Nat → Prop} {stks : List Stk} {sa : Option Addr} {sn sc : Nat} {w : World} (hS : ListAt 3 stackElC Fs stks (.slice sa sn sc) w) : ∃ (p : Addr) (css : Nat → StkE), (p.block = 0 ∨ Fs p.block) ∧ (0 < sn → sa = some p ∧ Fs p.block) ∧ stks.length = sn ∧ ∀ i (h : i < stks.length), (css i).1 = (stks[i]'h).1 ∧ ListAt 1 intEl Fs (stks[i]'h).2 (.slice (css i).2.1 (css i).2.2.1 (css i).2.2.2) w ∧ (∀ j z, (stkV (css i))[j]? = some z → w.cell? ((p.add (i * 3)).add j) = some z) ∧ (css i).2.2.1 ≤ (css i).2.2.2 := by
  obtain ⟨a, cap, e, h0⟩ := hS.form
  injection e with e1 e2 e3
  subst e1 e2 e3
  rcases Nat.eq_zero_or_pos stks.length with h | h
  · exact ⟨⟨0, 0, none⟩, fun _ => ((0, 0), none, 0, 0), Or.inl rfl, fun g => by omega, rfl, fun i hi => by omega⟩
  · obtain ⟨p, cs, cap2, hv, hp, _, _⟩ := hS.item h
    injection hv with q1 _ q3
    subst q1
    have H : ∀ i, ∃ x : StkE, ∀ h : i < stks.length, x.1 = (stks[i]'h).1 ∧ ListAt 1 intEl Fs (stks[i]'h).2 (.slice x.2.1 x.2.2.1 x.2.2.2) w ∧ (∀ j z, (stkV x)[j]? = some z → w.cell? ((p.add (i * 3)).add j) = some z) ∧ x.2.2.1 ≤ x.2.2.2 := fun i => by
      by_cases hi : i < stks.length
      · obtain ⟨p2, cs2, cap3, hv2, _, ⟨va, vc, hcs, hok, hL⟩, hrd⟩ := hS.item hi
        injection hv2 with r1 _ _
        injection r1 with r1
        subst r1
        subst hcs
        exact ⟨((stks[i]'hi).1, va, (stks[i]'hi).2.length, vc), fun _ => ⟨rfl, hL, hrd, hok⟩⟩
      · exact ⟨((0, 0), none, 0, 0), fun g => absurd g hi⟩
    obtain ⟨css, hcss⟩ := Classical.axiomOfChoice H
    exact ⟨p, css, Or.inr hp, fun _ => ⟨rfl, hp⟩, rfl, hcss⟩
/- What stands at a place of the row once these were told. -/
def valAt (W H : Int) (pre : List (Nat × StkE)) (i : Nat) : Value := pre.foldl (fun v e => if number W H e.2.1 = (i : Int) then .slice e.2.2.1 e.2.2.2.1 e.2.2.2.2 else v) (.slice none 0 0)
theorem valAt_snoc (W H : Int) (pre : List (Nat × StkE)) (x : Nat × StkE) (i : Nat) : valAt W H (pre ++ [x]) i = if number W H x.2.1 = (i : Int) then .slice x.2.2.1 x.2.2.2.1 x.2.2.2.2 else valAt W H pre i := by
  unfold valAt
  rw [List.foldl_append]
  rfl
theorem number_at {W H : Int} (hW : 0 < W) {i : Nat} (hi : (i : Int) < W * H) (x : Cell) : number W H x = (i : Int) ↔ x = cellAt W i := by
  constructor
  · intro h
    unfold number at h
    split at h
    · rename_i hin
      have := cellAt_num hin
      rw [h, Int.toNat_natCast] at this
      exact this.symm
    · omega
  · intro h
    subst h
    unfold number
    rw [if_pos (cellAt_in hW hi), num_cellAt]
theorem val_ok {W H : Int} {css : Nat → StkE} {n i : Nat} (hc : ∀ i, i < n → (css i).2.2.1 ≤ (css i).2.2.2) : ∀ j k, k + j = n → SlOk (valAt W H (down css n k) i)
  | 0, k, h => by
    have e : k = n := by omega
    subst e
    rw [down_none]
    exact Nat.le_refl _
  | j + 1, k, h => by
    have hk : k < n := by omega
    rw [down_step css hk, valAt_snoc]
    split
    · exact hc k hk
    · exact val_ok hc j (k + 1) (by omega)
theorem val_pile {Fs : Nat → Prop} {stks : List Stk} {w : World} {W H : Int} (hW : 0 < W) {css : Nat → StkE} (hc : ∀ i (h : i < stks.length), (css i).1 = (stks[i]'h).1 ∧ ListAt 1 intEl Fs (stks[i]'h).2 (.slice (css i).2.1 (css i).2.2.1 (css i).2.2.2) w) {i : Nat} (hi : (i : Int) < W * H) : ∀ j k, k + j = stks.length → ListAt 1 intEl Fs (pileOf (stks.drop k) (cellAt W i)) (valAt W H (down css stks.length k) i) w
  | 0, k, h => by
    have e : k = stks.length := by omega
    subst e
    rw [down_none, List.drop_length, pile_nil]
    exact ListAt.nil _ _ _ _
  | j + 1, k, h => by
    have hk : k < stks.length := by omega
    have ih := val_pile (H := H) hW hc hi j (k + 1) (by omega)
    obtain ⟨c1, c2⟩ := hc k hk
    rw [down_step css hk, valAt_snoc, pile_drop stks _ hk]
    by_cases q : (stks[k]'hk).1 = cellAt W i
    · rw [if_pos q, if_pos ((number_at hW hi _).2 (c1.trans q))]
      exact c2
    · rw [if_neg q, if_neg (fun g => q (c1.symm.trans ((number_at hW hi _).1 g)))]
      exact ih
theorem fx_grown {pb : Nat} {w5 V V' : World} {row : Option Nat} (h : Fx pb w5 V) (hg : V.grownBy V' row) (hr : ∀ r, row = some r → w5.heap.size ≤ r) : Fx pb w5 V' :=
  ⟨hg.os.trans h.os, hg.tape.trans h.tape, hg.output.trans h.output, Nat.le_trans h.size hg.size, fun k hk hn => (hg.block k (Nat.lt_of_lt_of_le hk h.size) (fun e => by have := hr k e.symm; omega)).trans (h.block k hk hn)⟩
/- While stacks are told: the row as it stands. -/
structure NyI (w5 : World) (pb N : Nat) (W H : Int) (pre : List (Nat × StkE)) (V : World) : Prop where
  row : V.heap[pb]? = some (.cells ((List.range N).map (valAt W H pre)).toArray 38 (0, 0))
  fx : Fx pb w5 V
theorem nyi_own {w5 : World} {pb N : Nat} {W H : Int} (hp : pb < w5.heap.size) : OwnFrom w5.heap.size (fun (pre : List (Nat × StkE)) V => NyI w5 pb N W H pre V) := by
  intro pre X Y row h hg hr
  exact ⟨(hg.block _ (lt_of_heap h.row) (fun e => by have := (hr _ e.symm).1; omega)).trans h.row, fx_grown h.fx hg (fun r e => (hr r e).1)⟩
theorem row_next {W H : Int} {N : Nat} {pre : List (Nat × StkE)} {x : Nat × StkE} {j : Nat} (hj : j < N) (h : number W H x.2.1 = (j : Int)) : ((List.range N).map (valAt W H pre)).toArray.setIfInBounds j (.slice x.2.2.1 x.2.2.2.1 x.2.2.2.2) = ((List.range N).map (valAt W H (pre ++ [x]))).toArray := by
  rw [List.setIfInBounds_toArray]
  congr 1
  refine List.ext_getElem? fun i => ?_
  rw [List.getElem?_set, List.getElem?_map, List.getElem?_map]
  by_cases e : j = i
  · subst e
    rw [if_pos rfl, if_pos (by simpa using hj), List.getElem?_range hj]
    simp [valAt_snoc, h]
  · rw [if_neg e]
    by_cases hi : i < N
    · rw [List.getElem?_range hi]
      simp only [Option.map_some]
      rw [valAt_snoc, if_neg (by omega)]
    · rw [List.getElem?_eq_none (by simp; omega)]
      rfl
theorem row_same {W H : Int} {N : Nat} {pre : List (Nat × StkE)} {x : Nat × StkE} (h : number W H x.2.1 < 0) : (List.range N).map (valAt W H pre) = (List.range N).map (valAt W H (pre ++ [x])) := by
  refine List.map_congr_left fun i _ => ?_
  rw [valAt_snoc, if_neg (by omega)]
theorem row_first (W H : Int) (N : Nat) : (List.replicate N (Value.slice none 0 0)).toArray = ((List.range N).map (valAt W H [])).toArray := by
  congr 1
  refine List.ext_getElem? fun i => ?_
  rw [List.getElem?_map, List.getElem?_replicate]
  by_cases h : i < N
  · rw [if_pos h, List.getElem?_range h]
    rfl
  · rw [if_neg h, List.getElem?_eq_none (by simp; omega)]
    rfl
theorem number_bd {W H : Int} {x : Cell} (h : 0 ≤ number W H x) : number W H x < W * H := by
  unfold number at h ⊢
  split
  · rename_i hin
    exact (num_lt hin).2
  · rename_i hin
    rw [if_neg hin] at h
    omega
set_option maxRecDepth 100000 in
theorem newYard_none {F : Nat → Prop} {c : Conf} {v1 v2 v3 v4 : Value} {w : World} (hA : ConfAt F c v1 v2 v3 v4 w) (hF : ∀ b, F b → b < w.heap.size) (l1 : c.blocked.length ≤ 8796093022208) (l2 : c.ports.length ≤ 8796093022208) (l3 : c.robots.length ≤ 5864062014805) (l4 : c.stacks.length ≤ 3518437208880) (hN : newP c = none) (sv : Value) : Calls Try.prog 16 #[.agg #[.int .i64 c.W, .int .i64 c.H, .int .i64 c.height, v1, v2, v3, v4, .int .i64 c.unit, .int .i64 c.accel, .int .i64 c.speed, .int .i64 c.turn, .int .i64 c.hoist, .int .i64 c.queue, .int .i64 c.resend, .int .i64 c.budget, .bool c.back], sv] w fun e w' => e = .returned (.tuple #[.pointer none, .int .i64 5]) ∧ Below w.heap.size w w' := by
  obtain ⟨w1, hw1⟩ : ∃ w1, w1 = w.alloc (.cells #[.int .i64 c.W, .int .i64 c.H, .int .i64 c.height, v1, v2, v3, v4, .int .i64 c.unit, .int .i64 c.accel, .int .i64 c.speed, .int .i64 c.turn, .int .i64 c.hoist, .int .i64 c.queue, .int .i64 c.resend, .int .i64 c.budget, .bool c.back] 26) := ⟨_, rfl⟩
  have b1 : Below w.heap.size w w1 := by rw [hw1]; exact below_new (Below.refl _ _) _
  have hc1 : w1.heap[w.heap.size]? = some (.cells #[.int .i64 c.W, .int .i64 c.H, .int .i64 c.height, v1, v2, v3, v4, .int .i64 c.unit, .int .i64 c.accel, .int .i64 c.speed, .int .i64 c.turn, .int .i64 c.hoist, .int .i64 c.queue, .int .i64 c.resend, .int .i64 c.budget, .bool c.back] 26 (0, 0)) := by rw [hw1]; exact heap_alloc_new w _
  have cN := new_no (hA.go hF b1) (fun b hb => Nat.lt_of_lt_of_le (hF b hb) b1.size) l1 l2 l3 l4 hN
  have HB1 : Hid (Below w.heap.size w w1) := b1
  clear b1
  refine (callsIn_wide (n := 9)).1 ?_
  refine callsIn_of_wp_marks Try.func16 rfl trivial ?_ rfl
  simp only [Try.ntmps16, List.size_toArray, List.length_cons, List.length_nil, Nat.reduceAdd, Nat.reduceSub, Array.replicate_succ, Array.replicate_zero, List.push_toArray, List.append_toArray, List.nil_append, List.cons_append]
  gi_wp2_with (first
    | (rw [← hw1]; clear hw1; refine wpListIn_loadAgg rfl 26 (.tmp 2) rfl ⟨w.heap.size, 0, none⟩ _ rfl (row_below hc1 (Below.refl _ _)) (aggConf _) info_conf ?_)
    | (refine ⟨trivial, ?_⟩; gi_at_call 35; refine (callsIn_wide.2 cN).mono ?_; rintro e w2 ⟨rfl, b2⟩))
  gi_wp2
  exact ⟨_, results_tmp2 rfl _ _ _, rfl, bcat (bcat HB1.out b2 (Nat.le_refl _)) (below_new (Below.refl _ _) _) (Nat.le_refl _)⟩
/- What lies where once the yard has been made: its struct, its row of piles, the variable that holds it. -/
structure Yd (w3 : World) (g : Nat) (height : Int) (N yb pb vb : Nat) (w' : World) : Prop where
  yd : w'.heap[yb]? = some (.cells #[.pointer (some ⟨g, 0, none⟩), .int .i64 height, .slice (some ⟨pb, 0, none⟩) N N] 55 (0, 0))
  row : w'.heap[pb]? = some (.cells (List.replicate N (Value.slice none 0 0)).toArray 38 (0, 0))
  vv : w'.heap[vb]? = some (.cells #[.pointer (some ⟨yb, 0, none⟩)] 49 (0, 0))
  ly : w3.heap.size ≤ yb
  lp : w3.heap.size ≤ pb
  lv : w3.heap.size ≤ vb
  below : Below w3.heap.size w3 w'
theorem infoInts : (Try.prog.info? 38).map (fun i => (i.zero, i.size, i.bytes)) = some (some (.slice none 0 0), 1, 24) := by kernel_rfl
theorem set_ptr {w : World} {b : Nat} {x y : Value} {t : TypeId} (h : w.heap[b]? = some (.cells #[x] t (0, 0))) : (w.setCell ⟨b, 0, none⟩ y).heap[b]? = some (.cells #[y] t (0, 0)) := by
  have := heap_setCell_same _ _ 0 _ _ y h
  simpa using this
set_option maxRecDepth 100000 in
set_option maxHeartbeats 2000000 in
theorem newYard_some {F : Nat → Prop} {c : Conf} {v1 v2 v3 v4 : Value} {w : World} (hA : ConfAt F c v1 v2 v3 v4 w) (hF : ∀ b, F b → b < w.heap.size) (l1 : c.blocked.length ≤ 8796093022208) (l2 : c.ports.length ≤ 8796093022208) (l3 : c.robots.length ≤ 5864062014805) (l4 : c.stacks.length ≤ 3518437208880) {G : GS} (hN : newP c = some G) (Fs : Nat → Prop) (stks : List Stk) (sa : Option Addr) (sn sc : Nat) (hS : ListAt 3 stackElC Fs stks (.slice sa sn sc) w) (hFs : ∀ b, Fs b → b < w.heap.size) (hsn : sn ≤ 1000000) :
    Calls Try.prog 16 #[.agg #[.int .i64 c.W, .int .i64 c.H, .int .i64 c.height, v1, v2, v3, v4, .int .i64 c.unit, .int .i64 c.accel, .int .i64 c.speed, .int .i64 c.turn, .int .i64 c.hoist, .int .i64 c.queue, .int .i64 c.resend, .int .i64 c.budget, .bool c.back], .slice sa sn sc] w fun e w' => ∃ yb pb g u vp, e = .returned (.tuple #[.pointer (some ⟨yb, 0, none⟩), .int .i64 0]) ∧ YardAt w' yb pb g u c.W c.H c.height G.uses vp Fs stks ∧ w'.ownsRow w.heap.size 30 2 vp c.ports.length (rowL cellL c.ports) ∧ Below w.heap.size w w' := by
  obtain ⟨w1, hw1⟩ : ∃ w1, w1 = w.alloc (.cells #[.int .i64 c.W, .int .i64 c.H, .int .i64 c.height, v1, v2, v3, v4, .int .i64 c.unit, .int .i64 c.accel, .int .i64 c.speed, .int .i64 c.turn, .int .i64 c.hoist, .int .i64 c.queue, .int .i64 c.resend, .int .i64 c.budget, .bool c.back] 26) := ⟨_, rfl⟩
  have b1 : Below w.heap.size w w1 := by rw [hw1]; exact below_new (Below.refl _ _) _
  have hc1 : w1.heap[w.heap.size]? = some (.cells #[.int .i64 c.W, .int .i64 c.H, .int .i64 c.height, v1, v2, v3, v4, .int .i64 c.unit, .int .i64 c.accel, .int .i64 c.speed, .int .i64 c.turn, .int .i64 c.hoist, .int .i64 c.queue, .int .i64 c.resend, .int .i64 c.budget, .bool c.back] 26 (0, 0)) := by rw [hw1]; exact heap_alloc_new w _
  have cN := new_yes (hA.go hF b1) (fun b hb => Nat.lt_of_lt_of_le (hF b hb) b1.size) l1 l2 l3 l4 hN
  have HB1 : Hid (Below w.heap.size w w1) := b1
  clear b1
  refine (callsIn_wide (n := 9)).1 ?_
  refine callsIn_of_wp_marks Try.func16 rfl trivial ?_ rfl
  simp only [Try.ntmps16, List.size_toArray, List.length_cons, List.length_nil, Nat.reduceAdd, Nat.reduceSub, Array.replicate_succ, Array.replicate_zero, List.push_toArray, List.append_toArray, List.nil_append, List.cons_append]
  gi_wp2_with (first
    | (rw [← hw1]; clear hw1; refine wpListIn_loadAgg rfl 26 (.tmp 2) rfl ⟨w.heap.size, 0, none⟩ _ rfl (row_below hc1 (Below.refl _ _)) (aggConf _) info_conf ?_)
    | (refine ⟨trivial, ?_⟩; gi_at_call 35; refine (callsIn_wide.2 cN).mono ?_; rintro e w2 ⟨g, u, vp, rfl, hG, hg, hu, own, b2⟩))
  obtain ⟨w3, hw3⟩ : ∃ w3, w3 = w2.alloc (.cells #[.pointer (some ⟨g, 0, none⟩)] 52) := ⟨_, rfl⟩
  have b3 : Below w2.heap.size w2 w3 := by rw [hw3]; exact below_new (Below.refl _ _) _
  have hgv : w3.heap[w2.heap.size]? = some (.cells #[.pointer (some ⟨g, 0, none⟩)] 52 (0, 0)) := by rw [hw3]; exact heap_alloc_new w2 _
  have b13 := bcat b2 b3 (Nat.le_refl _)
  have hc3 : w3.heap[w.heap.size]? = some (.cells #[.int .i64 c.W, .int .i64 c.H, .int .i64 c.height, v1, v2, v3, v4, .int .i64 c.unit, .int .i64 c.accel, .int .i64 c.speed, .int .i64 c.turn, .int .i64 c.hoist, .int .i64 c.queue, .int .i64 c.resend, .int .i64 c.budget, .bool c.back] 26 (0, 0)) := (b13.block _ (lt_of_heap hc1)).trans hc1
  obtain ⟨N, hNn⟩ : ∃ N, G.uses.length = N := ⟨_, rfl⟩
  have HNn : Hid (G.uses.length = N) := hNn
  have hle := hG.le
  rw [hNn] at hle
  have hWH : c.W * c.H = (N : Int) := by rw [← hNn]; exact hG.len.symm
  have eW : IntKind.i64.wrap (N : Int) = (N : Int) := by rw [IntKind.wrap_i64]; omega
  have HGv : Hid (∀ u, Below w3.heap.size w3 u → u.cell? ⟨w2.heap.size, 0, none⟩ = some (.pointer (some ⟨g, 0, none⟩))) := fun u hu => cell_below ((cell_of hgv 0).trans rfl) hu
  have HC0 : Hid (∀ u, Below w3.heap.size w3 u → u.cell? ⟨w.heap.size, 0, none⟩ = some (.int .i64 c.W)) := fun u hu => cell_below ((cell_of hc3 0).trans rfl) hu
  have HC1 : Hid (∀ u, Below w3.heap.size w3 u → u.cell? ⟨w.heap.size, 1, none⟩ = some (.int .i64 c.H)) := fun u hu => cell_below ((cell_of hc3 1).trans rfl) hu
  have HC2 : Hid (∀ u, Below w3.heap.size w3 u → u.cell? ⟨w.heap.size, 2, none⟩ = some (.int .i64 c.height)) := fun u hu => cell_below ((cell_of hc3 2).trans rfl) hu
  have HMk : Hid (∀ u : World, (Instr.makeSlice 53 (.int .i64 N) (.int .i64 N)).run Try.prog u = .ok (.slice (some ⟨u.heap.size, 0, none⟩) N N) (u.alloc (.cells (List.replicate N (Value.slice none 0 0)).toArray 38))) := fun u => run_made 53 38 (.slice none 0 0) 24 Try.underlying53 infoInts rfl N (by omega) (by omega) u
  have HG : Hid (GridAt w2 g u c.W c.H G.uses vp) := hG
  have HOw : Hid (w2.ownsRow w1.heap.size 30 2 vp c.ports.length (rowL cellL c.ports)) := own
  have HWH : Hid (c.W * c.H = (N : Int)) := hWH
  have HB : Hid (Below w1.heap.size w1 w2 ∧ Below w2.heap.size w2 w3) := ⟨b2, b3⟩
  have S0 : Below w3.heap.size w3 w3.drew := (Below.refl _ _).drew
  rw [← hw3]
  have hs3 : w3.heap.size = w2.heap.size + 1 := by rw [hw3]; simp
  have HGg : Hid (w3.heap[w2.heap.size]? = some (.cells #[.pointer (some ⟨g, 0, none⟩)] 52 (0, 0))) := hgv
  clear hw3 hG own hc3 hc1 hgv b13 b2 b3 cN hNn hWH
  refine wpIn_wide.2 (wp_via (fun a' w' => ∃ yb pb vb, Yd w3 g c.height N yb pb vb w' ∧ a' = { tmps := #[.agg #[.int .i64 c.W, .int .i64 c.H, .int .i64 c.height, v1, v2, v3, v4, .int .i64 c.unit, .int .i64 c.accel, .int .i64 c.speed, .int .i64 c.turn, .int .i64 c.hoist, .int .i64 c.queue, .int .i64 c.resend, .int .i64 c.budget, .bool c.back], .slice sa sn sc, .pointer (some ⟨w.heap.size, 0, none⟩), undef, .pointer none, .int .i64 0, .pointer (some ⟨w2.heap.size, 0, none⟩), .int .i64 0, .pointer (some ⟨vb, 0, none⟩), undef, undef, undef, .tuple #[.pointer (some ⟨g, 0, none⟩), .int .i64 0], .agg #[.int .i64 c.W, .int .i64 c.H, .int .i64 c.height, v1, v2, v3, v4, .int .i64 c.unit, .int .i64 c.accel, .int .i64 c.speed, .int .i64 c.turn, .int .i64 c.hoist, .int .i64 c.queue, .int .i64 c.resend, .int .i64 c.budget, .bool c.back], .tuple #[.pointer (some ⟨g, 0, none⟩), .int .i64 0], .pointer (some ⟨g, 0, none⟩), .int .i64 0, .int .i64 0, .bool false, undef, .pointer (some ⟨g, 0, none⟩), .pointer (some ⟨w.heap.size, 2, none⟩), .int .i64 c.height, .pointer (some ⟨w.heap.size, 0, none⟩), .int .i64 c.W, .pointer (some ⟨w.heap.size, 1, none⟩), .int .i64 c.H, .int .i64 N, .slice (some ⟨pb, 0, none⟩) N N, .agg #[.pointer (some ⟨g, 0, none⟩), .int .i64 c.height, .slice (some ⟨pb, 0, none⟩) N N], .pointer (some ⟨yb, 0, none⟩), undef, undef, undef, undef, undef, undef, undef, undef, undef, undef, undef, undef, undef, undef, undef, undef, undef, undef, undef], defers := [] }) ?reg ?rest)
  case reg =>
    refine start_held (S := fun u => Below w3.heap.size w3 u) 13 rfl (by kernel_rfl) (S0) ?_
    simp only [Array.replicate_succ, Array.replicate_zero, List.push_toArray, List.nil_append, List.cons_append]
    refine take_held 0 S0 rfl (by kernel_rfl) (by kernel_rfl) (by kernel_rfl) (fun _ _ _ h => h) (by kernel_rfl) (v := .pointer (some ⟨g, 0, none⟩)) ?y0 ?r0
    case y0 => (intro u hu; have zz := HGv.out u hu; go_simp; try rfl)
    simp only [Act.put, List.setIfInBounds_toArray, List.set_cons_zero, List.set_cons_succ]
    refine take_held 1 S0 rfl (by kernel_rfl) (by kernel_rfl) (by kernel_rfl) (fun _ _ _ h => h) (by kernel_rfl) (v := ?v1) ?y1 ?r1
    case y1 => (intro u hu; go_simp; try rfl)
    simp only [Act.put, List.setIfInBounds_toArray, List.set_cons_zero, List.set_cons_succ]
    refine take_held 2 S0 rfl (by kernel_rfl) (by kernel_rfl) (by kernel_rfl) (fun _ _ _ h => h) (by kernel_rfl) (v := .int .i64 c.height) ?y2 ?r2
    case y2 => (intro u hu; have zz := HC2.out u hu; go_simp; try rfl)
    simp only [Act.put, List.setIfInBounds_toArray, List.set_cons_zero, List.set_cons_succ]
    refine take_held 3 S0 rfl (by kernel_rfl) (by kernel_rfl) (by kernel_rfl) (fun _ _ _ h => h) (by kernel_rfl) (v := ?v3) ?y3 ?r3
    case y3 => (intro u hu; go_simp; try rfl)
    simp only [Act.put, List.setIfInBounds_toArray, List.set_cons_zero, List.set_cons_succ]
    refine take_held 4 S0 rfl (by kernel_rfl) (by kernel_rfl) (by kernel_rfl) (fun _ _ _ h => h) (by kernel_rfl) (v := .int .i64 c.W) ?y4 ?r4
    case y4 => (intro u hu; have zz := HC0.out u hu; go_simp; try rfl)
    simp only [Act.put, List.setIfInBounds_toArray, List.set_cons_zero, List.set_cons_succ]
    refine take_held 5 S0 rfl (by kernel_rfl) (by kernel_rfl) (by kernel_rfl) (fun _ _ _ h => h) (by kernel_rfl) (v := ?v5) ?y5 ?r5
    case y5 => (intro u hu; go_simp; try rfl)
    simp only [Act.put, List.setIfInBounds_toArray, List.set_cons_zero, List.set_cons_succ]
    refine take_held 6 S0 rfl (by kernel_rfl) (by kernel_rfl) (by kernel_rfl) (fun _ _ _ h => h) (by kernel_rfl) (v := .int .i64 c.H) ?y6 ?r6
    case y6 => (intro u hu; have zz := HC1.out u hu; go_simp; try rfl)
    simp only [Act.put, List.setIfInBounds_toArray, List.set_cons_zero, List.set_cons_succ]
    refine take_held 7 S0 rfl (by kernel_rfl) (by kernel_rfl) (by kernel_rfl) (fun _ _ _ h => h) (by kernel_rfl) (v := .int .i64 N) ?y7 ?r7
    case y7 => (intro u hu; have zz := HWH.out; go_simp; try rfl)
    simp only [Act.put, List.setIfInBounds_toArray, List.set_cons_zero, List.set_cons_succ]
    generalize w3.drew = x0 at *
    refine wpAnyH_ready (rs := [8, 11]) (by kernel_rfl) (by simp) (AllReadyH.cons ((nth_eq _ 8).trans rfl) ?_ (AllReadyH.cons ((nth_eq _ 11).trans rfl) ?_ AllReadyH.nil))
    · intro K' hK
      obtain ⟨x1, hx1⟩ : ∃ x, x = x0.alloc (.cells (List.replicate N (Value.slice none 0 0)).toArray 38) := ⟨_, rfl⟩
      have S1 : Below w3.heap.size w3 x1 := by rw [hx1]; exact S0.alloc S0.size _
      have p1 : x1.heap[x0.heap.size]? = some (.cells (List.replicate N (Value.slice none 0 0)).toArray 38 (0, 0)) := by rw [hx1]; exact heap_alloc_new _ _
      refine value_in hK (by kernel_rfl) (.slice (some ⟨x0.heap.size, 0, none⟩) N N) x1 (run_made_op 53 (.tmp 27) (.tmp 27) rfl _ rfl rfl ((HMk.out x0).trans (by rw [hx1]))) S1 ?_
      simp only [Act.put, List.setIfInBounds_toArray, List.set_cons_zero, List.set_cons_succ]
      refine take_held 9 S1 rfl (by kernel_rfl) (by kernel_rfl) (by kernel_rfl) (fun _ _ _ h => h) (by kernel_rfl) (v := .agg #[.pointer (some ⟨g, 0, none⟩), .int .i64 c.height, .slice (some ⟨x0.heap.size, 0, none⟩) N N]) ?y8 ?r8
      case y8 => (intro u hu; go_simp; try rfl)
      simp only [Act.put, List.setIfInBounds_toArray, List.set_cons_zero, List.set_cons_succ]
      refine wpAnyH_ready (rs := [10, 11]) (by kernel_rfl) (by simp) (AllReadyH.cons ((nth_eq _ 10).trans rfl) ?_ (AllReadyH.cons ((nth_eq _ 11).trans rfl) ?_ AllReadyH.nil))
      · intro K' hK
        obtain ⟨x2, hx2⟩ : ∃ x, x = x1.alloc (.cells #[.pointer (some ⟨g, 0, none⟩), .int .i64 c.height, .slice (some ⟨x0.heap.size, 0, none⟩) N N] 55) := ⟨_, rfl⟩
        have S2 : Below w3.heap.size w3 x2 := by rw [hx2]; exact S1.alloc S1.size _
        have y2 : x2.heap[x1.heap.size]? = some (.cells #[.pointer (some ⟨g, 0, none⟩), .int .i64 c.height, .slice (some ⟨x0.heap.size, 0, none⟩) N N] 55 (0, 0)) := by rw [hx2]; exact heap_alloc_new _ _
        refine value_in hK (by kernel_rfl) (.pointer (some ⟨x1.heap.size, 0, none⟩)) x2 (by rw [hx2]; go_simp; try rfl) S2 ?_
        simp only [Act.put, List.setIfInBounds_toArray, List.set_cons_zero, List.set_cons_succ]
        have p2 : x2.heap[x0.heap.size]? = some (.cells (List.replicate N (Value.slice none 0 0)).toArray 38 (0, 0)) := by rw [hx2]; exact (alloc_old _ _ _ (lt_of_heap p1)).trans p1
        refine wpAnyH_ready (rs := [11]) (by kernel_rfl) (by simp) (AllReadyH.cons ((nth_eq _ 11).trans rfl) ?_ AllReadyH.nil)
        intro K' hK
        obtain ⟨x3, hx3⟩ : ∃ x, x = x2.alloc (.cells #[.pointer none] 49) := ⟨_, rfl⟩
        have S3 : Below w3.heap.size w3 x3 := by rw [hx3]; exact S2.alloc S2.size _
        have a3 : x3.heap[x2.heap.size]? = some (.cells #[.pointer none] 49 (0, 0)) := by rw [hx3]; exact heap_alloc_new _ _
        refine value_in hK (by kernel_rfl) (.pointer (some ⟨x2.heap.size, 0, none⟩)) x3 (by rw [hx3]; go_simp; try rfl) S3 ?_
        simp only [Act.put, List.setIfInBounds_toArray, List.set_cons_zero, List.set_cons_succ]
        have p3 : x3.heap[x0.heap.size]? = some (.cells (List.replicate N (Value.slice none 0 0)).toArray 38 (0, 0)) := by rw [hx3]; exact (alloc_old _ _ _ (lt_of_heap p2)).trans p2
        have y3 : x3.heap[x1.heap.size]? = some (.cells #[.pointer (some ⟨g, 0, none⟩), .int .i64 c.height, .slice (some ⟨x0.heap.size, 0, none⟩) N N] 55 (0, 0)) := by rw [hx3]; exact (alloc_old _ _ _ (lt_of_heap y2)).trans y2
        have zc : x3.cell? ⟨x2.heap.size, 0, none⟩ = some (.pointer none) := (cell_of a3 0).trans rfl
        have zf : x3.frozen? ⟨x2.heap.size, 0, none⟩ = false := frozen_of a3 0
        have l0 := S0.size
        have e0 : x1.heap.size = x0.heap.size + 1 := by rw [hx1]; simp
        have e1 : x2.heap.size = x1.heap.size + 1 := by rw [hx2]; simp
        have S4 : Below w3.heap.size w3 (x3.setCell ⟨x2.heap.size, 0, none⟩ (.pointer (some ⟨x1.heap.size, 0, none⟩))) := below_set S3 (by omega) _ _
        refine store_held 12 rfl (by kernel_rfl) (by kernel_rfl) (x3.setCell ⟨x2.heap.size, 0, none⟩ (.pointer (some ⟨x1.heap.size, 0, none⟩))) (by go_simp; try rfl) S4 ?_
        simp only [Act.put, List.setIfInBounds_toArray, List.set_cons_zero, List.set_cons_succ]
        refine done_held (by kernel_rfl) ?_ _
        exact ⟨x1.heap.size, x0.heap.size, x2.heap.size, ⟨(heap_setCell_other _ _ _ _ (by simp; omega)).trans y3, (heap_setCell_other _ _ _ _ (by simp; omega)).trans p3, set_ptr a3, by omega, by omega, by omega, S4⟩, rfl⟩
      · intro K' hK
        obtain ⟨x2, hx2⟩ : ∃ x, x = x1.alloc (.cells #[.pointer none] 49) := ⟨_, rfl⟩
        have S2 : Below w3.heap.size w3 x2 := by rw [hx2]; exact S1.alloc S1.size _
        have a2 : x2.heap[x1.heap.size]? = some (.cells #[.pointer none] 49 (0, 0)) := by rw [hx2]; exact heap_alloc_new _ _
        refine value_in hK (by kernel_rfl) (.pointer (some ⟨x1.heap.size, 0, none⟩)) x2 (by rw [hx2]; go_simp; try rfl) S2 ?_
        simp only [Act.put, List.setIfInBounds_toArray, List.set_cons_zero, List.set_cons_succ]
        have p2 : x2.heap[x0.heap.size]? = some (.cells (List.replicate N (Value.slice none 0 0)).toArray 38 (0, 0)) := by rw [hx2]; exact (alloc_old _ _ _ (lt_of_heap p1)).trans p1
        refine wpAnyH_ready (rs := [10]) (by kernel_rfl) (by simp) (AllReadyH.cons ((nth_eq _ 10).trans rfl) ?_ AllReadyH.nil)
        intro K' hK
        obtain ⟨x3, hx3⟩ : ∃ x, x = x2.alloc (.cells #[.pointer (some ⟨g, 0, none⟩), .int .i64 c.height, .slice (some ⟨x0.heap.size, 0, none⟩) N N] 55) := ⟨_, rfl⟩
        have S3 : Below w3.heap.size w3 x3 := by rw [hx3]; exact S2.alloc S2.size _
        have y3 : x3.heap[x2.heap.size]? = some (.cells #[.pointer (some ⟨g, 0, none⟩), .int .i64 c.height, .slice (some ⟨x0.heap.size, 0, none⟩) N N] 55 (0, 0)) := by rw [hx3]; exact heap_alloc_new _ _
        refine value_in hK (by kernel_rfl) (.pointer (some ⟨x2.heap.size, 0, none⟩)) x3 (by rw [hx3]; go_simp; try rfl) S3 ?_
        simp only [Act.put, List.setIfInBounds_toArray, List.set_cons_zero, List.set_cons_succ]
        have p3 : x3.heap[x0.heap.size]? = some (.cells (List.replicate N (Value.slice none 0 0)).toArray 38 (0, 0)) := by rw [hx3]; exact (alloc_old _ _ _ (lt_of_heap p2)).trans p2
        have a3 : x3.heap[x1.heap.size]? = some (.cells #[.pointer none] 49 (0, 0)) := by rw [hx3]; exact (alloc_old _ _ _ (lt_of_heap a2)).trans a2
        have zc : x3.cell? ⟨x1.heap.size, 0, none⟩ = some (.pointer none) := (cell_of a3 0).trans rfl
        have zf : x3.frozen? ⟨x1.heap.size, 0, none⟩ = false := frozen_of a3 0
        have l0 := S0.size
        have e0 : x1.heap.size = x0.heap.size + 1 := by rw [hx1]; simp
        have e1 : x2.heap.size = x1.heap.size + 1 := by rw [hx2]; simp
        have S4 : Below w3.heap.size w3 (x3.setCell ⟨x1.heap.size, 0, none⟩ (.pointer (some ⟨x2.heap.size, 0, none⟩))) := below_set S3 (by omega) _ _
        refine store_held 12 rfl (by kernel_rfl) (by kernel_rfl) (x3.setCell ⟨x1.heap.size, 0, none⟩ (.pointer (some ⟨x2.heap.size, 0, none⟩))) (by go_simp; try rfl) S4 ?_
        simp only [Act.put, List.setIfInBounds_toArray, List.set_cons_zero, List.set_cons_succ]
        refine done_held (by kernel_rfl) ?_ _
        exact ⟨x2.heap.size, x0.heap.size, x1.heap.size, ⟨(heap_setCell_other _ _ _ _ (by simp; omega)).trans y3, (heap_setCell_other _ _ _ _ (by simp; omega)).trans p3, set_ptr a3, by omega, by omega, by omega, S4⟩, rfl⟩
    · intro K' hK
      obtain ⟨x1, hx1⟩ : ∃ x, x = x0.alloc (.cells #[.pointer none] 49) := ⟨_, rfl⟩
      have S1 : Below w3.heap.size w3 x1 := by rw [hx1]; exact S0.alloc S0.size _
      have a1 : x1.heap[x0.heap.size]? = some (.cells #[.pointer none] 49 (0, 0)) := by rw [hx1]; exact heap_alloc_new _ _
      refine value_in hK (by kernel_rfl) (.pointer (some ⟨x0.heap.size, 0, none⟩)) x1 (by rw [hx1]; go_simp; try rfl) S1 ?_
      simp only [Act.put, List.setIfInBounds_toArray, List.set_cons_zero, List.set_cons_succ]
      refine wpAnyH_ready (rs := [8]) (by kernel_rfl) (by simp) (AllReadyH.cons ((nth_eq _ 8).trans rfl) ?_ AllReadyH.nil)
      intro K' hK
      obtain ⟨x2, hx2⟩ : ∃ x, x = x1.alloc (.cells (List.replicate N (Value.slice none 0 0)).toArray 38) := ⟨_, rfl⟩
      have S2 : Below w3.heap.size w3 x2 := by rw [hx2]; exact S1.alloc S1.size _
      have p2 : x2.heap[x1.heap.size]? = some (.cells (List.replicate N (Value.slice none 0 0)).toArray 38 (0, 0)) := by rw [hx2]; exact heap_alloc_new _ _
      refine value_in hK (by kernel_rfl) (.slice (some ⟨x1.heap.size, 0, none⟩) N N) x2 (run_made_op 53 (.tmp 27) (.tmp 27) rfl _ rfl rfl ((HMk.out x1).trans (by rw [hx2]))) S2 ?_
      simp only [Act.put, List.setIfInBounds_toArray, List.set_cons_zero, List.set_cons_succ]
      have a2 : x2.heap[x0.heap.size]? = some (.cells #[.pointer none] 49 (0, 0)) := by rw [hx2]; exact (alloc_old _ _ _ (lt_of_heap a1)).trans a1
      refine take_held 9 S2 rfl (by kernel_rfl) (by kernel_rfl) (by kernel_rfl) (fun _ _ _ h => h) (by kernel_rfl) (v := .agg #[.pointer (some ⟨g, 0, none⟩), .int .i64 c.height, .slice (some ⟨x1.heap.size, 0, none⟩) N N]) ?y9 ?r9
      case y9 => (intro u hu; go_simp; try rfl)
      simp only [Act.put, List.setIfInBounds_toArray, List.set_cons_zero, List.set_cons_succ]
      refine wpAnyH_ready (rs := [10]) (by kernel_rfl) (by simp) (AllReadyH.cons ((nth_eq _ 10).trans rfl) ?_ AllReadyH.nil)
      intro K' hK
      obtain ⟨x3, hx3⟩ : ∃ x, x = x2.alloc (.cells #[.pointer (some ⟨g, 0, none⟩), .int .i64 c.height, .slice (some ⟨x1.heap.size, 0, none⟩) N N] 55) := ⟨_, rfl⟩
      have S3 : Below w3.heap.size w3 x3 := by rw [hx3]; exact S2.alloc S2.size _
      have y3 : x3.heap[x2.heap.size]? = some (.cells #[.pointer (some ⟨g, 0, none⟩), .int .i64 c.height, .slice (some ⟨x1.heap.size, 0, none⟩) N N] 55 (0, 0)) := by rw [hx3]; exact heap_alloc_new _ _
      refine value_in hK (by kernel_rfl) (.pointer (some ⟨x2.heap.size, 0, none⟩)) x3 (by rw [hx3]; go_simp; try rfl) S3 ?_
      simp only [Act.put, List.setIfInBounds_toArray, List.set_cons_zero, List.set_cons_succ]
      have p3 : x3.heap[x1.heap.size]? = some (.cells (List.replicate N (Value.slice none 0 0)).toArray 38 (0, 0)) := by rw [hx3]; exact (alloc_old _ _ _ (lt_of_heap p2)).trans p2
      have a3 : x3.heap[x0.heap.size]? = some (.cells #[.pointer none] 49 (0, 0)) := by rw [hx3]; exact (alloc_old _ _ _ (lt_of_heap a2)).trans a2
      have zc : x3.cell? ⟨x0.heap.size, 0, none⟩ = some (.pointer none) := (cell_of a3 0).trans rfl
      have zf : x3.frozen? ⟨x0.heap.size, 0, none⟩ = false := frozen_of a3 0
      have l0 := S0.size
      have e0 : x1.heap.size = x0.heap.size + 1 := by rw [hx1]; simp
      have e1 : x2.heap.size = x1.heap.size + 1 := by rw [hx2]; simp
      have S4 : Below w3.heap.size w3 (x3.setCell ⟨x0.heap.size, 0, none⟩ (.pointer (some ⟨x2.heap.size, 0, none⟩))) := below_set S3 (by omega) _ _
      refine store_held 12 rfl (by kernel_rfl) (by kernel_rfl) (x3.setCell ⟨x0.heap.size, 0, none⟩ (.pointer (some ⟨x2.heap.size, 0, none⟩))) (by go_simp; try rfl) S4 ?_
      simp only [Act.put, List.setIfInBounds_toArray, List.set_cons_zero, List.set_cons_succ]
      refine done_held (by kernel_rfl) ?_ _
      exact ⟨x2.heap.size, x1.heap.size, x0.heap.size, ⟨(heap_setCell_other _ _ _ _ (by simp; omega)).trans y3, (heap_setCell_other _ _ _ _ (by simp; omega)).trans p3, set_ptr a3, by omega, by omega, by omega, S4⟩, rfl⟩
  case rest =>
    clear HGv HC0 HC1 HC2 HMk S0
    rintro _ w4 ⟨yb, pb, vb, HYd, rfl⟩
    dsimp only
    have HWb : Hid (Below w.heap.size w w4) := bcat (bcat (bcat HB1.out HB.out.1 (Nat.le_refl _)) HB.out.2 (Nat.le_refl _)) HYd.below (Nat.le_refl _)
    gi_wp2_with (refine ⟨trivial, ?_⟩; gi_at_call 36; refine (callsIn_wide.2 (backward_any sa sn sc w4)).mono ?_; rintro e w5 ⟨rfl, hbs, b5⟩)
    obtain ⟨p, css, hp0, hp1, hln, hcss⟩ := stk_rows hS
    have bW : Below w.heap.size w w5 := bcat HWb.out b5 (Nat.le_refl _)
    have b35 : Below w3.heap.size w3 w5 := bcat HYd.below b5 (Nat.le_refl _)
    have yd5 := (b5.block _ (lt_of_heap HYd.yd)).trans HYd.yd
    have vv5 := (b5.block _ (lt_of_heap HYd.vv)).trans HYd.vv
    have row5 := (b5.block _ (lt_of_heap HYd.row)).trans HYd.row
    have gv5 := (b35.block _ (lt_of_heap HGg.out)).trans HGg.out
    have hG3 := HG.out.go HB.out.2
    have hG5 := hG3.go b35
    have lg3 := hG3.ltg
    have lu3 := hG3.ltu
    have ly := HYd.ly
    have lp := HYd.lp
    have lv := HYd.lv
    have ll5 := lt_of_heap row5
    have lb5 := lt_of_heap hbs
    have s35 := b35.size
    have lp5 : p.block < w5.heap.size := by
      rcases hp0 with e | e
      · omega
      · have := hFs _ e; have := bW.size; omega
    have npb : p.block ≠ pb := by
      rcases hp0 with e | e
      · intro q; have := lt_of_heap HGg.out; have := HB.out.1.size; omega
      · have := hFs _ e; have := HB1.out.size; have := HB.out.1.size; omega
    have hvy : vb ≠ pb := fun e => by rw [e, row5] at vv5; injection vv5 with q; injection q with _ q2; exact absurd q2 (by decide)
    have hyy : yb ≠ pb := fun e => by rw [e, row5] at yd5; injection yd5 with q; injection q with _ q2; exact absurd q2 (by decide)
    have hbp : w4.heap.size ≠ pb := by have := lt_of_heap HYd.row; omega
    have hBk : BkAt w5 w4.heap.size sa p sn sc css := ⟨hbs, fun q => (hp1 q).1, fun i hi j z hj => by
      have hi2 : i < stks.length := by omega
      exact (cell_same (by rw [block_add, block_add]; exact bW.block _ (hFs _ (hp1 (by omega)).2))).trans ((hcss i hi2).2.2.1 j z hj)⟩
    refine wpIn_rangeFunc_ownH rfl (by omega) (gf := 55) (lb := #[.pointer (some ⟨w4.heap.size, 0, none⟩)]) rfl trivial (enters_of Try.func55 (by kernel_rfl) rfl)
      (back_stops 8 (by omega) w4.heap.size sa p sn sc css hsn w5 hBk (fun _ => lp5)) K2.trans ?kb (Below.refl _ _) (fun _ => rfl)
      (fun pre V' => NyI w5 pb N c.W c.H pre V') (fun _ _ _ => False)
      (nyi_own ll5) (fun _ _ _ _ _ hs _ _ => hs)
      ⟨by rw [← row_first]; exact row5, Fx.refl _ _⟩
      (fun x a' V => ∃ Bx, V.heap[Bx]? = some (.cells #[.int .i64 x.2.1.1, .int .i64 x.2.1.2, .slice x.2.2.1 x.2.2.2.1 x.2.2.2.2] 45 (0, 0)) ∧ a' = { tmps := #[.agg #[.int .i64 c.W, .int .i64 c.H, .int .i64 c.height, v1, v2, v3, v4, .int .i64 c.unit, .int .i64 c.accel, .int .i64 c.speed, .int .i64 c.turn, .int .i64 c.hoist, .int .i64 c.queue, .int .i64 c.resend, .int .i64 c.budget, .bool c.back], .slice sa sn sc, .pointer (some ⟨w.heap.size, 0, none⟩), undef, .pointer none, .int .i64 0, .pointer (some ⟨w2.heap.size, 0, none⟩), .int .i64 0, .pointer (some ⟨vb, 0, none⟩), undef, .pointer (some ⟨Bx, 0, none⟩), undef, .tuple #[.pointer (some ⟨g, 0, none⟩), .int .i64 0], .agg #[.int .i64 c.W, .int .i64 c.H, .int .i64 c.height, v1, v2, v3, v4, .int .i64 c.unit, .int .i64 c.accel, .int .i64 c.speed, .int .i64 c.turn, .int .i64 c.hoist, .int .i64 c.queue, .int .i64 c.resend, .int .i64 c.budget, .bool c.back], .tuple #[.pointer (some ⟨g, 0, none⟩), .int .i64 0], .pointer (some ⟨g, 0, none⟩), .int .i64 0, .int .i64 0, .bool false, undef, .pointer (some ⟨g, 0, none⟩), .pointer (some ⟨w.heap.size, 2, none⟩), .int .i64 c.height, .pointer (some ⟨w.heap.size, 0, none⟩), .int .i64 c.W, .pointer (some ⟨w.heap.size, 1, none⟩), .int .i64 c.H, .int .i64 N, .slice (some ⟨pb, 0, none⟩) N N, .agg #[.pointer (some ⟨g, 0, none⟩), .int .i64 c.height, .slice (some ⟨pb, 0, none⟩) N N], .pointer (some ⟨yb, 0, none⟩), .slice sa sn sc, .func (.func 55) #[] #[.pointer (some ⟨w4.heap.size, 0, none⟩)], .int .i64 x.1, .agg #[.int .i64 x.2.1.1, .int .i64 x.2.1.2, .slice x.2.2.1 x.2.2.2.1 x.2.2.2.2], undef, undef, undef, undef, undef, undef, undef, undef, undef, undef, undef, undef, undef, undef, undef], defers := [] })
      ?ax ?assign ?body ?done ?stop
    case kb =>
      intro W' l o o' hl ho _ _
      have hg := grownBy_putObj' W' l o'
      have lw := lt_of_heap ho
      exact ⟨hg.block _ (by omega) (fun e => by cases e; omega), hg.block _ (by omega) (fun e => by cases e; omega)⟩
    case ax =>
      rintro x a' _ X Y row ⟨Bx, h1, h2⟩ hg hr
      exact ⟨Bx, cells_kept h1 hg (fun r e => (hr r e).2), h2⟩
    case assign =>
      rintro l pre x V K hI hK
      simp only [enc, stkV]
      gi_wp2
      have hsz := hI.fx.size
      refine hK _ _ ((KeepsOthers.alloc _ _).from _) ⟨Below.heap_alloc _ _ _ (by omega), Below.heap_alloc _ _ _ (by omega)⟩ ?_ ⟨V.heap.size, World.alloc_heap_new _ _, rfl⟩
      exact ⟨(Below.heap_alloc _ _ _ (lt_of_heap hI.row)).trans hI.row, hI.fx.trans (Fx.below ((Below.refl _ _).alloc (Nat.le_refl _) _))⟩
    case stop =>
      rintro D x pre V' _ _ h _
      exact h.elim
    case done =>
      rintro D ys V' hD rfl hI hKD
      have hv9 : V'.heap[vb]? = some (.cells #[.pointer (some ⟨yb, 0, none⟩)] 49 (0, 0)) := (hI.fx.block _ (lt_of_heap vv5) hvy).trans vv5
      have hc9 := (cell_of hv9 0).trans rfl
      gi_wp2
      refine ⟨by simp, .inl ⟨_, _, rfl, run_takeDeferred hKD, ?_⟩⟩
      have gz := grownBy_putObj' V' D (.deferred none)
      have fz : Fx pb w5 (V'.putObj D (.deferred none)) := fx_grown hI.fx gz (fun r e => by cases e; exact hD)
      have bz : Below w.heap.size w (V'.putObj D (.deferred none)) := ⟨fz.os.trans bW.os, fz.tape.trans bW.tape, fz.output.trans bW.output, Nat.le_trans bW.size fz.size, fun k hk => (fz.block k (by have := bW.size; omega) (by have := HB1.out.size; have := HB.out.1.size; omega)).trans (bW.block k hk)⟩
      have sz9 := hI.fx.size
      have hNw := HNn.out
      have hGw := hG5.w1
      have hGl := hG5.len
      refine ⟨_, results_tmp2 rfl _ _ _, yb, pb, g, u, vp, rfl, ?_, ?_, bz⟩
      · refine ⟨hG5.same (fz.block _ (by omega) (by omega)) (fz.block _ (by omega) (by omega)), ?_, ⟨(List.range N).map (valAt c.W c.H (down css sn 0)), by rw [hNw]; simp, (gz.block _ (by omega) (fun e => by cases e; omega)).trans hI.row, fun i v hv => ?_, fun i v hv => ?_⟩, fun b hb => Nat.lt_of_lt_of_le (hFs b hb) bz.size⟩
        · rw [hNw]
          exact (fz.block _ (lt_of_heap yd5) hyy).trans yd5
        · rw [List.getElem?_map] at hv
          by_cases hi : i < N
          · rw [List.getElem?_range hi] at hv
            simp only [Option.map_some, Option.some.injEq] at hv
            have q := val_pile (W := c.W) (H := c.H) (by omega) (fun i h => ⟨(hcss i h).1, (hcss i h).2.1⟩) (i := i) (by rw [hNw] at hGl; omega) stks.length 0 (by omega)
            rw [hln, List.drop_zero, hv] at q
            exact q.go heldInt hFs bz
          · rw [List.getElem?_eq_none (by simp; omega)] at hv
            cases hv
        · rw [List.getElem?_map] at hv
          by_cases hi : i < N
          · rw [List.getElem?_range hi] at hv
            simp only [Option.map_some, Option.some.injEq] at hv
            rw [← hv]
            exact val_ok (fun i h => (hcss i (by omega)).2.2.2) sn 0 (by omega)
          · rw [List.getElem?_eq_none (by simp; omega)] at hv
            cases hv
      · have s23 := HB.out.2.size
        refine own_lower (owns_same HOw.out fun k hk => ?_) HB1.out.size
        have hk2 := (HOw.out.lt k hk).2
        exact (fz.block k (by omega) (by omega)).trans ((b35.block k (by omega)).trans (HB.out.2.block k hk2))
    case body =>
      rintro l pre x a' V' hl ⟨r, hr⟩ hI ⟨Bx, hBx, rfl⟩ hlt
      dsimp only
      have hsz := hI.fx.size
      have gv9 : V'.heap[w2.heap.size]? = some (.cells #[.pointer (some ⟨g, 0, none⟩)] 52 (0, 0)) := (hI.fx.block _ (lt_of_heap gv5) (by omega)).trans gv5
      have gc9 : V'.cell? ⟨w2.heap.size, 0, none⟩ = some (.pointer (some ⟨g, 0, none⟩)) := (cell_of gv9 0).trans rfl
      have hG9 : GridAt V' g u c.W c.H G.uses vp := hG5.same (hI.fx.block _ (by omega) (by omega)) (hI.fx.block _ (by omega) (by omega))
      have cNu := number_any g u c.W c.H G.uses vp x.2.1.1 x.2.1.2 V' hG9
      have hx9 : ∀ j z, #[Value.int .i64 x.2.1.1, .int .i64 x.2.1.2][j]? = some z → V'.cell? ((⟨Bx, 0, none⟩ : Addr).add j) = some z := fun j z hj => row_below hBx (Below.refl V'.heap.size V') j z (by
        match j, hj with
        | 0, h => exact h
        | 1, h => exact h
        | k + 2, h => simp at h)
      have HI : Hid (NyI w5 pb N c.W c.H pre V') := hI
      have lbx := lt_of_heap hBx
      have nbx : Bx ≠ pb := fun e => by rw [e, hI.row] at hBx; injection hBx with q; injection q with _ q2; exact absurd q2 (by decide)
      have HBx : Hid (V'.heap[Bx]? = some (.cells #[.int .i64 x.2.1.1, .int .i64 x.2.1.2, .slice x.2.2.1 x.2.2.2.1 x.2.2.2.2] 45 (0, 0))) := hBx
      have yd9 := (hI.fx.block _ (lt_of_heap yd5) hyy).trans yd5
      have vv9 := (hI.fx.block _ (lt_of_heap vv5) hvy).trans vv5
      have HY9 : Hid (V'.heap[yb]? = some (.cells #[.pointer (some ⟨g, 0, none⟩), .int .i64 c.height, .slice (some ⟨pb, 0, none⟩) N N] 55 (0, 0)) ∧ V'.heap[vb]? = some (.cells #[.pointer (some ⟨yb, 0, none⟩)] 49 (0, 0))) := ⟨yd9, vv9⟩
      obtain ⟨nm, hnm⟩ : ∃ nm, number c.W c.H (x.2.1.1, x.2.1.2) = nm := ⟨_, rfl⟩
      have HNm : Hid (number c.W c.H x.2.1 = nm) := hnm
      have hGl := hG9.len
      rw [HNn.out] at hGl
      have hnb : 0 ≤ nm → nm < (N : Int) := fun q => by have := number_bd (W := c.W) (H := c.H) (x := x.2.1) (by rw [HNm.out]; exact q); rw [HNm.out] at this; omega
      rw [hnm] at cNu
      clear hnm hG9 gv9 hI hBx hBk hcss hp0 hp1 yd9 vv9 hGl yd5 vv5 row5 gv5 hG5 hG3 hbs
      by_cases h0 : 0 ≤ nm
      · obtain ⟨j, rfl⟩ : ∃ j : Nat, nm = (j : Int) := ⟨nm.toNat, by omega⟩
        have hjN := hnb h0
        clear hnb
        gi_wp2_with (first
          | (refine wpListIn_loadCell rfl (.tmp 36) rfl ⟨Bx, 0, none⟩ x.2.1 rfl hx9 ?_)
          | (refine ⟨trivial, ?_⟩; gi_at_call 37; refine (CallsIn.inRound l (callsIn_wide.2 cNu)).mono ?_; rintro e V1 ⟨rfl, b1⟩))
        have q1 := (b1.block _ (lt_of_heap HY9.out.1)).trans HY9.out.1
        have q2 := (b1.block _ (lt_of_heap HY9.out.2)).trans HY9.out.2
        have q3 := (b1.block _ (lt_of_heap HBx.out)).trans HBx.out
        have q4 := (b1.block _ (lt_of_heap HI.out.row)).trans HI.out.row
        have HVv : Hid (∀ u : World, (u.heap[vb]? = V1.heap[vb]? ∧ u.heap[yb]? = V1.heap[yb]? ∧ u.heap[Bx]? = V1.heap[Bx]?) → u.cell? ⟨vb, 0, none⟩ = some (.pointer (some ⟨yb, 0, none⟩))) := fun u hu => (cell_of (hu.1.trans q2) 0).trans rfl
        have HYv : Hid (∀ u : World, (u.heap[vb]? = V1.heap[vb]? ∧ u.heap[yb]? = V1.heap[yb]? ∧ u.heap[Bx]? = V1.heap[Bx]?) → u.cell? ⟨yb, 2, none⟩ = some (.slice (some ⟨pb, 0, none⟩) N N)) := fun u hu => (cell_of (hu.2.1.trans q1) 2).trans rfl
        have HXv : Hid (∀ u : World, (u.heap[vb]? = V1.heap[vb]? ∧ u.heap[yb]? = V1.heap[yb]? ∧ u.heap[Bx]? = V1.heap[Bx]?) → u.cell? ⟨Bx, 2, none⟩ = some (.slice x.2.2.1 x.2.2.2.1 x.2.2.2.2)) := fun u hu => (cell_of (hu.2.2.trans q3) 2).trans rfl
        have HJ : Hid ((j : Int) < (N : Int)) := hjN
        have hjn : j < N := by omega
        have HQ4 : Hid (V1.drew.heap[pb]? = some (.cells ((List.range N).map (valAt c.W c.H pre)).toArray 38 (0, 0))) := q4
        clear q1 q2 q3
        refine wpIn_via (fun _ V2 => V2 = V1.drew.setCell ⟨pb, j, none⟩ (.slice x.2.2.1 x.2.2.2.1 x.2.2.2.2)) ?reg9 ?rest9
        case reg9 =>
          refine start_round (S := fun u => u.heap[vb]? = V1.heap[vb]? ∧ u.heap[yb]? = V1.heap[yb]? ∧ u.heap[Bx]? = V1.heap[Bx]?) 9 rfl (by kernel_rfl) (by kernel_rfl) (onlyN_out _) ⟨rfl, rfl, rfl⟩ ?_
          simp only [Array.replicate_succ, Array.replicate_zero, List.push_toArray, List.nil_append, List.cons_append]
          have S0 : V1.drew.heap[vb]? = V1.heap[vb]? ∧ V1.drew.heap[yb]? = V1.heap[yb]? ∧ V1.drew.heap[Bx]? = V1.heap[Bx]? := ⟨rfl, rfl, rfl⟩
          refine take_held 0 S0 rfl (by kernel_rfl) (by kernel_rfl) (by kernel_rfl) (fun _ _ _ h => h) (by kernel_rfl) (v := .pointer (some ⟨yb, 0, none⟩)) ?y10 ?r10
          case y10 => (intro u hu; have zz := HVv.out u hu; go_simp; try rfl)
          simp only [Act.put, List.setIfInBounds_toArray, List.set_cons_zero, List.set_cons_succ]
          refine take_held 1 S0 rfl (by kernel_rfl) (by kernel_rfl) (by kernel_rfl) (fun _ _ _ h => h) (by kernel_rfl) (v := ?v11) ?y11 ?r11
          case y11 => (intro u hu; go_simp; try rfl)
          simp only [Act.put, List.setIfInBounds_toArray, List.set_cons_zero, List.set_cons_succ]
          refine take_held 2 S0 rfl (by kernel_rfl) (by kernel_rfl) (by kernel_rfl) (fun _ _ _ h => h) (by kernel_rfl) (v := ?v12) ?y12 ?r12
          case y12 => (intro u hu; go_simp; try rfl)
          simp only [Act.put, List.setIfInBounds_toArray, List.set_cons_zero, List.set_cons_succ]
          refine take_held 3 S0 rfl (by kernel_rfl) (by kernel_rfl) (by kernel_rfl) (fun _ _ _ h => h) (by kernel_rfl) (v := .slice (some ⟨pb, 0, none⟩) N N) ?y13 ?r13
          case y13 => (intro u hu; have zz := HYv.out u hu; go_simp; try rfl)
          simp only [Act.put, List.setIfInBounds_toArray, List.set_cons_zero, List.set_cons_succ]
          refine take_held 4 S0 rfl (by kernel_rfl) (by kernel_rfl) (by kernel_rfl) (fun _ _ _ h => h) (by kernel_rfl) (v := ?v14) ?y14 ?r14
          case y14 => (intro u hu; go_simp; try rfl)
          simp only [Act.put, List.setIfInBounds_toArray, List.set_cons_zero, List.set_cons_succ]
          refine take_held 5 S0 rfl (by kernel_rfl) (by kernel_rfl) (by kernel_rfl) (fun _ _ _ h => h) (by kernel_rfl) (v := ?v15) ?y15 ?r15
          case y15 => (intro u hu; go_simp; try rfl)
          simp only [Act.put, List.setIfInBounds_toArray, List.set_cons_zero, List.set_cons_succ]
          refine take_held 6 S0 rfl (by kernel_rfl) (by kernel_rfl) (by kernel_rfl) (fun _ _ _ h => h) (by kernel_rfl) (v := .slice x.2.2.1 x.2.2.2.1 x.2.2.2.2) ?y16 ?r16
          case y16 => (intro u hu; have zz := HXv.out u hu; go_simp; try rfl)
          simp only [Act.put, List.setIfInBounds_toArray, List.set_cons_zero, List.set_cons_succ]
          refine take_held 7 S0 rfl (by kernel_rfl) (by kernel_rfl) (by kernel_rfl) (fun _ _ _ h => h) (by kernel_rfl) (v := .pointer (some ⟨pb, j, none⟩)) ?y17 ?r17
          case y17 => (intro u hu; have z1 := HJ.out; have z2 : (0 : Int) ≤ (j : Int) := (by omega); go_simp; try rfl)
          simp only [Act.put, List.setIfInBounds_toArray, List.set_cons_zero, List.set_cons_succ]
          have zc : V1.drew.cell? ⟨pb, j, none⟩ = some (valAt c.W c.H pre j) := by rw [cell_of HQ4.out j]; simp [hjn]
          have zf : V1.drew.frozen? ⟨pb, j, none⟩ = false := frozen_of HQ4.out j
          refine store_held 8 rfl (by kernel_rfl) (by kernel_rfl) (V1.drew.setCell ⟨pb, j, none⟩ (.slice x.2.2.1 x.2.2.2.1 x.2.2.2.2)) (by go_simp; try rfl) ⟨heap_setCell_other _ _ _ _ (by simp; omega), heap_setCell_other _ _ _ _ (by simp; omega), heap_setCell_other _ _ _ _ (by simp; omega)⟩ ?_
          simp only [Act.put, List.setIfInBounds_toArray, List.set_cons_zero, List.set_cons_succ]
          exact done_held (by kernel_rfl) rfl _
        case rest9 =>
          rintro _ V2 rfl
          have b1d : Below V'.heap.size V' V1.drew := b1.drew
          have hf : Fx pb V' (V1.drew.setCell ⟨pb, j, none⟩ (.slice x.2.2.1 x.2.2.2.1 x.2.2.2.2)) := (Fx.below b1d).trans ⟨rfl, rfl, rfl, by simp, fun k _ hk => heap_setCell_other _ _ _ _ (by simpa using hk)⟩
          refine ⟨((keeps_below b1d).trans (KeepsOthers.setCell _ _ _)).from _, ⟨hf.block _ (by omega) hbp, hf.block _ (by omega) npb⟩, ?_, HI.out.fx.trans hf⟩
          rw [← row_next hjn HNm.out]
          exact heap_setCell_same _ _ _ _ _ _ HQ4.out
      · have hn0 : nm < 0 := by omega
        gi_wp2_with (first
          | (refine wpListIn_loadCell rfl (.tmp 36) rfl ⟨Bx, 0, none⟩ x.2.1 rfl hx9 ?_)
          | (refine ⟨trivial, ?_⟩; gi_at_call 37; refine (CallsIn.inRound l (callsIn_wide.2 cNu)).mono ?_; rintro e V1 ⟨rfl, b1⟩))
        refine ⟨(keeps_below b1).from _, ⟨b1.block _ (by omega), b1.block _ (by omega)⟩, ?_, HI.out.fx.trans (Fx.below b1)⟩
        rw [← row_same (by rw [HNm.out]; exact hn0)]
        exact (b1.block _ (lt_of_heap HI.out.row)).trans HI.out.row
end Go.Proofs.Ytebfjldbhmmmlaa.Dig
