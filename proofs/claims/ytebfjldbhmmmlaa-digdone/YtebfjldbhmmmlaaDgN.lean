/-
  What the laws over a config share: a copy of it, its grid, whether it may be.
  A yard in memory: a grid, how high stacks may be, each cell's bins by its number.
-/
import Derived.Test.YtebfjldbhmmmlaaGridRef10
import Derived.Test.YtebfjldbhmmmlaaDgJ
import Derived.Test.YtebfjldbhmmmlaaGridRef3
import Derived.Test.YtebfjldbhmmmlaaDgL
namespace Go.Proofs.Ytebfjldbhmmmlaa.Grid
set_option linter.unusedVariables false
set_option linter.unusedSimpArgs false
open Go Go.RowKit Go.Shelf Go.Proofs
attribute [local go_sem] Oper.semAt_some

section
variable {F : Nat → Prop} {c : Conf} {v1 v2 v3 v4 : Value} {w : World} (hA : ConfAt F c v1 v2 v3 v4 w) (hF : ∀ b, F b → b < w.heap.size) (l1 : c.blocked.length ≤ 8796093022208) (l2 : c.ports.length ≤ 8796093022208) (l3 : c.robots.length ≤ 5864062014805) (l4 : c.stacks.length ≤ 3518437208880)
include hA hF l1 l2 l3 l4
theorem new_no (h : newP c = none) : Calls Try.prog 35 #[.agg #[.int .i64 c.W, .int .i64 c.H, .int .i64 c.height, v1, v2, v3, v4, .int .i64 c.unit, .int .i64 c.accel, .int .i64 c.speed, .int .i64 c.turn, .int .i64 c.hoist, .int .i64 c.queue, .int .i64 c.resend, .int .i64 c.budget, .bool c.back]] w fun e w' => e = .returned (.tuple #[.pointer none, .int .i64 5]) ∧ Below w.heap.size w w' :=
  (new_any F #[.int .i64 c.W, .int .i64 c.H, .int .i64 c.height, v1, v2, v3, v4, .int .i64 c.unit, .int .i64 c.accel, .int .i64 c.speed, .int .i64 c.turn, .int .i64 c.hoist, .int .i64 c.queue, .int .i64 c.resend, .int .i64 c.budget, .bool c.back] c v1 v2 v3 v4 w (cells_conf _ _ _ _ _) hA hF (by omega) (by omega) (by omega) (by omega)).mono fun e w' q => by
    rcases q with ⟨b, ⟨G, g, u, v', q1, _⟩ | ⟨_, q2⟩⟩
    · rw [h] at q1; cases q1
    · exact ⟨q2, b⟩
theorem new_yes {G : GS} (h : newP c = some G) : Calls Try.prog 35 #[.agg #[.int .i64 c.W, .int .i64 c.H, .int .i64 c.height, v1, v2, v3, v4, .int .i64 c.unit, .int .i64 c.accel, .int .i64 c.speed, .int .i64 c.turn, .int .i64 c.hoist, .int .i64 c.queue, .int .i64 c.resend, .int .i64 c.budget, .bool c.back]] w fun e w' => ∃ g u v', e = .returned (.tuple #[.pointer (some ⟨g, 0, none⟩), .int .i64 0]) ∧ GridAt w' g u c.W c.H G.uses v' ∧ w.heap.size ≤ g ∧ w.heap.size ≤ u ∧ w'.ownsRow w.heap.size 30 2 v' c.ports.length (rowL cellL c.ports) ∧ Below w.heap.size w w' :=
  (new_any F #[.int .i64 c.W, .int .i64 c.H, .int .i64 c.height, v1, v2, v3, v4, .int .i64 c.unit, .int .i64 c.accel, .int .i64 c.speed, .int .i64 c.turn, .int .i64 c.hoist, .int .i64 c.queue, .int .i64 c.resend, .int .i64 c.budget, .bool c.back] c v1 v2 v3 v4 w (cells_conf _ _ _ _ _) hA hF (by omega) (by omega) (by omega) (by omega)).mono fun e w' q => by
    rcases q with ⟨b, ⟨G', g, u, v', q1, q2, q3, q4, q5, q6⟩ | ⟨q1, _⟩⟩
    · rw [h] at q1; cases q1; exact ⟨g, u, v', q2, q3, q4, q5, q6, b⟩
    · rw [h] at q1; cases q1
theorem mayR_call (l5 : ∀ s ∈ c.stacks, s.2.length ≤ 17592186044416) : Calls Try.prog 14 #[.agg #[.int .i64 c.W, .int .i64 c.H, .int .i64 c.height, v1, v2, v3, v4, .int .i64 c.unit, .int .i64 c.accel, .int .i64 c.speed, .int .i64 c.turn, .int .i64 c.hoist, .int .i64 c.queue, .int .i64 c.resend, .int .i64 c.budget, .bool c.back]] w fun e w' => ∃ r, e = .returned r ∧ r = .bool (newP c).isSome ∧ Below w.heap.size w w' :=
  mayR_any F c v1 v2 v3 v4 w hA hF (by omega) (by omega) (by omega) l4 l5
end
theorem ret_of {f : FuncId} {args : Array Value} {w : World} {val : Value} (h : Calls Try.prog f args w fun e w' => e = .returned val ∧ Below w.heap.size w w') : Calls Try.prog f args w fun e w' => ∃ v, e = .returned v ∧ v = val ∧ Below w.heap.size w w' := h.mono fun e w' ⟨h, b⟩ => ⟨_, h, rfl, b⟩
theorem since_lt {W : World} {n : Nat} : ∀ b, Since n W b → b < W.heap.size := fun b h => h.2
end Go.Proofs.Ytebfjldbhmmmlaa.Grid
namespace Go.Proofs.Ytebfjldbhmmmlaa.Dig
set_option linter.unusedVariables false
set_option linter.unusedSimpArgs false
open Go Go.RowKit Go.Shelf Go.Proofs Go.Proofs.Ytebfjldbhmmmlaa.Grid
attribute [local go_sem] Oper.semAt_some

/- The bins of a cell: of two stacks for one cell the first counts. -/
def pileOf (stks : List Stk) (x : Cell) : List Int := match stks.find? (fun s => decide (s.1 = x)) with
  | some s => s.2
  | none => []
theorem pile_nil (x : Cell) : pileOf [] x = [] := rfl
theorem pile_cons (s : Stk) (stks : List Stk) (x : Cell) : pileOf (s :: stks) x = if s.1 = x then s.2 else pileOf stks x := by
  unfold pileOf
  rw [List.find?_cons]
  by_cases h : s.1 = x
  · rw [if_pos h, decide_eq_true h]
  · rw [if_neg h, decide_eq_false h]
/- A slice has room for what it holds. -/
def SlOk : Value → Prop
  | .slice _ n cap => n ≤ cap
  | _ => False
structure YardAt (w : World) (yb pb g u : Nat) (W H height : Int) (us : List Int) (vp : Value) (F : Nat → Prop) (stks : List Stk) : Prop where
  grid : GridAt w g u W H us vp
  hd : w.heap[yb]? = some (.cells #[.pointer (some ⟨g, 0, none⟩), .int .i64 height, .slice (some ⟨pb, 0, none⟩) us.length us.length] 55 (0, 0))
  row : ∃ vs : List Value, vs.length = us.length ∧ w.heap[pb]? = some (.cells vs.toArray 38 (0, 0)) ∧ (∀ i v, vs[i]? = some v → ListAt 1 intEl F (pileOf stks (cellAt W i)) v w) ∧ ∀ (i : Nat) v, vs[i]? = some v → SlOk v
  foot : ∀ b, F b → b < w.heap.size
section
variable {w w' : World} {yb pb g u : Nat} {W H height : Int} {us : List Int} {vp : Value} {F : Nat → Prop} {stks : List Stk}
theorem YardAt.go (h : YardAt w yb pb g u W H height us vp F stks) (hb : Below w.heap.size w w') : YardAt w' yb pb g u W H height us vp F stks := by
  obtain ⟨vs, r1, r2, r3, r4⟩ := h.row
  exact ⟨h.grid.go hb, (hb.block _ (lt_of_heap h.hd)).trans h.hd, ⟨vs, r1, (hb.block _ (lt_of_heap r2)).trans r2, fun i v hv => (r3 i v hv).go heldInt h.foot hb, r4⟩, fun b hf => Nat.lt_of_lt_of_le (h.foot b hf) hb.size⟩
end
set_option maxRecDepth 100000 in
set_option maxHeartbeats 2000000 in
theorem pileC_any (yb pb g u : Nat) (W H height : Int) (us : List Int) (vp : Value) (F : Nat → Prop) (stks : List Stk) (x y : Int) (w : World) (h : YardAt w yb pb g u W H height us vp F stks) (hin : In W H (x, y)) :
    Calls Try.prog 41 #[.pointer (some ⟨yb, 0, none⟩), .agg #[.int .i64 x, .int .i64 y]] w fun e w' => ∃ v, e = .returned v ∧ (ListAt 1 intEl F (pileOf stks (x, y)) v w' ∧ SlOk v ∧ Below w.heap.size w w') := by
  obtain ⟨vs, r1, r2, r3, r4⟩ := h.row
  have hle := h.grid.le
  have hng := num_grid h.grid.w2 h.grid.h2 hin
  have hlt := h.grid.num_lt hin
  simp only at hlt
  obtain ⟨nk, hnk⟩ : ∃ nk, numN W (x, y) = nk := ⟨_, rfl⟩
  rw [hnk] at hng
  have hnk2 : nk < us.length := by have e := hnk; unfold numN at e; simp only at e; omega
  obtain ⟨v, hv⟩ : ∃ v, vs[nk]? = some v := ⟨_, List.getElem?_eq_getElem (by omega)⟩
  have hL := r3 nk v hv
  have hOk := r4 nk v hv
  have hca : cellAt W nk = (x, y) := by
    have := cellAt_num hin
    unfold numN at hnk
    rwa [hnk] at this
  rw [hca] at hL
  obtain ⟨va, vc, hvv, _⟩ := hL.form
  obtain ⟨vn, hvn⟩ : ∃ vn, (pileOf stks (x, y)).length = vn := ⟨_, rfl⟩
  rw [hvn] at hvv
  subst hvv
  obtain ⟨wz, hwz⟩ : ∃ wz, wz = w.alloc (.cells #[.int .i64 x, .int .i64 y] 30) := ⟨_, rfl⟩
  have bz : Below w.heap.size w wz := by rw [hwz]; exact below_new (Below.refl _ _) _
  have hx : wz.heap[w.heap.size]? = some (.cells #[.int .i64 x, .int .i64 y] 30 (0, 0)) := by rw [hwz]; exact heap_alloc_new w _
  have hz := h.go bz
  have hp2 : wz.heap[pb]? = some (.cells vs.toArray 38 (0, 0)) := (bz.block _ (lt_of_heap r2)).trans r2
  obtain ⟨N, hN⟩ : ∃ N, us.length = N := ⟨_, rfl⟩
  have hhd := hz.hd
  rw [hN] at hhd hnk2
  have HX : Hid (∀ u, Below wz.heap.size wz u → ∀ j z, #[Value.int .i64 x, .int .i64 y][j]? = some z → u.cell? ((⟨w.heap.size, 0, none⟩ : Addr).add j) = some z) := fun u hu => row_below hx hu
  have HP : Hid (∀ u, Below wz.heap.size wz u → u.cell? ⟨yb, 2, none⟩ = some (.slice (some ⟨pb, 0, none⟩) N N)) := fun u hu => cell_below ((cell_of hhd 2).trans rfl) hu
  have HG0 : Hid (∀ u, Below wz.heap.size wz u → u.cell? ⟨yb, 0, none⟩ = some (.pointer (some ⟨g, 0, none⟩))) := fun u hu => cell_below ((cell_of hhd 0).trans rfl) hu
  have HV : Hid (∀ u, Below wz.heap.size wz u → u.cell? ⟨pb, nk, none⟩ = some (.slice va vn vc)) := fun u hu => cell_below ((cell_of hp2 nk).trans (by rw [List.getElem?_toArray]; exact hv)) hu
  have HN : Hid (∀ uu, Below wz.heap.size wz uu → Calls Try.prog 37 #[.pointer (some ⟨g, 0, none⟩), .agg #[.int .i64 x, .int .i64 y]] uu fun e w' => ∃ v, e = .returned v ∧ (v = .int .i64 (nk : Nat) ∧ Below uu.heap.size uu w')) := fun uu hu => by
    have := number_any g u W H us vp x y uu (hz.go hu).grid
    rw [show number W H (x, y) = (nk : Int) from hng.1] at this
    exact ret_of this
  have hnk3 : (nk : Int) < (N : Int) := by omega
  have HZ : Hid (Below w.heap.size w wz) := bz
  have HOk : Hid (SlOk (.slice va vn vc)) := hOk
  clear hOk r4
  have HL : Hid (∀ uu, Below w.heap.size w uu → ListAt 1 intEl F (pileOf stks (x, y)) (.slice va vn vc) uu) := fun uu b => hL.go heldInt h.foot b
  clear hx hz hp2 hhd bz hL hca hv r3 r2 r1 hng hlt h hvn hnk hN
  go_enter Try.func41, Try.ntmps41
  go_upto_region 1 with fail
  rw [← hwz]
  clear hwz
  have S0 : Below wz.heap.size wz wz.drew := (Below.refl _ _).drew
  refine start_held (S := fun u => Below wz.heap.size wz u) 13 rfl (by kernel_rfl) (S0) ?_
  simp only [Array.replicate_succ, Array.replicate_zero, List.push_toArray, List.nil_append, List.cons_append]
  refine take_held 0 S0 rfl (by kernel_rfl) (by kernel_rfl) (by kernel_rfl) (fun _ _ _ h => h) (by kernel_rfl) (v := ?v0) ?y0 ?r0
  case y0 => (intro u hu; go_simp; try rfl)
  simp only [Act.put, List.setIfInBounds_toArray, List.set_cons_zero, List.set_cons_succ]
  refine take_held 1 S0 rfl (by kernel_rfl) (by kernel_rfl) (by kernel_rfl) (fun _ _ _ h => h) (by kernel_rfl) (v := ?v1) ?y1 ?r1
  case y1 => (intro u hu; go_simp; try rfl)
  simp only [Act.put, List.setIfInBounds_toArray, List.set_cons_zero, List.set_cons_succ]
  refine take_held 2 S0 rfl (by kernel_rfl) (by kernel_rfl) (by kernel_rfl) (fun _ _ _ h => h) (by kernel_rfl) (v := ?v2) ?y2 ?r2
  case y2 => (intro u hu; go_simp; try rfl)
  simp only [Act.put, List.setIfInBounds_toArray, List.set_cons_zero, List.set_cons_succ]
  refine take_held 3 S0 rfl (by kernel_rfl) (by kernel_rfl) (by kernel_rfl) (fun _ _ _ h => h) (by kernel_rfl) (v := .slice (some ⟨pb, 0, none⟩) N N) ?y3 ?r3
  case y3 => (intro u hu; have zz := HP.out u hu; go_simp; try rfl)
  simp only [Act.put, List.setIfInBounds_toArray, List.set_cons_zero, List.set_cons_succ]
  refine take_held 4 S0 rfl (by kernel_rfl) (by kernel_rfl) (by kernel_rfl) (fun _ _ _ h => h) (by kernel_rfl) (v := ?v4) ?y4 ?r4
  case y4 => (intro u hu; go_simp; try rfl)
  simp only [Act.put, List.setIfInBounds_toArray, List.set_cons_zero, List.set_cons_succ]
  refine take_held 5 S0 rfl (by kernel_rfl) (by kernel_rfl) (by kernel_rfl) (fun _ _ _ h => h) (by kernel_rfl) (v := ?v5) ?y5 ?r5
  case y5 => (intro u hu; go_simp; try rfl)
  simp only [Act.put, List.setIfInBounds_toArray, List.set_cons_zero, List.set_cons_succ]
  refine take_held 6 S0 rfl (by kernel_rfl) (by kernel_rfl) (by kernel_rfl) (fun _ _ _ h => h) (by kernel_rfl) (v := ?v6) ?y6 ?r6
  case y6 => (intro u hu; go_simp; try rfl)
  simp only [Act.put, List.setIfInBounds_toArray, List.set_cons_zero, List.set_cons_succ]
  refine take_held 7 S0 rfl (by kernel_rfl) (by kernel_rfl) (by kernel_rfl) (fun _ _ _ h => h) (by kernel_rfl) (v := .pointer (some ⟨g, 0, none⟩)) ?y7 ?r7
  case y7 => (intro u hu; have zz := HG0.out u hu; go_simp; try rfl)
  simp only [Act.put, List.setIfInBounds_toArray, List.set_cons_zero, List.set_cons_succ]
  refine take_held 8 S0 rfl (by kernel_rfl) (by kernel_rfl) (by kernel_rfl) (fun _ _ _ h => h) (by kernel_rfl) (v := .agg #[.int .i64 x, .int .i64 y]) ?y8 ?r8
  case y8 => (intro u hu; exact run_load_op 30 _ rfl ⟨w.heap.size, 0, none⟩ _ rfl (HX.out u hu) (aggCell u) infoCell2)
  simp only [Act.put, List.setIfInBounds_toArray, List.set_cons_zero, List.set_cons_succ]
  refine wpAnyH_ready (rs := [9]) (by kernel_rfl) (by simp) (AllReadyH.cons ((nth_eq _ 9).trans rfl) ?_ AllReadyH.nil)
  intro K' hK
  refine call_in hK (by kernel_rfl) 37 #[.pointer (some ⟨g, 0, none⟩), .agg #[.int .i64 x, .int .i64 y]] (by go_simp) _ (HN.out _ S0) ?_
  rintro v1 x1 ⟨rfl, b1⟩
  have S1 : Below wz.heap.size wz x1 := bcat S0 b1 (Nat.le_refl _)
  refine ⟨S1, ?_⟩
  simp only [Act.put, List.setIfInBounds_toArray, List.set_cons_zero, List.set_cons_succ]
  refine take_held 10 S1 rfl (by kernel_rfl) (by kernel_rfl) (by kernel_rfl) (fun _ _ _ h => h) (by kernel_rfl) (v := ?v9) ?y9 ?r9
  case y9 => (intro u hu; go_simp; try rfl)
  simp only [Act.put, List.setIfInBounds_toArray, List.set_cons_zero, List.set_cons_succ]
  refine take_held 11 S1 rfl (by kernel_rfl) (by kernel_rfl) (by kernel_rfl) (fun _ _ _ h => h) (by kernel_rfl) (v := .slice va vn vc) ?y10 ?r10
  case y10 => (intro u hu; have zz := HV.out u hu; go_simp; try rfl)
  simp only [Act.put, List.setIfInBounds_toArray, List.set_cons_zero, List.set_cons_succ]
  refine take_held 12 S1 rfl (by kernel_rfl) (by kernel_rfl) (by kernel_rfl) (fun _ _ _ h => h) (by kernel_rfl) (v := ?v11) ?y11 ?r11
  case y11 => (intro u hu; go_simp; try rfl)
  simp only [Act.put, List.setIfInBounds_toArray, List.set_cons_zero, List.set_cons_succ]
  refine done_held (by kernel_rfl) ?_ _
  go_wp2_with fail
  go_ret
  have B9 := bcat HZ.out S1 (Nat.le_refl _)
  exact ⟨_, rfl, HL.out _ B9, HOk.out, B9⟩
theorem pile_any (yb pb g u : Nat) (W H height : Int) (us : List Int) (vp : Value) (F : Nat → Prop) (stks : List Stk) (x y : Int) (w : World) (h : YardAt w yb pb g u W H height us vp F stks) (hin : In W H (x, y)) :
    Calls Try.prog 41 #[.pointer (some ⟨yb, 0, none⟩), .agg #[.int .i64 x, .int .i64 y]] w fun e w' => ∃ v, e = .returned v ∧ (ListAt 1 intEl F (pileOf stks (x, y)) v w' ∧ Below w.heap.size w w') :=
  (pileC_any yb pb g u W H height us vp F stks x y w h hin).mono fun e w' ⟨v, h1, h2, h3, h4⟩ => ⟨v, h1, h2, h4⟩
end Go.Proofs.Ytebfjldbhmmmlaa.Dig
