/-
  All's iterator, to a function that keeps what it is told; all.
-/
import Derived.Test.YtpbmkflkggeggaaHeapTell
namespace Go.Proofs.Ytpbmkflkggeggaa.Hp
set_option linter.unusedVariables false
set_option linter.unusedSimpArgs false
open Go Go.RowKit Go.Shelf Go.Proofs
attribute [local go_sem] Oper.semAt_some

def vOf (x : It) : Int × Int := (x.k, x.n)
/- Nothing that was there is turned, but for one box. -/
structure Fr (lb : Nat) (w V : World) : Prop where
  os : V.os = w.os
  tape : V.tape = w.tape
  output : V.output = w.output
  size : w.heap.size ≤ V.heap.size
  block : ∀ k, k < w.heap.size → k ≠ lb → V.heap[k]? = w.heap[k]?
theorem Fr.below {lb : Nat} {w V : World} (h : Below w.heap.size w V) : Fr lb w V := ⟨h.os, h.tape, h.output, h.size, fun k hk _ => h.block k hk⟩
/- While the loop goes on. -/
structure Going (B lb mb : Nat) (most : Int) (yv : Value) (w : World) (N : Nat) (pre : List It) (V : World) : Prop where
  tell : Tell B lb (pre.map vOf) V
  mb : Boxed V mb 3 (.int .i64 most)
  yb : Boxed V w.heap.size 43 yv
  fr : Fr lb w V
  rows : ∀ k, CmL lb V k → N ≤ k
  less : (pre.length : Int) < most
  low : N ≤ V.heap.size
structure Over (B lb : Nat) (most : Int) (w : World) (pre : List It) (V : World) : Prop where
  tell : Tell B lb (pre.map vOf) V
  fr : Fr lb w V
  full : (pre.length : Int) = most
theorem Tell.keep {B lb : Nat} {xs : List (Int × Int)} {V V' : World} (h : Tell B lb xs V) (hl : V'.heap[lb]? = V.heap[lb]?) (hc : ∀ k, CmL lb V k → V'.heap[k]? = V.heap[k]?) : Tell B lb xs V' := by
  obtain ⟨x, b1, b2, b3⟩ := h.box
  exact ⟨h.low, x, hl.trans b1, owns_same b2 fun k hk => hc k ⟨x, b1.cell, hk⟩, b3⟩
theorem cm_same {lb k : Nat} {V V' : World} (hl : V'.heap[lb]? = V.heap[lb]?) (h : CmL lb V' k) : CmL lb V k := by
  obtain ⟨x, h1, h2⟩ := h
  exact ⟨x, (cell_same hl).symm.trans h1, h2⟩
theorem Going.btw {B lb mb : Nat} {most : Int} {yv : Value} {w : World} {N : Nat} {pre : List It} {V V' : World} (h : Going B lb mb most yv w N pre V) (q : Btw (CmL lb) N V V') (hlb : lb < N) (hmb : mb < N) (hw : w.heap.size < N) : Going B lb mb most yv w N pre V' := by
  have lo := q.low
  have sm : ∀ k, k < N → V'.heap[k]? = V.heap[k]? := fun k hk => q.block k (by omega) (Or.inl hk)
  exact ⟨h.tell.keep (sm lb hlb) (fun k hk => q.block k (h.tell.foot hk).2.1 (Or.inr hk)), (sm mb hmb).trans h.mb, (sm _ hw).trans h.yb, ⟨q.os.trans h.fr.os, q.tape.trans h.fr.tape, q.output.trans h.fr.output, Nat.le_trans h.fr.size q.others.size, fun k hk hl => (sm k (by omega)).trans (h.fr.block k hk hl)⟩, fun k hk => h.rows k (cm_same (sm lb hlb) hk), h.less, Nat.le_trans lo q.others.size⟩
theorem Going.put {B lb mb : Nat} {most : Int} {yv : Value} {w : World} {N : Nat} {pre : List It} {V : World} {l : Nat} {o : Obj} (o' : Obj) (h : Going B lb mb most yv w N pre V) (hl : N ≤ l) (ho : V.heap[l]? = some o) (hc : o.isCells = false) (hlb : lb < N) (hmb : mb < N) (hw : w.heap.size < N) : Going B lb mb most yv w N pre (V.putObj l o') := by
  have g := grownBy_putObj' V l o'
  have sm : ∀ k, k < N → (V.putObj l o').heap[k]? = V.heap[k]? := fun k hk => World.putObj_heap_other (by omega)
  have cs : ∀ k, CmL lb V k → (V.putObj l o').heap[k]? = V.heap[k]? := fun k hk => World.putObj_heap_other (fun e => by
    obtain ⟨ob, h1, h2⟩ := (h.tell.foot hk).2.2.2
    subst e
    rw [h1] at ho
    exact not_cells h2 hc (Option.some.inj ho))
  exact ⟨h.tell.keep (sm lb hlb) cs, (sm mb hmb).trans h.mb, (sm _ hw).trans h.yb, ⟨g.os.trans h.fr.os, g.tape.trans h.fr.tape, g.output.trans h.fr.output, Nat.le_trans h.fr.size g.size, fun k hk hl => (sm k (by omega)).trans (h.fr.block k hk hl)⟩, fun k hk => h.rows k (cm_same (sm lb hlb) hk), h.less, Nat.le_trans h.low g.size⟩
theorem Over.put {B lb : Nat} {most : Int} {w : World} {pre : List It} {V : World} {l : Nat} {o : Obj} (o' : Obj) (h : Over B lb most w pre V) (hl : w.heap.size ≤ l) (ho : V.heap[l]? = some o) (hc : o.isCells = false) (hlb : lb < w.heap.size) : Over B lb most w pre (V.putObj l o') := by
  have g := grownBy_putObj' V l o'
  have sm : ∀ k, k < w.heap.size → (V.putObj l o').heap[k]? = V.heap[k]? := fun k hk => World.putObj_heap_other (by omega)
  have cs : ∀ k, CmL lb V k → (V.putObj l o').heap[k]? = V.heap[k]? := fun k hk => World.putObj_heap_other (fun e => by
    obtain ⟨ob, h1, h2⟩ := (h.tell.foot hk).2.2.2
    subst e
    rw [h1] at ho
    exact not_cells h2 hc (Option.some.inj ho))
  exact ⟨h.tell.keep (sm lb hlb) cs, ⟨g.os.trans h.fr.os, g.tape.trans h.fr.tape, g.output.trans h.fr.output, Nat.le_trans h.fr.size g.size, fun k hk hl => (sm k hk).trans (h.fr.block k hk hl)⟩, h.full⟩
theorem inorder_any (b : Nat) (w : World) : Calls Try.prog 42 #[.pointer (some ⟨b, 0, none⟩)] w fun e w' => e = .returned (.func (.func 50) #[] #[.pointer (some ⟨w.heap.size, 0, none⟩)]) ∧ w' = w.alloc (.cells #[.pointer (some ⟨b, 0, none⟩)] 24) := by
  have hmf : ∀ (fn : Fn) (first cap : Array Value) (w : World), (Instr.makeFunc fn first cap).run Try.prog w = .ok (.func fn first cap) w := fun _ _ _ _ => rfl
  go_enter Try.func42, Try.ntmps42
  go_wp2
  go_ret
  exact ⟨rfl, rfl⟩
set_option maxRecDepth 100000 in
set_option maxHeartbeats 4000000 in
theorem all1_in (B B0 b Bh lb mb : Nat) (v : Value) (s : List It) (c : Nat) (most : Int) (w : World) (hH : HpAt B0 w b v s c) (hm : s.length ≤ 100000) (hBh : w.cell? ⟨Bh, 0, none⟩ = some (.pointer (some ⟨b, 0, none⟩))) (hB : B ≤ lb) (hL : Boxed w lb 30 (.slice none 0 0)) (hmb : Boxed w mb 3 (.int .i64 most)) (hne : mb ≠ lb) (hmost : 1 ≤ most) (hmost2 : most ≤ 100000) (hb : b ≠ lb) (hvb : v.ownBlock ≠ some lb) (hBl : Bh ≠ lb) :
    CallsIn Fence.wide 9 Try.prog 49 #[.func (.func 41) #[] #[.pointer (some ⟨lb, 0, none⟩), .pointer (some ⟨mb, 0, none⟩)], .pointer (some ⟨Bh, 0, none⟩)] w fun e w' => e = .returned (.tuple #[]) ∧ Tell B lb ((s.map vOf).take most.toNat) w' ∧ Fr lb w w' := by
  have hlb := hL.lt
  have hmbl := hmb.lt
  have hbhl := World.block_lt_of_cell? w _ hBh
  simp only at hbhl
  obtain ⟨V0, hV0⟩ : ∃ V, (w.alloc (.cells #[.func (.func 41) #[] #[.pointer (some ⟨lb, 0, none⟩), .pointer (some ⟨mb, 0, none⟩)]] 43)).alloc (.cells #[.pointer (some ⟨b, 0, none⟩)] 24) = V := ⟨_, rfl⟩
  have b0 : Below w.heap.size w V0 := by rw [← hV0]; exact ((Below.refl _ _).alloc (Nat.le_refl _) _).alloc (by simp) _
  have s0 : V0.heap.size = w.heap.size + 2 := by rw [← hV0]; simp
  have y0 : Boxed V0 w.heap.size 43 (.func (.func 41) #[] #[.pointer (some ⟨lb, 0, none⟩), .pointer (some ⟨mb, 0, none⟩)]) := by rw [← hV0]; exact (Boxed.new _ _ _).alloc _
  have p0 : V0.cell? ⟨w.heap.size + 1, 0, none⟩ = some (.pointer (some ⟨b, 0, none⟩)) := by rw [← hV0]; simp
  have G0 : Going B lb mb most (.func (.func 41) #[] #[.pointer (some ⟨lb, 0, none⟩), .pointer (some ⟨mb, 0, none⟩)]) w (w.heap.size + 2) [] V0 := ⟨⟨hB, _, (b0.block _ hlb).trans hL, World.ownsRow_nil _ _ _ _, (fun e => by cases e)⟩, (b0.block _ hmbl).trans hmb, y0, Fr.below b0, (fun k ⟨x, x1, x2⟩ => by rw [(b0.cell (p := ⟨lb, 0, none⟩) hlb), hL.cell] at x1; cases x1; cases x2), (by show ((0 : Nat) : Int) < most; omega), (by omega)⟩
  have cI := inorder_any b (w.alloc (.cells #[.func (.func 41) #[] #[.pointer (some ⟨lb, 0, none⟩), .pointer (some ⟨mb, 0, none⟩)]] 43))
  have hH0 := hH.go b0
  refine callsIn_of_wp_marks Try.func49 rfl trivial ?_ rfl
  simp only [Try.ntmps49, List.size_toArray, List.length_cons, List.length_nil, Nat.reduceAdd, Nat.reduceSub, Array.replicate_succ, Array.replicate_zero, List.push_toArray, List.append_toArray, List.nil_append, List.cons_append]
  gi_wp2_with (refine ⟨trivial, ?_⟩; gi_at_call 42; refine (callsIn_wide.2 cI).mono ?_; rintro e w1 ⟨rfl, rfl⟩)
  try rw [hV0]
  obtain ⟨N, hN⟩ : ∃ N, w.heap.size + 2 = N := ⟨_, rfl⟩
  rw [hN] at G0 s0
  clear cI hH hV0 y0
  refine range_turns (α := It) rfl (by omega) (gf := 50) (lb := #[.pointer (some ⟨w.heap.size + 1, 0, none⟩)]) rfl trivial (enters_of Try.func50 (by kernel_rfl) rfl)
    (encs := fun x => #[.agg #[.int .i64 x.k, .int .i64 x.n, .int .i64 (x.t : Nat)]]) (fun _ => rfl) s.length (CmL lb) N (by omega) (Going B lb mb most (.func (.func 41) #[] #[.pointer (some ⟨lb, 0, none⟩), .pointer (some ⟨mb, 0, none⟩)]) w N) (Over B lb most w) (fun xs => xs = s) (fun pre => ∃ m, m < s.length ∧ pre = s.take (m + 1))
    (fun pre x bb V => ∃ q, bb = { tmps := #[.func (.func 41) #[] #[.pointer (some ⟨lb, 0, none⟩), .pointer (some ⟨mb, 0, none⟩)], .pointer (some ⟨Bh, 0, none⟩), .pointer (some ⟨w.heap.size, 0, none⟩), .pointer (some ⟨q, 0, none⟩), .pointer (some ⟨b, 0, none⟩), .func (.func 50) #[] #[.pointer (some ⟨w.heap.size + 1, 0, none⟩)], .agg #[.int .i64 x.k, .int .i64 x.n, .int .i64 (x.t : Nat)], undef, undef, undef, undef, undef], defers := [] } ∧ V.heap[q]? = some (.cells #[.int .i64 x.k, .int .i64 x.n, .int .i64 (x.t : Nat)] 65 (0, 0)) ∧ N ≤ q ∧ ¬ CmL lb V q ∧ Going B lb mb most (.func (.func 41) #[] #[.pointer (some ⟨lb, 0, none⟩), .pointer (some ⟨mb, 0, none⟩)]) w N pre V)
    (fun p V V' h q => h.btw q (by omega) (by omega) (by omega)) (fun p V l o o' h hl ho hc => h.put o' hl ho hc (by omega) (by omega) (by omega)) (fun p V l o o' h hl ho hc => h.put o' (by omega) ho hc hlb)
    ?c2 ?m2 ?it G0 ?assign ?body ?done ?stop
  case c2 =>
    intro V l o o' k hl ho h1 h2 hk
    exact cm_same (World.putObj_heap_other (by omega)) hk
  case m2 =>
    rintro pre x bb V l o o' ⟨q, rfl, hq, hNq, hcq, hg⟩ hl ho hc
    refine ⟨q, rfl, (World.putObj_heap_other (fun e => ?_)).trans hq, hNq, fun z => hcq (cm_same (World.putObj_heap_other (by omega)) z), hg.put o' hl ho hc (by omega) (by omega) (by omega)⟩
    subst e
    rw [hq] at ho
    exact not_cells rfl hc (Option.some.inj ho)
  case it =>
    intro l J Jx W hW hJ hJI hY hJ0
    refine (inorder_in 8 l (w.heap.size + 1) b B0 v s c (CmL lb) N J Jx W (by have := hW.size; omega) (by omega) hJ ?_ ?_ hY (hH0.go hW) (by omega) ((hW.cell (p := ⟨w.heap.size + 1, 0, none⟩) (by show w.heap.size + 1 < _; omega)).trans p0) hJ0).mono ?_
    · intro V V' k q hk
      exact cm_same (q.block lb (by have := q.low; omega) (Or.inl (by omega))) hk
    · intro p V k hp hk
      exact ((hJI p V hp).tell.foot hk).2.1
    · rintro e W' ⟨he, h1 | ⟨pre, h1, h2⟩⟩
      · exact ⟨he, Or.inl ⟨s, rfl, h1⟩⟩
      · exact ⟨he, Or.inr ⟨pre, h1, h2⟩⟩
  case assign =>
    intro l pre x W K hi hlen hK
    have lo := hi.low
    have bA : Below W.heap.size W (W.alloc (.cells #[.int .i64 x.k, .int .i64 x.n, .int .i64 (x.t : Nat)] 65)) := (Below.refl _ _).alloc (Nat.le_refl _) _
    have cA : ∀ k, CmL lb (W.alloc (.cells #[.int .i64 x.k, .int .i64 x.n, .int .i64 (x.t : Nat)] 65)) k → CmL lb W k := fun k hk => cm_same (bA.block lb (by omega)) hk
    have K1 := others_of_below bA
    have K2 : Rnd (CmL lb) N W (W.alloc (.cells #[.int .i64 x.k, .int .i64 x.n, .int .i64 (x.t : Nat)] 65)) := ⟨bA.size, fun k o hk _ _ _ => (bA.block k (lt_some hk)).trans hk, fun k hk => Or.inl (cA k hk)⟩
    have K3 := hi.btw (Btw.below bA lo) (by omega) (by omega) (by omega)
    have K4 : ¬ CmL lb (W.alloc (.cells #[.int .i64 x.k, .int .i64 x.n, .int .i64 (x.t : Nat)] 65)) W.heap.size := fun z => by have := (hi.tell.foot (cA _ z)).2.1; omega
    gi_wp2
    exact hK _ _ K1 K2 ⟨W.heap.size, rfl, World.alloc_heap_new _ _, lo, K4, K3⟩
  case body =>
    rintro l pre x bb W ⟨q, rfl, hq, hNq, hcq, hg⟩
    have c0 : W.cell? ⟨q, 0, none⟩ = some (.int .i64 x.k) := by simp [World.cell?, hq]
    have c1 : W.cell? ⟨q, 1, none⟩ = some (.int .i64 x.n) := by simp [World.cell?, hq]
    have c2 := hg.yb.cell
    have hpl : (pre.map vOf).length = pre.length := List.length_map _
    have hle := hg.less
    have hmr : ¬ CmL lb W mb := fun z => by have := hg.rows _ z; omega
    have cT := tell_any B lb mb (pre.map vOf) most x.k x.n W hg.tell hg.mb hne hmr (by omega)
    rw [hpl] at cT
    have eM : pre.map vOf ++ [(x.k, x.n)] = (pre ++ [x]).map vOf := by rw [List.map_append]; rfl
    rw [eM] at cT
    have hlow := hg.low
    have keep : Hid (∀ W', Told lb W W' → KeepsOthers W W' ∧ Rnd (CmL lb) N W W' ∧ Fr lb w W' ∧ Boxed W' mb 3 (.int .i64 most) ∧ Boxed W' w.heap.size 43 (.func (.func 41) #[] #[.pointer (some ⟨lb, 0, none⟩), .pointer (some ⟨mb, 0, none⟩)]) ∧ (∀ k, CmL lb W' k → N ≤ k) ∧ N ≤ W'.heap.size) := fun W' t => by
      have cl : ∃ ob, W.heap[lb]? = some ob ∧ ob.isCells = true := by obtain ⟨x, b1, _⟩ := hg.tell.box; exact ⟨_, b1, rfl⟩
      have sm : ∀ k, k < N → k ≠ lb → W'.heap[k]? = W.heap[k]? := fun k hk hl => t.block k (by omega) hl (fun z => by have := hg.rows _ z; omega)
      refine ⟨⟨t.size, fun k o hk hc => (t.block k (lt_some hk) (fun e => ?_) (fun z => ?_)).trans hk⟩, ⟨t.size, fun k o hk hc hN' hc' => (t.block k (lt_some hk) (by omega) hc').trans hk, t.foot⟩, ⟨t.os.trans hg.fr.os, t.tape.trans hg.fr.tape, t.output.trans hg.fr.output, Nat.le_trans hg.fr.size t.size, fun k hk hl => (sm k (by omega) hl).trans (hg.fr.block k hk hl)⟩, (sm mb (by omega) hne).trans hg.mb, (sm _ (by omega) (by omega)).trans hg.yb, fun k hk => ?_, Nat.le_trans hlow t.size⟩
      · obtain ⟨ob, o1, o2⟩ := cl
        subst e
        rw [o1] at hk
        exact not_cells o2 hc (Option.some.inj hk)
      · obtain ⟨ob, o1, o2⟩ := (hg.tell.foot z).2.2.2
        rw [o1] at hk
        exact not_cells o2 hc (Option.some.inj hk)
      · rcases t.foot k hk with z | z
        · exact hg.rows k z
        · omega
    clear hq hcq
    by_cases hlt : (pre.length : Int) + 1 < most
    · rw [decide_eq_true hlt] at cT
      gi_wp2_with (first | (refine ⟨trivial, ?_⟩; gi_at_call 41; refine (CallsIn.inRound l (callsIn_wide.2 cT)).mono ?_; rintro e W2 ⟨rfl, T2, t2⟩) | (refine ⟨fun hh => (by cases hh), ?_⟩; gi_at_call 41; refine (CallsIn.inRound l (callsIn_wide.2 cT)).mono ?_; rintro e W2 ⟨rfl, T2, t2⟩))
      obtain ⟨k1, k2, k3, k4, k5, k6, k7⟩ := keep.out W2 t2
      exact ⟨k1, k2, T2, k4, k5, k3, k6, by rw [List.length_append]; simp; omega, k7⟩
    · rw [decide_eq_false hlt] at cT
      gi_wp2_with (first | (refine ⟨trivial, ?_⟩; gi_at_call 41; refine (CallsIn.inRound l (callsIn_wide.2 cT)).mono ?_; rintro e W2 ⟨rfl, T2, t2⟩) | (refine ⟨fun hh => (by cases hh), ?_⟩; gi_at_call 41; refine (CallsIn.inRound l (callsIn_wide.2 cT)).mono ?_; rintro e W2 ⟨rfl, T2, t2⟩))
      obtain ⟨k1, k2, k3, k4, k5, k6, k7⟩ := keep.out W2 t2
      exact ⟨k1, T2, k3, by rw [List.length_append]; simp; omega⟩
  case done =>
    rintro D xs V hD rfl hg hKD
    gi_wp2
    refine ⟨by simp, .inl ⟨_, _, rfl, run_takeDeferred hKD, ?_⟩⟩
    have hg2 := hg.put (.deferred none) (l := D) (by omega) hKD rfl (by omega) (by omega) (by omega)
    refine ⟨_, results_none rfl _ _ _, rfl, ?_, hg2.fr⟩
    rw [List.take_of_length_le (by rw [List.length_map]; have := hg2.less; omega)]
    exact hg2.tell
  case stop =>
    rintro D pre V hD ⟨m, hm1, rfl⟩ ho hKD
    gi_wp2
    refine ⟨by simp, .inl ⟨_, _, rfl, run_takeDeferred hKD, ?_⟩⟩
    have ho2 := ho.put (.deferred none) (l := D) (by omega) hKD rfl hlb
    refine ⟨_, results_none rfl _ _ _, rfl, ?_, ho2.fr⟩
    have hf := ho2.full
    rw [List.length_take, Nat.min_eq_left (by omega)] at hf
    have e : most.toNat = m + 1 := by omega
    rw [e, ← List.map_take]
    exact ho2.tell
end Go.Proofs.Ytpbmkflkggeggaa.Hp
