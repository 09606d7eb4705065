/-
  The chapter's own robot: Tick, Delay, Tell.
-/
import Derived.Test.YtedhoghleelhfaaGreatQRobXd
import Derived.Test.YtedhoghleelhfaaGreatQRobXb
import Derived.Test.YtedhoghleelhfaaGreatQRobXc
namespace Go.Proofs.YtedhoghleelhfaaGreat.Rob
set_option linter.unusedVariables false
set_option linter.unusedSimpArgs false
open Go Go.RowKit Go.Shelf Go.Proofs Go.Proofs.YtedhoghleelhfaaGreat.Lk Go.Proofs.YtedhoghleelhfaaGreat.Plain
attribute [local go_sem] Oper.semAt_some

/- Its own numbers. -/
structure Rx where
  nb : Int
  px : Int
  py : Int
  pd : Bool
  ld : Int
  ep : Int
  lt : Int
  un : Bool
  mv : Mv
  lf : Int
  gn : Int
  la : Int
  st : Bool
  cu : Bool
def rxL (x : Rx) : List Value := [.int .i64 x.nb, .int .i64 x.px, .int .i64 x.py, .bool x.pd, .int .i64 x.ld, .int .i64 x.ep, .int .i64 x.lt, .bool x.un] ++ (mvL x.mv ++ [.int .i64 x.lf, .int .i64 x.gn, .int .i64 x.la, .bool x.st, .bool x.cu])
def rxOf (r : Rb) (gn : Int) (cu : Bool) : Rx := ⟨r.nb, r.px, r.py, r.pd, r.ld, r.ep, r.lt, under r, r.mv, r.lf, gn, r.la, r.st, cu⟩
structure XAt (w : World) (q : Nat) (cs : Array Value) (x : Rx) : Prop where
  at_ : w.heap[q]? = some (.cells (cs.toList ++ rxL x).toArray 53 (0, 0))
  len : cs.size = 16
theorem XAt.of {w : World} {q : Nat} {cs : Array Value} {r : Rb} {gn : Int} {cu : Bool} (h : RcAt w q cs r gn cu) : XAt w q cs (rxOf r gn cu) := ⟨h.at_, h.len⟩
theorem XAt.qlt {w : World} {q : Nat} {cs : Array Value} {x : Rx} (h : XAt w q cs x) : q < w.heap.size := (Array.getElem?_eq_some_iff.1 h.at_).1
theorem XAt.go {w w' : World} {q : Nat} {cs : Array Value} {x : Rx} (h : XAt w q cs x) (b : Below w.heap.size w w') : XAt w' q cs x := ⟨(b.block _ h.qlt).trans h.at_, h.len⟩
theorem XAt.cell {w : World} {q : Nat} {cs : Array Value} {x : Rx} (h : XAt w q cs x) (j : Nat) : w.cell? ⟨q, 16 + j, none⟩ = (rxL x)[j]? := by
  rw [cell_of' h.at_, List.getElem?_toArray, List.getElem?_append_right (by rw [Array.length_toList, h.len]; omega), Array.length_toList, h.len, Nat.add_sub_cancel_left]
theorem XAt.froz {w : World} {q : Nat} {cs : Array Value} {x : Rx} (h : XAt w q cs x) (j : Nat) : w.frozen? ⟨q, j, none⟩ = false := by simp [World.frozen?, h.at_]
theorem set_tail {cs : Array Value} (hc : cs.size = 16) (l : List Value) (j : Nat) : ∀ (vs : List Value) , setAll (cs.toList ++ l).toArray (16 + j) vs = (cs.toList ++ (setAll l.toArray j vs).toList).toArray
  | [] => rfl
  | v :: r => by
    have e : ((cs.toList ++ l).toArray).setIfInBounds (16 + j) v = (cs.toList ++ l.set j v).toArray := by
      rw [List.setIfInBounds_toArray, List.set_append_right _ _ (by rw [Array.length_toList, hc]; omega), Array.length_toList, hc, Nat.add_sub_cancel_left]
    show setAll (((cs.toList ++ l).toArray).setIfInBounds (16 + j) v) (16 + j + 1) r = _
    rw [e, Nat.add_assoc, set_tail hc (l.set j v) (j + 1) r]
    show (cs.toList ++ (setAll (l.set j v).toArray (j + 1) r).toList).toArray = (cs.toList ++ (setAll (l.toArray.setIfInBounds j v) (j + 1) r).toList).toArray
    rw [List.setIfInBounds_toArray]
theorem XAt.put {w : World} {q : Nat} {cs : Array Value} {x x' : Rx} (h : XAt w q cs x) (j : Nat) (vs : List Value) (e : setAll (rxL x).toArray j vs = (rxL x').toArray) : XAt (w.setCells q (16 + j) vs) q cs x' :=
  ⟨by rw [setCells_same q _ _ vs (16 + j) w _ h.at_, set_tail h.len, e], h.len⟩
theorem XAt.nb {w : World} {q : Nat} {cs : Array Value} {x : Rx} (h : XAt w q cs x) : w.cell? ⟨q, 16, none⟩ = some (.int .i64 x.nb) := h.cell 0
theorem XAt.px {w : World} {q : Nat} {cs : Array Value} {x : Rx} (h : XAt w q cs x) : w.cell? ⟨q, 17, none⟩ = some (.int .i64 x.px) := h.cell 1
theorem XAt.py {w : World} {q : Nat} {cs : Array Value} {x : Rx} (h : XAt w q cs x) : w.cell? ⟨q, 18, none⟩ = some (.int .i64 x.py) := h.cell 2
theorem XAt.pd {w : World} {q : Nat} {cs : Array Value} {x : Rx} (h : XAt w q cs x) : w.cell? ⟨q, 19, none⟩ = some (.bool x.pd) := h.cell 3
theorem XAt.ld {w : World} {q : Nat} {cs : Array Value} {x : Rx} (h : XAt w q cs x) : w.cell? ⟨q, 20, none⟩ = some (.int .i64 x.ld) := h.cell 4
theorem rx_ld (x : Rx) (v : Int) : setAll (rxL x).toArray 4 [.int .i64 v] = (rxL { x with ld := v }).toArray := by
  simp only [rxL, mvL, setAll, List.cons_append, List.nil_append, List.setIfInBounds_toArray, List.set_cons_succ, List.set_cons_zero]
theorem XAt.ep {w : World} {q : Nat} {cs : Array Value} {x : Rx} (h : XAt w q cs x) : w.cell? ⟨q, 21, none⟩ = some (.int .i64 x.ep) := h.cell 5
theorem rx_ep (x : Rx) (v : Int) : setAll (rxL x).toArray 5 [.int .i64 v] = (rxL { x with ep := v }).toArray := by
  simp only [rxL, mvL, setAll, List.cons_append, List.nil_append, List.setIfInBounds_toArray, List.set_cons_succ, List.set_cons_zero]
theorem XAt.lt_ {w : World} {q : Nat} {cs : Array Value} {x : Rx} (h : XAt w q cs x) : w.cell? ⟨q, 22, none⟩ = some (.int .i64 x.lt) := h.cell 6
theorem rx_lt (x : Rx) (v : Int) : setAll (rxL x).toArray 6 [.int .i64 v] = (rxL { x with lt := v }).toArray := by
  simp only [rxL, mvL, setAll, List.cons_append, List.nil_append, List.setIfInBounds_toArray, List.set_cons_succ, List.set_cons_zero]
theorem XAt.un {w : World} {q : Nat} {cs : Array Value} {x : Rx} (h : XAt w q cs x) : w.cell? ⟨q, 23, none⟩ = some (.bool x.un) := h.cell 7
theorem rx_un (x : Rx) (v : Bool) : setAll (rxL x).toArray 7 [.bool v] = (rxL { x with un := v }).toArray := by
  simp only [rxL, mvL, setAll, List.cons_append, List.nil_append, List.setIfInBounds_toArray, List.set_cons_succ, List.set_cons_zero]
theorem XAt.lf {w : World} {q : Nat} {cs : Array Value} {x : Rx} (h : XAt w q cs x) : w.cell? ⟨q, 35, none⟩ = some (.int .i64 x.lf) := h.cell 19
theorem rx_lf (x : Rx) (v : Int) : setAll (rxL x).toArray 19 [.int .i64 v] = (rxL { x with lf := v }).toArray := by
  simp only [rxL, mvL, setAll, List.cons_append, List.nil_append, List.setIfInBounds_toArray, List.set_cons_succ, List.set_cons_zero]
theorem XAt.gn {w : World} {q : Nat} {cs : Array Value} {x : Rx} (h : XAt w q cs x) : w.cell? ⟨q, 36, none⟩ = some (.int .i64 x.gn) := h.cell 20
theorem rx_gn (x : Rx) (v : Int) : setAll (rxL x).toArray 20 [.int .i64 v] = (rxL { x with gn := v }).toArray := by
  simp only [rxL, mvL, setAll, List.cons_append, List.nil_append, List.setIfInBounds_toArray, List.set_cons_succ, List.set_cons_zero]
theorem XAt.la {w : World} {q : Nat} {cs : Array Value} {x : Rx} (h : XAt w q cs x) : w.cell? ⟨q, 37, none⟩ = some (.int .i64 x.la) := h.cell 21
theorem rx_la (x : Rx) (v : Int) : setAll (rxL x).toArray 21 [.int .i64 v] = (rxL { x with la := v }).toArray := by
  simp only [rxL, mvL, setAll, List.cons_append, List.nil_append, List.setIfInBounds_toArray, List.set_cons_succ, List.set_cons_zero]
theorem XAt.st {w : World} {q : Nat} {cs : Array Value} {x : Rx} (h : XAt w q cs x) : w.cell? ⟨q, 38, none⟩ = some (.bool x.st) := h.cell 22
theorem rx_st (x : Rx) (v : Bool) : setAll (rxL x).toArray 22 [.bool v] = (rxL { x with st := v }).toArray := by
  simp only [rxL, mvL, setAll, List.cons_append, List.nil_append, List.setIfInBounds_toArray, List.set_cons_succ, List.set_cons_zero]
theorem XAt.cu {w : World} {q : Nat} {cs : Array Value} {x : Rx} (h : XAt w q cs x) : w.cell? ⟨q, 39, none⟩ = some (.bool x.cu) := h.cell 23
theorem rx_cu (x : Rx) (v : Bool) : setAll (rxL x).toArray 23 [.bool v] = (rxL { x with cu := v }).toArray := by
  simp only [rxL, mvL, setAll, List.cons_append, List.nil_append, List.setIfInBounds_toArray, List.set_cons_succ, List.set_cons_zero]
theorem rx_at (x : Rx) (a b : Int) (d : Bool) : setAll (rxL x).toArray 1 (poA a b d).toList = (rxL { x with px := a, py := b, pd := d }).toArray := by
  simp only [rxL, mvL, poA, setAll, List.cons_append, List.nil_append, List.setIfInBounds_toArray, List.set_cons_succ, List.set_cons_zero]
theorem rx_mv (x : Rx) (m : Mv) : setAll (rxL x).toArray 8 (mvA m).toList = (rxL { x with mv := m }).toArray := by
  simp only [rxL, mvL, mvA, setAll, List.cons_append, List.nil_append, List.setIfInBounds_toArray, List.set_cons_succ, List.set_cons_zero]
theorem XAt.pose {w : World} {q : Nat} {cs : Array Value} {x : Rx} (h : XAt w q cs x) : (loadVar 42 ⟨q, 17, none⟩).run Tryz.prog w = .ok (.agg (poA x.px x.py x.pd)) w :=
  run_loadVar_at w _ _ _ (fun j v hv => by
    rw [Addr.add_mid, show 17 + j = 16 + (1 + j) by omega, h.cell]
    match j with
    | 0 => exact hv
    | 1 => exact hv
    | 2 => exact hv
    | j + 3 => simp [poA] at hv) (aggPose _) infoPose
theorem XAt.move {w : World} {q : Nat} {cs : Array Value} {x : Rx} (h : XAt w q cs x) : (loadVar 44 ⟨q, 24, none⟩).run Tryz.prog w = .ok (.agg (mvA x.mv)) w :=
  run_loadVar_at w _ _ _ (fun j v hv => by
    rw [Addr.add_mid, show 24 + j = 16 + (8 + j) by omega, h.cell]
    unfold mvA at hv
    rw [List.getElem?_toArray] at hv
    exact pre_at [_, _, _, _, _, _, _, _] (mvL x.mv) [_, _, _, _, _] j v hv) (aggMove _) infoMove
/- What a call of the chapter's robot may turn: its own block. -/
structure Xn (q : Nat) (w w' : World) : Prop where
  os : w'.os = w.os
  tape : w'.tape = w.tape
  output : w'.output = w.output
  size : w.heap.size ≤ w'.heap.size
  block : ∀ i, i < w.heap.size → i ≠ q → w'.heap[i]? = w.heap[i]?
theorem Xn.refl (q : Nat) (w : World) : Xn q w w := ⟨rfl, rfl, rfl, Nat.le_refl _, fun _ _ _ => rfl⟩
theorem Xn.below {q : Nat} {w w' : World} (h : Below w.heap.size w w') : Xn q w w' := ⟨h.os, h.tape, h.output, h.size, fun i hi _ => h.block i hi⟩
theorem Xn.trans {q : Nat} {a b c : World} (h : Xn q a b) (k : Xn q b c) : Xn q a c := ⟨k.os.trans h.os, k.tape.trans h.tape, k.output.trans h.output, Nat.le_trans h.size k.size, fun i hi h1 => (k.block i (Nat.lt_of_lt_of_le hi h.size) h1).trans (h.block i hi h1)⟩
theorem Xn.only {q : Nat} {w w' : World} (h : Only q w w') : Xn q w w' := ⟨h.os, h.tape, h.output, by rw [h.size]; exact Nat.le_refl _, fun i _ h1 => h.block i h1⟩
theorem Xn.past {q B : Nat} {w0 w w' : World} (b : Below B w0 w) (h : Xn q w w') (hq : B ≤ q) (hB : B ≤ w.heap.size) : Below B w0 w' :=
  b.trans ⟨h.os, h.tape, h.output, h.size, fun i hi => h.block i (by omega) (by omega)⟩
/- A new block beside it, filled. -/
theorem XAt.own {w : World} {q : Nat} {cs : Array Value} {x : Rx} {g : Nat} {u : World} (h : XAt u q cs x) (o : Only g u w) (hg : q ≠ g) : XAt w q cs x := ⟨(o.block _ hg).trans h.at_, h.len⟩
theorem Xn.new {q g : Nat} {w u u' : World} (h : Xn q w u) (o : Only g u u') (hg : w.heap.size ≤ g) : Xn q w u' := ⟨o.os.trans h.os, o.tape.trans h.tape, o.output.trans h.output, by rw [o.size]; exact h.size, fun i hi h1 => (o.block i (by omega)).trans (h.block i hi h1)⟩
set_option maxRecDepth 100000 in
set_option maxHeartbeats 2000000 in
theorem rdelay_any {w : World} {q : Nat} {cs : Array Value} {x : Rx} (h : XAt w q cs x) (n : Int) (h0 : 0 ≤ x.la) (h1 : x.la ≤ 1000000) : Calls Tryz.prog 38 #[.pointer (some ⟨q, 0, none⟩), .int .i64 n] w fun e w' => e = .returned (.tuple #[]) ∧ XAt w' q cs (if x.un = true ∧ 0 < n then { x with la := min (x.la + min n 1000000) 1000000 } else x) ∧ Only q w w' := by
  have k23 := h.un
  have k37 := h.la
  have f37 := h.froz 37
  by_cases hc : x.un = true
  · have hc2 := hc
    rw [hc] at k23
    by_cases hn : 0 < n
    · rw [if_pos ⟨hc2, hn⟩]
      have q1 : decide (0 < n) = true := decide_eq_true hn
      have hw1 : IntKind.i64.wrap (x.la + min n 1000000) = x.la + min n 1000000 := by rw [IntKind.wrap_i64]; omega
      have hmm : min 1000000 (x.la + min n 1000000) = min (x.la + min n 1000000) 1000000 := by omega
      have e := rx_la x (min 1000000 (x.la + min n 1000000))
      have HE : Hid (XAt (w.setCells q 37 [.int .i64 (min 1000000 (x.la + min n 1000000))]) q cs { x with la := min (x.la + min n 1000000) 1000000 } ∧ Only q w (w.setCells q 37 [.int .i64 (min 1000000 (x.la + min n 1000000))])) := ⟨by rw [← hmm]; exact h.put 21 _ e, Only.setCells _ _ _ _⟩
      clear h e hn hc hc2 hmm
      go_enter Tryz.func38, Tryz.ntmps38
      go_wp2
      go_end0
      exact ⟨rfl, HE.out⟩
    · rw [if_neg (fun f => hn f.2)]
      have q1 : decide (0 < n) = false := decide_eq_false hn
      have HE : Hid (XAt w q cs x) := h
      clear h hn hc hc2
      go_enter Tryz.func38, Tryz.ntmps38
      go_wp2
      go_end0
      exact ⟨rfl, HE.out, Only.refl _ _⟩
  · have hc2 : x.un = false := by simpa using hc
    rw [if_neg (fun f => hc f.1)]
    rw [hc2] at k23
    have HE : Hid (XAt w q cs x) := h
    clear h hc hc2
    go_enter Tryz.func38, Tryz.ntmps38
    go_wp2
    go_end0
    exact ⟨rfl, HE.out, Only.refl _ _⟩
def rxHalt (x : Rx) : Tl := ⟨4, x.nb, x.ep, 0, 0, 0, 0, 0, 0, false, 0, 0, false, 0, 0, x.px, x.py, x.pd, x.ld⟩
def rxAck (x : Rx) : Tl := ⟨3, x.nb, x.ep, x.lt, 0, 0, 0, 0, 0, false, 0, 0, false, 0, 0, 0, 0, false, 0⟩
def rxTell (x : Rx) : Tl := if decide (x.lt = 0) && decide (0 < x.ep) then rxHalt x else rxAck x
theorem rxBuiltHalt (x : Rx) : Tryz.prog.built 46 [(0, .int .i64 4), (1, .int .i64 x.nb), (2, .int .i64 x.ep), (5, .agg (poA x.px x.py x.pd)), (6, .int .i64 x.ld)] = some (tlA (rxHalt x)) := by cases x; kernel_rfl
theorem rxBuiltAck (x : Rx) : Tryz.prog.built 46 [(0, .int .i64 3), (1, .int .i64 x.nb), (2, .int .i64 x.ep), (3, .int .i64 x.lt)] = some (tlA (rxAck x)) := by cases x; kernel_rfl
set_option maxRecDepth 100000 in
set_option maxHeartbeats 2000000 in
theorem rtell_any {w : World} {q : Nat} {cs : Array Value} {x : Rx} (h : XAt w q cs x) : Calls Tryz.prog 33 #[.pointer (some ⟨q, 0, none⟩)] w fun e w' => ∃ v, e = .returned v ∧ LsAt w.heap.size w' v (some (rxTell x)) ∧ Below w.heap.size w w' := by
  have k22 := h.lt_
  have k21 := h.ep
  have HX : Hid (XAt w q cs x) := h
  clear h
  unfold rxTell
  by_cases h1 : x.lt = 0
  · have q1 : (x.lt == 0) = true := by rw [beq_iff_eq]; exact h1
    by_cases h2 : 0 < x.ep
    · have q2 : decide (0 < x.ep) = true := decide_eq_true h2
      rw [if_pos (by rw [q2, decide_eq_true h1]; rfl)]
      clear h1 h2
      go_enter Tryz.func33, Tryz.ntmps33
      go_upto_region 2 with fail
      clear k22 k21
      refine start_held (S := fun u => Below w.drew.heap.size w.drew u) 19 rfl (by kernel_rfl) (Below.refl _ _) ?_
      simp only [Array.replicate_succ, Array.replicate_zero, List.push_toArray, List.nil_append, List.cons_append]
      have hS0 := Below.refl w.drew.heap.size w.drew
      have HB : Hid (Below w.heap.size w w.drew) := (Below.refl _ _).drew
      replace HX : Hid (XAt w.drew q cs x) := HX.out.go (Below.refl _ _).drew
      generalize w.drew = x0 at *
      refine tkq 0 hS0 ?_
      refine tkq 1 hS0 ?_
      refine tkq 2 hS0 ?_
      refine tkf 3 hS0 rfl (fun u hu => by have zz0 := (fun (u : World) (hu : Below x0.heap.size x0 u) => (HX.out.go hu).nb) u hu; go_simp; try rfl) ?_
      refine tkq 4 hS0 ?_
      refine tkq 5 hS0 ?_
      refine tkq 6 hS0 ?_
      refine tkf 7 hS0 rfl (fun u hu => by have zz0 := (fun (u : World) (hu : Below x0.heap.size x0 u) => (HX.out.go hu).ep) u hu; go_simp; try rfl) ?_
      refine tkq 8 hS0 ?_
      refine tkq 9 hS0 ?_
      refine tkq 10 hS0 ?_
      refine tkf 11 hS0 rfl (v := .agg (poA x.px x.py x.pd)) (fun u hu => by exact run_load_at 42 _ rfl ⟨q, 17, none⟩ rfl _ ((HX.out.go hu).pose)) ?_
      refine tkq 12 hS0 ?_
      refine tkq 13 hS0 ?_
      refine tkq 14 hS0 ?_
      refine tkf 15 hS0 rfl (fun u hu => by have zz0 := (fun (u : World) (hu : Below x0.heap.size x0 u) => (HX.out.go hu).ld) u hu; go_simp; try rfl) ?_
      refine tkf 16 hS0 rfl (v := .agg (tlA (rxHalt x))) (fun u hu => by refine run_build_op _ _ rfl _ _ ?_ (rxBuiltHalt x); simp only [List.map_toArray, List.map_cons, List.map_nil]; rfl) ?_
      refine wpAnyH_ready (rs := [17]) (by kernel_rfl) (by simp) (AllReadyH.cons ((nth_eq _ 17).trans rfl) ?_ AllReadyH.nil)
      intro K1 hK1
      obtain ⟨x1, hx1⟩ : ∃ zw, zw = x0.alloc (.cells (tlA (rxHalt x)) 46) := ⟨_, rfl⟩
      have hS1 := (show Below x0.heap.size x0 x1 by rw [hx1]; exact (Below.refl _ _).alloc (Nat.le_refl _) _)
      refine value_in hK1 (by kernel_rfl) (.slice (some ⟨x0.heap.size, 0, none⟩) 1 1) x1 (by rw [hx1]; exact run_one_op _ rfl (rxHalt x) rfl) hS1 ?_
      simp only [Act.put, List.setIfInBounds_toArray, List.set_cons_zero, List.set_cons_succ]
      refine tkq 18 hS1 ?_
      refine done_held (by kernel_rfl) ?_ _
      go_wp2
      go_ret
      exact ⟨_, rfl, ⟨_, rfl, HB.out.size, by rw [hx1]; exact World.alloc_heap_new _ _⟩, bcat HB.out hS1⟩
    · have q2 : decide (0 < x.ep) = false := decide_eq_false h2
      rw [if_neg (by rw [q2]; simp)]
      clear h1 h2
      go_enter Tryz.func33, Tryz.ntmps33
      go_upto_region 3 with fail
      clear k22 k21
      refine start_held (S := fun u => Below w.drew.heap.size w.drew u) 15 rfl (by kernel_rfl) (Below.refl _ _) ?_
      simp only [Array.replicate_succ, Array.replicate_zero, List.push_toArray, List.nil_append, List.cons_append]
      have hS0 := Below.refl w.drew.heap.size w.drew
      have HB : Hid (Below w.heap.size w w.drew) := (Below.refl _ _).drew
      replace HX : Hid (XAt w.drew q cs x) := HX.out.go (Below.refl _ _).drew
      generalize w.drew = x0 at *
      refine tkq 0 hS0 ?_
      refine tkq 1 hS0 ?_
      refine tkq 2 hS0 ?_
      refine tkf 3 hS0 rfl (fun u hu => by have zz0 := (fun (u : World) (hu : Below x0.heap.size x0 u) => (HX.out.go hu).nb) u hu; go_simp; try rfl) ?_
      refine tkq 4 hS0 ?_
      refine tkq 5 hS0 ?_
      refine tkq 6 hS0 ?_
      refine tkf 7 hS0 rfl (fun u hu => by have zz0 := (fun (u : World) (hu : Below x0.heap.size x0 u) => (HX.out.go hu).ep) u hu; go_simp; try rfl) ?_
      refine tkq 8 hS0 ?_
      refine tkq 9 hS0 ?_
      refine tkq 10 hS0 ?_
      refine tkf 11 hS0 rfl (fun u hu => by have zz0 := (fun (u : World) (hu : Below x0.heap.size x0 u) => (HX.out.go hu).lt_) u hu; go_simp; try rfl) ?_
      refine tkf 12 hS0 rfl (v := .agg (tlA (rxAck x))) (fun u hu => by refine run_build_op _ _ rfl _ _ ?_ (rxBuiltAck x); simp only [List.map_toArray, List.map_cons, List.map_nil]; rfl) ?_
      refine wpAnyH_ready (rs := [13]) (by kernel_rfl) (by simp) (AllReadyH.cons ((nth_eq _ 13).trans rfl) ?_ AllReadyH.nil)
      intro K1 hK1
      obtain ⟨x1, hx1⟩ : ∃ zw, zw = x0.alloc (.cells (tlA (rxAck x)) 46) := ⟨_, rfl⟩
      have hS1 := (show Below x0.heap.size x0 x1 by rw [hx1]; exact (Below.refl _ _).alloc (Nat.le_refl _) _)
      refine value_in hK1 (by kernel_rfl) (.slice (some ⟨x0.heap.size, 0, none⟩) 1 1) x1 (by rw [hx1]; exact run_one_op _ rfl (rxAck x) rfl) hS1 ?_
      simp only [Act.put, List.setIfInBounds_toArray, List.set_cons_zero, List.set_cons_succ]
      refine tkq 14 hS1 ?_
      refine done_held (by kernel_rfl) ?_ _
      go_wp2
      go_ret
      exact ⟨_, rfl, ⟨_, rfl, HB.out.size, by rw [hx1]; exact World.alloc_heap_new _ _⟩, bcat HB.out hS1⟩
  · have q1 : (x.lt == 0) = false := by rw [beq_eq_false_iff_ne]; exact h1
    rw [if_neg (by rw [decide_eq_false h1]; simp)]
    clear h1
    go_enter Tryz.func33, Tryz.ntmps33
    go_upto_region 3 with fail
    clear k22 k21
    refine start_held (S := fun u => Below w.drew.heap.size w.drew u) 15 rfl (by kernel_rfl) (Below.refl _ _) ?_
    simp only [Array.replicate_succ, Array.replicate_zero, List.push_toArray, List.nil_append, List.cons_append]
    have hS0 := Below.refl w.drew.heap.size w.drew
    have HB : Hid (Below w.heap.size w w.drew) := (Below.refl _ _).drew
    replace HX : Hid (XAt w.drew q cs x) := HX.out.go (Below.refl _ _).drew
    generalize w.drew = x0 at *
    refine tkq 0 hS0 ?_
    refine tkq 1 hS0 ?_
    refine tkq 2 hS0 ?_
    refine tkf 3 hS0 rfl (fun u hu => by have zz0 := (fun (u : World) (hu : Below x0.heap.size x0 u) => (HX.out.go hu).nb) u hu; go_simp; try rfl) ?_
    refine tkq 4 hS0 ?_
    refine tkq 5 hS0 ?_
    refine tkq 6 hS0 ?_
    refine tkf 7 hS0 rfl (fun u hu => by have zz0 := (fun (u : World) (hu : Below x0.heap.size x0 u) => (HX.out.go hu).ep) u hu; go_simp; try rfl) ?_
    refine tkq 8 hS0 ?_
    refine tkq 9 hS0 ?_
    refine tkq 10 hS0 ?_
    refine tkf 11 hS0 rfl (fun u hu => by have zz0 := (fun (u : World) (hu : Below x0.heap.size x0 u) => (HX.out.go hu).lt_) u hu; go_simp; try rfl) ?_
    refine tkf 12 hS0 rfl (v := .agg (tlA (rxAck x))) (fun u hu => by refine run_build_op _ _ rfl _ _ ?_ (rxBuiltAck x); simp only [List.map_toArray, List.map_cons, List.map_nil]; rfl) ?_
    refine wpAnyH_ready (rs := [13]) (by kernel_rfl) (by simp) (AllReadyH.cons ((nth_eq _ 13).trans rfl) ?_ AllReadyH.nil)
    intro K1 hK1
    obtain ⟨x1, hx1⟩ : ∃ zw, zw = x0.alloc (.cells (tlA (rxAck x)) 46) := ⟨_, rfl⟩
    have hS1 := (show Below x0.heap.size x0 x1 by rw [hx1]; exact (Below.refl _ _).alloc (Nat.le_refl _) _)
    refine value_in hK1 (by kernel_rfl) (.slice (some ⟨x0.heap.size, 0, none⟩) 1 1) x1 (by rw [hx1]; exact run_one_op _ rfl (rxAck x) rfl) hS1 ?_
    simp only [Act.put, List.setIfInBounds_toArray, List.set_cons_zero, List.set_cons_succ]
    refine tkq 14 hS1 ?_
    refine done_held (by kernel_rfl) ?_ _
    go_wp2
    go_ret
    exact ⟨_, rfl, ⟨_, rfl, HB.out.size, by rw [hx1]; exact World.alloc_heap_new _ _⟩, bcat HB.out hS1⟩
end Go.Proofs.YtedhoghleelhfaaGreat.Rob
/-
  A tick of the chapter's own robot.
-/
namespace Go.Proofs.YtedhoghleelhfaaGreat.Rob
set_option linter.unusedVariables false
set_option linter.unusedSimpArgs false
open Go Go.RowKit Go.Shelf Go.Proofs Go.Proofs.YtedhoghleelhfaaGreat.Lk Go.Proofs.YtedhoghleelhfaaGreat.Plain
attribute [local go_sem] Oper.semAt_some

def rxTick (x : Rx) : Rx := if x.un = false then x else if 0 < x.la then { x with la := x.la - 1 } else if 1 < x.lf then { x with lf := x.lf - 1, gn := x.gn + 1 } else if x.st then { x with lf := x.lf - 1, gn := x.gn + 1, px := x.mv.tx, py := x.mv.ty, pd := x.mv.td, un := false, mv := mv0, st := false } else { x with lf := x.lf - 1, gn := x.gn + 1, px := x.mv.tx, py := x.mv.ty, pd := x.mv.td, un := false, mv := mv0, lt := x.lt + 1 }
def rxTickM (x : Rx) : Mv := if x.un = false then mv0 else if 0 < x.la then mv0 else if 1 < x.lf then mv0 else x.mv
def rxTickH (x : Rx) : Int := if x.un = false then 0 else if 0 < x.la then 0 else if 1 < x.lf then 0 else if x.st then 2 else 1
theorem there_x {w : World} {q : Nat} {cs : Array Value} {x : Rx} (h : XAt w q cs x) (o n : Nat) (hn : o + n ≤ 40) : w.there q o n := there_of h.at_ o n (by
  have : (cs.toList ++ rxL x).toArray.size = 40 := by
    rw [List.size_toArray, List.length_append, Array.length_toList, h.len]
    rfl
  omega)
set_option maxRecDepth 100000 in
set_option maxHeartbeats 8000000 in
theorem rtick_any {w : World} {q : Nat} {cs : Array Value} {x : Rx} (h : XAt w q cs x) (f0 : 0 ≤ x.lf) (f1 : x.lf ≤ 4611686018427387904) (a1 : x.la ≤ 1000000) (g0 : 0 ≤ x.gn) (g1 : x.gn ≤ 4000000000000000000) (t0 : 0 ≤ x.lt) (t1 : x.lt ≤ 4000000000000000000) : Calls Tryz.prog 36 #[.pointer (some ⟨q, 0, none⟩)] w fun e w' => e = .returned (.tuple #[.agg (mvA (rxTickM x)), .int .i64 (rxTickH x)]) ∧ XAt w' q cs (rxTick x) ∧ Xn q w w' := by
  obtain ⟨w1, hw1⟩ : ∃ z, z = w.alloc (.cells (mvA mv0) 44) := ⟨_, rfl⟩
  have b1 : Below w.heap.size w w1 := by rw [hw1]; exact (Below.refl _ _).alloc (Nat.le_refl _) _
  have hm1 : w1.heap[w.heap.size]? = some (.cells (mvA mv0) 44 (0, 0)) := by rw [hw1]; exact World.alloc_heap_new _ _
  have Hw1 : Hid (XAt w1 q cs x ∧ Xn q w w1 ∧ w1.heap[w.heap.size]? = some (.cells (mvA mv0) 44 (0, 0))) := ⟨h.go b1, Xn.below b1, hm1⟩
  have HQ : Hid (w.heap.size ≠ q) := Ne.symm (Nat.ne_of_lt h.qlt)
  have k23 := Hw1.out.1.un
  have k37 := Hw1.out.1.la
  have k35 := Hw1.out.1.lf
  clear h b1 hm1
  unfold rxTick rxTickM rxTickH
  by_cases hu : x.un = false
  · rw [if_pos hu, if_pos hu, if_pos hu]
    rw [hu] at k23
    clear hu k37 k35 f0 f1 a1 g0 g1 t0 t1
    go_enter Tryz.func36, Tryz.ntmps36
    go_wp2_with (first | (refine wpList_allocAs rfl 44 rfl (mvA mv0) (zeroMove _) ?_; rw [← hw1]; clear hw1) | (refine wpList_buildAs rfl 44 _ rfl (mvA mv0) _ rfl builtMv0 ?_) | (refine wpList_store_row rfl 44 (.tmp 2) (.tmp 10) rfl w.heap.size (mvA mv0) rfl rfl 44 (mvA mv0) Hw1.out.2.2 infoMove rfl (mvA_one _) ?_))
    exact bodyPost_ret (Lk.results_cell_tmp Tryz.results36 _ _ w.heap.size (mvA mv0) rfl (load_row_of (cs := mvA mv0) (setRow_heap _ _ _ _ _ _ Hw1.out.2.2) (aggMove _) infoMove)) rfl ⟨rfl, Hw1.out.1.own (Only.setRow _ _ _) (Ne.symm HQ.out), Hw1.out.2.1.new (Only.setRow _ _ _) (Nat.le_refl _)⟩
  · rw [if_neg hu, if_neg hu, if_neg hu]
    rw [show x.un = true by simpa using hu] at k23
    by_cases h1 : 0 < x.la
    · rw [if_pos h1, if_pos h1, if_pos h1]
      have q1 : decide (0 < x.la) = true := decide_eq_true h1
      have hwa : IntKind.i64.wrap (x.la - 1) = x.la - 1 := by rw [IntKind.wrap_i64]; omega
      have f37 := Hw1.out.1.froz 37
      obtain ⟨w2, hw2⟩ : ∃ z, w1.setCell ⟨q, 37, none⟩ (.int .i64 (x.la - 1)) = z := ⟨_, rfl⟩
      have Hw2 : Hid (XAt w2 q cs { x with la := x.la - 1 } ∧ Xn q w w2 ∧ w2.heap[w.heap.size]? = some (.cells (mvA mv0) 44 (0, 0))) := by
        have e : w1.setCells q 37 [.int .i64 (x.la - 1)] = w2 := hw2
        show XAt w2 q cs { x with la := x.la - 1 } ∧ Xn q w w2 ∧ w2.heap[w.heap.size]? = some (.cells (mvA mv0) 44 (0, 0))
        rw [← e]
        exact ⟨Hw1.out.1.put 21 _ (rx_la _ _), Hw1.out.2.1.trans (Xn.only (Only.setCells _ _ _ _)), ((Only.setCells q [.int .i64 (x.la - 1)] 37 w1).block _ HQ.out).trans Hw1.out.2.2⟩
      clear hu h1 k35 f0 f1 a1 g0 g1 t0 t1
      go_enter Tryz.func36, Tryz.ntmps36
      go_wp2_with (first | (refine wpList_allocAs rfl 44 rfl (mvA mv0) (zeroMove _) ?_; rw [← hw1]; clear hw1) | (refine wpList_buildAs rfl 44 _ rfl (mvA mv0) _ rfl builtMv0 ?_) | (refine wpList_store_row rfl 44 (.tmp 2) (.tmp 23) rfl w.heap.size (mvA mv0) rfl rfl 44 (mvA mv0) Hw2.out.2.2 infoMove rfl (mvA_one _) ?_))
      exact bodyPost_ret (Lk.results_cell_tmp Tryz.results36 _ _ w.heap.size (mvA mv0) rfl (load_row_of (cs := mvA mv0) (setRow_heap _ _ _ _ _ _ Hw2.out.2.2) (aggMove _) infoMove)) rfl ⟨rfl, Hw2.out.1.own (Only.setRow _ _ _) (Ne.symm HQ.out), Hw2.out.2.1.new (Only.setRow _ _ _) (Nat.le_refl _)⟩
    · rw [if_neg h1, if_neg h1, if_neg h1]
      have q1 : decide (0 < x.la) = false := decide_eq_false h1
      have hwf : IntKind.i64.wrap (x.lf - 1) = x.lf - 1 := by rw [IntKind.wrap_i64]; omega
      have hwg : IntKind.i64.wrap (x.gn + 1) = x.gn + 1 := by rw [IntKind.wrap_i64]; omega
      have f35 := Hw1.out.1.froz 35
      obtain ⟨w2, hw2⟩ : ∃ z, w1.setCell ⟨q, 35, none⟩ (.int .i64 (x.lf - 1)) = z := ⟨_, rfl⟩
      have Hw2 : Hid (XAt w2 q cs { x with lf := x.lf - 1 } ∧ Xn q w w2 ∧ w2.heap[w.heap.size]? = some (.cells (mvA mv0) 44 (0, 0))) := by
        have e : w1.setCells q 35 [.int .i64 (x.lf - 1)] = w2 := hw2
        show XAt w2 q cs { x with lf := x.lf - 1 } ∧ Xn q w w2 ∧ w2.heap[w.heap.size]? = some (.cells (mvA mv0) 44 (0, 0))
        rw [← e]
        exact ⟨Hw1.out.1.put 19 _ (rx_lf _ _), Hw1.out.2.1.trans (Xn.only (Only.setCells _ _ _ _)), ((Only.setCells q [.int .i64 (x.lf - 1)] 35 w1).block _ HQ.out).trans Hw1.out.2.2⟩
      have k36 := Hw2.out.1.gn
      have f36 := Hw2.out.1.froz 36
      obtain ⟨w3, hw3⟩ : ∃ z, w2.setCell ⟨q, 36, none⟩ (.int .i64 (x.gn + 1)) = z := ⟨_, rfl⟩
      have Hw3 : Hid (XAt w3 q cs { x with lf := x.lf - 1, gn := x.gn + 1 } ∧ Xn q w w3 ∧ w3.heap[w.heap.size]? = some (.cells (mvA mv0) 44 (0, 0))) := by
        have e : w2.setCells q 36 [.int .i64 (x.gn + 1)] = w3 := hw3
        show XAt w3 q cs { x with lf := x.lf - 1, gn := x.gn + 1 } ∧ Xn q w w3 ∧ w3.heap[w.heap.size]? = some (.cells (mvA mv0) 44 (0, 0))
        rw [← e]
        exact ⟨Hw2.out.1.put 20 _ (rx_gn _ _), Hw2.out.2.1.trans (Xn.only (Only.setCells _ _ _ _)), ((Only.setCells q [.int .i64 (x.gn + 1)] 36 w2).block _ HQ.out).trans Hw2.out.2.2⟩
      have k35c := Hw3.out.1.lf
      clear h1
      by_cases h2 : 1 < x.lf
      · rw [if_pos h2, if_pos h2, if_pos h2]
        have q2 : decide (0 < x.lf - 1) = true := decide_eq_true (by omega)
        have q3 : decide (1 < x.lf) = true := decide_eq_true h2
        clear hu h2 f0 f1 a1 g0 g1 t0 t1
        go_enter Tryz.func36, Tryz.ntmps36
        go_wp2_with (first | (refine wpList_allocAs rfl 44 rfl (mvA mv0) (zeroMove _) ?_; rw [← hw1]; clear hw1) | (refine wpList_buildAs rfl 44 _ rfl (mvA mv0) _ rfl builtMv0 ?_) | (refine wpList_store_row rfl 44 (.tmp 2) (.tmp 43) rfl w.heap.size (mvA mv0) rfl rfl 44 (mvA mv0) Hw3.out.2.2 infoMove rfl (mvA_one _) ?_))
        exact bodyPost_ret (Lk.results_cell_tmp Tryz.results36 _ _ w.heap.size (mvA mv0) rfl (load_row_of (cs := mvA mv0) (setRow_heap _ _ _ _ _ _ Hw3.out.2.2) (aggMove _) infoMove)) rfl ⟨rfl, Hw3.out.1.own (Only.setRow _ _ _) (Ne.symm HQ.out), Hw3.out.2.1.new (Only.setRow _ _ _) (Nat.le_refl _)⟩
      · rw [if_neg h2, if_neg h2, if_neg h2]
        have q2 : decide (0 < x.lf - 1) = false := decide_eq_false (by omega)
        have q3 : decide (1 < x.lf) = false := decide_eq_false h2
        clear h2
        obtain ⟨w4, hw4⟩ : ∃ z, z = w3.alloc (.cells (mvA x.mv) 44) := ⟨_, rfl⟩
        have b4 : Below w3.heap.size w3 w4 := by rw [hw4]; exact (Below.refl _ _).alloc (Nat.le_refl _) _
        have hn4 : w4.heap[w3.heap.size]? = some (.cells (mvA x.mv) 44 (0, 0)) := by rw [hw4]; exact World.alloc_heap_new _ _
        have Hw4 : Hid (XAt w4 q cs { x with lf := x.lf - 1, gn := x.gn + 1 } ∧ Xn q w w4 ∧ w4.heap[w.heap.size]? = some (.cells (mvA mv0) 44 (0, 0))) := ⟨Hw3.out.1.go b4, Hw3.out.2.1.trans (Xn.below b4), (b4.block _ (Array.getElem?_eq_some_iff.1 Hw3.out.2.2).1).trans Hw3.out.2.2⟩
        have HN3 : Hid (q ≠ w3.heap.size) := Nat.ne_of_lt Hw3.out.1.qlt
        have HN4 : Hid (w4.heap[w3.heap.size]? = some (.cells (mvA x.mv) 44 (0, 0))) := hn4
        obtain ⟨w5, hw5⟩ : ∃ z, w4.setCells q 17 (poA x.mv.tx x.mv.ty x.mv.td).toList = z := ⟨_, rfl⟩
        have Hw5 : Hid (XAt w5 q cs { x with lf := x.lf - 1, gn := x.gn + 1, px := x.mv.tx, py := x.mv.ty, pd := x.mv.td } ∧ Xn q w w5 ∧ w5.heap[w.heap.size]? = some (.cells (mvA mv0) 44 (0, 0))) := by
          show XAt w5 q cs { x with lf := x.lf - 1, gn := x.gn + 1, px := x.mv.tx, py := x.mv.ty, pd := x.mv.td } ∧ Xn q w w5 ∧ w5.heap[w.heap.size]? = some (.cells (mvA mv0) 44 (0, 0))
          rw [← hw5]
          exact ⟨Hw4.out.1.put 1 _ (rx_at _ _ _ _), Hw4.out.2.1.trans (Xn.only (Only.setCells _ _ _ _)), ((Only.setCells q _ 17 w4).block _ HQ.out).trans Hw4.out.2.2⟩
        have HN5 : Hid (w5.heap[w3.heap.size]? = some (.cells (mvA x.mv) 44 (0, 0))) := by show w5.heap[w3.heap.size]? = _; rw [← hw5]; exact ((Only.setCells q _ 17 w4).block _ (Ne.symm HN3.out)).trans HN4.out
        obtain ⟨w6, hw6⟩ : ∃ z, w5.setCell ⟨q, 23, none⟩ (.bool false) = z := ⟨_, rfl⟩
        have Hw6 : Hid (XAt w6 q cs { x with lf := x.lf - 1, gn := x.gn + 1, px := x.mv.tx, py := x.mv.ty, pd := x.mv.td, un := false } ∧ Xn q w w6 ∧ w6.heap[w.heap.size]? = some (.cells (mvA mv0) 44 (0, 0))) := by
          have e : w5.setCells q 23 [.bool false] = w6 := hw6
          show XAt w6 q cs { x with lf := x.lf - 1, gn := x.gn + 1, px := x.mv.tx, py := x.mv.ty, pd := x.mv.td, un := false } ∧ Xn q w w6 ∧ w6.heap[w.heap.size]? = some (.cells (mvA mv0) 44 (0, 0))
          rw [← e]
          exact ⟨Hw5.out.1.put 7 _ (rx_un _ false), Hw5.out.2.1.trans (Xn.only (Only.setCells _ _ _ _)), ((Only.setCells q [.bool false] 23 w5).block _ HQ.out).trans Hw5.out.2.2⟩
        have HN6 : Hid (w6.heap[w3.heap.size]? = some (.cells (mvA x.mv) 44 (0, 0))) := by show w6.heap[w3.heap.size]? = _; rw [← hw6]; exact ((Only.setCell q 23 _ w5).block _ (Ne.symm HN3.out)).trans HN5.out
        obtain ⟨w7, hw7⟩ : ∃ z, w6.setCells q 24 (mvA mv0).toList = z := ⟨_, rfl⟩
        have Hw7 : Hid (XAt w7 q cs { x with lf := x.lf - 1, gn := x.gn + 1, px := x.mv.tx, py := x.mv.ty, pd := x.mv.td, un := false, mv := mv0 } ∧ Xn q w w7 ∧ w7.heap[w.heap.size]? = some (.cells (mvA mv0) 44 (0, 0))) := by
          show XAt w7 q cs { x with lf := x.lf - 1, gn := x.gn + 1, px := x.mv.tx, py := x.mv.ty, pd := x.mv.td, un := false, mv := mv0 } ∧ Xn q w w7 ∧ w7.heap[w.heap.size]? = some (.cells (mvA mv0) 44 (0, 0))
          rw [← hw7]
          exact ⟨Hw6.out.1.put 8 _ (rx_mv _ _), Hw6.out.2.1.trans (Xn.only (Only.setCells _ _ _ _)), ((Only.setCells q _ 24 w6).block _ HQ.out).trans Hw6.out.2.2⟩
        have HN7 : Hid (w7.heap[w3.heap.size]? = some (.cells (mvA x.mv) 44 (0, 0))) := by show w7.heap[w3.heap.size]? = _; rw [← hw7]; exact ((Only.setCells q _ 24 w6).block _ (Ne.symm HN3.out)).trans HN6.out
        have k38 : w7.cell? ⟨q, 38, none⟩ = some (.bool x.st) := Hw7.out.1.st
        have k23b := Hw5.out.1.un
        have f23 := Hw5.out.1.froz 23
        have k35b := Hw3.out.1.lf
        have k37b := k37
        clear b4 hn4
        by_cases hs : x.st = true
        · rw [if_pos hs, if_pos hs]
          rw [hs] at k38
          clear hs hu f0 f1 a1
          obtain ⟨w8, hw8⟩ : ∃ z, w7.setCell ⟨q, 38, none⟩ (.bool false) = z := ⟨_, rfl⟩
          have Hw8 : Hid (XAt w8 q cs { x with lf := x.lf - 1, gn := x.gn + 1, px := x.mv.tx, py := x.mv.ty, pd := x.mv.td, un := false, mv := mv0, st := false } ∧ Xn q w w8 ∧ w8.heap[w.heap.size]? = some (.cells (mvA mv0) 44 (0, 0))) := by
            have e : w7.setCells q 38 [.bool false] = w8 := hw8
            show XAt w8 q cs { x with lf := x.lf - 1, gn := x.gn + 1, px := x.mv.tx, py := x.mv.ty, pd := x.mv.td, un := false, mv := mv0, st := false } ∧ Xn q w w8 ∧ w8.heap[w.heap.size]? = some (.cells (mvA mv0) 44 (0, 0))
            rw [← e]
            exact ⟨Hw7.out.1.put 22 _ (rx_st _ false), Hw7.out.2.1.trans (Xn.only (Only.setCells _ _ _ _)), ((Only.setCells q [.bool false] 38 w7).block _ HQ.out).trans Hw7.out.2.2⟩
          have f38 := Hw7.out.1.froz 38
          have HN8 : Hid (w8.heap[w3.heap.size]? = some (.cells (mvA x.mv) 44 (0, 0))) := by show w8.heap[w3.heap.size]? = _; rw [← hw8]; exact ((Only.setCell q 38 _ w7).block _ (Ne.symm HN3.out)).trans HN7.out
          clear t0 t1 g0 g1
          go_enter Tryz.func36, Tryz.ntmps36
          go_upto_region 10 with (first | (refine wpList_allocAs rfl 44 rfl (mvA mv0) (zeroMove _) ?_; rw [← hw1]; clear hw1))
          go_upto_region 11 with (first | (refine wpList_load_at rfl 44 (.tmp 46) rfl ⟨q, 24, none⟩ rfl (mvA x.mv) (Hw3.out.1.move) ?_) | (refine wpList_new rfl rfl 44 4 (.tmp 47) rfl rfl rfl rfl (mvA mv0) (mvA x.mv) (zeroMove _) rfl rfl infoMove rfl (mvA_one _) ?_; rw [← hw4]; clear hw4))
          go_upto_region 12 with (first | (refine wpList_load_at rfl 42 (.tmp 49) rfl ⟨w3.heap.size, 6, none⟩ rfl (poA x.mv.tx x.mv.ty x.mv.td) (mv_to HN4.out) ?_) | (refine wpList_store_mid rfl 42 (.tmp 52) _ rfl q 17 (poA x.mv.tx x.mv.ty x.mv.td) rfl rfl (there_x Hw4.out.1 17 3 (by omega)) infoPose (poA_one _ _ _) ?_; rw [hw5]; clear hw5))
          go_upto_region 14 with (first | (refine wpList_buildAs rfl 44 _ rfl (mvA mv0) _ rfl builtMv0 ?_) | (refine wpList_store_mid rfl 44 (.tmp 59) _ rfl q 24 (mvA mv0) rfl rfl (there_x Hw6.out.1 24 11 (by omega)) infoMove (mvA_one _) ?_; rw [hw7]; clear hw7))
          go_wp2_with (first | (refine wpList_load_at rfl 44 (.tmp 4) rfl ⟨w3.heap.size, 0, none⟩ rfl (mvA x.mv) (mv_all HN8.out) ?_) | (refine wpList_store_row rfl 44 (.tmp 2) (.tmp 67) rfl w.heap.size (mvA x.mv) rfl rfl 44 (mvA mv0) Hw8.out.2.2 infoMove rfl (mvA_one _) ?_))
          exact bodyPost_ret (Lk.results_cell_tmp Tryz.results36 _ _ w.heap.size (mvA x.mv) rfl (load_row_of (cs := mvA x.mv) (setRow_heap _ _ _ _ _ _ Hw8.out.2.2) (aggMove _) infoMove)) rfl ⟨rfl, Hw8.out.1.own (Only.setRow _ _ _) (Ne.symm HQ.out), Hw8.out.2.1.new (Only.setRow _ _ _) (Nat.le_refl _)⟩
        · rw [if_neg hs, if_neg hs]
          rw [show x.st = false by simpa using hs] at k38
          clear hs hu f0 f1 a1
          have hwl : IntKind.i64.wrap (x.lt + 1) = x.lt + 1 := by rw [IntKind.wrap_i64]; omega
          obtain ⟨w8, hw8⟩ : ∃ z, w7.setCell ⟨q, 22, none⟩ (.int .i64 (x.lt + 1)) = z := ⟨_, rfl⟩
          have Hw8 : Hid (XAt w8 q cs { x with lf := x.lf - 1, gn := x.gn + 1, px := x.mv.tx, py := x.mv.ty, pd := x.mv.td, un := false, mv := mv0, lt := x.lt + 1 } ∧ Xn q w w8 ∧ w8.heap[w.heap.size]? = some (.cells (mvA mv0) 44 (0, 0))) := by
            have e : w7.setCells q 22 [.int .i64 (x.lt + 1)] = w8 := hw8
            show XAt w8 q cs { x with lf := x.lf - 1, gn := x.gn + 1, px := x.mv.tx, py := x.mv.ty, pd := x.mv.td, un := false, mv := mv0, lt := x.lt + 1 } ∧ Xn q w w8 ∧ w8.heap[w.heap.size]? = some (.cells (mvA mv0) 44 (0, 0))
            rw [← e]
            exact ⟨Hw7.out.1.put 6 _ (rx_lt _ (x.lt + 1)), Hw7.out.2.1.trans (Xn.only (Only.setCells _ _ _ _)), ((Only.setCells q [.int .i64 (x.lt + 1)] 22 w7).block _ HQ.out).trans Hw7.out.2.2⟩
          have k22b := Hw7.out.1.lt_
          have f22 := Hw7.out.1.froz 22
          have HN8 : Hid (w8.heap[w3.heap.size]? = some (.cells (mvA x.mv) 44 (0, 0))) := by show w8.heap[w3.heap.size]? = _; rw [← hw8]; exact ((Only.setCell q 22 _ w7).block _ (Ne.symm HN3.out)).trans HN7.out
          clear t0 t1 g0 g1
          go_enter Tryz.func36, Tryz.ntmps36
          go_upto_region 10 with (first | (refine wpList_allocAs rfl 44 rfl (mvA mv0) (zeroMove _) ?_; rw [← hw1]; clear hw1))
          go_upto_region 11 with (first | (refine wpList_load_at rfl 44 (.tmp 46) rfl ⟨q, 24, none⟩ rfl (mvA x.mv) (Hw3.out.1.move) ?_) | (refine wpList_new rfl rfl 44 4 (.tmp 47) rfl rfl rfl rfl (mvA mv0) (mvA x.mv) (zeroMove _) rfl rfl infoMove rfl (mvA_one _) ?_; rw [← hw4]; clear hw4))
          go_upto_region 12 with (first | (refine wpList_load_at rfl 42 (.tmp 49) rfl ⟨w3.heap.size, 6, none⟩ rfl (poA x.mv.tx x.mv.ty x.mv.td) (mv_to HN4.out) ?_) | (refine wpList_store_mid rfl 42 (.tmp 52) _ rfl q 17 (poA x.mv.tx x.mv.ty x.mv.td) rfl rfl (there_x Hw4.out.1 17 3 (by omega)) infoPose (poA_one _ _ _) ?_; rw [hw5]; clear hw5))
          go_upto_region 14 with (first | (refine wpList_buildAs rfl 44 _ rfl (mvA mv0) _ rfl builtMv0 ?_) | (refine wpList_store_mid rfl 44 (.tmp 59) _ rfl q 24 (mvA mv0) rfl rfl (there_x Hw6.out.1 24 11 (by omega)) infoMove (mvA_one _) ?_; rw [hw7]; clear hw7))
          go_wp2_with (first | (refine wpList_load_at rfl 44 (.tmp 4) rfl ⟨w3.heap.size, 0, none⟩ rfl (mvA x.mv) (mv_all HN8.out) ?_) | (refine wpList_store_row rfl 44 (.tmp 2) (.tmp 75) rfl w.heap.size (mvA x.mv) rfl rfl 44 (mvA mv0) Hw8.out.2.2 infoMove rfl (mvA_one _) ?_))
          exact bodyPost_ret (Lk.results_cell_tmp Tryz.results36 _ _ w.heap.size (mvA x.mv) rfl (load_row_of (cs := mvA x.mv) (setRow_heap _ _ _ _ _ _ Hw8.out.2.2) (aggMove _) infoMove)) rfl ⟨rfl, Hw8.out.1.own (Only.setRow _ _ _) (Ne.symm HQ.out), Hw8.out.2.1.new (Only.setRow _ _ _) (Nat.le_refl _)⟩
end Go.Proofs.YtedhoghleelhfaaGreat.Rob
/-
  The chapter's own robot and the program's, in plain words: a tick, a delay and what is told are the same at both.
-/
namespace Go.Proofs.YtedhoghleelhfaaGreat.Rob
set_option linter.unusedVariables false
set_option linter.unusedSimpArgs false
open Go Go.RowKit Go.Shelf Go.Proofs Go.Proofs.YtedhoghleelhfaaGreat.Lk Go.Proofs.YtedhoghleelhfaaGreat.Plain

theorem rx_late (r : Rb) (gn : Int) (cu : Bool) (n : Int) : (if (rxOf r gn cu).un = true ∧ 0 < n then { rxOf r gn cu with la := min ((rxOf r gn cu).la + min n 1000000) 1000000 } else rxOf r gn cu) = rxOf (lateR r n) gn cu := by
  unfold lateR
  by_cases h : under r = true ∧ 0 < n
  · rw [if_pos h, if_pos (show (rxOf r gn cu).un = true ∧ 0 < n from h)]
    rfl
  · rw [if_neg h, if_neg (show ¬ ((rxOf r gn cu).un = true ∧ 0 < n) from h)]
theorem rx_tick {n : Int} {r : Rb} (ok : OkR n r) (gn : Int) (cu : Bool) (hg : under r = true → gn = r.gn) :
    ∃ gn', rxTick (rxOf r gn cu) = rxOf (tickR r) gn' cu ∧ (under (tickR r) = true → gn' = (tickR r).gn) ∧ rxTickM (rxOf r gn cu) = tickM r ∧ rxTickH (rxOf r gn cu) = tickH r := by
  have hun : (rxOf r gn cu).un = under r := rfl
  unfold rxTick rxTickM rxTickH tickR tickM tickH
  rw [hun]
  by_cases hu : under r = false
  · repeat rw [if_pos hu]
    exact ⟨gn, rfl, fun h => hg h, rfl, rfl⟩
  · repeat rw [if_neg hu]
    have hut : under r = true := by simpa using hu
    have hl : 0 < r.lf := by unfold under at hut; simpa using hut
    have hla : (rxOf r gn cu).la = r.la := rfl
    have hlf : (rxOf r gn cu).lf = r.lf := rfl
    rw [hla, hlf]
    by_cases h1 : 0 < r.la
    · repeat rw [if_pos h1]
      exact ⟨gn, rfl, fun _ => hg hut, rfl, rfl⟩
    · repeat rw [if_neg h1]
      by_cases h2 : 1 < r.lf
      · repeat rw [if_pos h2]
        refine ⟨gn + 1, ?_, fun _ => by rw [hg hut], rfl, rfl⟩
        have e : under { r with lf := r.lf - 1, gn := r.gn + 1 } = true := by
          show decide (0 < r.lf - 1) = true
          rw [decide_eq_true_iff]
          omega
        show ({ rxOf r gn cu with lf := r.lf - 1, gn := gn + 1 } : Rx) = rxOf { r with lf := r.lf - 1, gn := r.gn + 1 } (gn + 1) cu
        unfold rxOf
        rw [e, hut]
      · repeat rw [if_neg h2]
        have h0 := ok.la0
        have e1 : r.lf - 1 = 0 := by omega
        have e2 : r.la = 0 := by omega
        by_cases hs : r.st = true
        · refine ⟨gn + 1, ?_, ?_, rfl, rfl⟩
          rotate_left
          · intro h
            cases (show false = true from h)
          rw [if_pos (show (rxOf r gn cu).st = true from hs)]
          show (⟨r.nb, r.mv.tx, r.mv.ty, r.mv.td, r.ld, r.ep, r.lt, false, mv0, r.lf - 1, gn + 1, r.la, false, cu⟩ : Rx) = ⟨r.nb, r.mv.tx, r.mv.ty, r.mv.td, r.ld, r.ep, (if r.st then r.lt else r.lt + 1), false, mv0, 0, gn + 1, 0, false, cu⟩
          rw [e1, e2, if_pos hs]
        · refine ⟨gn + 1, ?_, ?_, rfl, rfl⟩
          rotate_left
          · intro h
            cases (show false = true from h)
          rw [if_neg (show ¬ (rxOf r gn cu).st = true from hs)]
          show (⟨r.nb, r.mv.tx, r.mv.ty, r.mv.td, r.ld, r.ep, r.lt + 1, false, mv0, r.lf - 1, gn + 1, r.la, r.st, cu⟩ : Rx) = ⟨r.nb, r.mv.tx, r.mv.ty, r.mv.td, r.ld, r.ep, (if r.st then r.lt else r.lt + 1), false, mv0, 0, gn + 1, 0, false, cu⟩
          rw [e1, e2, if_neg hs, show r.st = false by simpa using hs]
end Go.Proofs.YtedhoghleelhfaaGreat.Rob
