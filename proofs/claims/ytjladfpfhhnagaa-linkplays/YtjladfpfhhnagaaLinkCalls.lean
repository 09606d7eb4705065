/-
  A link in memory, and what each of its calls answers and leaves.
-/
import Derived.Test.YtjladfpfhhnagaaLinkTele
namespace Go.Proofs.Ytjladfpfhhnagaa.Lk
set_option linter.unusedVariables false
set_option linter.unusedSimpArgs false
open Go Go.RowKit Go.Shelf Go.Proofs
attribute [local go_sem] Oper.semAt_some

def enc (p : Tl × Int) : Value := .agg (sdA p.1 p.2)
/- What waits: by robots, each with the tick of its sending. -/
abbrev Mp := Int → Option (Tl × Int)
def upd (M : Mp) (x : Int) (v : Option (Tl × Int)) : Mp := fun y => if y = x then v else M y
def sdOf (o : Option (Tl × Int)) : Array Value := sdA (o.getD (tl0, 0)).1 (o.getD (tl0, 0)).2
def tlOf (o : Option (Tl × Int)) : Tl := (o.getD (tl0, 0)).1
def LkB (rs rsd : Int) (b : Nat) : Obj := .cells #[.int .i64 rs, .int .i64 rsd, .map (some b)] 59 (0, 0)
structure LkAt (w : World) (p b n : Nat) (rs rsd : Int) (M : Mp) : Prop where
  at_ : w.heap[p]? = some (LkB rs rsd b)
  map : MapIs Try.prog 3 w b n (fun x => (M x).map enc)
theorem LkAt.lt {w : World} {p b n : Nat} {rs rsd : Int} {M : Mp} (h : LkAt w p b n rs rsd M) : p < w.heap.size := (Array.getElem?_eq_some_iff.1 h.at_).1
theorem LkAt.blt {w : World} {p b n : Nat} {rs rsd : Int} {M : Mp} (h : LkAt w p b n rs rsd M) : b < w.heap.size := h.map.lt
theorem LkAt.ne {w : World} {p b n : Nat} {rs rsd : Int} {M : Mp} (h : LkAt w p b n rs rsd M) : p ≠ b := fun e => by
  obtain ⟨D, ⟨es, ck, hb, _⟩, _⟩ := h.map
  rw [← e, h.at_] at hb
  cases hb
theorem LkAt.same {w w' : World} {p b n : Nat} {rs rsd : Int} {M : Mp} (h : LkAt w p b n rs rsd M) (e1 : w'.heap[p]? = w.heap[p]?) (e2 : w'.heap[b]? = w.heap[b]?) : LkAt w' p b n rs rsd M := ⟨e1.trans h.at_, h.map.same e2⟩
theorem LkAt.go {w w' : World} {p b n : Nat} {rs rsd : Int} {M : Mp} (h : LkAt w p b n rs rsd M) (hb : Below w.heap.size w w') : LkAt w' p b n rs rsd M := h.same (hb.block _ h.lt) (hb.block _ h.blt)
theorem LkAt.c0 {w : World} {p b n : Nat} {rs rsd : Int} {M : Mp} (h : LkAt w p b n rs rsd M) : w.cell? ⟨p, 0, none⟩ = some (.int .i64 rs) := by simp [World.cell?, h.at_, LkB]
theorem LkAt.c1 {w : World} {p b n : Nat} {rs rsd : Int} {M : Mp} (h : LkAt w p b n rs rsd M) : w.cell? ⟨p, 1, none⟩ = some (.int .i64 rsd) := by simp [World.cell?, h.at_, LkB]
theorem LkAt.c2 {w : World} {p b n : Nat} {rs rsd : Int} {M : Mp} (h : LkAt w p b n rs rsd M) : w.cell? ⟨p, 2, none⟩ = some (.map (some b)) := by simp [World.cell?, h.at_, LkB]
theorem link_c0 {w : World} {p b : Nat} {rs rsd : Int} (h : w.heap[p]? = some (LkB rs rsd b)) : w.cell? ⟨p, 0, none⟩ = some (.int .i64 rs) := by simp [World.cell?, h, LkB]
theorem link_c1 {w : World} {p b : Nat} {rs rsd : Int} (h : w.heap[p]? = some (LkB rs rsd b)) : w.cell? ⟨p, 1, none⟩ = some (.int .i64 rsd) := by simp [World.cell?, h, LkB]
theorem link_c2 {w : World} {p b : Nat} {rs rsd : Int} (h : w.heap[p]? = some (LkB rs rsd b)) : w.cell? ⟨p, 2, none⟩ = some (.map (some b)) := by simp [World.cell?, h, LkB]
theorem LkAt.look {w : World} {p b n : Nat} {rs rsd : Int} {M : Mp} (h : LkAt w p b n rs rsd M) {x : Int} (hx : wf64 x) :
    (Instr.lookup 57 (.map (some b)) (.int .i64 x) true).run Try.prog w = .ok (.tuple #[.agg (sdOf (M x)), .bool (M x).isSome]) w := by
  rw [h.map.look Try.underlying57 Try.underlying3 (zeroSd w) hx]
  cases M x <;> rfl
theorem turned_grown {w w' : World} {b : Nat} (h : w.mapTurned w' b) : w.grownBy w' (some b) := h.grown
theorem LkAt.store {w : World} {p b n : Nat} {rs rsd : Int} {M : Mp} (h : LkAt w p b n rs rsd M) {x : Int} (hx : wf64 x) (hn : n < 1000000) (t : Tl) (at_ : Int) :
    ∃ w', (Instr.mapUpdate 57 (.map (some b)) (.int .i64 x) (.agg (sdA t at_))).run Try.prog w = .ok () w' ∧ LkAt w' p b (n + 1) rs rsd (upd M x (some (t, at_))) ∧ w.grownBy w' (some b) := by
  obtain ⟨w', hr, hm, ht⟩ := h.map.store Try.underlying57 Try.underlying3 (by unfold maxLen; omega) hx (.agg (sdA t at_))
  refine ⟨w', hr, ⟨(ht.grown.block _ h.lt (fun e => h.ne (by cases e; rfl))).trans h.at_, ?_⟩, ht.grown⟩
  have e : (fun y => if y = x then some (Value.agg (sdA t at_)) else (M y).map enc) = fun y => (upd M x (some (t, at_)) y).map enc := by
    funext y
    unfold upd
    split <;> rfl
  rw [← e]
  exact hm
theorem LkAt.drop {w : World} {p b n : Nat} {rs rsd : Int} {M : Mp} (h : LkAt w p b n rs rsd M) {x : Int} (hx : wf64 x) (ty : TypeId) :
    ∃ w', (Builtin.delete_ #[57, 3] ty #[.map (some b), .int .i64 x]).run Try.prog w = .ok (.tuple #[]) w' ∧ LkAt w' p b n rs rsd (upd M x none) ∧ w.grownBy w' (some b) := by
  obtain ⟨w', hr, hm, ht⟩ := h.map.drop Try.underlying57 Try.underlying3 hx ty
  refine ⟨w', hr, ⟨(ht.grown.block _ h.lt (fun e => h.ne (by cases e; rfl))).trans h.at_, ?_⟩, ht.grown⟩
  have e : (fun y => if y = x then none else (M y).map enc) = fun y => (upd M x none y).map enc := by
    funext y
    unfold upd
    split <;> rfl
  rw [← e]
  exact hm
theorem LkAt.clear {w : World} {p b n : Nat} {rs rsd : Int} {M : Mp} (h : LkAt w p b n rs rsd M) (ty : TypeId) :
    ∃ w', (Builtin.clear_ #[57] ty #[.map (some b)]).run Try.prog w = .ok (.tuple #[]) w' ∧ LkAt w' p b 0 rs rsd (fun _ => none) ∧ w.grownBy w' (some b) := by
  obtain ⟨w', hr, hm, ht⟩ := h.map.clear Try.underlying57 ty
  exact ⟨w', hr, ⟨(ht.grown.block _ h.lt (fun e => h.ne (by cases e; rfl))).trans h.at_, hm⟩, ht.grown⟩
theorem grown_trans {a b c : World} {r : Option Nat} (h : a.grownBy b r) (k : b.grownBy c r) : a.grownBy c r :=
  ⟨k.os.trans h.os, k.tape.trans h.tape, k.output.trans h.output, Nat.le_trans h.size k.size, fun i hi hr => (k.block i (Nat.lt_of_lt_of_le hi h.size) hr).trans (h.block i hi hr)⟩
theorem grown_of {a b : World} {r : Option Nat} (h : Below a.heap.size a b) : a.grownBy b r := ⟨h.os, h.tape, h.output, h.size, fun i hi _ => h.block i hi⟩
theorem heap_old (w : World) (o : Obj) {g : Nat} (h : g < w.heap.size) : (w.alloc o).heap[g]? = w.heap[g]? := ((Below.refl w.heap.size w).alloc (Nat.le_refl _) o).block g h
theorem below_row {B g : Nat} {w0 w : World} (hb : Below B w0 w) (hBg : B ≤ g) (cs : Array Value) : Below B w0 (w.setRow g cs) :=
  ⟨hb.os, hb.tape, hb.output, by rw [setRow_size]; exact hb.size, fun k hk => by rw [setRow_other _ _ _ _ (by omega)]; exact hb.block k hk⟩
theorem run_makeMapN (t k e : TypeId) (n : Int) (w : World) (h : Try.prog.underlying t = some (.map k e)) : (Instr.makeMap t (some (.int .i64 n))).run Try.prog w = .ok (.map (some w.heap.size)) (w.alloc (.map #[] 0)) := by
  simp [Instr.makeMap, run_underlying h, asInt, asIntOf, run_newObj_alloc, Result.andThen]

/- New. -/
theorem new_no (rs rsd : Int) (w : World) (h : rs < 0 ∨ 8 < rs ∨ rsd < 1) : Calls Try.prog 9 #[.int .i64 rs, .int .i64 rsd] w fun e w' => e = .returned (.tuple #[.pointer none, .int .i64 1]) ∧ w' = w := by
  by_cases h1 : rs < 0
  · go_enter Try.func9, Try.ntmps9
    go_wp2
    go_ret2
    exact ⟨rfl, rfl⟩
  · by_cases h2 : 8 < rs
    · go_enter Try.func9, Try.ntmps9
      go_wp2
      go_ret2
      exact ⟨rfl, rfl⟩
    · have h3 : rsd < 1 := by omega
      go_enter Try.func9, Try.ntmps9
      go_wp2
      go_ret2
      exact ⟨rfl, rfl⟩
theorem new_ok (rs rsd : Int) (w : World) (h1 : 0 ≤ rs) (h2 : rs ≤ 8) (h3 : 1 ≤ rsd) : Calls Try.prog 9 #[.int .i64 rs, .int .i64 rsd] w fun e w' => e = .returned (.tuple #[.pointer (some ⟨w.heap.size + 1, 0, none⟩), .int .i64 0]) ∧ LkAt w' (w.heap.size + 1) w.heap.size 0 rs rsd (fun _ => none) ∧ Below w.heap.size w w' := by
  have hm := fun w => run_makeMapN 57 3 64 rs w Try.underlying57
  have n1 : ¬ rs < 0 := by omega
  have n2 : ¬ 8 < rs := by omega
  have n3 : ¬ rsd < 1 := by omega
  have hb : Below w.heap.size w ((w.alloc (.map #[] 0)).alloc (LkB rs rsd w.heap.size)) := ((Below.refl _ _).alloc (Nat.le_refl _) _).alloc (by simp) _
  have hL : LkAt ((w.alloc (.map #[] 0)).alloc (LkB rs rsd w.heap.size)) (w.heap.size + 1) w.heap.size 0 rs rsd (fun _ => none) := by
    refine ⟨?_, ?_⟩
    · have := World.alloc_heap_new (w.alloc (.map #[] 0)) (LkB rs rsd w.heap.size)
      rwa [show (w.alloc (.map #[] 0)).heap.size = w.heap.size + 1 by simp] at this
    · exact (mapIs_made w).same (heap_old _ _ (by simp))
  have H : Hid _ := And.intro hL hb
  clear hL hb
  go_enter Try.func9, Try.ntmps9
  go_wp2
  go_ret2
  exact ⟨rfl, H.out.1, H.out.2⟩
/- A world that differs in what was drawn alone. -/
structure Sm (w u : World) : Prop where
  heap : u.heap = w.heap
  os : u.os = w.os
  tape : u.tape = w.tape
  output : u.output = w.output
theorem Sm.below {w u : World} (h : Sm w u) (B : Nat) : Below B w u := ⟨h.os, h.tape, h.output, by rw [h.heap]; exact Nat.le_refl _, fun k _ => by rw [h.heap]⟩
theorem Sm.lk {w u : World} (h : Sm w u) {p b n : Nat} {rs rsd : Int} {M : Mp} (G : LkAt w p b n rs rsd M) : LkAt u p b n rs rsd M := G.same (by rw [h.heap]) (by rw [h.heap])
theorem start_any {P : Program} {S : World → Prop} {Q : Exit → Act → World → Prop} {id : Nat} {a : Act} {w : World} {l : List Oper} (N : Nat) (hN : l.length = N) (hm : P.follows .mixedOrders = true) (hS : ∀ u, Sm w u → S u)
    (h : ∀ u, Sm w u → wpAnyH P .any l.toArray Q S N (Array.replicate N false) a u) : (Code.region id l.toArray true).wp P Q a w :=
  start_held N hN hm (hS _ ⟨rfl, rfl, rfl, rfl⟩) (h _ ⟨rfl, rfl, rfl, rfl⟩)
theorem run_build_sd {o : Oper} {a : Act} {w : World} (x y : Operand) (ho : o.op = .build 64 #[(0, x), (1, y)]) (t : Tl) (n : Int) (hx : a.eval x = .agg (tlA t)) (hy : a.eval y = .int .i64 n) :
    (execOp a.eval o).run Try.prog w = .ok (.value (.agg (sdA t n))) w := by
  have hb := builtSd t n
  have hf : (Try.prog.built 64 (#[(0, x), (1, y)].map fun (i, x) => (i, a.eval x)).toList) = some (sdA t n) := by
    simp only [List.map_toArray, List.map_cons, List.map_nil, hx, hy]
    exact hb
  unfold execOp
  simp only [ho, Sem.run_bind, run_build w 64 _ _ hf, Result.andThen_ok, Sem.run_pure]
theorem wpList_build0 {ops : Array Oper} {rest : List Oper} {o : Oper} {a : Act} {w : World} {Q : Exit → Act → World → Prop} (hg : o.guard = none) (ho : o.op = .build 37 #[])
    (h : wpList Try.prog ops Q rest (a.put o.dst (.agg (tlA tl0))) w) : wpList Try.prog ops Q (o :: rest) a w := by
  refine wpList_plain hg fun K hK => ?_
  have hf : Try.prog.built 37 (#[].map fun ((i, x) : Nat × Operand) => (i, a.eval x)).toList = some (tlA tl0) := by simpa using built0
  unfold Oper.wp execOp
  simp only [ho, Sem.run_bind, run_build w 37 _ _ hf, Result.andThen_ok, Sem.run_pure]
  exact hK _ _ h
theorem run_mapUpdate_op {o : Oper} {a : Act} {w w' : World} (t : TypeId) (m x v : Operand) (ho : o.op = .mapUpdate t m x v) (mv xv vv : Value) (hm : a.eval m = mv) (hx : a.eval x = xv) (hv : a.eval v = vv) (h : (Instr.mapUpdate t mv xv vv).run Try.prog w = .ok () w') :
    (execOp a.eval o).run Try.prog w = .ok .skip w' := by
  unfold execOp
  simp [ho, hm, hx, hv, h, Result.andThen]
theorem answered_any (k : Int) (w : World) : Calls Try.prog 24 #[.int .i64 k] w fun e w' => e = .returned (.bool (decide (k = 1 ∨ k = 2))) ∧ w' = w := by
  by_cases h1 : k = 1
  · subst h1
    go_enter Try.func24, Try.ntmps24
    go_wp2
    go_ret
    exact ⟨rfl, rfl⟩
  · have e : decide (k = 1 ∨ k = 2) = (k == 2) := by simp [h1]; rfl
    have h1' : (k == 1) = false := by simpa using h1
    rw [e]
    clear e
    go_enter Try.func24, Try.ntmps24
    go_wp2
    go_ret
    exact ⟨rfl, rfl⟩
set_option maxRecDepth 100000 in
set_option maxHeartbeats 2000000 in
theorem send_ok {w : World} {p b n : Nat} {rs rsd : Int} {M : Mp} (G : LkAt w p b n rs rsd M) (t : Tl) (now : Int) (h1 : 0 ≤ t.rb) (h2 : t.rb < rs) (hk : t.kd = 1 ∨ t.kd = 2) (hwf : wf64 t.rb) (hn : n < 1000000) :
    Calls Try.prog 13 #[.pointer (some ⟨p, 0, none⟩), .agg (tlA t), .int .i64 now] w fun e w' => e = .returned (.tuple #[.agg (tlA t), .int .i64 0]) ∧ LkAt w' p b (n + 1) rs rsd (upd M t.rb (some (t, now))) ∧ w.grownBy w' (some b) := by
  obtain ⟨w2, hw2⟩ : ∃ w2, w2 = (w.alloc (.cells (tlA t) 37)).alloc (.cells (tlA tl0) 37) := ⟨_, rfl⟩
  have b2 : Below w.heap.size w w2 := by rw [hw2]; exact ((Below.refl _ _).alloc (Nat.le_refl _) _).alloc (by simp) _
  have ht2 : w2.heap[w.heap.size]? = some (.cells (tlA t) 37 (0, 0)) := by rw [hw2, heap_old _ _ (by simp)]; exact World.alloc_heap_new _ _
  have hz2 : w2.heap[w.heap.size + 1]? = some (.cells (tlA tl0) 37 (0, 0)) := by
    rw [hw2, show w.heap.size + 1 = (w.alloc (.cells (tlA t) 37)).heap.size by simp]
    exact World.alloc_heap_new _ _
  have G2 := G.go b2
  have ca := fun w => answered_any t.kd w
  rw [decide_eq_true hk] at ca
  have k0 := tl_kd ht2
  have k1 := tl_rb ht2
  have g0 := G2.c0
  have n1 : decide (t.rb < 0) = false := by simp; omega
  have n2 : decide (rs ≤ t.rb) = false := by simp; omega
  have n3 : (!true) = false := rfl
  have HT : Hid (w2.heap[w.heap.size]? = some (.cells (tlA t) 37 (0, 0))) := ht2
  have HZ : Hid (w2.heap[w.heap.size + 1]? = some (.cells (tlA tl0) 37 (0, 0))) := hz2
  have HG : Hid (LkAt w2 p b n rs rsd M) := G2
  have HB : Hid (Below w.heap.size w w2) := b2
  have lp : p < w.heap.size := G.lt
  have lb : b < w.heap.size := G.blt
  clear G G2 b2 ht2 hz2
  go_enter Try.func13, Try.ntmps13
  go_wp2_with (first
    | (refine wpList_boxAt rfl 37 (.tmp 1) rfl (tlA t) rfl ?_)
    | (refine wpList_allocTele rfl rfl ?_))
  rw [← hw2]
  clear hw2
  go_quiet ((go_at_call 24; refine Calls.quiet_of_same (ca _)))
  go_wp2_with fail
  have HS0 : w2.heap[p]? = some (LkB rs rsd b) ∧ w2.heap[w.heap.size]? = some (.cells (tlA t) 37 (0, 0)) := ⟨HG.out.at_, HT.out⟩
  refine start_any (S := fun u => u.heap[p]? = some (LkB rs rsd b) ∧ u.heap[w.heap.size]? = some (.cells (tlA t) 37 (0, 0))) 10 rfl (by kernel_rfl) (fun u su => ⟨by rw [su.heap]; exact HS0.1, by rw [su.heap]; exact HS0.2⟩) ?_
  intro x0 sx
  have HS1 : x0.heap[p]? = some (LkB rs rsd b) ∧ x0.heap[w.heap.size]? = some (.cells (tlA t) 37 (0, 0)) := ⟨by rw [sx.heap]; exact HS0.1, by rw [sx.heap]; exact HS0.2⟩
  simp only [Array.replicate_succ, Array.replicate_zero, List.push_toArray, List.nil_append, List.cons_append]
  refine take_held 0 HS1 rfl (by kernel_rfl) (by kernel_rfl) (by kernel_rfl) (fun _ _ _ h => h) (by kernel_rfl) (v := ?v1) ?y1 ?r1
  case y1 => (intro u hu; go_simp; try rfl)
  simp only [Act.put, List.setIfInBounds_toArray, List.set_cons_zero, List.set_cons_succ]
  refine take_held 1 HS1 rfl (by kernel_rfl) (by kernel_rfl) (by kernel_rfl) (fun _ _ _ h => h) (by kernel_rfl) (v := ?v2) ?y2 ?r2
  case y2 => (intro u hu; go_simp; try rfl)
  simp only [Act.put, List.setIfInBounds_toArray, List.set_cons_zero, List.set_cons_succ]
  refine take_held 2 HS1 rfl (by kernel_rfl) (by kernel_rfl) (by kernel_rfl) (fun _ _ _ h => h) (by kernel_rfl) (v := ?v3) ?y3 ?r3
  case y3 => (intro u hu; go_simp; try rfl)
  simp only [Act.put, List.setIfInBounds_toArray, List.set_cons_zero, List.set_cons_succ]
  refine take_held 3 HS1 rfl (by kernel_rfl) (by kernel_rfl) (by kernel_rfl) (fun _ _ _ h => h) (by kernel_rfl) (v := .map (some b)) ?y4 ?r4
  case y4 => (intro u hu; have zz := link_c2 hu.1; go_simp; try rfl)
  simp only [Act.put, List.setIfInBounds_toArray, List.set_cons_zero, List.set_cons_succ]
  refine take_held 4 HS1 rfl (by kernel_rfl) (by kernel_rfl) (by kernel_rfl) (fun _ _ _ h => h) (by kernel_rfl) (v := ?v5) ?y5 ?r5
  case y5 => (intro u hu; go_simp; try rfl)
  simp only [Act.put, List.setIfInBounds_toArray, List.set_cons_zero, List.set_cons_succ]
  refine take_held 5 HS1 rfl (by kernel_rfl) (by kernel_rfl) (by kernel_rfl) (fun _ _ _ h => h) (by kernel_rfl) (v := .int .i64 t.rb) ?y6 ?r6
  case y6 => (intro u hu; have zz := tl_rb hu.2; go_simp; try rfl)
  simp only [Act.put, List.setIfInBounds_toArray, List.set_cons_zero, List.set_cons_succ]
  refine take_held 6 HS1 rfl (by kernel_rfl) (by kernel_rfl) (by kernel_rfl) (fun _ _ _ h => h) (by kernel_rfl) (v := .agg (tlA t)) ?y7 ?r7
  case y7 => (intro u hu; exact run_load_at 37 (.tmp 4) rfl ⟨w.heap.size, 0, none⟩ rfl (tlA t) (load_tele hu.2))
  simp only [Act.put, List.setIfInBounds_toArray, List.set_cons_zero, List.set_cons_succ]
  refine take_held 7 HS1 rfl (by kernel_rfl) (by kernel_rfl) (by kernel_rfl) (fun _ _ _ h => h) (by kernel_rfl) (v := ?v8) ?y8 ?r8
  case y8 => (intro u hu; go_simp; try rfl)
  simp only [Act.put, List.setIfInBounds_toArray, List.set_cons_zero, List.set_cons_succ]
  refine take_held 8 HS1 rfl (by kernel_rfl) (by kernel_rfl) (by kernel_rfl) (fun _ _ _ h => h) (by kernel_rfl) (v := .agg (sdA t now)) ?y9 ?r9
  case y9 => (intro u hu; exact run_build_sd _ _ rfl t now rfl rfl)
  simp only [Act.put, List.setIfInBounds_toArray, List.set_cons_zero, List.set_cons_succ]
  have bx : Below w2.heap.size w2 x0 := ⟨sx.os, sx.tape, sx.output, by rw [sx.heap]; exact Nat.le_refl _, fun k _ => by rw [sx.heap]; rfl⟩
  have hz3 : x0.heap[w.heap.size + 1]? = some (.cells (tlA tl0) 37 (0, 0)) := by rw [sx.heap]; exact HZ.out
  have Gx : LkAt x0 p b n rs rsd M := HG.out.same (by rw [sx.heap]; rfl) (by rw [sx.heap]; rfl)
  obtain ⟨w3, hr3, G3, g3⟩ := Gx.store hwf hn t now
  have lz : w.heap.size + 1 < x0.heap.size := (Array.getElem?_eq_some_iff.1 hz3).1
  have e3 : ∀ g, g < x0.heap.size → g ≠ b → w3.heap[g]? = x0.heap[g]? := fun g h1 h2 => g3.block g h1 (fun e => h2 (by cases e; rfl))
  have ht4 : w3.heap[w.heap.size]? = some (.cells (tlA t) 37 (0, 0)) := (e3 _ (by omega) (by omega)).trans HS1.2
  have hz4 : w3.heap[w.heap.size + 1]? = some (.cells (tlA tl0) 37 (0, 0)) := (e3 _ lz (by omega)).trans hz3
  refine store_held 9 rfl (by kernel_rfl) (by kernel_rfl) w3 (run_mapUpdate_op 57 _ _ _ rfl _ _ _ rfl rfl rfl hr3) ⟨G3.at_, ht4⟩ ?_
  simp only [Act.put, List.setIfInBounds_toArray, List.set_cons_zero, List.set_cons_succ]
  refine done_held (by kernel_rfl) ?_ _
  have HE : Hid (LkAt (w3.setRow (w.heap.size + 1) (tlA t)) p b (n + 1) rs rsd (upd M t.rb (some (t, now))) ∧ w.grownBy (w3.setRow (w.heap.size + 1) (tlA t)) (some b)) := by
    have q := below_row (Below.refl (w.heap.size + 1) w3) (Nat.le_refl _) (tlA t)
    refine ⟨G3.same (q.block _ (by omega)) (q.block _ (by omega)), ?_⟩
    have h1 : w.grownBy w3 (some b) := grown_trans (grown_of HB.out) (grown_trans (grown_of bx) g3)
    exact ⟨q.os.trans h1.os, q.tape.trans h1.tape, q.output.trans h1.output, Nat.le_trans h1.size q.size, fun i hi hr => (q.block i (by omega)).trans (h1.block i hi hr)⟩
  clear G3 g3 hr3 e3 Gx bx sx HS1 HS0 hz3
  go_wp2_with (first
    | (refine wpList_load_at rfl 37 (.tmp 4) rfl ⟨w.heap.size, 0, none⟩ rfl (tlA t) (load_tele ht4) ?_)
    | (refine wpList_store_row rfl 37 (.tmp 6) (.tmp 36) rfl (w.heap.size + 1) (tlA t) rfl rfl 37 (tlA tl0) hz4 infoTele rfl (tlA_one t) ?_))
  exact bodyPost_ret (results_cell_tmp Try.results13 _ _ (w.heap.size + 1) _ rfl (load_tele (setRow_heap _ _ _ _ _ _ hz4))) rfl ⟨rfl, HE.out⟩
set_option maxRecDepth 100000 in
set_option maxHeartbeats 2000000 in
theorem send_no1 {w : World} {p b n : Nat} {rs rsd : Int} {M : Mp} (G : LkAt w p b n rs rsd M) (t : Tl) (now : Int) (h1 : t.rb < 0) :
    Calls Try.prog 13 #[.pointer (some ⟨p, 0, none⟩), .agg (tlA t), .int .i64 now] w fun e w' => e = .returned (.tuple #[.agg (tlA tl0), .int .i64 1]) ∧ Below w.heap.size w w' := by
  obtain ⟨w2, hw2⟩ : ∃ w2, w2 = (w.alloc (.cells (tlA t) 37)).alloc (.cells (tlA tl0) 37) := ⟨_, rfl⟩
  have b2 : Below w.heap.size w w2 := by rw [hw2]; exact ((Below.refl _ _).alloc (Nat.le_refl _) _).alloc (by simp) _
  have ht2 : w2.heap[w.heap.size]? = some (.cells (tlA t) 37 (0, 0)) := by rw [hw2, heap_old _ _ (by simp)]; exact World.alloc_heap_new _ _
  have hz2 : w2.heap[w.heap.size + 1]? = some (.cells (tlA tl0) 37 (0, 0)) := by
    rw [hw2, show w.heap.size + 1 = (w.alloc (.cells (tlA t) 37)).heap.size by simp]
    exact World.alloc_heap_new _ _
  have G2 := G.go b2
  have ca := fun w => answered_any t.kd w
  have k0 := tl_kd ht2
  have k1 := tl_rb ht2
  have g0 := G2.c0
  have HZ : Hid (w2.heap[w.heap.size + 1]? = some (.cells (tlA tl0) 37 (0, 0))) := hz2
  have HB : Hid (Below w.heap.size w w2) := b2
  clear G G2 b2 ht2 hz2
  have n1 : decide (t.rb < 0) = true := by simp; omega
  go_enter Try.func13, Try.ntmps13
  go_wp2_with (first
    | (refine wpList_boxAt rfl 37 (.tmp 1) rfl (tlA t) rfl ?_)
    | (refine wpList_allocTele rfl rfl ?_))
  rw [← hw2]
  clear hw2
  go_quiet ((go_at_call 24; refine Calls.quiet_of_same (ca _)))
  go_wp2_with (first
    | (refine wpList_build0 rfl rfl ?_)
    | (refine wpList_store_row rfl 37 (.tmp 6) (.tmp 26) rfl (w.heap.size + 1) (tlA tl0) rfl rfl 37 (tlA tl0) (HZ.out : (w2.drewN nq).heap[w.heap.size + 1]? = _) infoTele rfl (tlA_one tl0) ?_))
  exact bodyPost_ret (results_cell_tmp Try.results13 _ _ (w.heap.size + 1) _ rfl (load_tele (setRow_heap (w2.drewN nq) _ _ (tlA tl0) _ _ HZ.out))) rfl ⟨rfl, below_row (below_drewN HB.out nq) (by omega) _⟩
set_option maxRecDepth 100000 in
set_option maxHeartbeats 2000000 in
theorem send_no2 {w : World} {p b n : Nat} {rs rsd : Int} {M : Mp} (G : LkAt w p b n rs rsd M) (t : Tl) (now : Int) (h1 : 0 ≤ t.rb) (h2 : rs ≤ t.rb) :
    Calls Try.prog 13 #[.pointer (some ⟨p, 0, none⟩), .agg (tlA t), .int .i64 now] w fun e w' => e = .returned (.tuple #[.agg (tlA tl0), .int .i64 1]) ∧ Below w.heap.size w w' := by
  obtain ⟨w2, hw2⟩ : ∃ w2, w2 = (w.alloc (.cells (tlA t) 37)).alloc (.cells (tlA tl0) 37) := ⟨_, rfl⟩
  have b2 : Below w.heap.size w w2 := by rw [hw2]; exact ((Below.refl _ _).alloc (Nat.le_refl _) _).alloc (by simp) _
  have ht2 : w2.heap[w.heap.size]? = some (.cells (tlA t) 37 (0, 0)) := by rw [hw2, heap_old _ _ (by simp)]; exact World.alloc_heap_new _ _
  have hz2 : w2.heap[w.heap.size + 1]? = some (.cells (tlA tl0) 37 (0, 0)) := by
    rw [hw2, show w.heap.size + 1 = (w.alloc (.cells (tlA t) 37)).heap.size by simp]
    exact World.alloc_heap_new _ _
  have G2 := G.go b2
  have ca := fun w => answered_any t.kd w
  have k0 := tl_kd ht2
  have k1 := tl_rb ht2
  have g0 := G2.c0
  have HZ : Hid (w2.heap[w.heap.size + 1]? = some (.cells (tlA tl0) 37 (0, 0))) := hz2
  have HB : Hid (Below w.heap.size w w2) := b2
  clear G G2 b2 ht2 hz2
  have n1 : decide (t.rb < 0) = false := by simp; omega
  have n2 : decide (rs ≤ t.rb) = true := by simp; omega
  go_enter Try.func13, Try.ntmps13
  go_wp2_with (first
    | (refine wpList_boxAt rfl 37 (.tmp 1) rfl (tlA t) rfl ?_)
    | (refine wpList_allocTele rfl rfl ?_))
  rw [← hw2]
  clear hw2
  go_quiet ((go_at_call 24; refine Calls.quiet_of_same (ca _)))
  go_wp2_with (first
    | (refine wpList_build0 rfl rfl ?_)
    | (refine wpList_store_row rfl 37 (.tmp 6) (.tmp 26) rfl (w.heap.size + 1) (tlA tl0) rfl rfl 37 (tlA tl0) (HZ.out : (w2.drewN nq).heap[w.heap.size + 1]? = _) infoTele rfl (tlA_one tl0) ?_))
  exact bodyPost_ret (results_cell_tmp Try.results13 _ _ (w.heap.size + 1) _ rfl (load_tele (setRow_heap (w2.drewN nq) _ _ (tlA tl0) _ _ HZ.out))) rfl ⟨rfl, below_row (below_drewN HB.out nq) (by omega) _⟩
set_option maxRecDepth 100000 in
set_option maxHeartbeats 2000000 in
theorem send_no3 {w : World} {p b n : Nat} {rs rsd : Int} {M : Mp} (G : LkAt w p b n rs rsd M) (t : Tl) (now : Int) (h1 : 0 ≤ t.rb) (h2 : t.rb < rs) (hk : ¬ (t.kd = 1 ∨ t.kd = 2)) :
    Calls Try.prog 13 #[.pointer (some ⟨p, 0, none⟩), .agg (tlA t), .int .i64 now] w fun e w' => e = .returned (.tuple #[.agg (tlA tl0), .int .i64 1]) ∧ Below w.heap.size w w' := by
  obtain ⟨w2, hw2⟩ : ∃ w2, w2 = (w.alloc (.cells (tlA t) 37)).alloc (.cells (tlA tl0) 37) := ⟨_, rfl⟩
  have b2 : Below w.heap.size w w2 := by rw [hw2]; exact ((Below.refl _ _).alloc (Nat.le_refl _) _).alloc (by simp) _
  have ht2 : w2.heap[w.heap.size]? = some (.cells (tlA t) 37 (0, 0)) := by rw [hw2, heap_old _ _ (by simp)]; exact World.alloc_heap_new _ _
  have hz2 : w2.heap[w.heap.size + 1]? = some (.cells (tlA tl0) 37 (0, 0)) := by
    rw [hw2, show w.heap.size + 1 = (w.alloc (.cells (tlA t) 37)).heap.size by simp]
    exact World.alloc_heap_new _ _
  have G2 := G.go b2
  have ca := fun w => answered_any t.kd w
  have k0 := tl_kd ht2
  have k1 := tl_rb ht2
  have g0 := G2.c0
  have HZ : Hid (w2.heap[w.heap.size + 1]? = some (.cells (tlA tl0) 37 (0, 0))) := hz2
  have HB : Hid (Below w.heap.size w w2) := b2
  clear G G2 b2 ht2 hz2
  have n1 : decide (t.rb < 0) = false := by simp; omega
  have n2 : decide (rs ≤ t.rb) = false := by simp; omega
  rw [decide_eq_false hk] at ca
  go_enter Try.func13, Try.ntmps13
  go_wp2_with (first
    | (refine wpList_boxAt rfl 37 (.tmp 1) rfl (tlA t) rfl ?_)
    | (refine wpList_allocTele rfl rfl ?_))
  rw [← hw2]
  clear hw2
  go_quiet ((go_at_call 24; refine Calls.quiet_of_same (ca _)))
  go_wp2_with (first
    | (refine wpList_build0 rfl rfl ?_)
    | (refine wpList_store_row rfl 37 (.tmp 6) (.tmp 26) rfl (w.heap.size + 1) (tlA tl0) rfl rfl 37 (tlA tl0) (HZ.out : (w2.drewN nq).heap[w.heap.size + 1]? = _) infoTele rfl (tlA_one tl0) ?_))
  exact bodyPost_ret (results_cell_tmp Try.results13 _ _ (w.heap.size + 1) _ rfl (load_tele (setRow_heap (w2.drewN nq) _ _ (tlA tl0) _ _ HZ.out))) rfl ⟨rfl, below_row (below_drewN HB.out nq) (by omega) _⟩
theorem send_no {w : World} {p b n : Nat} {rs rsd : Int} {M : Mp} (G : LkAt w p b n rs rsd M) (t : Tl) (now : Int) (h : ¬ (0 ≤ t.rb ∧ t.rb < rs ∧ (t.kd = 1 ∨ t.kd = 2))) :
    Calls Try.prog 13 #[.pointer (some ⟨p, 0, none⟩), .agg (tlA t), .int .i64 now] w fun e w' => e = .returned (.tuple #[.agg (tlA tl0), .int .i64 1]) ∧ Below w.heap.size w w' := by
  by_cases h1 : t.rb < 0
  · exact send_no1 G t now h1
  · by_cases h2 : rs ≤ t.rb
    · exact send_no2 G t now (by omega) h2
    · exact send_no3 G t now (by omega) (by omega) (fun hk => h ⟨by omega, by omega, hk⟩)
theorem run_delete_op {o : Oper} {a : Act} {w w' : World} (t k : TypeId) (m x : Operand) (ho : o.op = .call { callee := .builtin .delete, args := #[m, x], argTypes := #[t, k] }) (mv xv : Value) (hm : a.eval m = mv) (hx : a.eval x = xv) (h : (Builtin.delete_ #[t, k] o.type #[mv, xv]).run Try.prog w = .ok (.tuple #[]) w') :
    (execOp a.eval o).run Try.prog w = .ok (.value (.tuple #[])) w' := by
  unfold execOp
  simp [ho, resolve, invoke, builtin, hm, hx, h, Result.andThen]
theorem wpList_delete {ops : Array Oper} {rest : List Oper} {o : Oper} {a : Act} {w : World} {Q : Exit → Act → World → Prop} (hg : o.guard = none) (m x : Operand) (ho : o.op = .call { callee := .builtin .delete, args := #[m, x], argTypes := #[57, 3] })
    {p b n : Nat} {rs rsd : Int} {M : Mp} (G : LkAt w p b n rs rsd M) (k : Int) (hm : a.eval m = .map (some b)) (hx : a.eval x = .int .i64 k) (hk : wf64 k)
    (h : ∀ w', LkAt w' p b n rs rsd (upd M k none) → w.grownBy w' (some b) → wpList Try.prog ops Q rest (a.put o.dst (.tuple #[])) w') : wpList Try.prog ops Q (o :: rest) a w := by
  refine wpList_plain hg fun K hK => ?_
  obtain ⟨w', hr, h1, h2⟩ := G.drop hk o.type
  unfold Oper.wp
  rw [run_delete_op 57 3 m x ho _ _ hm hx hr]
  exact hK _ _ (h w' h1 h2)
theorem wpList_clear {ops : Array Oper} {rest : List Oper} {o : Oper} {a : Act} {w : World} {Q : Exit → Act → World → Prop} (hg : o.guard = none) (m : Operand) (ho : o.op = .call { callee := .builtin .clear, args := #[m], argTypes := #[57] })
    {p b n : Nat} {rs rsd : Int} {M : Mp} (G : LkAt w p b n rs rsd M) (hm : a.eval m = .map (some b))
    (h : ∀ w', LkAt w' p b 0 rs rsd (fun _ => none) → w.grownBy w' (some b) → wpList Try.prog ops Q rest (a.put o.dst (.tuple #[])) w') : wpList Try.prog ops Q (o :: rest) a w := by
  refine wpList_plain hg fun K hK => ?_
  obtain ⟨w', hr, h1, h2⟩ := G.clear o.type
  unfold Oper.wp
  simp [execOp, ho, resolve, invoke, builtin, hm, hr, Result.andThen]
  exact hK _ _ (h w' h1 h2)
set_option maxHeartbeats 1000000 in
theorem got_any {w : World} {p b n : Nat} {rs rsd : Int} {M : Mp} (G : LkAt w p b n rs rsd M) (x : Int) (hx : wf64 x) :
    Calls Try.prog 15 #[.pointer (some ⟨p, 0, none⟩), .int .i64 x] w fun e w' => e = .returned (.bool (M x).isSome) ∧ LkAt w' p b n rs rsd (upd M x none) ∧ w.grownBy w' (some b) := by
  have g2 := G.c2
  have hl := G.look hx
  obtain ⟨w2, hw2⟩ : ∃ w2, w2 = w.alloc (.cells (sdOf (M x)) 64) := ⟨_, rfl⟩
  have b2 : Below w.heap.size w w2 := by rw [hw2]; exact (Below.refl _ _).alloc (Nat.le_refl _) _
  have HG : Hid (LkAt w2 p b n rs rsd M) := G.go b2
  have g3 := (G.go b2).c2
  have HB : Hid (w.grownBy w2 (some b)) := grown_of b2
  clear G b2
  go_enter Try.func15, Try.ntmps15
  go_wp2_with (first
    | (refine wpList_new rfl rfl 64 5 (.tmp 14) rfl rfl rfl rfl (sdA tl0 0) (sdOf (M x)) (zeroSd _) rfl rfl infoSd rfl (sdA_one _ _) ?_; rw [← hw2]; clear hw2)
    | (refine wpList_delete rfl (.tmp 19) (.tmp 20) rfl HG.out x rfl rfl hx ?_; intro w3 G3 h3))
  go_ret
  exact ⟨rfl, G3, grown_trans HB.out h3⟩
set_option maxHeartbeats 1000000 in
theorem clear_any {w : World} {p b n : Nat} {rs rsd : Int} {M : Mp} (G : LkAt w p b n rs rsd M) :
    Calls Try.prog 20 #[.pointer (some ⟨p, 0, none⟩)] w fun e w' => e = .returned (.tuple #[]) ∧ LkAt w' p b 0 rs rsd (fun _ => none) ∧ w.grownBy w' (some b) := by
  have g2 := G.c2
  have HG : Hid (LkAt w p b n rs rsd M) := G
  clear G
  go_enter Try.func20, Try.ntmps20
  go_wp2_with (refine wpList_clear rfl (.tmp 5) rfl HG.out rfl ?_; intro w3 G3 h3)
  go_end0
  exact ⟨rfl, G3, h3⟩
set_option maxRecDepth 100000 in
set_option maxHeartbeats 1000000 in
theorem waits_any {w : World} {p b n : Nat} {rs rsd : Int} {M : Mp} (G : LkAt w p b n rs rsd M) (x : Int) (hx : wf64 x) :
    Calls Try.prog 22 #[.pointer (some ⟨p, 0, none⟩), .int .i64 x] w fun e w' => e = .returned (.tuple #[.agg (tlA (tlOf (M x))), .bool (M x).isSome]) ∧ Below w.heap.size w w' := by
  obtain ⟨w1, hw1⟩ : ∃ w1, w1 = w.alloc (.cells (tlA tl0) 37) := ⟨_, rfl⟩
  have b1 : Below w.heap.size w w1 := by rw [hw1]; exact (Below.refl _ _).alloc (Nat.le_refl _) _
  have s1 : w1.heap.size = w.heap.size + 1 := by rw [hw1]; simp
  have G1 := G.go b1
  have g2 := G1.c2
  have hl := G1.look hx
  obtain ⟨w2, hw2⟩ : ∃ w2, w2 = w1.alloc (.cells (sdOf (M x)) 64) := ⟨_, rfl⟩
  have b2 : Below w1.heap.size w1 w2 := by rw [hw2]; exact (Below.refl _ _).alloc (Nat.le_refl _) _
  have hz1 : w1.heap[w.heap.size]? = some (.cells (tlA tl0) 37 (0, 0)) := by rw [hw1]; exact World.alloc_heap_new _ _
  have hz2 : w2.heap[w.heap.size]? = some (.cells (tlA tl0) 37 (0, 0)) := (b2.block _ (by omega)).trans hz1
  have hs2 : w2.heap[w1.heap.size]? = some (.cells (sdOf (M x)) 64 (0, 0)) := by rw [hw2]; exact World.alloc_heap_new _ _
  have HE : Hid (Below w.heap.size w (w2.setRow w.heap.size (tlA (tlOf (M x))))) := below_row (b1.trans (b2.mono (by omega))) (Nat.le_refl _) _
  have HZ : Hid (w2.heap[w.heap.size]? = some (.cells (tlA tl0) 37 (0, 0))) := hz2
  have HS : Hid (w2.heap[w.heap.size + 1]? = some (.cells (sdOf (M x)) 64 (0, 0))) := by rw [← s1]; exact hs2
  clear G G1 b1 b2 hz1 hz2 hs2
  go_enter Try.func22, Try.ntmps22
  go_wp2_with (first
    | (refine wpList_allocTele rfl rfl ?_; rw [← hw1]; clear hw1)
    | (refine wpList_new rfl rfl 64 6 (.tmp 15) rfl rfl rfl rfl (sdA tl0 0) (sdOf (M x)) (zeroSd _) rfl rfl infoSd rfl (sdA_one _ _) ?_; rw [← hw2, s1]; clear hw2 s1)
    | (refine wpList_load_at rfl 37 (.tmp 17) rfl ⟨w.heap.size + 1, 0, none⟩ rfl (tlA (tlOf (M x))) (load_sd HS.out) ?_)
    | (refine wpList_store_row rfl 37 (.tmp 4) (.tmp 18) rfl w.heap.size (tlA (tlOf (M x))) rfl rfl 37 (tlA tl0) HZ.out infoTele rfl (tlA_one _) ?_))
  exact bodyPost_ret (results_cell_tmp Try.results22 _ _ w.heap.size _ rfl (load_tele (setRow_heap _ _ _ _ _ _ HZ.out))) rfl ⟨rfl, HE.out⟩
end Go.Proofs.Ytjladfpfhhnagaa.Lk
