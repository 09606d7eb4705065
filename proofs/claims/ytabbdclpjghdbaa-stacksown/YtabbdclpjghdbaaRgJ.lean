/-
  Cells, poses and numbers that came in, opened.
  A config that came in, opened: its numbers, its four lists, how long they can be.
-/
import Derived.Test.YtabbdclpjghdbaaRows
import Derived.Deep.Slices
import Derived.ChangeSame
import Derived.OpenShut
import Derived.WalkKit
import Derived.ProofKit
import Derived.ShutString
import Derived.Test.YtabbdclpjghdbaaRgB
import Derived.SizedLaws
namespace Go.Proofs.Ytabbdclpjghdbaa.Grid
set_option linter.unusedVariables false
set_option linter.unusedSimpArgs false
open Go Go.RowKit Go.ChangeShapes Go.WideShapes
def In64 (x : Int) : Prop := -9223372036854775808 ≤ x ∧ x ≤ 9223372036854775807
theorem in_int {H : Type} {enc : TypeId × Value → H} {W : World} {n : Nat} {cs : List Value} {d : DataW H × List MemPlace} (h : DataW.trod enc Try.prog W 0 (fun _ => true) true n 3 cs = some d) :
    ∃ x, cs = [.int .i64 x] ∧ In64 x := by
  obtain ⟨x, q, e, f⟩ := DataW.trod_int Try.underlying3 h
  refine ⟨x, q, ?_⟩
  simp [Lit.wf, IntKind.min, IntKind.max, IntKind.bits, IntKind.signed] at f
  exact ⟨by omega, by omega⟩
set_option maxRecDepth 100000 in
theorem in_cell {H : Type} {enc : TypeId × Value → H} {W : World} {n : Nat} {cs : List Value} {d : DataW H × List MemPlace} (h : DataW.trod enc Try.prog W 0 (fun _ => true) true n 39 cs = some d) :
    ∃ x0 x1, cs = [.int .i64 x0, .int .i64 x1] ∧ In64 x0 ∧ In64 x1 := by
  obtain ⟨xs, k, hk, hxy, hlen, hxl, hf⟩ := DataW.trod_struct Try.underlying39 h
  rw [show Try.prog.cellsOf 39 = 2 by kernel_rfl] at hlen
  match cs, hlen with
  | [v0, v1], _ =>
    match xs, hxl with
    | [y0, y1], _ =>
      have g0 : DataW.trod enc Try.prog W 0 (fun _ => true) true k 3 [v0] = some y0 := by
        have q := hf 0 _ rfl
        simp only [show Try.prog.cellsOf 3 = 1 by kernel_rfl, List.drop_zero, List.drop_succ_cons, List.take_succ_cons, List.take_zero, List.getElem?_cons_zero, List.getElem?_cons_succ] at q
        exact q
      have g1 : DataW.trod enc Try.prog W 0 (fun _ => true) true k 3 [v1] = some y1 := by
        have q := hf 1 _ rfl
        simp only [show Try.prog.cellsOf 3 = 1 by kernel_rfl, List.drop_zero, List.drop_succ_cons, List.take_succ_cons, List.take_zero, List.getElem?_cons_zero, List.getElem?_cons_succ] at q
        exact q
      obtain ⟨x0, q0, o0⟩ := in_int g0
      simp only [List.cons.injEq, and_true] at q0
      obtain rfl := q0
      obtain ⟨x1, q1, o1⟩ := in_int g1
      simp only [List.cons.injEq, and_true] at q1
      obtain rfl := q1
      exact ⟨x0, x1, rfl, o0, o1⟩
end Go.Proofs.Ytabbdclpjghdbaa.Grid
namespace Go.Proofs.Ytabbdclpjghdbaa.Grid
set_option linter.unusedVariables false
set_option linter.unusedSimpArgs false
open Go Go.RowKit Go.ChangeShapes Go.WideShapes

def Old (W : World) : Nat → Prop := fun g => g < W.heap.size
/- None of its parts has more bytes than can be reached. -/
def Wt {H : Type} (t : TypeId) (d : DataW H) : Prop := ∀ n ∈ d.weights Try.prog t, n ≤ reachBytes
theorem weightsAll_mem {H : Type} {e : TypeId} : ∀ (l : List (DataW H)) (d : DataW H), d ∈ l → ∀ n ∈ d.weights Try.prog e, n ∈ DataW.weightsAll Try.prog e l
  | [], d, h => by simp at h
  | x :: l, d, h => fun n hn => by
    simp only [DataW.weightsAll, List.mem_append]
    rcases List.mem_cons.1 h with rfl | h
    · exact Or.inl hn
    · exact Or.inr (weightsAll_mem l d h n hn)
theorem in_bool {H : Type} {enc : TypeId × Value → H} {W : World} {n : Nat} {cs : List Value} {d : DataW H × List MemPlace} (h : DataW.trod enc Try.prog W 0 (fun _ => true) true n 4 cs = some d) :
    ∃ x, cs = [.bool x] := by
  obtain ⟨x, q, e⟩ := DataW.trod_bool Try.underlying4 h
  exact ⟨x, q⟩
set_option maxRecDepth 100000 in
theorem in_pose {H : Type} {enc : TypeId × Value → H} {W : World} {n : Nat} {cs : List Value} {d : DataW H × List MemPlace} (h : DataW.trod enc Try.prog W 0 (fun _ => true) true n 72 cs = some d) :
    ∃ x0 x1 x2, cs = [.int .i64 x0, .int .i64 x1, .bool x2] := by
  obtain ⟨xs, k, hk, hxy, hlen, hxl, hf⟩ := DataW.trod_struct Try.underlying72 h
  rw [show Try.prog.cellsOf 72 = 3 by kernel_rfl] at hlen
  match cs, hlen with
  | [v0, v1, v2], _ =>
    match xs, hxl with
    | [y0, y1], _ =>
      have g0 : DataW.trod enc Try.prog W 0 (fun _ => true) true k 39 [v0, v1] = some y0 := by
        have q := hf 0 _ rfl
        simp only [show Try.prog.cellsOf 39 = 2 by kernel_rfl, List.drop_zero, List.drop_succ_cons, List.take_succ_cons, List.take_zero, List.getElem?_cons_zero, List.getElem?_cons_succ] at q
        exact q
      have g1 : DataW.trod enc Try.prog W 0 (fun _ => true) true k 4 [v2] = some y1 := by
        have q := hf 1 _ rfl
        simp only [show Try.prog.cellsOf 4 = 1 by kernel_rfl, List.drop_zero, List.drop_succ_cons, List.take_succ_cons, List.take_zero, List.getElem?_cons_zero, List.getElem?_cons_succ] at q
        exact q
      obtain ⟨x0, x1, q0, _⟩ := in_cell g0
      simp only [List.cons.injEq, and_true] at q0
      obtain ⟨rfl, rfl⟩ := q0
      obtain ⟨x2, q1⟩ := in_bool g1
      simp only [List.cons.injEq, and_true] at q1
      obtain rfl := q1
      exact ⟨x0, x1, x2, rfl⟩
theorem in_items {α : Type} (El : (Nat → Prop) → α → Array Value → World → Prop) (G : α → Prop) (S : Nat) (hS0 : 0 < S) (W : World) (a : Addr) (m : Nat)
    (hx : ∀ i, i < m → ∃ (x : α) (cs : List Value), W.cells? 0 (a.add (i * S)) S = some cs ∧ El (Old W) x cs.toArray W ∧ G x) :
    ∀ len, len ≤ m → ∃ ys : List (α × Array Value), ys.length = len ∧ (∀ y ∈ ys, El (Old W) y.1 y.2 W ∧ G y.1) ∧
      (∀ i (h : i < ys.length), Old W a.block ∧ ∀ j u, ((ys[i]'h).2)[j]? = some u → W.cell? (a.add (i * S + j)) = some u) := by
  intro len
  induction len with
  | zero => intro _; exact ⟨[], rfl, fun y hy => by simp at hy, fun i hi => by simp at hi⟩
  | succ len ih =>
    intro hm
    obtain ⟨ys, h1, h2, h3⟩ := ih (by omega)
    obtain ⟨x, cs, k1, k2, k3⟩ := hx len (by omega)
    obtain ⟨_, hlen, hcell⟩ := World.cells?_some k1
    refine ⟨ys ++ [(x, cs.toArray)], by rw [List.length_append, h1]; rfl, fun y hy => ?_, fun i hi => ?_⟩
    · rcases List.mem_append.1 hy with hy | hy
      · exact h2 y hy
      · rw [List.mem_singleton.1 hy]; exact ⟨k2, k3⟩
    · have hb : Old W a.block := by
        have h0 := hcell 0 hS0
        rw [List.getElem?_eq_getElem (by omega)] at h0
        have := World.block_lt_of_cell? W _ h0
        rwa [block_add, block_add] at this
      refine ⟨hb, fun j u hj => ?_⟩
      by_cases hil : i < ys.length
      · rw [List.getElem_append_left hil] at hj
        exact (h3 i hil).2 j u hj
      · have hi' : i = len := by rw [List.length_append, h1] at hi; simp at hi; omega
        subst hi'
        rw [List.getElem_append_right (by omega)] at hj
        simp only [h1, Nat.sub_self, List.getElem_cons_zero, List.getElem?_toArray] at hj
        have hjl := (List.getElem?_eq_some_iff.1 hj).1
        rw [← add_add]
        exact (hcell j (by omega)).trans hj
theorem in_list {α : Type} {H : Type} {enc : TypeId × Value → H} {W : World} (El : (Nat → Prop) → α → Array Value → World → Prop) (G : α → Prop) (S : Nat) (hS0 : 0 < S) (sl e : TypeId) (hsl : Try.prog.underlying sl = some (.slice e)) (hS : Try.prog.cellsOf e = S)
    (hEl : ∀ (n : Nat) (cs : List Value) (d : DataW H × List MemPlace), cs.length = S → DataW.trod enc Try.prog W 0 (fun _ => true) true n e cs = some d → Wt e d.1 → ∃ x, El (Old W) x cs.toArray W ∧ G x)
    {fuel : Nat} {v : Value} {d : DataW H × List MemPlace} (h : DataW.trod enc Try.prog W 0 (fun _ => true) true fuel sl [v] = some d) (hw : Wt sl d.1) :
    ∃ xs, ListAt S El (Old W) xs v W ∧ (∀ x ∈ xs, G x) ∧ xs.length * Try.prog.bytesOf e ≤ reachBytes := by
  rcases Go.Deep.open_slice hsl h with ⟨hcs, hd⟩ | ⟨a, l, cp, m, n, D, Pl, hcs, _, hl, hm, hmm, hd, hx⟩
  · simp at hcs
    subst hcs
    exact ⟨[], ListAt.nil _ _ _ _, fun x hx => by simp at hx, by simp⟩
  · simp at hcs
    subst hcs
    have hm' : m = cp := by simpa using hmm
    have hwt : ∀ k ∈ ((l + (m - l)) * Try.prog.bytesOf e) :: (DataW.weightsAll Try.prog e ((List.range l).map D) ++ DataW.weightsAll Try.prog e ((List.range (m - l)).map fun j => D (l + j))), k ≤ reachBytes := by
      intro k hk
      refine hw k ?_
      rw [hd]
      simp only [DataW.weights, hsl, List.length_map, List.length_range]
      exact hk
    obtain ⟨ys, h1, h2, h3⟩ := in_items El G S hS0 W a l (fun i hi => by
      obtain ⟨cs', k1, k2⟩ := hx i (by omega)
      rw [hS] at k1
      obtain ⟨_, hlen, _⟩ := World.cells?_some k1
      obtain ⟨x, e1, e2⟩ := hEl n cs' _ hlen k2 (fun k hk => hwt k (List.mem_cons_of_mem _ (List.mem_append_left _ (weightsAll_mem _ (D i) (List.mem_map.2 ⟨i, List.mem_range.2 hi, rfl⟩) k hk))))
      exact ⟨x, cs', k1, e1, e2⟩) l (Nat.le_refl _)
    refine ⟨ys.map Prod.fst, ⟨some a, cp, ys, rfl, by rw [h1], fun y hy => (h2 y hy).1, fun i hi => ⟨a, rfl, h3 i hi⟩, fun e => by cases e⟩, fun x hx => ?_, ?_⟩
    · obtain ⟨y, hy, rfl⟩ := List.mem_map.1 hx
      exact (h2 y hy).2
    · have := hwt _ List.mem_cons_self
      rw [List.length_map, h1]
      exact Nat.le_trans (Nat.mul_le_mul_right _ (by omega)) this
theorem in_cells {H : Type} {enc : TypeId × Value → H} {W : World} {fuel : Nat} {v : Value} {d : DataW H × List MemPlace} (h : DataW.trod enc Try.prog W 0 (fun _ => true) true fuel 22 [v] = some d) (hw : Wt 22 d.1) :
    ∃ xs, ListAt 2 cellEl (Old W) xs v W ∧ xs.length ≤ 8796093022208 := by
  obtain ⟨xs, h1, _, h3⟩ := in_list cellEl (fun _ => True) 2 (by decide) 22 39 Try.underlying22 (by kernel_rfl) (fun n cs d hl h _ => by
    obtain ⟨x, y, rfl, _⟩ := in_cell h
    exact ⟨(x, y), rfl, trivial⟩) h hw
  rw [show Try.prog.bytesOf 39 = 16 by kernel_rfl] at h3
  unfold reachBytes at h3
  exact ⟨xs, h1, by omega⟩
theorem in_poses {H : Type} {enc : TypeId × Value → H} {W : World} {fuel : Nat} {v : Value} {d : DataW H × List MemPlace} (h : DataW.trod enc Try.prog W 0 (fun _ => true) true fuel 23 [v] = some d) (hw : Wt 23 d.1) :
    ∃ xs, ListAt 3 poseEl (Old W) xs v W ∧ xs.length ≤ 5864062014805 := by
  obtain ⟨xs, h1, _, h3⟩ := in_list poseEl (fun _ => True) 3 (by decide) 23 72 Try.underlying23 (by kernel_rfl) (fun n cs d hl h _ => by
    obtain ⟨x, y, b, rfl⟩ := in_pose h
    exact ⟨((x, y), b), rfl, trivial⟩) h hw
  rw [show Try.prog.bytesOf 72 = 24 by kernel_rfl] at h3
  unfold reachBytes at h3
  exact ⟨xs, h1, by omega⟩
theorem in_ints {H : Type} {enc : TypeId × Value → H} {W : World} {fuel : Nat} {v : Value} {d : DataW H × List MemPlace} (h : DataW.trod enc Try.prog W 0 (fun _ => true) true fuel 48 [v] = some d) (hw : Wt 48 d.1) :
    ∃ xs, ListAt 1 intEl (Old W) xs v W ∧ xs.length ≤ 17592186044416 := by
  obtain ⟨xs, h1, _, h3⟩ := in_list intEl (fun _ => True) 1 (by decide) 48 3 Try.underlying48 (by kernel_rfl) (fun n cs d hl h _ => by
    obtain ⟨x, rfl, _⟩ := in_int h
    exact ⟨x, rfl, trivial⟩) h hw
  rw [show Try.prog.bytesOf 3 = 8 by kernel_rfl] at h3
  unfold reachBytes at h3
  exact ⟨xs, h1, by omega⟩
set_option maxRecDepth 100000 in
theorem in_stack {H : Type} {enc : TypeId × Value → H} {W : World} {n : Nat} {cs : List Value} {d : DataW H × List MemPlace} (h : DataW.trod enc Try.prog W 0 (fun _ => true) true n 59 cs = some d) (hw : Wt 59 d.1) :
    ∃ x : Stk, stackEl (Old W) x cs.toArray W ∧ x.2.length ≤ 17592186044416 := by
  obtain ⟨xs, k, hk, hxy, hlen, hxl, hf⟩ := DataW.trod_struct Try.underlying59 h
  rw [show Try.prog.cellsOf 59 = 3 by kernel_rfl] at hlen
  match cs, hlen with
  | [v0, v1, v2], _ =>
    match xs, hxl with
    | [y0, y1], _ =>
      have g0 : DataW.trod enc Try.prog W 0 (fun _ => true) true k 39 [v0, v1] = some y0 := by
        have q := hf 0 _ rfl
        simp only [show Try.prog.cellsOf 39 = 2 by kernel_rfl, List.drop_zero, List.drop_succ_cons, List.take_succ_cons, List.take_zero, List.getElem?_cons_zero, List.getElem?_cons_succ] at q
        exact q
      have g1 : DataW.trod enc Try.prog W 0 (fun _ => true) true k 48 [v2] = some y1 := by
        have q := hf 1 _ rfl
        simp only [show Try.prog.cellsOf 48 = 1 by kernel_rfl, List.drop_zero, List.drop_succ_cons, List.take_succ_cons, List.take_zero, List.getElem?_cons_zero, List.getElem?_cons_succ] at q
        exact q
      obtain ⟨x0, x1, q0, _⟩ := in_cell g0
      simp only [List.cons.injEq, and_true] at q0
      obtain ⟨rfl, rfl⟩ := q0
      obtain ⟨bs, hL, hl⟩ := in_ints g1 (fun n hn => hw n (by rw [hxy]; simp only [DataW.weights, Try.underlying59]; exact DataW.weights_mem_each (j := 1) (d := y1.1) rfl rfl n hn))
      exact ⟨((x0, x1), bs), ⟨v2, rfl, hL⟩, hl⟩
theorem in_stacks {H : Type} {enc : TypeId × Value → H} {W : World} {fuel : Nat} {v : Value} {d : DataW H × List MemPlace} (h : DataW.trod enc Try.prog W 0 (fun _ => true) true fuel 24 [v] = some d) (hw : Wt 24 d.1) :
    ∃ xs, ListAt 3 stackEl (Old W) xs v W ∧ (∀ x ∈ xs, x.2.length ≤ 17592186044416) ∧ xs.length ≤ 3518437208880 := by
  obtain ⟨xs, h1, h2, h3⟩ := in_list stackEl (fun x => x.2.length ≤ 17592186044416) 3 (by decide) 24 59 Try.underlying24 (by kernel_rfl) (fun n cs d hl h hw => in_stack h hw) h hw
  rw [show Try.prog.bytesOf 59 = 40 by kernel_rfl] at h3
  unfold reachBytes at h3
  exact ⟨xs, h1, h2, by omega⟩
set_option maxRecDepth 100000 in
set_option maxHeartbeats 1000000 in
theorem in_conf {H : Type} {enc : TypeId × Value → H} {W : World} {n : Nat} {cs : List Value} {d : DataW H × List MemPlace} (h : DataW.trod enc Try.prog W 0 (fun _ => true) true n 26 cs = some d) (hw : Wt 26 d.1) :
    ∃ (c : Conf) (vb vp vr vs : Value), cs = [.int .i64 c.W, .int .i64 c.H, .int .i64 c.height, vb, vp, vr, vs, .int .i64 c.unit, .int .i64 c.accel, .int .i64 c.speed, .int .i64 c.turn, .int .i64 c.hoist, .int .i64 c.queue, .int .i64 c.resend, .int .i64 c.budget, .bool c.back] ∧ ConfAt (Old W) c vb vp vr vs W ∧
      c.blocked.length ≤ 8796093022208 ∧ c.ports.length ≤ 8796093022208 ∧ c.robots.length ≤ 5864062014805 ∧ c.stacks.length ≤ 3518437208880 ∧ (∀ s ∈ c.stacks, s.2.length ≤ 17592186044416) := by
  obtain ⟨xs, k, hk, hxy, hlen, hxl, hf⟩ := DataW.trod_struct Try.underlying26 h
  rw [show Try.prog.cellsOf 26 = 16 by kernel_rfl] at hlen
  match cs, hlen with
  | [v0, v1, v2, v3, v4, v5, v6, v7, v8, v9, v10, v11, v12, v13, v14, v15], _ =>
    match xs, hxl with
    | [y0, y1, y2, y3, y4, y5, y6, y7, y8, y9, y10, y11, y12, y13, y14, y15], _ =>
      have g0 : DataW.trod enc Try.prog W 0 (fun _ => true) true k 3 [v0] = some y0 := by
        have q := hf 0 _ rfl
        simp only [show Try.prog.cellsOf 3 = 1 by kernel_rfl, List.drop_zero, List.drop_succ_cons, List.take_succ_cons, List.take_zero, List.getElem?_cons_zero, List.getElem?_cons_succ] at q
        exact q
      have g1 : DataW.trod enc Try.prog W 0 (fun _ => true) true k 3 [v1] = some y1 := by
        have q := hf 1 _ rfl
        simp only [show Try.prog.cellsOf 3 = 1 by kernel_rfl, List.drop_zero, List.drop_succ_cons, List.take_succ_cons, List.take_zero, List.getElem?_cons_zero, List.getElem?_cons_succ] at q
        exact q
      have g2 : DataW.trod enc Try.prog W 0 (fun _ => true) true k 3 [v2] = some y2 := by
        have q := hf 2 _ rfl
        simp only [show Try.prog.cellsOf 3 = 1 by kernel_rfl, List.drop_zero, List.drop_succ_cons, List.take_succ_cons, List.take_zero, List.getElem?_cons_zero, List.getElem?_cons_succ] at q
        exact q
      have g3 : DataW.trod enc Try.prog W 0 (fun _ => true) true k 22 [v3] = some y3 := by
        have q := hf 3 _ rfl
        simp only [show Try.prog.cellsOf 22 = 1 by kernel_rfl, List.drop_zero, List.drop_succ_cons, List.take_succ_cons, List.take_zero, List.getElem?_cons_zero, List.getElem?_cons_succ] at q
        exact q
      have g4 : DataW.trod enc Try.prog W 0 (fun _ => true) true k 22 [v4] = some y4 := by
        have q := hf 4 _ rfl
        simp only [show Try.prog.cellsOf 22 = 1 by kernel_rfl, List.drop_zero, List.drop_succ_cons, List.take_succ_cons, List.take_zero, List.getElem?_cons_zero, List.getElem?_cons_succ] at q
        exact q
      have g5 : DataW.trod enc Try.prog W 0 (fun _ => true) true k 23 [v5] = some y5 := by
        have q := hf 5 _ rfl
        simp only [show Try.prog.cellsOf 23 = 1 by kernel_rfl, List.drop_zero, List.drop_succ_cons, List.take_succ_cons, List.take_zero, List.getElem?_cons_zero, List.getElem?_cons_succ] at q
        exact q
      have g6 : DataW.trod enc Try.prog W 0 (fun _ => true) true k 24 [v6] = some y6 := by
        have q := hf 6 _ rfl
        simp only [show Try.prog.cellsOf 24 = 1 by kernel_rfl, List.drop_zero, List.drop_succ_cons, List.take_succ_cons, List.take_zero, List.getElem?_cons_zero, List.getElem?_cons_succ] at q
        exact q
      have g7 : DataW.trod enc Try.prog W 0 (fun _ => true) true k 3 [v7] = some y7 := by
        have q := hf 7 _ rfl
        simp only [show Try.prog.cellsOf 3 = 1 by kernel_rfl, List.drop_zero, List.drop_succ_cons, List.take_succ_cons, List.take_zero, List.getElem?_cons_zero, List.getElem?_cons_succ] at q
        exact q
      have g8 : DataW.trod enc Try.prog W 0 (fun _ => true) true k 3 [v8] = some y8 := by
        have q := hf 8 _ rfl
        simp only [show Try.prog.cellsOf 3 = 1 by kernel_rfl, List.drop_zero, List.drop_succ_cons, List.take_succ_cons, List.take_zero, List.getElem?_cons_zero, List.getElem?_cons_succ] at q
        exact q
      have g9 : DataW.trod enc Try.prog W 0 (fun _ => true) true k 3 [v9] = some y9 := by
        have q := hf 9 _ rfl
        simp only [show Try.prog.cellsOf 3 = 1 by kernel_rfl, List.drop_zero, List.drop_succ_cons, List.take_succ_cons, List.take_zero, List.getElem?_cons_zero, List.getElem?_cons_succ] at q
        exact q
      have g10 : DataW.trod enc Try.prog W 0 (fun _ => true) true k 3 [v10] = some y10 := by
        have q := hf 10 _ rfl
        simp only [show Try.prog.cellsOf 3 = 1 by kernel_rfl, List.drop_zero, List.drop_succ_cons, List.take_succ_cons, List.take_zero, List.getElem?_cons_zero, List.getElem?_cons_succ] at q
        exact q
      have g11 : DataW.trod enc Try.prog W 0 (fun _ => true) true k 3 [v11] = some y11 := by
        have q := hf 11 _ rfl
        simp only [show Try.prog.cellsOf 3 = 1 by kernel_rfl, List.drop_zero, List.drop_succ_cons, List.take_succ_cons, List.take_zero, List.getElem?_cons_zero, List.getElem?_cons_succ] at q
        exact q
      have g12 : DataW.trod enc Try.prog W 0 (fun _ => true) true k 3 [v12] = some y12 := by
        have q := hf 12 _ rfl
        simp only [show Try.prog.cellsOf 3 = 1 by kernel_rfl, List.drop_zero, List.drop_succ_cons, List.take_succ_cons, List.take_zero, List.getElem?_cons_zero, List.getElem?_cons_succ] at q
        exact q
      have g13 : DataW.trod enc Try.prog W 0 (fun _ => true) true k 3 [v13] = some y13 := by
        have q := hf 13 _ rfl
        simp only [show Try.prog.cellsOf 3 = 1 by kernel_rfl, List.drop_zero, List.drop_succ_cons, List.take_succ_cons, List.take_zero, List.getElem?_cons_zero, List.getElem?_cons_succ] at q
        exact q
      have g14 : DataW.trod enc Try.prog W 0 (fun _ => true) true k 3 [v14] = some y14 := by
        have q := hf 14 _ rfl
        simp only [show Try.prog.cellsOf 3 = 1 by kernel_rfl, List.drop_zero, List.drop_succ_cons, List.take_succ_cons, List.take_zero, List.getElem?_cons_zero, List.getElem?_cons_succ] at q
        exact q
      have g15 : DataW.trod enc Try.prog W 0 (fun _ => true) true k 4 [v15] = some y15 := by
        have q := hf 15 _ rfl
        simp only [show Try.prog.cellsOf 4 = 1 by kernel_rfl, List.drop_zero, List.drop_succ_cons, List.take_succ_cons, List.take_zero, List.getElem?_cons_zero, List.getElem?_cons_succ] at q
        exact q
      have hW : ∀ (j : Nat) (ty : TypeId) (y : DataW H × List MemPlace), [3, 3, 3, 22, 22, 23, 24, 3, 3, 3, 3, 3, 3, 3, 3, 4][j]? = some ty → [y0.1, y1.1, y2.1, y3.1, y4.1, y5.1, y6.1, y7.1, y8.1, y9.1, y10.1, y11.1, y12.1, y13.1, y14.1, y15.1][j]? = some y.1 → Wt ty y.1 := fun j ty y h1 h2 n hn => hw n (by
        rw [hxy]
        simp only [DataW.weights, Try.underlying26]
        exact DataW.weights_mem_each (j := j) (d := y.1) h1 h2 n hn)
      obtain ⟨x0, q0, _⟩ := in_int g0
      simp only [List.cons.injEq, and_true] at q0
      obtain rfl := q0
      obtain ⟨x1, q1, _⟩ := in_int g1
      simp only [List.cons.injEq, and_true] at q1
      obtain rfl := q1
      obtain ⟨x2, q2, _⟩ := in_int g2
      simp only [List.cons.injEq, and_true] at q2
      obtain rfl := q2
      obtain ⟨x3, L3, l3⟩ := in_cells g3 (hW 3 _ y3 rfl rfl)
      obtain ⟨x4, L4, l4⟩ := in_cells g4 (hW 4 _ y4 rfl rfl)
      obtain ⟨x5, L5, l5⟩ := in_poses g5 (hW 5 _ y5 rfl rfl)
      obtain ⟨x6, L6, b6, l6⟩ := in_stacks g6 (hW 6 _ y6 rfl rfl)
      obtain ⟨x7, q7, _⟩ := in_int g7
      simp only [List.cons.injEq, and_true] at q7
      obtain rfl := q7
      obtain ⟨x8, q8, _⟩ := in_int g8
      simp only [List.cons.injEq, and_true] at q8
      obtain rfl := q8
      obtain ⟨x9, q9, _⟩ := in_int g9
      simp only [List.cons.injEq, and_true] at q9
      obtain rfl := q9
      obtain ⟨x10, q10, _⟩ := in_int g10
      simp only [List.cons.injEq, and_true] at q10
      obtain rfl := q10
      obtain ⟨x11, q11, _⟩ := in_int g11
      simp only [List.cons.injEq, and_true] at q11
      obtain rfl := q11
      obtain ⟨x12, q12, _⟩ := in_int g12
      simp only [List.cons.injEq, and_true] at q12
      obtain rfl := q12
      obtain ⟨x13, q13, _⟩ := in_int g13
      simp only [List.cons.injEq, and_true] at q13
      obtain rfl := q13
      obtain ⟨x14, q14, _⟩ := in_int g14
      simp only [List.cons.injEq, and_true] at q14
      obtain rfl := q14
      obtain ⟨x15, q15⟩ := in_bool g15
      simp only [List.cons.injEq, and_true] at q15
      obtain rfl := q15
      exact ⟨⟨x0, x1, x2, x3, x4, x5, x6, x7, x8, x9, x10, x11, x12, x13, x14, x15⟩, v3, v4, v5, v6, rfl, ⟨L3, L4, L5, L6⟩, l3, l4, l5, l6, b6⟩
end Go.Proofs.Ytabbdclpjghdbaa.Grid
