/-
  What goes through all cells tells them, each with its bins in memory of their own: what is gathered.
-/
import Derived.Test.YtabbdclpjghdbaaStkM3
namespace Go.Proofs.Ytabbdclpjghdbaa.Stk
set_option linter.unusedVariables false
set_option linter.unusedSimpArgs false
open Go Go.RowKit Go.Shelf Go.Proofs Go.Proofs.Ytabbdclpjghdbaa.Grid
attribute [local go_sem] Oper.semAt_some

theorem owns_less {w : World} {base base' : Nat} {e : TypeId} {S : Nat} {v : Value} {n : Nat} {xs : List Value} (h : w.ownsRow base e S v n xs) (hb : base' ≤ base) : w.ownsRow base' e S v n xs :=
  ⟨h.1, h.2.imp id fun ⟨g, cap, cur, q, h1, rest⟩ => ⟨g, cap, cur, q, Nat.le_trans hb h1, rest⟩⟩
theorem clone_ints (F : Nat → Prop) (l : List Int) (v : Value) (w : World) (hL : ListAt 1 intEl F l v w) (hF : ∀ b, F b → b < w.heap.size) (hm : l.length ≤ 8796093022208) :
    Calls Try.prog 47 #[v] w fun e w' => ∃ v', e = .returned v' ∧ w'.ownsRow w.heap.size 3 1 v' l.length (rowL intL l) ∧ Below w.heap.size w w' := by
  have hu := fun w a l c => eql_nil w 48 3 a l c Try.underlying48
  obtain ⟨a, cap, rfl, h0⟩ := hL.form
  cases a with
  | none =>
    obtain ⟨h1, rfl⟩ := h0 rfl
    obtain rfl : l = [] := List.eq_nil_of_length_eq_zero h1
    go_enter Try.func47, Try.ntmps47
    go_wp2
    go_ret
    exact ⟨_, rfl, World.ownsRow_nil _ _ _ _, Below.refl _ _⟩
  | some p =>
    have hL' := fun o => hL.go heldInt hF ((Below.refl w.heap.size w).alloc (Nat.le_refl _) o)
    generalize hn : l.length = n at *
    have HN : Hid (l.length = n) := hn
    clear hn
    go_enter Try.func47, Try.ntmps47
    go_wp2_with (at_builtin; refine wpList_app kindInt rfl _ _ rfl w.heap.size (.slice (some ⟨w.heap.size, 0, none⟩) 0 0) [] rfl (World.ownsRow_made w #[] 0 (Nat.le_refl _) (by decide) (by decide)) F _ l rfl (hL' _) (by rw [HN.out]; simp; omega) (by rw [HN.out]; unfold maxLen; simp; omega) (by simp) ?_; intro v' w1 hown hgrow hat)
    rw [List.nil_append] at hown
    go_ret
    exact ⟨v', rfl, by rw [HN.out] at hown; exact hown, ((Below.refl _ _).alloc (Nat.le_refl _) _).grown hgrow (by simp) (by intro k hk; simp [Value.ownBlock] at hk; omega)⟩
/- What was told so far: a list of its own, each with bins of their own, all from N0 on. -/
structure Told (N0 : Nat) (l : List Stk) (m : Value) (wr : World) (ys : List SV) : Prop where
  big : N0 ≤ wr.heap.size
  own : wr.ownsRow N0 59 3 m ys.length (rowL stkL ys)
  len : ys.length = l.length
  bk : ∀ i (h : i < ys.length) (h' : i < l.length), (ys[i]'h).1 = (l[i]'h').1 ∧ wr.ownsRow N0 3 1 (slV (ys[i]'h).2) (l[i]'h').2.length (rowL intL (l[i]'h').2) ∧ ∀ g, (slV (ys[i]'h).2).ownBlock = some g → m.ownBlock ≠ some g
theorem Told.at_ {N0 : Nat} {l : List Stk} {m : Value} {wr : World} {ys : List SV} (C : Told N0 l m wr ys) : ∀ i (h : i < ys.length) (h' : i < l.length), (ys[i]'h).1 = (l[i]'h').1 ∧ ListAt 1 intEl (fun g => Since N0 wr g ∧ m.ownBlock ≠ some g) (l[i]'h').2 (slV (ys[i]'h).2) wr := fun i h h' => by
  obtain ⟨e, o, d⟩ := C.bk i h h'
  refine ⟨e, ?_⟩
  have hO : ListAt 1 intEl (Since N0 wr) (l[i]'h').2 (slV (ys[i]'h).2) wr := list_of_own kindInt.len o
  generalize slV (ys[i]'h).2 = v at *
  obtain ⟨a, cap, zs, h1, h2, h3, h4, h5⟩ := hO
  refine ⟨a, cap, zs, h1, h2, h3, fun k hk => ?_, h5⟩
  obtain ⟨p, hp, hF, hc⟩ := h4 k hk
  exact ⟨p, hp, ⟨hF, d p.block (by rw [h2, hp]; rfl)⟩, hc⟩
theorem told_nil (N0 : Nat) (w : World) (h : N0 ≤ w.heap.size) : Told N0 [] (.slice none 0 0) w [] := ⟨h, World.ownsRow_nil _ _ _ _, rfl, fun i h => by simp at h⟩
theorem Told.keep {N0 : Nat} {l : List Stk} {m : Value} {wr : World} {ys : List SV} (h : Told N0 l m wr ys) {u : World} (hs : wr.heap.size ≤ u.heap.size) (hk : ∀ b, N0 ≤ b → b < wr.heap.size → u.heap[b]? = wr.heap[b]?) : Told N0 l m u ys :=
  ⟨Nat.le_trans h.big hs, owns_same h.own fun k q => hk k (h.own.lt k q).1 (h.own.lt k q).2, h.len, fun i q q' => by
    obtain ⟨e, o, d⟩ := h.bk i q q'
    exact ⟨e, owns_same o fun k q2 => hk k (o.lt k q2).1 (o.lt k q2).2, d⟩⟩
theorem Told.go {N0 : Nat} {l : List Stk} {m : Value} {wr : World} {ys : List SV} (h : Told N0 l m wr ys) {u : World} (hb : Below wr.heap.size wr u) : Told N0 l m u ys := h.keep hb.size fun b _ hb2 => hb.block b hb2
theorem Told.next {N0 : Nat} {l : List Stk} {m : Value} {wr : World} {ys : List SV} (C : Told N0 l m wr ys) (s : Stk) {w0 w1 w2 w3 : World} {sl : Option Addr × Nat × Nat} {v' : Value} (b0 : Below wr.heap.size wr w0)
    (ho : w1.ownsRow w0.heap.size 3 1 (slV sl) s.2.length (rowL intL s.2)) (b1 : Below w0.heap.size w0 w1) (b2 : Below w1.heap.size w1 w2)
    (own : w3.ownsRow N0 59 3 v' (ys ++ [(s.1, sl)]).length (rowL stkL (ys ++ [(s.1, sl)]))) (hg : w2.grownBy w3 m.ownBlock) (hat : v'.ownBlock = m.ownBlock ∨ v'.ownBlock = some w2.heap.size) :
    Told N0 (l ++ [s]) v' w3 (ys ++ [(s.1, sl)]) := by
  have s0 := C.big
  have s1 := b0.size
  have s2 := b1.size
  have s3 := b2.size
  have s4 := hg.size
  have hmo : ∀ g, m.ownBlock = some g → N0 ≤ g ∧ g < wr.heap.size := fun g hg => C.own.lt g hg
  refine ⟨by omega, own, by rw [List.length_append, List.length_append, C.len]; rfl, fun i h h' => ?_⟩
  by_cases hi : i < ys.length
  · have hil : i < l.length := by rw [← C.len]; exact hi
    rw [List.getElem_append_left hi, List.getElem_append_left hil]
    obtain ⟨e, o, d⟩ := C.bk i hi hil
    refine ⟨e, owns_same o fun g hg' => ?_, fun g hg' => ?_⟩
    · have := (o.lt g hg').2
      rw [hg.block g (by omega) (fun e => d g hg' e.symm), b2.block g (by omega), b1.block g (by omega), b0.block g (by omega)]
    · rcases hat with e | e
      · rw [e]; exact d g hg'
      · rw [e]
        intro q
        injection q with q
        have := (o.lt g hg').2
        omega
  · have hi' : i = ys.length := by rw [List.length_append] at h; simp at h; omega
    subst hi'
    rw [List.getElem_append_right (by omega), List.getElem_append_right (by rw [C.len]; omega)]
    simp only [C.len, Nat.sub_self, List.getElem_cons_zero]
    refine ⟨trivial, ?_, fun g hg' => ?_⟩
    · have o2 : w3.ownsRow w0.heap.size 3 1 (slV sl) s.2.length (rowL intL s.2) := owns_same ho fun g hg' => by
        have := ho.lt g hg'
        rw [hg.block g (by omega) (fun e => by have := (hmo g e.symm).2; omega), b2.block g (by omega)]
      refine ⟨o2.1, o2.2.imp id fun ⟨g, cap, cur, q1, q2, q3⟩ => ⟨g, cap, cur, q1, by omega, q3⟩⟩
    · have := ho.lt g hg'
      rcases hat with e | e
      · rw [e]
        intro q
        have := (hmo g q).2
        omega
      · rw [e]
        intro q
        injection q with q
        omega
theorem Told.less {N0 N1 : Nat} {l : List Stk} {m : Value} {wr : World} {ys : List SV} (h : Told N0 l m wr ys) (hb : N1 ≤ N0) : Told N1 l m wr ys :=
  ⟨Nat.le_trans hb h.big, owns_less h.own hb, h.len, fun i q q' => by obtain ⟨e, o, d⟩ := h.bk i q q'; exact ⟨e, owns_less o hb, d⟩⟩
theorem Told.list {N0 : Nat} {l : List Stk} {m : Value} {wr : World} {ys : List SV} (C : Told N0 l m wr ys) : ListAt 3 stackEl (Since N0 wr) l m wr := by
  have hl := C.len
  have hO : ListAt 3 (ElL stkL) (Since N0 wr) ys m wr := list_of_own kindStack.len C.own
  obtain ⟨a, cap, rfl, h0⟩ := hO.form
  refine ⟨a, cap, l.zip (ys.map fun y => (stkL y).toArray), ?_, ?_, fun y hy => ?_, fun i hi => ?_, fun h => (h0 h).2⟩
  · rw [List.map_fst_zip (by rw [List.length_map]; omega)]
  · rw [List.length_zip, List.length_map]
    congr 1
    omega
  · obtain ⟨i, hi, e⟩ := List.getElem_of_mem hy
    rw [List.length_zip, List.length_map] at hi
    rw [List.getElem_zip, List.getElem_map] at e
    subst e
    obtain ⟨e, hL⟩ := C.at_ i (by omega) (by omega)
    refine ⟨slV (ys[i]'(by omega)).2, ?_, hL.mono heldInt fun g hg => hg.1⟩
    simp only [stkL, e]
    rfl
  · rw [List.length_zip, List.length_map] at hi
    obtain ⟨p, cs, cap', hv, hF, hE, hc⟩ := hO.item (k := i) (by omega)
    cases hv
    have hE' : cs = (stkL (ys[i]'(by omega))).toArray := hE
    subst hE'
    refine ⟨p, rfl, hF, fun j u hj => ?_⟩
    rw [List.getElem_zip, List.getElem_map] at hj
    rw [← add_add]
    exact hc j u hj
end Go.Proofs.Ytabbdclpjghdbaa.Stk
