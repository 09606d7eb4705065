/-
  Lists of a call's own: what is put behind one; that it is a list in memory.
-/
import Derived.Test.YtnaojlngdfolaaaGridLay
import Derived.Laws.Cover3
namespace Go.Proofs.Ytnaojlngdfolaaa.Grid
set_option linter.unusedVariables false
set_option linter.unusedSimpArgs false
open Go Go.RowKit

def rowL {α : Type} (f : α → List Value) (xs : List α) : List Value := xs.flatMap f
def ElL {α : Type} (f : α → List Value) (F : Nat → Prop) (x : α) (cs : Array Value) (u : World) : Prop := cs = (f x).toArray
theorem rowL_append {α : Type} (f : α → List Value) (xs ys : List α) : rowL f (xs ++ ys) = rowL f xs ++ rowL f ys := by simp [rowL]
theorem rowL_len {α : Type} {f : α → List Value} {S : Nat} (hf : ∀ x, (f x).length = S) (xs : List α) : (rowL f xs).length = xs.length * S := by
  induction xs with
  | nil => simp [rowL]
  | cons x l ih => rw [show rowL f (x :: l) = f x ++ rowL f l from rfl, List.length_append, ih, hf, List.length_cons, Nat.succ_mul]; omega
theorem rowL_at {α : Type} {f : α → List Value} {S : Nat} (hf : ∀ x, (f x).length = S) : ∀ (xs : List α) (i : Nat) (h : i < xs.length) (j : Nat) (v : Value), (f (xs[i]'h))[j]? = some v → (rowL f xs)[i * S + j]? = some v
  | [], i, h => by simp at h
  | x :: l, 0, h => fun j v hv => by
    have hj := (List.getElem?_eq_some_iff.1 hv).1
    rw [show rowL f (x :: l) = f x ++ rowL f l from rfl, Nat.zero_mul, Nat.zero_add]
    rw [List.getElem?_append_left (by simpa using hj)]
    simpa using hv
  | x :: l, i + 1, h => fun j v hv => by
    rw [show rowL f (x :: l) = f x ++ rowL f l from rfl, List.getElem?_append_right (by rw [hf, Nat.succ_mul]; omega), hf, show (i + 1) * S + j - S = i * S + j by rw [Nat.succ_mul]; omega]
    exact rowL_at hf l i (by simpa using h) j v (by simpa using hv)
theorem rowL_inv {α : Type} {f : α → List Value} {S : Nat} (hf : ∀ x, (f x).length = S) : ∀ (xs : List α) (k : Nat) (v : Value), (rowL f xs)[k]? = some v → ∃ i j, ∃ h : i < xs.length, k = i * S + j ∧ (f (xs[i]'h))[j]? = some v
  | [], k, v, h => by simp [rowL] at h
  | x :: l, k, v, h => by
    rw [show rowL f (x :: l) = f x ++ rowL f l from rfl] at h
    by_cases hk : k < (f x).length
    · rw [List.getElem?_append_left hk] at h
      exact ⟨0, k, by simp, by omega, by simpa using h⟩
    · rw [List.getElem?_append_right (by omega), hf] at h
      rw [hf] at hk
      obtain ⟨i, j, hi, e, hv⟩ := rowL_inv hf l (k - S) v h
      exact ⟨i + 1, j, by simpa using hi, by rw [Nat.succ_mul]; omega, by simpa using hv⟩
/- What lies from base on, and is there. -/
def Since (base : Nat) (w : World) (b : Nat) : Prop := base ≤ b ∧ b < w.heap.size
theorem list_of_own {α : Type} {f : α → List Value} {S : Nat} (hf : ∀ x, (f x).length = S) {w : World} {base : Nat} {e : TypeId} {v : Value} {xs : List α} (h : w.ownsRow base e S v xs.length (rowL f xs)) : ListAt S (ElL f) (Since base w) xs v w := by
  rcases h.2 with ⟨rfl, h0⟩ | ⟨g, cap, cur, rfl, hb, hg, hnc, hcm, hcs, htake⟩
  · obtain rfl : xs = [] := List.eq_nil_of_length_eq_zero h0
    exact ListAt.nil _ _ _ _
  · refine ⟨some ⟨g, 0, none⟩, cap, xs.map fun x => (x, (f x).toArray), by rw [List.map_map]; exact (List.map_id' xs).symm, by simp, fun y hy => ?_, fun i hi => ⟨_, rfl, ⟨hb, lt_of_heap hg⟩, fun j u hj => ?_⟩, fun h => by cases h⟩
    · obtain ⟨x, _, rfl⟩ := List.mem_map.1 hy
      rfl
    · rw [List.length_map] at hi
      simp only [List.getElem_map, List.getElem?_toArray] at hj
      have := rowL_at hf xs i hi j u hj
      rw [Addr.add_lit, Nat.zero_add]
      have hk := (List.getElem?_eq_some_iff.1 this).1
      rw [rowL_len hf] at hk
      rw [h.cellAt _ hk]
      exact this
theorem own_form {w : World} {base : Nat} {e : TypeId} {S : Nat} {v : Value} {n : Nat} {xs : List Value} (h : w.ownsRow base e S v n xs) : ∃ a cap, v = .slice a n cap ∧ (a = none → n = 0 ∧ cap = 0) ∧ n ≤ cap ∧ cap ≤ maxLen := by
  rcases h.2 with ⟨rfl, h0⟩ | ⟨g, cap, cur, rfl, hb, hg, hnc, hcm, hcs, htake⟩
  · subst h0; exact ⟨none, 0, rfl, fun _ => ⟨rfl, rfl⟩, Nat.le_refl _, Nat.zero_le _⟩
  · exact ⟨_, cap, rfl, fun h => (by cases h), hnc, hcm⟩
theorem owns_same {w w' : World} {base : Nat} {e : TypeId} {size : Nat} {v : Value} {n : Nat} {xs : List Value} (h : w.ownsRow base e size v n xs) (hb : ∀ k, v.ownBlock = some k → w'.heap[k]? = w.heap[k]?) : w'.ownsRow base e size v n xs := by
  refine ⟨h.1, ?_⟩
  rcases h.2 with hn | ⟨g, cap, cur, rfl, hb', hg, rest⟩
  · exact .inl hn
  · exact .inr ⟨g, cap, cur, rfl, hb', by rw [hb g rfl]; exact hg, rest⟩
theorem owns_go {w w' : World} {base : Nat} {e : TypeId} {size : Nat} {v : Value} {n : Nat} {xs : List Value} (h : w.ownsRow base e size v n xs) (hb : Below w.heap.size w w') : w'.ownsRow base e size v n xs :=
  owns_same h fun k hk => hb.block k (h.lt k hk).2
/- A type of items: how many cells and bytes each has. -/
structure Kind {α : Type} (f : α → List Value) (t e : TypeId) (S bytes : Nat) : Prop where
  len : ∀ x, (f x).length = S
  one : ∀ x, ∀ u ∈ f x, u.oneCell' = true
  ty : Try.prog.underlying t = some (.slice e)
  pos : 0 < S
  info : ∃ i z, Try.prog.info? e = some i ∧ i.zero = some z ∧ i.size = S ∧ i.bytes = bytes ∧ z.cells.size = S
theorem list_news {α : Type} {f : α → List Value} {S : Nat} (hf : ∀ x, (f x).length = S) {F : Nat → Prop} {zs : List α} {p : Addr} {n cap : Nat} {w : World} (h : ListAt S (ElL f) F zs (.slice (some p) n cap) w) : ∀ j u, (rowL f zs)[j]? = some u → w.cell? (p.add j) = some u := by
  intro k u hk
  obtain ⟨i, j, hi, rfl, hv⟩ := rowL_inv hf zs k u hk
  obtain ⟨p', cs, cap', hv', hF, hE, hc⟩ := h.item hi
  cases hv'
  have : cs = (f (zs[i]'hi)).toArray := hE
  subst this
  rw [← add_add]
  exact hc j u (by simpa using hv)
theorem run_app {α : Type} {f : α → List Value} {t e : TypeId} {S bytes : Nat} (K : Kind f t e S bytes) {w : World} {base : Nat} {v : Value} {xs : List α} (hown : w.ownsRow base e S v xs.length (rowL f xs)) {F : Nat → Prop} {v2 : Value} {zs : List α} (hl : ListAt S (ElL f) F zs v2 w)
    (hb : (xs.length + zs.length) * bytes ≤ 140737488355328) (h63 : xs.length + zs.length ≤ maxLen) (hbase : base ≤ w.heap.size) (ty : TypeId) :
    ∃ v' w', (Builtin.append_ #[t, t] ty #[v, v2]).run Try.prog w = .ok v' w' ∧ w'.ownsRow base e S v' (xs ++ zs).length (rowL f (xs ++ zs)) ∧ w.grownBy w' v.ownBlock ∧ (v'.ownBlock = v.ownBlock ∨ v'.ownBlock = some w.heap.size) := by
  obtain ⟨i, z, hi, hz, hs, hby, hzs⟩ := K.info
  obtain ⟨a, cap, rfl, h0⟩ := hl.form
  cases a with
  | none =>
    obtain ⟨h1, rfl⟩ := h0 rfl
    obtain rfl : zs = [] := List.eq_nil_of_length_eq_zero h1
    have hrun := run_append_owned_none (P := Try.prog) (w := w) base t ty e i S K.ty hi v xs.length _ hown
    exact ⟨v, w, hrun, by simpa using hown, World.grownBy.refl _ _, Or.inl rfl⟩
  | some p =>
    obtain ⟨v', w', hrun, hown', hgrow, _, hat⟩ := run_append_own_at (P := Try.prog) w base t ty e i z S bytes K.ty hi hz hs hby hzs K.pos v xs.length _ hown p zs.length cap (rowL f zs) (rowL_len K.len zs) (list_news K.len hl) (fun u hu => by
      obtain ⟨x, _, hx⟩ := List.mem_flatMap.1 hu
      exact K.one x u hx) h63 hb hbase
    exact ⟨v', w', hrun, by rw [List.length_append, rowL_append]; exact hown', hgrow, hat⟩
theorem wp_app {α : Type} {f : α → List Value} {t e : TypeId} {S bytes : Nat} (K : Kind f t e S bytes) {w : World} {o : Oper} {a : Act} {Kk : Act → World → Prop} {Q : Exit → Act → World → Prop} (s x : Operand)
    (ho : o.op = .call { callee := .builtin .append, args := #[s, x], argTypes := #[t, t] }) (base : Nat) (v : Value) (xs : List α) (hs : a.eval s = v) (hown : w.ownsRow base e S v xs.length (rowL f xs)) (F : Nat → Prop) (v2 : Value) (zs : List α) (hx : a.eval x = v2) (hl : ListAt S (ElL f) F zs v2 w)
    (hb : (xs.length + zs.length) * bytes ≤ 140737488355328) (h63 : xs.length + zs.length ≤ maxLen) (hbase : base ≤ w.heap.size)
    (h : ∀ v' w', w'.ownsRow base e S v' (xs ++ zs).length (rowL f (xs ++ zs)) → w.grownBy w' v.ownBlock → (v'.ownBlock = v.ownBlock ∨ v'.ownBlock = some w.heap.size) → Kk (a.put o.dst v') w') : o.wp Try.prog a w Kk Q := by
  obtain ⟨v', w', hrun, h2, h3, h4⟩ := run_app K hown hl hb h63 hbase o.type
  unfold Oper.wp execOp
  simp only [ho, resolve, invoke, builtin, Sem.run_bind, Sem.run_pure, Result.andThen_ok, List.map_toArray, List.map_cons, List.map_nil, hs, hx, hrun]
  exact h v' w' h2 h3 h4
theorem wpList_app {α : Type} {f : α → List Value} {t e : TypeId} {S bytes : Nat} (K : Kind f t e S bytes) {w : World} {ops : Array Oper} {rest : List Oper} {o : Oper} {a : Act} {Q : Exit → Act → World → Prop} (hgd : o.guard = none) (s x : Operand)
    (ho : o.op = .call { callee := .builtin .append, args := #[s, x], argTypes := #[t, t] }) (base : Nat) (v : Value) (xs : List α) (hs : a.eval s = v) (hown : w.ownsRow base e S v xs.length (rowL f xs)) (F : Nat → Prop) (v2 : Value) (zs : List α) (hx : a.eval x = v2) (hl : ListAt S (ElL f) F zs v2 w)
    (hb : (xs.length + zs.length) * bytes ≤ 140737488355328) (h63 : xs.length + zs.length ≤ maxLen) (hbase : base ≤ w.heap.size)
    (h : ∀ v' w', w'.ownsRow base e S v' (xs ++ zs).length (rowL f (xs ++ zs)) → w.grownBy w' v.ownBlock → (v'.ownBlock = v.ownBlock ∨ v'.ownBlock = some w.heap.size) → wpList Try.prog ops Q rest (a.put o.dst v') w') : wpList Try.prog ops Q (o :: rest) a w :=
  wpList_plain hgd fun _ hK => wp_app K s x ho base v xs hs hown F v2 zs hx hl hb h63 hbase fun v' w' h2 h3 h4 => hK _ _ (h v' w' h2 h3 h4)
def cellL (c : Cell) : List Value := [.int .i64 c.1, .int .i64 c.2]
def poseL (p : Pose) : List Value := [.int .i64 p.1.1, .int .i64 p.1.2, .bool p.2]
def intL (x : Int) : List Value := [.int .i64 x]
theorem infoCell : (Try.prog.info? 28).map (fun i => (i.zero, i.size, i.bytes)) = some (some (.agg #[.int .i64 0, .int .i64 0]), 2, 16) := by kernel_rfl
theorem infoPose : (Try.prog.info? 30).map (fun i => (i.zero, i.size, i.bytes)) = some (some (.agg #[.int .i64 0, .int .i64 0, .bool false]), 3, 24) := by kernel_rfl
theorem infoInt : (Try.prog.info? 3).map (fun i => (i.zero, i.size, i.bytes)) = some (some (.int .i64 0), 1, 8) := by kernel_rfl
theorem kindCell : Kind cellL 22 28 2 16 :=
  ⟨fun _ => rfl, fun x u hu => by simp [cellL] at hu; rcases hu with rfl | rfl <;> rfl, Try.underlying22, by decide, by obtain ⟨i0, hi, hz0, hz1, hz2⟩ := info_parts infoCell; exact ⟨i0, _, hi, hz0, hz1, hz2, rfl⟩⟩
theorem kindPose : Kind poseL 23 30 3 24 :=
  ⟨fun _ => rfl, fun x u hu => by simp [poseL] at hu; rcases hu with rfl | rfl | rfl <;> rfl, Try.underlying23, by decide, by obtain ⟨i0, hi, hz0, hz1, hz2⟩ := info_parts infoPose; exact ⟨i0, _, hi, hz0, hz1, hz2, rfl⟩⟩
theorem kindInt : Kind intL 75 3 1 8 :=
  ⟨fun _ => rfl, fun x u hu => by simp [intL] at hu; subst hu; rfl, Try.underlying75, by decide, by obtain ⟨i0, hi, hz0, hz1, hz2⟩ := info_parts infoInt; exact ⟨i0, _, hi, hz0, hz1, hz2, rfl⟩⟩
theorem below_own {B : Nat} {w w1 w2 : World} {v : Value} (hb : Below B w w1) (g : w1.grownBy w2 v.ownBlock) (hB : B ≤ w1.heap.size) (h : ∀ k, v.ownBlock = some k → B ≤ k) : Below B w w2 := hb.grown g hB h
theorem own_since {w : World} {base : Nat} {e : TypeId} {S : Nat} {v : Value} {n : Nat} {xs : List Value} (h : w.ownsRow base e S v n xs) : ∀ k, v.ownBlock = some k → base ≤ k ∧ k < w.heap.size := fun k hk => h.lt k hk
theorem eql_nil (w : World) (t e : TypeId) (a : Option Addr) (l c : Nat) (h : Try.prog.underlying t = some (.slice e)) : (binOp .eql t (.slice a l c) (.slice none 0 0)).run Try.prog w = .ok (.bool a.isNone) w := by
  simp only [binOp]
  simp [run_equal_slice_nil w t e a l c h]

set_option maxHeartbeats 1000000 in
theorem clone_any (F : Nat → Prop) (l : List Cell) (v : Value) (w : World) (hL : ListAt 2 cellEl F l v w) (hF : ∀ b, F b → b < w.heap.size) (hm : l.length ≤ 8796093022208) :
    Calls Try.prog 124 #[v] w fun e w' => ∃ v', e = .returned v' ∧ w'.ownsRow w.heap.size 28 2 v' l.length (rowL cellL l) ∧ Below w.heap.size w w' := by
  have hu := fun w a l c => eql_nil w 22 28 a l c Try.underlying22
  obtain ⟨a, cap, rfl, h0⟩ := hL.form
  cases a with
  | none =>
    obtain ⟨h1, rfl⟩ := h0 rfl
    obtain rfl : l = [] := List.eq_nil_of_length_eq_zero h1
    go_enter Try.func124, Try.ntmps124
    go_wp2
    go_ret
    exact ⟨_, rfl, World.ownsRow_nil _ _ _ _, Below.refl _ _⟩
  | some p =>
    have hL' := fun o => hL.go heldCell hF ((Below.refl w.heap.size w).alloc (Nat.le_refl _) o)
    generalize hn : l.length = n at *
    have HN : Hid (l.length = n) := hn
    clear hn
    go_enter Try.func124, Try.ntmps124
    go_wp2_with (at_builtin; refine wpList_app kindCell rfl _ _ rfl w.heap.size (.slice (some ⟨w.heap.size, 0, none⟩) 0 0) [] rfl (World.ownsRow_made w #[] 0 (Nat.le_refl _) (by decide) (by decide)) F _ l rfl (hL' _) (by rw [HN.out]; simp; omega) (by rw [HN.out]; unfold maxLen; simp; omega) (by simp) ?_; intro v' w1 hown hgrow hat)
    rw [List.nil_append] at hown
    go_ret
    exact ⟨v', rfl, by rw [HN.out] at hown; exact hown, ((Below.refl _ _).alloc (Nat.le_refl _) _).grown hgrow (by simp) (by intro k hk; simp [Value.ownBlock] at hk; omega)⟩
end Go.Proofs.Ytnaojlngdfolaaa.Grid
