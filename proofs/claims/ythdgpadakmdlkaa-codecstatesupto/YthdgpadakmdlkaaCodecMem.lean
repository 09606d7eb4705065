/-
  Bytes in memory: a copy of any bytes (a new row, nothing old is turned), bytes read as a string, bytes put behind bytes of one's own.
-/
import Derived.Test.YthdgpadakmdlkaaChecked
import Derived.Test.YthdgpadakmdlkaaCodecPlain
import Derived.WalkKit
import Derived.ProofKit
import Derived.OpenShut
import Derived.BigQuiet
import Derived.Deep.QuietTactic
import Derived.WalkSmall
import Derived.Laws.BytesArg
import Derived.Laws.AppendOwnNone
import Derived.OwnWalk
import Derived.Lib.SlBytesConst
import Derived.Laws.Cover1
import Derived.Laws.Strings
import Derived.Laws.Pointers
import Derived.Deep.AppendLies
import Derived.Maps.AppendAt
namespace Go.Proofs.Ythdgpadakmdlkaa.Codec
set_option linter.unusedVariables false
set_option linter.unusedSimpArgs false
open Go Go.RowKit

theorem ret_int {k : IntKind} {a b : Int} (h : a = b) : Ending.returned (.int k a) = .returned (.int k b) := by rw [h]
structure Row (w : World) (a : Option Addr) (n : Nat) (zs : List Int) : Prop where
  len : zs.length = n
  small : ∀ z ∈ zs, 0 ≤ z ∧ z < 256
  cell : ∀ i, i < n → ∃ x, a = some x ∧ w.cell? (x.add i) = some (.int .u8 (zs.getD i 0))
theorem getD_in (zs : List Int) (k : Nat) (h : k < zs.length) : zs.getD k 0 = zs[k] := by
  rw [List.getD_eq_getElem?_getD, List.getElem?_eq_getElem h, Option.getD_some]
theorem Row.at {w : World} {a : Option Addr} {n : Nat} {zs : List Int} (h : Row w a n zs) (k : Nat) (hk : k < n) : 0 ≤ zs.getD k 0 ∧ zs.getD k 0 < 256 := by
  have hl := h.len
  rw [getD_in _ _ (by omega)]
  exact h.small _ (List.getElem_mem _)
theorem block_add (x : Addr) (i : Nat) : (x.add i).block = x.block := by unfold Addr.add; split <;> rfl
theorem Row.mono {w w' : World} {B : Nat} {a : Option Addr} {n : Nat} {zs : List Int} (h : Row w a n zs) (hb : Below B w w') (hB : ∀ x, a = some x → n ≠ 0 → x.block < B) : Row w' a n zs := by
  refine ⟨h.len, h.small, fun i hi => ?_⟩
  obtain ⟨x, hx, hc⟩ := h.cell i hi
  have hl : x.block < B := hB x hx (by omega)
  refine ⟨x, hx, ?_⟩
  rw [hb.cell (p := x.add i) (by rw [block_add]; exact hl)]
  exact hc
theorem Row.lt {w : World} {a : Option Addr} {n : Nat} {zs : List Int} (h : Row w a n zs) : ∀ x, a = some x → n ≠ 0 → x.block < w.heap.size := by
  intro x hx hn
  obtain ⟨y, hy, hc⟩ := h.cell 0 (by omega)
  obtain rfl : y = x := by rw [hx] at hy; exact (Option.some.inj hy).symm
  have := World.block_lt_of_cell? w _ hc
  rwa [block_add] at this
theorem Row.after {w w' : World} {a : Option Addr} {n : Nat} {zs : List Int} (h : Row w a n zs) (hb : Below w.heap.size w w') : Row w' a n zs := h.mono hb h.lt
theorem Row.load {w : World} {x : Addr} {n : Nat} {zs : List Int} (h : Row w (some x) n zs) : ∀ j v, (zs.map (Value.int .u8))[j]? = some v → w.cell? (x.add j) = some v := by
  intro j v hj
  rw [List.getElem?_map] at hj
  have hl := h.len
  by_cases g : j < zs.length
  · rw [List.getElem?_eq_getElem g] at hj
    obtain ⟨y, hy, hc⟩ := h.cell j (by omega)
    obtain rfl : y = x := (Option.some.inj hy).symm
    rw [hc, getD_in zs j g]
    simpa using hj
  · rw [List.getElem?_eq_none (by omega)] at hj
    simp at hj
theorem conv_row {w : World} {a : Option Addr} {n : Nat} {zs : List Int} (h : Row w a n zs) (cap : Nat) : (convert 29 9 (.slice a n cap)).run Try.prog w = .ok (.string (strOfNums zs)) w := by
  have hl := h.len
  cases a with
  | none =>
    have hn : n = 0 := by
      rcases Nat.eq_zero_or_pos n with g | g
      · exact g
      · obtain ⟨x, hx, _⟩ := h.cell 0 g; cases hx
    subst hn
    obtain rfl : zs = [] := List.eq_nil_of_length_eq_zero hl
    exact run_convert_bytes_nil w 29 5 Try.underlying29 Try.underlying5 0 cap 9 Try.underlying9
  | some x =>
    have hld : (loadCells x n).run Try.prog w = .ok (zs.map (Value.int .u8)).toArray w := by
      have := run_loadCells_list (P := Try.prog) w x (zs.map (Value.int .u8)) h.load
      simpa [hl] using this
    rw [run_convert_bytes_string w 29 9 5 _ n cap Try.underlying29 Try.underlying5 Try.underlying9, run_bytesToString w _ n cap zs hld, foldl_push_bytes]
    simp [strOfNums, ByteArray.empty, ByteArray.emptyWithCapacity]
    rfl
theorem own_row {w : World} {base : Nat} {v : Value} {n : Nat} {zs : List Int} (h : w.ownsRow base 5 1 v n (zs.map (Value.int .u8))) (hs : ∀ z ∈ zs, 0 ≤ z ∧ z < 256) :
    ∃ a cap, v = .slice a n cap ∧ Row w a n zs := by
  have hl : zs.length = n := by have := h.1; simpa using this
  rcases h.2 with ⟨rfl, rfl⟩ | ⟨g, cap, cur, rfl, hb, hg, hnc, hcm, hcs, htake⟩
  · exact ⟨none, 0, rfl, hl, hs, fun i hi => by omega⟩
  · refine ⟨_, cap, rfl, hl, hs, fun i hi => ⟨_, rfl, ?_⟩⟩
    have hc := h.cellAt i (by omega)
    rw [Addr.add_lit, Nat.zero_add, hc, List.getElem?_map, List.getElem?_eq_getElem (by omega), getD_in zs i (by omega)]
    rfl
theorem add_add (x : Addr) (i j : Nat) : (x.add i).add j = x.add (i + j) := by
  unfold Addr.add
  by_cases hi : i = 0
  · subst hi; simp
  · by_cases hj : j = 0
    · subst hj; simp
    · rw [if_neg hi, if_neg hj, if_neg (by omega)]
      simp [Nat.add_assoc]
theorem Row.head {w : World} {a : Option Addr} {n : Nat} {zs : List Int} (h : Row w a n zs) (k : Nat) (hk : k ≤ n) : Row w a k (zs.take k) := by
  have hl := h.len
  refine ⟨by rw [List.length_take]; omega, fun z hz => h.small z (List.mem_of_mem_take hz), fun i hi => ?_⟩
  obtain ⟨y, hy, hc⟩ := h.cell i (by omega)
  refine ⟨y, hy, ?_⟩
  rw [hc, getD_in zs _ (by omega), getD_in _ i (by rw [List.length_take]; omega), List.getElem_take]
theorem Row.part {w : World} {x : Addr} {n : Nat} {zs : List Int} (h : Row w (some x) n zs) (i j : Nat) (hj : i + j ≤ n) : Row w (some (x.add i)) j ((zs.drop i).take j) := by
  have hl := h.len
  refine ⟨by rw [List.length_take, List.length_drop]; omega, fun z hz => h.small z (List.mem_of_mem_drop (List.mem_of_mem_take hz)), fun k hk => ⟨_, rfl, ?_⟩⟩
  obtain ⟨y, hy, hc⟩ := h.cell (i + k) (by omega)
  obtain rfl : y = x := (Option.some.inj hy).symm
  rw [add_add, hc, getD_in zs _ (by omega), getD_in _ k (by rw [List.length_take, List.length_drop]; omega), List.getElem_take, List.getElem_drop]
theorem Row.tail {w : World} {x : Addr} {n cap : Nat} {zs : List Int} (h : Row w (some x) n zs) (k : Nat) (hk : k ≤ n) (hc : n ≤ cap) : Row w (if cap = k then some x else some (x.add k)) (n - k) (zs.drop k) := by
  have hl := h.len
  by_cases g : cap = k
  · rw [if_pos g]
    exact ⟨by rw [List.length_drop]; omega, fun z hz => h.small z (List.mem_of_mem_drop hz), fun i hi => by omega⟩
  · rw [if_neg g]
    have := h.part k (n - k) (by omega)
    rwa [List.take_of_length_le (by rw [List.length_drop]; omega)] at this
theorem row_of {w : World} {a : Option Addr} {len cap : Nat} {zs : List Int} (h : (a = none ∧ len = 0 ∧ cap = 0 ∧ zs = []) ∨
    ∃ x, a = some x ∧ len ≤ cap ∧ cap ≤ 140737488351232 ∧ zs.length = cap ∧ (∀ i, i < zs.length → w.cell? (x.add i) = some (.int .u8 (zs.getD i 0))) ∧ ∀ n ∈ zs, (Lit.int .u8 n).wf = true) :
    Row w a len (zs.take len) ∧ len ≤ 140737488351232 ∧ len ≤ cap ∧ cap ≤ 140737488351232 ∧ (a = none → len = 0 ∧ cap = 0) := by
  rcases h with ⟨rfl, rfl, rfl, rfl⟩ | ⟨x, rfl, hl, hm, hz, hc, hw⟩
  · exact ⟨⟨rfl, by simp, fun i hi => by omega⟩, by omega, by omega, by omega, fun _ => ⟨rfl, rfl⟩⟩
  · refine ⟨⟨by rw [List.length_take]; omega, fun z hz' => ?_, fun i hi => ⟨x, rfl, ?_⟩⟩, by omega, by omega, by omega, fun h => by cases h⟩
    · have := hw z (List.mem_of_mem_take hz')
      simp [Lit.wf, IntKind.min, IntKind.max, IntKind.bits, IntKind.signed] at this
      omega
    · rw [hc i (by omega), getD_in zs i (by omega), getD_in _ i (by rw [List.length_take]; omega), List.getElem_take]
theorem info5 : (Try.prog.info? 5).map (fun i => (i.zero, i.size, i.bytes)) = some (some (.int .u8 0), 1, 1) := by kernel_rfl
set_option maxHeartbeats 1000000 in
theorem copy_any (a : Option Addr) (n cap : Nat) (zs : List Int) (w : World) (hr : Row w a n zs) (hm : n ≤ 140737488355328) (h0 : a = none → n = 0 ∧ cap = 0) :
    Calls Try.prog 9 #[.slice a n cap] w fun e w' => ∃ a' cap', e = .returned (.slice a' n cap') ∧ Row w' a' n zs ∧ w'.ownsRow w.heap.size 5 1 (.slice a' n cap') n (zs.map (Value.int .u8)) ∧ Below w.heap.size w w' := by
  obtain ⟨i0, hi, hz0, hz1, hz2⟩ := info_parts info5
  have hl := hr.len
  cases a with
  | none =>
    obtain ⟨rfl, rfl⟩ := h0 rfl
    obtain rfl : zs = [] := List.eq_nil_of_length_eq_zero hl
    go_enter Try.func9, Try.ntmps9
    go_wp2_with (at_builtin; refine wpList_append_own_none rfl _ _ 29 rfl w.heap.size 5 i0 1 Try.underlying29 hi (.slice none 0 0) 0 [] rfl (World.ownsRow_nil _ _ _ _) rfl ?_)
    go_ret
    exact ⟨none, 0, rfl, hr, World.ownsRow_nil _ _ _ _, Below.refl _ _⟩
  | some x =>
    go_enter Try.func9, Try.ntmps9
    go_wp2_with (at_builtin; refine wpList_append_own _ rfl _ _ 29 rfl w.heap.size 5 i0 (.int .u8 0) 1 1 Try.underlying29 hi hz0 hz1 hz2 rfl (by decide) (.slice none 0 0) 0 [] rfl (World.ownsRow_nil _ _ _ _) x n cap (zs.map (Value.int .u8)) rfl (by simpa using hl) hr.load (ints_oneCell _ _) (by unfold maxLen; omega) (by omega) (Nat.le_refl _) ?_; intro v' w1 hown hgrow hnil)
    rw [Nat.zero_add, List.nil_append] at hown
    obtain ⟨a', cap', rfl, hrow⟩ := own_row hown hr.small
    go_ret
    exact ⟨a', cap', rfl, hrow, hown, (Below.refl _ _).grown hgrow (Nat.le_refl _) (by intro k hk; cases hk)⟩
theorem own_at {w : World} {base n cap : Nat} {a : Option Addr} {xs : List Value} (h : w.ownsRow base 5 1 (.slice a n cap) n xs) (hn : n ≠ 0) : ∃ g, a = some ⟨g, 0, none⟩ := by
  rcases h.2 with ⟨e, h0⟩ | ⟨g, cap', cur, e, _⟩
  · exact absurd h0 hn
  · cases e
    exact ⟨g, rfl⟩
theorem str_inj : ∀ (xs ys : List Int), (∀ x ∈ xs, 0 ≤ x ∧ x < 256) → (∀ y ∈ ys, 0 ≤ y ∧ y < 256) → (xs.map fun n => UInt8.ofNat n.toNat) = (ys.map fun n => UInt8.ofNat n.toNat) → xs = ys
  | [], [], _, _, _ => rfl
  | [], _ :: _, _, _, h => by simp at h
  | _ :: _, [], _, _, h => by simp at h
  | x :: xs, y :: ys, hx, hy, h => by
    rw [List.map_cons, List.map_cons] at h
    obtain ⟨h1, h2⟩ := List.cons.inj h
    obtain ⟨x0, x1⟩ := hx x (by simp)
    obtain ⟨y0, y1⟩ := hy y (by simp)
    have h3 := congrArg UInt8.toNat h1
    rw [UInt8.toNat_ofNat', UInt8.toNat_ofNat'] at h3
    have h4 : x = y := by omega
    rw [h4, str_inj xs ys (fun z hz => hx z (List.mem_cons_of_mem _ hz)) (fun z hz => hy z (List.mem_cons_of_mem _ hz)) h2]
theorem str_ne (xs ys : List Int) (hx : ∀ x ∈ xs, 0 ≤ x ∧ x < 256) (hy : ∀ y ∈ ys, 0 ≤ y ∧ y < 256) (h : xs ≠ ys) : ((strOfNums xs).toList == (strOfNums ys).toList) = false := by
  rw [ByteArray.toList_eq, ByteArray.toList_eq, strOfNums_data, strOfNums_data]
  exact beq_eq_false_iff_ne.mpr fun e => h (str_inj xs ys hx hy e)
def place (v n : Int) : Int := if v.tmod n < 0 then v.tmod n + n else v.tmod n
theorem tmod_low (v n : Int) (h : 0 < n) : -n < v.tmod n := by
  by_cases g : 0 ≤ v
  · have := Int.tmod_nonneg n g
    omega
  · have h1 := Int.tmod_lt_of_pos (-v) h
    rw [Int.neg_tmod] at h1
    omega

/- A value that is a slice of just these bytes, in a block of their own. -/
structure Mine (w : World) (v : Value) (zs : List Int) : Prop where
  own : w.ownsRow 0 5 1 v zs.length (zs.map (Value.int .u8))
  small : Bytes zs
theorem Mine.nil (w : World) : Mine w (.slice none 0 0) [] := ⟨World.ownsRow_nil _ _ _ _, Bytes.nil⟩
theorem Mine.form {w : World} {v : Value} {zs : List Int} (h : Mine w v zs) : ∃ a cap, v = .slice a zs.length cap ∧ Row w a zs.length zs ∧ (a = none → zs.length = 0 ∧ cap = 0) ∧ zs.length ≤ cap ∧ cap ≤ maxLen := by
  obtain ⟨a, cap, e, hr⟩ := own_row h.own h.small
  refine ⟨a, cap, e, hr, ?_⟩
  rcases h.own.2 with ⟨e1, h0⟩ | ⟨g, cap', cur, e1, _, _, hc, hc2, _⟩
  · rw [e, Value.slice.injEq] at e1
    obtain ⟨rfl, _, rfl⟩ := e1
    exact ⟨fun _ => ⟨h0, rfl⟩, by omega, Nat.zero_le _⟩
  · rw [e, Value.slice.injEq] at e1
    obtain ⟨rfl, _, rfl⟩ := e1
    exact ⟨fun h => (by cases h), hc, hc2⟩
theorem owns_same {w w' : World} {base : Nat} {e : TypeId} {size : Nat} {v : Value} {n : Nat} {xs : List Value} (h : w.ownsRow base e size v n xs) (hb : ∀ k, v.ownBlock = some k → w'.heap[k]? = w.heap[k]?) : w'.ownsRow base e size v n xs := by
  refine ⟨h.1, ?_⟩
  rcases h.2 with hn | ⟨g, cap, cur, rfl, hb', hg, rest⟩
  · exact .inl hn
  · exact .inr ⟨g, cap, cur, rfl, hb', by rw [hb g rfl]; exact hg, rest⟩
theorem Mine.lt {w : World} {v : Value} {zs : List Int} (h : Mine w v zs) (k : Nat) (hk : v.ownBlock = some k) : k < w.heap.size := (h.own.lt k hk).2
theorem Mine.same {w w' : World} {v : Value} {zs : List Int} (h : Mine w v zs) (hb : ∀ k, v.ownBlock = some k → w'.heap[k]? = w.heap[k]?) : Mine w' v zs := ⟨owns_same h.own hb, h.small⟩
theorem Mine.later {w w' : World} {v : Value} {zs : List Int} (h : Mine w v zs) (hb : Below w.heap.size w w') : Mine w' v zs := h.same fun k hk => hb.block k (h.lt k hk)
theorem Mine.alloc {w : World} {v : Value} {zs : List Int} (h : Mine w v zs) (o : Obj) : Mine (w.alloc o) v zs := ⟨h.own.alloc o, h.small⟩
theorem Mine.conv {w : World} {v : Value} {zs : List Int} (h : Mine w v zs) : (convert 29 9 v).run Try.prog w = .ok (.string (strOfNums zs)) w := by
  obtain ⟨a, cap, rfl, hr, _⟩ := h.form
  exact conv_row hr cap
theorem bcat {B : Nat} {w w1 w2 : World} (h : Below B w w1) (h1 : Below w1.heap.size w1 w2) (hB : B ≤ w.heap.size) : Below B w w2 := h.trans (h1.mono (Nat.le_trans hB h.size))
theorem below_grown {w w' : World} (h : w.grownBy w' none) : Below w.heap.size w w' := (Below.refl _ _).grown h (Nat.le_refl _) (by intro k hk; cases hk)

/- Only the value's own block has turned; what it became lies there, or in a new one. -/
structure Goes (b : Value) (w : World) (b' : Value) (w' : World) : Prop where
  grown : w.grownBy w' b.ownBlock
  at_ : ∀ g, b'.ownBlock = some g → b.ownBlock = some g ∨ w.heap.size ≤ g
theorem grown_on {w wr w1 : World} {row row1 : Option Nat} (h : w.grownBy wr row) (h1 : wr.grownBy w1 row1) (hr : ∀ g, row1 = some g → row = some g ∨ w.heap.size ≤ g) : w.grownBy w1 row := by
  refine ⟨h1.os.trans h.os, h1.tape.trans h.tape, h1.output.trans h.output, Nat.le_trans h.size h1.size, fun k hk hne => ?_⟩
  rw [h1.block k (Nat.lt_of_lt_of_le hk h.size) (fun e => ?_), h.block k hk hne]
  rcases hr k e.symm with e2 | e2
  · exact hne e2.symm
  · omega
theorem Goes.refl (b : Value) (w : World) : Goes b w b w := ⟨World.grownBy.refl _ _, fun g h => Or.inl h⟩
theorem Goes.trans {b b1 b2 : Value} {w w1 w2 : World} (h : Goes b w b1 w1) (h1 : Goes b1 w1 b2 w2) : Goes b w b2 w2 := by
  refine ⟨grown_on h.grown h1.grown h.at_, fun g hg => ?_⟩
  rcases h1.at_ g hg with e | e
  · exact h.at_ g e
  · exact Or.inr (Nat.le_trans h.grown.size e)
theorem Goes.alloc {b b1 : Value} {w w1 : World} (h : Goes b w b1 w1) (o : Obj) : Goes b w b1 (w1.alloc o) := ⟨h.grown.trans (World.grownBy_alloc _ _ _), h.at_⟩
theorem Goes.drew {b b1 : Value} {w w1 : World} (h : Goes b w b1 w1) : Goes b w b1 w1.drew := ⟨⟨h.grown.os, h.grown.tape, h.grown.output, h.grown.size, h.grown.block⟩, h.at_⟩
theorem Goes.block {b b' : Value} {w w' : World} (h : Goes b w b' w') (k : Nat) (hk : k < w.heap.size) (hn : b.ownBlock ≠ some k) : w'.heap[k]? = w.heap[k]? := h.grown.block k hk fun e => hn e.symm
theorem Goes.below {b' : Value} {w w' : World} (h : Goes (.slice none 0 0) w b' w') : Below w.heap.size w w' := below_grown h.grown
theorem Goes.new {b' : Value} {w w' : World} (h : Goes (.slice none 0 0) w b' w') (g : Nat) (hg : b'.ownBlock = some g) : w.heap.size ≤ g := by
  rcases h.at_ g hg with e | e
  · cases e
  · exact e
theorem Goes.new_of {b b' : Value} {w0 w w' : World} (h : Goes b w b' w') (h0 : ∀ g, b.ownBlock = some g → w0.heap.size ≤ g) (hs : w0.heap.size ≤ w.heap.size) (g : Nat) (hg : b'.ownBlock = some g) : w0.heap.size ≤ g := by
  rcases h.at_ g hg with e | e
  · exact h0 g e
  · exact Nat.le_trans hs e
theorem Goes.below_of {b b' : Value} {w0 w w' : World} (hb : Below w0.heap.size w0 w) (h : Goes b w b' w') (h0 : ∀ g, b.ownBlock = some g → w0.heap.size ≤ g) : Below w0.heap.size w0 w' := hb.grown h.grown hb.size h0

theorem run_append_mine {w : World} {v : Value} {xs : List Int} (hown : Mine w v xs) {a : Option Addr} {m cap : Nat} {zs : List Int} (hr : Row w a m zs) (h0 : a = none → cap = 0)
    (hb : xs.length + m ≤ 140737488355328) (ty : TypeId) :
    ∃ v' w', (Builtin.append_ #[29, 29] ty #[v, .slice a m cap]).run Try.prog w = .ok v' w' ∧ Mine w' v' (xs ++ zs) ∧ Goes v w v' w' := by
  obtain ⟨i0, hi, hz0, hz1, hz2⟩ := info_parts info5
  have hl := hr.len
  cases a with
  | none =>
    obtain rfl : cap = 0 := h0 rfl
    have hm : m = 0 := by
      rcases Nat.eq_zero_or_pos m with g | g
      · exact g
      · obtain ⟨x, hx, _⟩ := hr.cell 0 g; cases hx
    subst hm
    obtain rfl : zs = [] := List.eq_nil_of_length_eq_zero hl
    have hrun := run_append_owned_none (P := Try.prog) (w := w) 0 29 ty 5 i0 1 Try.underlying29 hi v xs.length _ hown.own
    exact ⟨v, w, hrun, by simpa using hown, Goes.refl _ _⟩
  | some x =>
    obtain ⟨v', w', hrun, hown', hgrow, _, hat⟩ := run_append_own_at (P := Try.prog) w 0 29 ty 5 i0 (.int .u8 0) 1 1 Try.underlying29 hi hz0 hz1 hz2 rfl (by decide) v xs.length _ hown.own x m cap (zs.map (Value.int .u8)) (by simpa using hl) hr.load (ints_oneCell _ _) (by unfold maxLen; omega) (by omega) (Nat.zero_le _)
    refine ⟨v', w', hrun, ⟨?_, hown.small.append hr.small⟩, hgrow, fun g hg => ?_⟩
    · rw [List.length_append, hl, List.map_append]
      exact hown'
    · rcases hat with e | e
      · rw [e] at hg; exact Or.inl hg
      · rw [e] at hg; cases hg; exact Or.inr (Nat.le_refl _)

theorem wp_append_mine {w : World} {o : Oper} {a : Act} {K : Act → World → Prop} {Q : Exit → Act → World → Prop} (s x : Operand)
    (ho : o.op = .call { callee := .builtin .append, args := #[s, x], argTypes := #[29, 29] })
    (v : Value) (xs : List Int) (hs : a.eval s = v) (hown : Mine w v xs)
    (ad : Option Addr) (m c : Nat) (zs : List Int) (hx : a.eval x = .slice ad m c) (hr : Row w ad m zs) (h0 : ad = none → c = 0) (hb : xs.length + m ≤ 140737488355328)
    (h : ∀ v' w', Mine w' v' (xs ++ zs) → Goes v w v' w' → K (a.put o.dst v') w') : o.wp Try.prog a w K Q := by
  obtain ⟨v', w', hrun, h2, h3⟩ := run_append_mine hown hr h0 hb o.type
  unfold Oper.wp execOp
  simp only [ho, resolve, invoke, builtin, Sem.run_bind, Sem.run_pure, Result.andThen_ok, List.map_toArray, List.map_cons, List.map_nil, hs, hx, hrun]
  exact h v' w' h2 h3
theorem wpList_append_mine {w : World} {ops : Array Oper} {rest : List Oper} {o : Oper} {a : Act} {Q : Exit → Act → World → Prop} (hgd : o.guard = none) (s x : Operand)
    (ho : o.op = .call { callee := .builtin .append, args := #[s, x], argTypes := #[29, 29] })
    (v : Value) (xs : List Int) (hs : a.eval s = v) (hown : Mine w v xs)
    (ad : Option Addr) (m c : Nat) (zs : List Int) (hx : a.eval x = .slice ad m c) (hr : Row w ad m zs) (h0 : ad = none → c = 0) (hb : xs.length + m ≤ 140737488355328)
    (h : ∀ v' w', Mine w' v' (xs ++ zs) → Goes v w v' w' → wpList Try.prog ops Q rest (a.put o.dst v') w') : wpList Try.prog ops Q (o :: rest) a w :=
  wpList_plain hgd fun _ hK => wp_append_mine s x ho v xs hs hown ad m c zs hx hr h0 hb fun v' w' h2 h3 => hK _ _ (h v' w' h2 h3)
theorem Goes.cell {b b' : Value} {w w' : World} (h : Goes b w b' w') (p : Addr) (hk : p.block < w.heap.size) (hn : b.ownBlock ≠ some p.block) : w'.cell? p = w.cell? p := h.grown.cell_far p hk fun e => hn e.symm
/- What lies in a new block. -/
theorem cell_new (w : World) (cs : Array Value) (t : TypeId) (fr : Nat × Nat) (j : Nat) : (w.alloc (.cells cs t fr)).cell? ⟨w.heap.size, j, none⟩ = cs[j]? := cell_of_row _ w.heap.size j cs t fr (heap_alloc_new w _)
theorem goes_alloc (v : Value) (w : World) (o : Obj) : Goes v w v (w.alloc o) := (Goes.refl v w).alloc o
/- One byte, in a block of its own. -/
theorem row_one (w : World) (x : Int) (t : TypeId) (fr : Nat × Nat) (h0 : 0 ≤ x) (h1 : x < 256) : Row (w.alloc (.cells #[.int .u8 x] t fr)) (some ⟨w.heap.size, 0, none⟩) 1 [x] := by
  refine ⟨rfl, by simp; exact ⟨h0, h1⟩, fun i hi => ⟨_, rfl, ?_⟩⟩
  obtain rfl : i = 0 := by omega
  rw [Addr.add_lit, Nat.zero_add, cell_of_row _ w.heap.size 0 _ t fr (heap_alloc_new w _)]
  rfl

end Go.Proofs.Ythdgpadakmdlkaa.Codec
