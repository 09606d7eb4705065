/-
  Bytes in memory: a copy of any bytes (a new row, nothing old is turned), bytes read as a string, bytes put behind bytes of one's own; numbers taken into a range.
-/
import Derived.Test.YtnifpfkemjolkaaChecked
import Derived.Test.YtnifpfkemjolkaaDiskPlain
import Derived.WalkKit
import Derived.ProofKit
import Derived.OpenShut
import Derived.BigQuiet
import Derived.Deep.QuietTactic
import Derived.WalkSmall
import Derived.Laws.BytesArg
import Derived.Laws.AppendOwnNone
import Derived.OwnWalk
import Derived.Lib.SlBytesConst
import Derived.Laws.Cover1
import Derived.Laws.Strings
import Derived.Laws.Pointers
import Derived.Deep.AppendLies
namespace Go.Proofs.Ytnifpfkemjolkaa.Disk
set_option linter.unusedVariables false
set_option linter.unusedSimpArgs false
open Go Go.RowKit

theorem ret_int {k : IntKind} {a b : Int} (h : a = b) : Ending.returned (.int k a) = .returned (.int k b) := by rw [h]
structure Row (w : World) (a : Option Addr) (n : Nat) (zs : List Int) : Prop where
  len : zs.length = n
  small : ∀ z ∈ zs, 0 ≤ z ∧ z < 256
  cell : ∀ i, i < n → ∃ x, a = some x ∧ w.cell? (x.add i) = some (.int .u8 (zs.getD i 0))
theorem getD_in (zs : List Int) (k : Nat) (h : k < zs.length) : zs.getD k 0 = zs[k] := by
  rw [List.getD_eq_getElem?_getD, List.getElem?_eq_getElem h, Option.getD_some]
theorem Row.at {w : World} {a : Option Addr} {n : Nat} {zs : List Int} (h : Row w a n zs) (k : Nat) (hk : k < n) : 0 ≤ zs.getD k 0 ∧ zs.getD k 0 < 256 := by
  have hl := h.len
  rw [getD_in _ _ (by omega)]
  exact h.small _ (List.getElem_mem _)
theorem block_add (x : Addr) (i : Nat) : (x.add i).block = x.block := by unfold Addr.add; split <;> rfl
theorem Row.mono {w w' : World} {B : Nat} {a : Option Addr} {n : Nat} {zs : List Int} (h : Row w a n zs) (hb : Below B w w') (hB : ∀ x, a = some x → n ≠ 0 → x.block < B) : Row w' a n zs := by
  refine ⟨h.len, h.small, fun i hi => ?_⟩
  obtain ⟨x, hx, hc⟩ := h.cell i hi
  have hl : x.block < B := hB x hx (by omega)
  refine ⟨x, hx, ?_⟩
  rw [hb.cell (p := x.add i) (by rw [block_add]; exact hl)]
  exact hc
theorem Row.lt {w : World} {a : Option Addr} {n : Nat} {zs : List Int} (h : Row w a n zs) : ∀ x, a = some x → n ≠ 0 → x.block < w.heap.size := by
  intro x hx hn
  obtain ⟨y, hy, hc⟩ := h.cell 0 (by omega)
  obtain rfl : y = x := by rw [hx] at hy; exact (Option.some.inj hy).symm
  have := World.block_lt_of_cell? w _ hc
  rwa [block_add] at this
theorem Row.after {w w' : World} {a : Option Addr} {n : Nat} {zs : List Int} (h : Row w a n zs) (hb : Below w.heap.size w w') : Row w' a n zs := h.mono hb h.lt
theorem Row.load {w : World} {x : Addr} {n : Nat} {zs : List Int} (h : Row w (some x) n zs) : ∀ j v, (zs.map (Value.int .u8))[j]? = some v → w.cell? (x.add j) = some v := by
  intro j v hj
  rw [List.getElem?_map] at hj
  have hl := h.len
  by_cases g : j < zs.length
  · rw [List.getElem?_eq_getElem g] at hj
    obtain ⟨y, hy, hc⟩ := h.cell j (by omega)
    obtain rfl : y = x := (Option.some.inj hy).symm
    rw [hc, getD_in zs j g]
    simpa using hj
  · rw [List.getElem?_eq_none (by omega)] at hj
    simp at hj
theorem conv_row {w : World} {a : Option Addr} {n : Nat} {zs : List Int} (h : Row w a n zs) (cap : Nat) : (convert 28 9 (.slice a n cap)).run Try.prog w = .ok (.string (strOfNums zs)) w := by
  have hl := h.len
  cases a with
  | none =>
    have hn : n = 0 := by
      rcases Nat.eq_zero_or_pos n with g | g
      · exact g
      · obtain ⟨x, hx, _⟩ := h.cell 0 g; cases hx
    subst hn
    obtain rfl : zs = [] := List.eq_nil_of_length_eq_zero hl
    exact run_convert_bytes_nil w 28 5 Try.underlying28 Try.underlying5 0 cap 9 Try.underlying9
  | some x =>
    have hld : (loadCells x n).run Try.prog w = .ok (zs.map (Value.int .u8)).toArray w := by
      have := run_loadCells_list (P := Try.prog) w x (zs.map (Value.int .u8)) h.load
      simpa [hl] using this
    rw [run_convert_bytes_string w 28 9 5 _ n cap Try.underlying28 Try.underlying5 Try.underlying9, run_bytesToString w _ n cap zs hld, foldl_push_bytes]
    simp [strOfNums, ByteArray.empty, ByteArray.emptyWithCapacity]
    rfl
theorem own_row {w : World} {base : Nat} {v : Value} {n : Nat} {zs : List Int} (h : w.ownsRow base 5 1 v n (zs.map (Value.int .u8))) (hs : ∀ z ∈ zs, 0 ≤ z ∧ z < 256) :
    ∃ a cap, v = .slice a n cap ∧ Row w a n zs := by
  have hl : zs.length = n := by have := h.1; simpa using this
  rcases h.2 with ⟨rfl, rfl⟩ | ⟨g, cap, cur, rfl, hb, hg, hnc, hcm, hcs, htake⟩
  · exact ⟨none, 0, rfl, hl, hs, fun i hi => by omega⟩
  · refine ⟨_, cap, rfl, hl, hs, fun i hi => ⟨_, rfl, ?_⟩⟩
    have hc := h.cellAt i (by omega)
    rw [Addr.add_lit, Nat.zero_add, hc, List.getElem?_map, List.getElem?_eq_getElem (by omega), getD_in zs i (by omega)]
    rfl
theorem add_add (x : Addr) (i j : Nat) : (x.add i).add j = x.add (i + j) := by
  unfold Addr.add
  by_cases hi : i = 0
  · subst hi; simp
  · by_cases hj : j = 0
    · subst hj; simp
    · rw [if_neg hi, if_neg hj, if_neg (by omega)]
      simp [Nat.add_assoc]
theorem Row.head {w : World} {a : Option Addr} {n : Nat} {zs : List Int} (h : Row w a n zs) (k : Nat) (hk : k ≤ n) : Row w a k (zs.take k) := by
  have hl := h.len
  refine ⟨by rw [List.length_take]; omega, fun z hz => h.small z (List.mem_of_mem_take hz), fun i hi => ?_⟩
  obtain ⟨y, hy, hc⟩ := h.cell i (by omega)
  refine ⟨y, hy, ?_⟩
  rw [hc, getD_in zs _ (by omega), getD_in _ i (by rw [List.length_take]; omega), List.getElem_take]
theorem Row.part {w : World} {x : Addr} {n : Nat} {zs : List Int} (h : Row w (some x) n zs) (i j : Nat) (hj : i + j ≤ n) : Row w (some (x.add i)) j ((zs.drop i).take j) := by
  have hl := h.len
  refine ⟨by rw [List.length_take, List.length_drop]; omega, fun z hz => h.small z (List.mem_of_mem_drop (List.mem_of_mem_take hz)), fun k hk => ⟨_, rfl, ?_⟩⟩
  obtain ⟨y, hy, hc⟩ := h.cell (i + k) (by omega)
  obtain rfl : y = x := (Option.some.inj hy).symm
  rw [add_add, hc, getD_in zs _ (by omega), getD_in _ k (by rw [List.length_take, List.length_drop]; omega), List.getElem_take, List.getElem_drop]
theorem Row.tail {w : World} {x : Addr} {n cap : Nat} {zs : List Int} (h : Row w (some x) n zs) (k : Nat) (hk : k ≤ n) (hc : n ≤ cap) : Row w (if cap = k then some x else some (x.add k)) (n - k) (zs.drop k) := by
  have hl := h.len
  by_cases g : cap = k
  · rw [if_pos g]
    exact ⟨by rw [List.length_drop]; omega, fun z hz => h.small z (List.mem_of_mem_drop hz), fun i hi => by omega⟩
  · rw [if_neg g]
    have := h.part k (n - k) (by omega)
    rwa [List.take_of_length_le (by rw [List.length_drop]; omega)] at this
theorem row_of {w : World} {a : Option Addr} {len cap : Nat} {zs : List Int} (h : (a = none ∧ len = 0 ∧ cap = 0 ∧ zs = []) ∨
    ∃ x, a = some x ∧ len ≤ cap ∧ cap ≤ 140737488351232 ∧ zs.length = cap ∧ (∀ i, i < zs.length → w.cell? (x.add i) = some (.int .u8 (zs.getD i 0))) ∧ ∀ n ∈ zs, (Lit.int .u8 n).wf = true) :
    Row w a len (zs.take len) ∧ len ≤ 140737488351232 ∧ len ≤ cap ∧ cap ≤ 140737488351232 ∧ (a = none → len = 0 ∧ cap = 0) := by
  rcases h with ⟨rfl, rfl, rfl, rfl⟩ | ⟨x, rfl, hl, hm, hz, hc, hw⟩
  · exact ⟨⟨rfl, by simp, fun i hi => by omega⟩, by omega, by omega, by omega, fun _ => ⟨rfl, rfl⟩⟩
  · refine ⟨⟨by rw [List.length_take]; omega, fun z hz' => ?_, fun i hi => ⟨x, rfl, ?_⟩⟩, by omega, by omega, by omega, fun h => by cases h⟩
    · have := hw z (List.mem_of_mem_take hz')
      simp [Lit.wf, IntKind.min, IntKind.max, IntKind.bits, IntKind.signed] at this
      omega
    · rw [hc i (by omega), getD_in zs i (by omega), getD_in _ i (by rw [List.length_take]; omega), List.getElem_take]
theorem info5 : (Try.prog.info? 5).map (fun i => (i.zero, i.size, i.bytes)) = some (some (.int .u8 0), 1, 1) := by kernel_rfl
set_option maxHeartbeats 1000000 in
theorem copy_any (a : Option Addr) (n cap : Nat) (zs : List Int) (w : World) (hr : Row w a n zs) (hm : n ≤ 140737488355328) (h0 : a = none → n = 0 ∧ cap = 0) :
    Calls Try.prog 16 #[.slice a n cap] w fun e w' => ∃ a' cap', e = .returned (.slice a' n cap') ∧ Row w' a' n zs ∧ w'.ownsRow w.heap.size 5 1 (.slice a' n cap') n (zs.map (Value.int .u8)) ∧ Below w.heap.size w w' := by
  obtain ⟨i0, hi, hz0, hz1, hz2⟩ := info_parts info5
  have hl := hr.len
  cases a with
  | none =>
    obtain ⟨rfl, rfl⟩ := h0 rfl
    obtain rfl : zs = [] := List.eq_nil_of_length_eq_zero hl
    go_enter Try.func16, Try.ntmps16
    go_wp2_with (at_builtin; refine wpList_append_own_none rfl _ _ 28 rfl w.heap.size 5 i0 1 Try.underlying28 hi (.slice none 0 0) 0 [] rfl (World.ownsRow_nil _ _ _ _) rfl ?_)
    go_ret
    exact ⟨none, 0, rfl, hr, World.ownsRow_nil _ _ _ _, Below.refl _ _⟩
  | some x =>
    go_enter Try.func16, Try.ntmps16
    go_wp2_with (at_builtin; refine wpList_append_own _ rfl _ _ 28 rfl w.heap.size 5 i0 (.int .u8 0) 1 1 Try.underlying28 hi hz0 hz1 hz2 rfl (by decide) (.slice none 0 0) 0 [] rfl (World.ownsRow_nil _ _ _ _) x n cap (zs.map (Value.int .u8)) rfl (by simpa using hl) hr.load (ints_oneCell _ _) (by unfold maxLen; omega) (by omega) (Nat.le_refl _) ?_; intro v' w1 hown hgrow hnil)
    rw [Nat.zero_add, List.nil_append] at hown
    obtain ⟨a', cap', rfl, hrow⟩ := own_row hown hr.small
    go_ret
    exact ⟨a', cap', rfl, hrow, hown, (Below.refl _ _).grown hgrow (Nat.le_refl _) (by intro k hk; cases hk)⟩
theorem own_at {w : World} {base n cap : Nat} {a : Option Addr} {xs : List Value} (h : w.ownsRow base 5 1 (.slice a n cap) n xs) (hn : n ≠ 0) : ∃ g, a = some ⟨g, 0, none⟩ := by
  rcases h.2 with ⟨e, h0⟩ | ⟨g, cap', cur, e, _⟩
  · exact absurd h0 hn
  · cases e
    exact ⟨g, rfl⟩
theorem str_inj : ∀ (xs ys : List Int), (∀ x ∈ xs, 0 ≤ x ∧ x < 256) → (∀ y ∈ ys, 0 ≤ y ∧ y < 256) → (xs.map fun n => UInt8.ofNat n.toNat) = (ys.map fun n => UInt8.ofNat n.toNat) → xs = ys
  | [], [], _, _, _ => rfl
  | [], _ :: _, _, _, h => by simp at h
  | _ :: _, [], _, _, h => by simp at h
  | x :: xs, y :: ys, hx, hy, h => by
    rw [List.map_cons, List.map_cons] at h
    obtain ⟨h1, h2⟩ := List.cons.inj h
    obtain ⟨x0, x1⟩ := hx x (by simp)
    obtain ⟨y0, y1⟩ := hy y (by simp)
    have h3 := congrArg UInt8.toNat h1
    rw [UInt8.toNat_ofNat', UInt8.toNat_ofNat'] at h3
    have h4 : x = y := by omega
    rw [h4, str_inj xs ys (fun z hz => hx z (List.mem_cons_of_mem _ hz)) (fun z hz => hy z (List.mem_cons_of_mem _ hz)) h2]
theorem str_ne (xs ys : List Int) (hx : ∀ x ∈ xs, 0 ≤ x ∧ x < 256) (hy : ∀ y ∈ ys, 0 ≤ y ∧ y < 256) (h : xs ≠ ys) : ((strOfNums xs).toList == (strOfNums ys).toList) = false := by
  rw [ByteArray.toList_eq, ByteArray.toList_eq, strOfNums_data, strOfNums_data]
  exact beq_eq_false_iff_ne.mpr fun e => h (str_inj xs ys hx hy e)
def place (v n : Int) : Int := if v.tmod n < 0 then v.tmod n + n else v.tmod n
theorem tmod_low (v n : Int) (h : 0 < n) : -n < v.tmod n := by
  by_cases g : 0 ≤ v
  · have := Int.tmod_nonneg n g
    omega
  · have h1 := Int.tmod_lt_of_pos (-v) h
    rw [Int.neg_tmod] at h1
    omega
set_option maxHeartbeats 1000000 in
theorem place_any (v n : Int) (w : World) (h0 : 0 < n) (h1 : n ≤ 9223372036854775807) : Calls Try.prog 15 #[.int .i64 v, .int .i64 n] w fun e w' => e = .returned (.int .i64 (place v n)) ∧ w' = w := by
  have h2 := Int.tmod_lt_of_pos v h0
  have h3 := tmod_low v n h0
  have H : Hid (place v n = if v.tmod n < 0 then v.tmod n + n else v.tmod n) := rfl
  generalize place v n = r at *
  by_cases hc : v.tmod n < 0
  all_goals
    go_enter Try.func15, Try.ntmps15
    go_wp2
    go_ret
    exact ⟨ret_int (by rw [H.out]; first | rw [if_pos (by omega)] | rw [if_neg (by omega)]), rfl⟩

/- Bytes put behind bytes of one's own: the old row, or a new one. -/
theorem run_append_bytes {w : World} {v : Value} {n : Nat} {xs : List Int} (hown : w.ownsRow 0 5 1 v n (xs.map (Value.int .u8))) {a : Option Addr} {m cap : Nat} {zs : List Int} (hr : Row w a m zs) (h0 : a = none → cap = 0)
    (hb : n + m ≤ 140737488355328) (ty : TypeId) :
    ∃ a' cap' w', (Builtin.append_ #[28, 28] ty #[v, .slice a m cap]).run Try.prog w = .ok (.slice a' (n + m) cap') w' ∧ w'.ownsRow 0 5 1 (.slice a' (n + m) cap') (n + m) ((xs ++ zs).map (Value.int .u8)) ∧
      w.grownBy w' v.ownBlock ∧ (Value.ownBlock (.slice a' (n + m) cap') = v.ownBlock ∨ Value.ownBlock (.slice a' (n + m) cap') = some w.heap.size) := by
  obtain ⟨i0, hi, hz0, hz1, hz2⟩ := info_parts info5
  have hl := hr.len
  cases a with
  | none =>
    obtain rfl : cap = 0 := h0 rfl
    have hm : m = 0 := by
      rcases Nat.eq_zero_or_pos m with g | g
      · exact g
      · obtain ⟨x, hx, _⟩ := hr.cell 0 g; cases hx
    subst hm
    obtain rfl : zs = [] := List.eq_nil_of_length_eq_zero hl
    have hrun := run_append_owned_none (P := Try.prog) (w := w) 0 28 ty 5 i0 1 Try.underlying28 hi v n _ hown
    have hform : ∃ a' cap', v = .slice a' n cap' := by
      rcases hown.2 with ⟨rfl, rfl⟩ | ⟨g, cap, cur, rfl, _⟩
      · exact ⟨none, 0, rfl⟩
      · exact ⟨_, cap, rfl⟩
    obtain ⟨a', cap', rfl⟩ := hform
    exact ⟨a', cap', w, hrun, by simpa using hown, World.grownBy.refl _ _, Or.inl rfl⟩
  | some x =>
    obtain ⟨v', w', hrun, hown', hgrow, _, hat⟩ := run_append_own_at (P := Try.prog) w 0 28 ty 5 i0 (.int .u8 0) 1 1 Try.underlying28 hi hz0 hz1 hz2 rfl (by decide) v n _ hown x m cap (zs.map (Value.int .u8)) (by simpa using hl) hr.load (ints_oneCell _ _) (by unfold maxLen; omega) (by omega) (Nat.zero_le _)
    have hform : ∃ a' cap', v' = .slice a' (n + m) cap' := by
      rcases hown'.2 with ⟨rfl, h⟩ | ⟨g, cap, cur, rfl, _⟩
      · exact ⟨none, 0, by rw [h]⟩
      · exact ⟨_, cap, rfl⟩
    obtain ⟨a', cap', rfl⟩ := hform
    exact ⟨a', cap', w', hrun, by rw [List.map_append]; exact hown', hgrow, hat⟩

theorem wp_append_bytes {w : World} {o : Oper} {a : Act} {K : Act → World → Prop} {Q : Exit → Act → World → Prop} (s x : Operand)
    (ho : o.op = .call { callee := .builtin .append, args := #[s, x], argTypes := #[28, 28] })
    (v : Value) (n : Nat) (xs : List Int) (hs : a.eval s = v) (hown : w.ownsRow 0 5 1 v n (xs.map (Value.int .u8)))
    (ad : Option Addr) (m c : Nat) (zs : List Int) (hx : a.eval x = .slice ad m c) (hr : Row w ad m zs) (h0 : ad = none → c = 0) (hb : n + m ≤ 140737488355328)
    (h : ∀ a' cap' w', w'.ownsRow 0 5 1 (.slice a' (n + m) cap') (n + m) ((xs ++ zs).map (Value.int .u8)) → w.grownBy w' v.ownBlock →
      (Value.ownBlock (.slice a' (n + m) cap') = v.ownBlock ∨ Value.ownBlock (.slice a' (n + m) cap') = some w.heap.size) → K (a.put o.dst (.slice a' (n + m) cap')) w') : o.wp Try.prog a w K Q := by
  obtain ⟨a', cap', w', hrun, h2, h3, h4⟩ := run_append_bytes hown hr h0 hb o.type
  unfold Oper.wp execOp
  simp only [ho, resolve, invoke, builtin, Sem.run_bind, Sem.run_pure, Result.andThen_ok, List.map_toArray, List.map_cons, List.map_nil, hs, hx, hrun]
  exact h a' cap' w' h2 h3 h4
theorem wpList_append_bytes {w : World} {ops : Array Oper} {rest : List Oper} {o : Oper} {a : Act} {Q : Exit → Act → World → Prop} (hgd : o.guard = none) (s x : Operand)
    (ho : o.op = .call { callee := .builtin .append, args := #[s, x], argTypes := #[28, 28] })
    (v : Value) (n : Nat) (xs : List Int) (hs : a.eval s = v) (hown : w.ownsRow 0 5 1 v n (xs.map (Value.int .u8)))
    (ad : Option Addr) (m c : Nat) (zs : List Int) (hx : a.eval x = .slice ad m c) (hr : Row w ad m zs) (h0 : ad = none → c = 0) (hb : n + m ≤ 140737488355328)
    (h : ∀ a' cap' w', w'.ownsRow 0 5 1 (.slice a' (n + m) cap') (n + m) ((xs ++ zs).map (Value.int .u8)) → w.grownBy w' v.ownBlock →
      (Value.ownBlock (.slice a' (n + m) cap') = v.ownBlock ∨ Value.ownBlock (.slice a' (n + m) cap') = some w.heap.size) → wpList Try.prog ops Q rest (a.put o.dst (.slice a' (n + m) cap')) w') : wpList Try.prog ops Q (o :: rest) a w :=
  wpList_plain hgd fun _ hK => wp_append_bytes s x ho v n xs hs hown ad m c zs hx hr h0 hb fun a' cap' w' h2 h3 h4 => hK _ _ (h a' cap' w' h2 h3 h4)
theorem step_append_bytes {w : World} {ops : Array Oper} {o : Oper} {a : Act} {K : Act → World → Prop} {Q : Exit → Act → World → Prop} {E : Prop} (hgd : o.guard = none) (s x : Operand)
    (ho : o.op = .call { callee := .builtin .append, args := #[s, x], argTypes := #[28, 28] })
    (v : Value) (n : Nat) (xs : List Int) (hs : a.eval s = v) (hown : w.ownsRow 0 5 1 v n (xs.map (Value.int .u8)))
    (ad : Option Addr) (m c : Nat) (zs : List Int) (hx : a.eval x = .slice ad m c) (hr : Row w ad m zs) (h0 : ad = none → c = 0) (hb : n + m ≤ 140737488355328)
    (h : ∀ a' cap' w', w'.ownsRow 0 5 1 (.slice a' (n + m) cap') (n + m) ((xs ++ zs).map (Value.int .u8)) → w.grownBy w' v.ownBlock →
      (Value.ownBlock (.slice a' (n + m) cap') = v.ownBlock ∨ Value.ownBlock (.slice a' (n + m) cap') = some w.heap.size) → K (a.put o.dst (.slice a' (n + m) cap')) w') :
    if Region.wanted o (yielded ops a.tmps) = true then Oper.wp Try.prog o a w K Q else E := by
  have hw : Region.wanted o (yielded ops a.tmps) = true := by simp [Region.wanted, hgd]
  rw [if_pos hw]
  exact wp_append_bytes s x ho v n xs hs hown ad m c zs hx hr h0 hb h

end Go.Proofs.Ytnifpfkemjolkaa.Disk
