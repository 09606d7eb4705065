/-
  Bytes in memory: a copy of any bytes (a new row, nothing old is turned), bytes read as a string, and the first sentence of each law of package skeplaw02.
-/
import Derived.Test.YtefnjilbpakffaaCrcCalls
import Derived.Laws.BytesArg
import Derived.Laws.AppendOwnNone
import Derived.OwnWalk
import Derived.Lib.SlBytesConst
import Derived.Laws.Cover1
import Derived.Laws.Strings
namespace Go.Proofs.Ytefnjilbpakffaa.Crc
open Go Go.RowKit

theorem block_add (x : Addr) (i : Nat) : (x.add i).block = x.block := by unfold Addr.add; split <;> rfl
theorem Row.mono {w w' : World} {B : Nat} {a : Option Addr} {n : Nat} {zs : List Int} (h : Row w a n zs) (hb : Below B w w') (hB : ∀ x, a = some x → n ≠ 0 → x.block < B) : Row w' a n zs := by
  refine ⟨h.len, h.small, fun i hi => ?_⟩
  obtain ⟨x, hx, hc⟩ := h.cell i hi
  have hl : x.block < B := hB x hx (by omega)
  refine ⟨x, hx, ?_⟩
  rw [hb.cell (p := x.add i) (by rw [block_add]; exact hl)]
  exact hc
theorem Row.lt {w : World} {a : Option Addr} {n : Nat} {zs : List Int} (h : Row w a n zs) : ∀ x, a = some x → n ≠ 0 → x.block < w.heap.size := by
  intro x hx hn
  obtain ⟨y, hy, hc⟩ := h.cell 0 (by omega)
  obtain rfl : y = x := by rw [hx] at hy; exact (Option.some.inj hy).symm
  have := World.block_lt_of_cell? w _ hc
  rwa [block_add] at this
theorem Row.after {w w' : World} {a : Option Addr} {n : Nat} {zs : List Int} (h : Row w a n zs) (hb : Below w.heap.size w w') : Row w' a n zs := h.mono hb h.lt

theorem Row.load {w : World} {x : Addr} {n : Nat} {zs : List Int} (h : Row w (some x) n zs) : ∀ j v, (zs.map (Value.int .u8))[j]? = some v → w.cell? (x.add j) = some v := by
  intro j v hj
  rw [List.getElem?_map] at hj
  have hl := h.len
  by_cases g : j < zs.length
  · rw [List.getElem?_eq_getElem g] at hj
    obtain ⟨y, hy, hc⟩ := h.cell j (by omega)
    obtain rfl : y = x := (Option.some.inj hy).symm
    rw [hc, getD_in zs j g]
    simpa using hj
  · rw [List.getElem?_eq_none (by omega)] at hj
    simp at hj

theorem conv_row {w : World} {a : Option Addr} {n : Nat} {zs : List Int} (h : Row w a n zs) (cap : Nat) : (convert 22 9 (.slice a n cap)).run Try.prog w = .ok (.string (strOfNums zs)) w := by
  have hl := h.len
  cases a with
  | none =>
    have hn : n = 0 := by
      rcases Nat.eq_zero_or_pos n with g | g
      · exact g
      · obtain ⟨x, hx, _⟩ := h.cell 0 g; cases hx
    subst hn
    obtain rfl : zs = [] := List.eq_nil_of_length_eq_zero hl
    exact run_convert_bytes_nil w 22 5 Try.underlying22 Try.underlying5 0 cap 9 Try.underlying9
  | some x =>
    have hld : (loadCells x n).run Try.prog w = .ok (zs.map (Value.int .u8)).toArray w := by
      have := run_loadCells_list (P := Try.prog) w x (zs.map (Value.int .u8)) h.load
      simpa [hl] using this
    rw [run_convert_bytes_string w 22 9 5 _ n cap Try.underlying22 Try.underlying5 Try.underlying9, run_bytesToString w _ n cap zs hld, foldl_push_bytes]
    simp [strOfNums, ByteArray.empty, ByteArray.emptyWithCapacity]
    rfl

theorem own_row {w : World} {base : Nat} {v : Value} {n : Nat} {zs : List Int} (h : w.ownsRow base 5 1 v n (zs.map (Value.int .u8))) (hs : ∀ z ∈ zs, 0 ≤ z ∧ z < 256) :
    ∃ a cap, v = .slice a n cap ∧ Row w a n zs := by
  have hl : zs.length = n := by have := h.1; simpa using this
  rcases h.2 with ⟨rfl, rfl⟩ | ⟨g, cap, cur, rfl, hb, hg, hnc, hcm, hcs, htake⟩
  · exact ⟨none, 0, rfl, hl, hs, fun i hi => by omega⟩
  · refine ⟨_, cap, rfl, hl, hs, fun i hi => ⟨_, rfl, ?_⟩⟩
    have hc := h.cellAt i (by omega)
    rw [Addr.add_lit, Nat.zero_add, hc, List.getElem?_map, List.getElem?_eq_getElem (by omega), getD_in zs i (by omega)]
    rfl

theorem add_add (x : Addr) (i j : Nat) : (x.add i).add j = x.add (i + j) := by
  unfold Addr.add
  by_cases hi : i = 0
  · subst hi; simp
  · by_cases hj : j = 0
    · subst hj; simp
    · rw [if_neg hi, if_neg hj, if_neg (by omega)]
      simp [Nat.add_assoc]
theorem Row.head {w : World} {a : Option Addr} {n : Nat} {zs : List Int} (h : Row w a n zs) (k : Nat) (hk : k ≤ n) : Row w a k (zs.take k) := by
  have hl := h.len
  refine ⟨by rw [List.length_take]; omega, fun z hz => h.small z (List.mem_of_mem_take hz), fun i hi => ?_⟩
  obtain ⟨y, hy, hc⟩ := h.cell i (by omega)
  refine ⟨y, hy, ?_⟩
  rw [hc, getD_in zs _ (by omega), getD_in _ i (by rw [List.length_take]; omega), List.getElem_take]
theorem Row.part {w : World} {x : Addr} {n : Nat} {zs : List Int} (h : Row w (some x) n zs) (i j : Nat) (hj : i + j ≤ n) : Row w (some (x.add i)) j ((zs.drop i).take j) := by
  have hl := h.len
  refine ⟨by rw [List.length_take, List.length_drop]; omega, fun z hz => h.small z (List.mem_of_mem_drop (List.mem_of_mem_take hz)), fun k hk => ⟨_, rfl, ?_⟩⟩
  obtain ⟨y, hy, hc⟩ := h.cell (i + k) (by omega)
  obtain rfl : y = x := (Option.some.inj hy).symm
  rw [add_add, hc, getD_in zs _ (by omega), getD_in _ k (by rw [List.length_take, List.length_drop]; omega), List.getElem_take, List.getElem_drop]

theorem Row.tail {w : World} {x : Addr} {n cap : Nat} {zs : List Int} (h : Row w (some x) n zs) (k : Nat) (hk : k ≤ n) (hc : n ≤ cap) : Row w (if cap = k then some x else some (x.add k)) (n - k) (zs.drop k) := by
  have hl := h.len
  by_cases g : cap = k
  · rw [if_pos g]
    exact ⟨by rw [List.length_drop]; omega, fun z hz => h.small z (List.mem_of_mem_drop hz), fun i hi => by omega⟩
  · rw [if_neg g]
    have := h.part k (n - k) (by omega)
    rwa [List.take_of_length_le (by rw [List.length_drop]; omega)] at this

/- What the frame of a law tells of bytes that came in. -/
theorem row_of {w : World} {a : Option Addr} {len cap : Nat} {zs : List Int} (h : (a = none ∧ len = 0 ∧ cap = 0 ∧ zs = []) ∨
    ∃ x, a = some x ∧ len ≤ cap ∧ cap ≤ 140737488351232 ∧ zs.length = cap ∧ (∀ i, i < zs.length → w.cell? (x.add i) = some (.int .u8 (zs.getD i 0))) ∧ ∀ n ∈ zs, (Lit.int .u8 n).wf = true) :
    Row w a len (zs.take len) ∧ len ≤ 140737488351232 ∧ len ≤ cap ∧ cap ≤ 140737488351232 ∧ (a = none → len = 0 ∧ cap = 0) := by
  rcases h with ⟨rfl, rfl, rfl, rfl⟩ | ⟨x, rfl, hl, hm, hz, hc, hw⟩
  · exact ⟨⟨rfl, by simp, fun i hi => by omega⟩, by omega, by omega, by omega, fun _ => ⟨rfl, rfl⟩⟩
  · refine ⟨⟨by rw [List.length_take]; omega, fun z hz' => ?_, fun i hi => ⟨x, rfl, ?_⟩⟩, by omega, by omega, by omega, fun h => by cases h⟩
    · have := hw z (List.mem_of_mem_take hz')
      simp [Lit.wf, IntKind.min, IntKind.max, IntKind.bits, IntKind.signed] at this
      omega
    · rw [hc i (by omega), getD_in zs i (by omega), getD_in _ i (by rw [List.length_take]; omega), List.getElem_take]

theorem word_of {x : Int} (h : (Lit.int .u32 x).wf = true) : ∃ s, x = u32 s := by
  simp [Lit.wf, IntKind.min, IntKind.max, IntKind.bits, IntKind.signed] at h
  exact u32_of x (by omega) (by omega)

theorem more_one (s : BitVec 32) (zs : List Int) (k : Nat) : more (more s (zs.take k)) ((zs.drop k).take 1) = more s (zs.take (k + 1)) := by
  rw [more_append, List.take_add]
theorem more_parts (s : BitVec 32) (zs : List Int) (k : Nat) : more (more s (zs.take k)) (zs.drop k) = more s zs := by
  rw [more_append, List.take_append_drop]

theorem info5 : (Try.prog.info? 5).map (fun i => (i.zero, i.size, i.bytes)) = some (some (.int .u8 0), 1, 1) := by kernel_rfl

set_option maxHeartbeats 1000000 in
theorem copy_any (a : Option Addr) (n cap : Nat) (zs : List Int) (w : World) (hr : Row w a n zs) (hm : n ≤ 140737488355328) (h0 : a = none → n = 0 ∧ cap = 0) :
    Calls Try.prog 9 #[.slice a n cap] w fun e w' => ∃ a' cap', e = .returned (.slice a' n cap') ∧ Row w' a' n zs ∧ w'.ownsRow w.heap.size 5 1 (.slice a' n cap') n (zs.map (Value.int .u8)) ∧ Below w.heap.size w w' := by
  obtain ⟨i0, hi, hz0, hz1, hz2⟩ := info_parts info5
  have hl := hr.len
  cases a with
  | none =>
    obtain ⟨rfl, rfl⟩ := h0 rfl
    obtain rfl : zs = [] := List.eq_nil_of_length_eq_zero hl
    go_enter Try.func9, Try.ntmps9
    go_wp2_with (at_builtin; refine wpList_append_own_none rfl _ _ 22 rfl w.heap.size 5 i0 1 Try.underlying22 hi (.slice none 0 0) 0 [] rfl (World.ownsRow_nil _ _ _ _) rfl ?_)
    go_ret
    exact ⟨none, 0, rfl, hr, World.ownsRow_nil _ _ _ _, Below.refl _ _⟩
  | some x =>
    go_enter Try.func9, Try.ntmps9
    go_wp2_with (at_builtin; refine wpList_append_own _ rfl _ _ 22 rfl w.heap.size 5 i0 (.int .u8 0) 1 1 Try.underlying22 hi hz0 hz1 hz2 rfl (by decide) (.slice none 0 0) 0 [] rfl (World.ownsRow_nil _ _ _ _) x n cap (zs.map (Value.int .u8)) rfl (by simpa using hl) hr.load (ints_oneCell _ _) (by unfold maxLen; omega) (by omega) (Nat.le_refl _) ?_; intro v' w1 hown hgrow hnil)
    rw [Nat.zero_add, List.nil_append] at hown
    obtain ⟨a', cap', rfl, hrow⟩ := own_row hown hr.small
    go_ret
    exact ⟨a', cap', rfl, hrow, hown, (Below.refl _ _).grown hgrow (Nat.le_refl _) (by intro k hk; cases hk)⟩

theorem min3_any (x y z : Nat) : ∃ n : Nat, n ≤ x ∧ n ≤ y ∧ n ≤ z ∧ ∀ w, (Builtin.min_ #[3, 3, 3] 3 #[.int .i64 x, .int .i64 y, .int .i64 z]).run Try.prog w = .ok (.int .i64 n) w := by
  refine ⟨if z < (if y < x then y else x) then z else (if y < x then y else x), by split <;> (try split) <;> omega, by split <;> (try split) <;> omega, by split <;> (try split) <;> omega, fun w => ?_⟩
  rw [run_min_int3]
  congr 2
  by_cases g : y < x
  · by_cases k : z < y <;> simp [g, k]
  · by_cases k : z < x <;> simp [g, k]

theorem own_zero {w : World} {base g n : Nat} (h : w.ownsRow base 5 1 (.slice (some ⟨g, 0, none⟩) n n) n (madeCells (Value.int .u8 0).cells (n * 1)).toList) :
    w.ownsRow base 5 1 (.slice (some ⟨g, 0, none⟩) n n) n ((List.replicate n (0 : Int)).map (Value.int .u8)) := by
  have e : (madeCells (Value.int .u8 0).cells (n * 1)).toList = (List.replicate n (0 : Int)).map (Value.int .u8) := by
    rw [List.map_replicate, Nat.mul_one]
    exact toList_madeCells_one _ _
  rwa [e] at h

/- One round of three lists that are added bit by bit. -/
theorem getD_set (ys : List Int) (k j : Nat) (v : Int) (hk : k < ys.length) : (ys.set k v).getD j 0 = if j = k then v else ys.getD j 0 := by
  rw [List.getD_eq_getElem?_getD, List.getD_eq_getElem?_getD, List.getElem?_set]
  by_cases g : k = j
  · subst g; simp [hk]
  · rw [if_neg g, if_neg (Ne.symm g)]
theorem mix_step (xa xb xc ys : List Int) (k n : Nat) (hk : k < n) (hl : ys.length = n) (hs : ∀ y ∈ ys, 0 ≤ y ∧ y < 256)
    (hm : ∀ j, j < k → (ys.getD j 0).toNat = ((xa.getD j 0).toNat ^^^ (xb.getD j 0).toNat) ^^^ (xc.getD j 0).toNat)
    (a0 : 0 ≤ xa.getD k 0) (a1 : xa.getD k 0 < 256) (b0 : 0 ≤ xb.getD k 0) (b1 : xb.getD k 0 < 256) (c0 : 0 ≤ xc.getD k 0) (c1 : xc.getD k 0 < 256) :
    ∃ v : Int, Hid (bits .xor .u8 (bits .xor .u8 (xa.getD k 0) (xb.getD k 0)) (xc.getD k 0) = v) ∧ (ys.set k v).length = n ∧ (∀ y ∈ ys.set k v, 0 ≤ y ∧ y < 256) ∧
      (∀ j, j < k + 1 → ((ys.set k v).getD j 0).toNat = ((xa.getD j 0).toNat ^^^ (xb.getD j 0).toNat) ^^^ (xc.getD j 0).toNat) := by
  obtain ⟨e, l, u⟩ := three_word _ _ _ a0 a1 b0 b1 c0 c1
  refine ⟨_, rfl, by rw [List.length_set, hl], fun y hy => ?_, fun j hj => ?_⟩
  · rcases List.mem_or_eq_of_mem_set hy with h | h
    · exact hs y h
    · rw [h]; exact ⟨l, u⟩
  · rw [getD_set ys k j _ (by omega)]
    by_cases g : j = k
    · subst g; rw [if_pos rfl]; exact e
    · rw [if_neg g]; exact hm j (by omega)

theorem getD_take (zs : List Int) (k j : Nat) (h : j < k) : (zs.take k).getD j 0 = zs.getD j 0 := by
  rw [List.getD_eq_getElem?_getD, List.getD_eq_getElem?_getD, List.getElem?_take, if_pos h]
theorem three_eq (xa xb xc ys : List Int) (k : Nat) (h0 : k ≤ xa.length) (h1 : k ≤ xb.length) (h2 : k ≤ xc.length) (hl : ys.length = k)
    (hm : ∀ j, j < k → (ys.getD j 0).toNat = ((xa.getD j 0).toNat ^^^ (xb.getD j 0).toNat) ^^^ (xc.getD j 0).toNat) :
    (bits .xor .u32 (bits .xor .u32 (u32 (more 0#32 (xa.take k))) (u32 (more 0#32 (xb.take k)))) (u32 (more 0#32 (xc.take k))) == u32 (more 0#32 ys)) = true := by
  have e0 : (xa.take k).length = k := by rw [List.length_take]; omega
  have e1 : (xb.take k).length = k := by rw [List.length_take]; omega
  have e2 : (xc.take k).length = k := by rw [List.length_take]; omega
  rw [three_sum, more_three (xa.take k) (xb.take k) (xc.take k) ys (by rw [e0, e1]) (by rw [e0, e2]) (by rw [e0, hl]) (fun j hj => by
    rw [e0] at hj
    rw [getD_take _ _ _ hj, getD_take _ _ _ hj, getD_take _ _ _ hj]
    exact hm j hj)]
  exact beq_self_eq_true _

theorem own_at {w : World} {base n cap : Nat} {a : Option Addr} {xs : List Value} (h : w.ownsRow base 5 1 (.slice a n cap) n xs) (hn : n ≠ 0) : ∃ g, a = some ⟨g, 0, none⟩ := by
  rcases h.2 with ⟨e, h0⟩ | ⟨g, cap', cur, e, _⟩
  · exact absurd h0 hn
  · cases e
    exact ⟨g, rfl⟩

theorem str_inj : ∀ (xs ys : List Int), (∀ x ∈ xs, 0 ≤ x ∧ x < 256) → (∀ y ∈ ys, 0 ≤ y ∧ y < 256) → (xs.map fun n => UInt8.ofNat n.toNat) = (ys.map fun n => UInt8.ofNat n.toNat) → xs = ys
  | [], [], _, _, _ => rfl
  | [], _ :: _, _, _, h => by simp at h
  | _ :: _, [], _, _, h => by simp at h
  | x :: xs, y :: ys, hx, hy, h => by
    rw [List.map_cons, List.map_cons] at h
    obtain ⟨h1, h2⟩ := List.cons.inj h
    obtain ⟨x0, x1⟩ := hx x (by simp)
    obtain ⟨y0, y1⟩ := hy y (by simp)
    have h3 := congrArg UInt8.toNat h1
    rw [UInt8.toNat_ofNat', UInt8.toNat_ofNat'] at h3
    have h4 : x = y := by omega
    rw [h4, str_inj xs ys (fun z hz => hx z (List.mem_cons_of_mem _ hz)) (fun z hz => hy z (List.mem_cons_of_mem _ hz)) h2]
theorem str_ne (xs ys : List Int) (hx : ∀ x ∈ xs, 0 ≤ x ∧ x < 256) (hy : ∀ y ∈ ys, 0 ≤ y ∧ y < 256) (h : xs ≠ ys) : ((strOfNums xs).toList == (strOfNums ys).toList) = false := by
  rw [ByteArray.toList_eq, ByteArray.toList_eq, strOfNums_data, strOfNums_data]
  exact beq_eq_false_iff_ne.mpr fun e => h (str_inj xs ys hx hy e)

theorem digits_row (w : World) : Row (w.alloc (.cells #[.int .u8 49, .int .u8 50, .int .u8 51, .int .u8 52, .int .u8 53, .int .u8 54, .int .u8 55, .int .u8 56, .int .u8 57] 5 (9, 10))) (some ⟨w.heap.size, 0, none⟩) 9 [49, 50, 51, 52, 53, 54, 55, 56, 57] := by
  refine ⟨rfl, by decide, fun i hi => ⟨_, rfl, ?_⟩⟩
  rw [Addr.add_lit, Nat.zero_add, cell_of_row _ w.heap.size i _ 5 (9, 10) (heap_alloc_new w _)]
  rcases (show i = 0 ∨ i = 1 ∨ i = 2 ∨ i = 3 ∨ i = 4 ∨ i = 5 ∨ i = 6 ∨ i = 7 ∨ i = 8 by omega) with rfl | rfl | rfl | rfl | rfl | rfl | rfl | rfl | rfl <;> rfl
theorem nil_row (w : World) : Row w none 0 [] := ⟨rfl, by decide, fun i hi => by omega⟩
theorem sum_digits : u32 (more 0#32 [49, 50, 51, 52, 53, 54, 55, 56, 57]) = 3421780262 := by decide +kernel

set_option maxHeartbeats 1000000 in
theorem awake_any (w : World) : Calls Try.prog 12 #[] w fun e w' => e = .returned (.bool true) ∧ Below w.heap.size w w' := by
  have c1 := of_any (some ⟨w.heap.size, 0, none⟩) 9 9 _ _ (digits_row w) (by decide)
  rw [sum_digits] at c1
  have c2 := fun w => of_any none 0 0 _ w (nil_row w) (by decide)
  have e2 : u32 (more 0#32 []) = 0 := by decide +kernel
  rw [e2] at c2
  have kc := fun (w : World) (C : Array Value) (n c : Nat) => Lib.run_convert_bytes_const (P := Try.prog) w 22 5 C n c Try.underlying22 Try.underlying5
  go_enter Try.func12, Try.ntmps12
  go_wp2_with (first | (go_at_call 10; refine c1.mono ?_; rintro e w1 ⟨rfl, rfl⟩) | (go_at_call 10; refine (c2 _).mono ?_; rintro e w1 ⟨rfl, rfl⟩))
  go_ret
  exact ⟨rfl, (Below.refl _ _).alloc (Nat.le_refl _) _⟩

end Go.Proofs.Ytefnjilbpakffaa.Crc
