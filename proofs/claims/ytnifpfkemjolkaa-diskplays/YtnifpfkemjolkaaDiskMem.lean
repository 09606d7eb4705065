/-
  A disk of package disk in memory: who owns which block, what is certain, what is pending; the bytes that are left when the first units are done.
-/
import Derived.Test.YtnifpfkemjolkaaDiskBytes
import Derived.Laws.Cover3
namespace Go.Proofs.Ytnifpfkemjolkaa.Disk
set_option linter.unusedVariables false
set_option linter.unusedSimpArgs false
open Go Go.RowKit

theorem eql_nil (w : World) (t e : TypeId) (a : Option Addr) (l c : Nat) (h : Try.prog.underlying t = some (.slice e)) : (binOp .eql t (.slice a l c) (.slice none 0 0)).run Try.prog w = .ok (.bool a.isNone) w := by
  simp only [binOp]
  simp [run_equal_slice_nil w t e a l c h]

set_option maxHeartbeats 1000000 in
theorem clone_any (a : Option Addr) (n cap : Nat) (zs : List Int) (w : World) (hr : Row w a n zs) (hm : n ≤ 140737488355328) (h0 : a = none → cap = 0) :
    Calls Try.prog 31 #[.slice a n cap] w fun e w' => ∃ a' cap', e = .returned (.slice a' n cap') ∧ w'.ownsRow w.heap.size 5 1 (.slice a' n cap') n (zs.map (Value.int .u8)) ∧ Below w.heap.size w w' := by
  obtain ⟨i0, hi, hz0, hz1, hz2⟩ := info_parts info5
  have hl := hr.len
  have hu := fun w a l c => eql_nil w 28 5 a l c Try.underlying28
  cases a with
  | none =>
    have hn : n = 0 := by
      rcases Nat.eq_zero_or_pos n with g | g
      · exact g
      · obtain ⟨x, hx, _⟩ := hr.cell 0 g; cases hx
    obtain rfl : cap = 0 := h0 rfl
    subst hn
    obtain rfl : zs = [] := List.eq_nil_of_length_eq_zero hl
    go_enter Try.func31, Try.ntmps31
    go_wp2
    go_ret
    exact ⟨none, 0, rfl, World.ownsRow_nil _ _ _ _, Below.refl _ _⟩
  | some x =>
    go_enter Try.func31, Try.ntmps31
    go_wp2_with (at_builtin; refine wpList_append_own _ rfl _ _ 28 rfl w.heap.size 5 i0 (.int .u8 0) 1 1 Try.underlying28 hi hz0 hz1 hz2 rfl (by decide) (.slice (some ⟨w.heap.size, 0, none⟩) 0 0) 0 [] rfl (World.ownsRow_made w #[] 0 (Nat.le_refl _) (by decide) (by decide)) x n cap (zs.map (Value.int .u8)) rfl (by simpa using hl) ((hr.after ((Below.refl _ _).alloc (Nat.le_refl _) _)).load) (ints_oneCell _ _) (by unfold maxLen; omega) (by omega) (by simp) ?_; intro v' w1 hown hgrow hnil)
    rw [Nat.zero_add, List.nil_append] at hown
    obtain ⟨a', cap', rfl, hrow⟩ := own_row hown hr.small
    go_ret
    exact ⟨a', cap', rfl, hown, ((Below.refl _ _).alloc (Nat.le_refl _) _).grown hgrow (by simp) (by intro k hk; simp [Value.ownBlock] at hk; omega)⟩

theorem min2_any (x y : Nat) : ∃ n : Nat, n ≤ y ∧ (n = x ∨ n = y ∧ y ≤ x) ∧ ∀ w, (Builtin.min_ #[3, 3] 3 #[.int .i64 x, .int .i64 y]).run Try.prog w = .ok (.int .i64 n) w := by
  refine ⟨if y < x then y else x, by split <;> omega, by split <;> omega, fun w => ?_⟩
  rw [run_min_int2]
  congr 2
  by_cases g : y < x <;> simp [g]

/- One change of a file: a cut, or bytes behind. -/
structure Ch where
  cut : Bool
  size : Nat
  a : Option Addr
  cap : Nat
  bytes : List Int
def Ch.val (c : Ch) : Value := .slice c.a c.bytes.length c.cap
def Ch.cells (c : Ch) : List Value := [.bool c.cut, .int .i64 c.size, .slice c.a c.bytes.length c.cap]
def Ch.us (c : Ch) : List U := if c.cut then [.inr c.size] else c.bytes.map Sum.inl
def units (cs : List Ch) : List U := cs.flatMap Ch.us
def cellsOf (cs : List Ch) : List Value := cs.flatMap Ch.cells
theorem Ch.cells_length (c : Ch) : c.cells.length = 3 := rfl
theorem cellsOf_cons (c : Ch) (cs : List Ch) : cellsOf (c :: cs) = c.cells ++ cellsOf cs := rfl
theorem cellsOf_length (cs : List Ch) : (cellsOf cs).length = cs.length * 3 := by
  induction cs with
  | nil => rfl
  | cons c cs ih => rw [cellsOf_cons, List.length_append, Ch.cells_length, ih, List.length_cons]; omega
theorem cellsOf_at (cs : List Ch) : ∀ (k j : Nat) (hk : k < cs.length), j < 3 → (cellsOf cs)[k * 3 + j]? = (cs[k]'hk).cells[j]? := by
  induction cs with
  | nil => intro k j hk; simp at hk
  | cons c cs ih =>
    intro k j hk hj
    cases k with
    | zero => rw [cellsOf_cons, List.getElem?_append_left (by rw [Ch.cells_length]; omega), Nat.zero_mul, Nat.zero_add]; rfl
    | succ k =>
      rw [cellsOf_cons, List.getElem?_append_right (by rw [Ch.cells_length]; omega), Ch.cells_length, show (k + 1) * 3 + j - 3 = k * 3 + j by omega, ih k j (by simpa using hk) hj]
      rfl
theorem units_take_succ (cs : List Ch) (k : Nat) (hk : k < cs.length) : units (cs.take (k + 1)) = units (cs.take k) ++ (cs[k]'hk).us := by
  rw [List.take_succ_eq_append_getElem hk]
  unfold units
  rw [List.flatMap_append]
  simp
theorem units_split (cs : List Ch) (k : Nat) : units cs = units (cs.take k) ++ units (cs.drop k) := by
  unfold units
  rw [← List.flatMap_append, List.take_append_drop]
theorem units_take_le (cs : List Ch) (k : Nat) : (units (cs.take k)).length ≤ (units cs).length := by
  rw [units_split cs k, List.length_append]; omega

/- A row stays where its block stays. -/
theorem owns_same {w w' : World} {base : Nat} {e : TypeId} {size : Nat} {v : Value} {n : Nat} {xs : List Value} (h : w.ownsRow base e size v n xs) (hb : ∀ k, v.ownBlock = some k → w'.heap[k]? = w.heap[k]?) : w'.ownsRow base e size v n xs := by
  refine ⟨h.1, ?_⟩
  rcases h.2 with hn | ⟨g, cap, cur, rfl, hb', hg, rest⟩
  · exact .inl hn
  · exact .inr ⟨g, cap, cur, rfl, hb', by rw [hb g rfl]; exact hg, rest⟩
theorem owns_row {w : World} {base : Nat} {a : Option Addr} {n cap : Nat} {zs : List Int} (h : w.ownsRow base 5 1 (.slice a n cap) n (zs.map (Value.int .u8))) (hs : ∀ z ∈ zs, 0 ≤ z ∧ z < 256) : Row w a n zs ∧ (a = none → cap = 0) ∧ n ≤ cap := by
  obtain ⟨a', cap', e, hr⟩ := own_row h hs
  cases e
  rcases h.2 with ⟨e, h0⟩ | ⟨g, cap', cur, e, _, _, hc, _⟩
  · cases e; exact ⟨hr, fun _ => rfl, Nat.le_refl _⟩
  · cases e; exact ⟨hr, fun h => (by cases h), hc⟩
theorem owns_form {w : World} {base : Nat} {e : TypeId} {size : Nat} {a : Option Addr} {n cap : Nat} {xs : List Value} (h : w.ownsRow base e size (.slice a n cap) n xs) : (a = none → n = 0 ∧ cap = 0) ∧ (∀ x, a = some x → ∃ g, x = ⟨g, 0, none⟩ ∧ g < w.heap.size) ∧ n ≤ cap := by
  rcases h.2 with ⟨e, h0⟩ | ⟨g, cap', cur, e, _, hg, hc, _⟩
  · cases e; exact ⟨fun _ => ⟨rfl, rfl⟩, fun x hx => (by cases hx), Nat.le_refl _⟩
  · cases e; exact ⟨fun h => (by cases h), fun x hx => ⟨g, (Option.some.inj hx).symm, (Array.getElem?_eq_some_iff.1 hg).1⟩, hc⟩
theorem ownBlock_any (a : Option Addr) (n m c d : Nat) : Value.ownBlock (.slice a n c) = Value.ownBlock (.slice a m d) := by cases a <;> rfl
theorem grown_on {w wr w1 : World} {row row1 : Option Nat} (h : w.grownBy wr row) (h1 : wr.grownBy w1 row1) (hr : ∀ g, row1 = some g → row = some g ∨ w.heap.size ≤ g) : w.grownBy w1 row := by
  refine ⟨h1.os.trans h.os, h1.tape.trans h.tape, h1.output.trans h.output, Nat.le_trans h.size h1.size, fun k hk hne => ?_⟩
  rw [h1.block k (Nat.lt_of_lt_of_le hk h.size) (fun e => ?_), h.block k hk hne]
  rcases hr k e.symm with e2 | e2
  · exact hne e2.symm
  · omega
/- A beginning of what is owned is owned. -/
theorem owns_take {w : World} {base : Nat} {a : Option Addr} {n cap : Nat} {zs : List Int} (h : w.ownsRow base 5 1 (.slice a n cap) n (zs.map (Value.int .u8))) (k : Nat) (hk : k ≤ n) :
    w.ownsRow base 5 1 (.slice a k cap) k ((zs.take k).map (Value.int .u8)) := by
  have hl : zs.length = n := by have := h.1; simpa using this
  refine ⟨by simp; omega, ?_⟩
  rcases h.2 with ⟨e, h0⟩ | ⟨g, cap', cur, e, hb, hg, hc, hm, hs, ht⟩
  · cases e
    exact .inl ⟨by rw [show k = 0 by omega], by omega⟩
  · cases e
    refine .inr ⟨g, cap, cur, rfl, hb, hg, by omega, hm, hs, ?_⟩
    have e1 := congrArg (List.take (k * 1)) ht
    rw [List.take_take, Nat.min_eq_left (by omega)] at e1
    rw [e1, List.map_take, Nat.mul_one]

theorem redo_end (bs : List Int) (cs : List Ch) (N : Int) (k : Nat) (h : ¬ k < cs.length) : (units (cs.take k)).take N.toNat = (units cs).take N.toNat := by
  rw [List.take_of_length_le (l := cs) (by omega)]
theorem redo_stop (cs : List Ch) (N r : Int) (k : Nat) (hr : r = N - (units (cs.take k)).length) (h : r ≤ 0) : (units (cs.take k)).take N.toNat = (units cs).take N.toNat := by
  rw [units_split cs k, take_pre _ _ _ (by omega)]
theorem redo_next (cs : List Ch) (N r : Int) (k : Nat) (hk : k < cs.length) (hr : r = N - (units (cs.take k)).length) (h : ¬ r ≤ 0) :
    (units (cs.take (k + 1))).take N.toNat = (units (cs.take k)).take N.toNat ++ ((cs[k]'hk).us).take r.toNat := by
  rw [units_take_succ cs k hk, take_on _ _ _ (by omega)]
  congr 2
  omega
theorem redo_ok (bs : List Int) (cs : List Ch) (k : Nat) (hk : k < cs.length) (N r : Int) (hr : r = N - (units (cs.take k)).length) (h : ¬ r ≤ 0) (hok : okb bs (units cs)) : okb (run bs ((units (cs.take k)).take N.toNat)) (cs[k]'hk).us := by
  have h1 := (okb_append _ _ bs).1 (show okb bs (units (cs.take (k + 1)) ++ units (cs.drop (k + 1))) by rw [← units_split]; exact hok)
  rw [units_take_succ cs k hk] at h1
  have h2 := ((okb_append _ _ bs).1 h1.1).2
  rwa [List.take_of_length_le (by omega)]
theorem redo_cut (bs : List Int) (cs : List Ch) (k : Nat) (hk : k < cs.length) (N r : Int) (hr : r = N - (units (cs.take k)).length) (h : ¬ r ≤ 0) (hok : okb bs (units cs)) (hc : (cs[k]'hk).cut = true) (ys : List Int) (hy : ys = run bs ((units (cs.take k)).take N.toNat)) :
    (cs[k]'hk).size ≤ ys.length ∧ ys.take (cs[k]'hk).size = run bs ((units (cs.take (k + 1))).take N.toNat) ∧ r - 1 = N - (units (cs.take (k + 1))).length := by
  have h1 := redo_ok bs cs k hk N r hr h hok
  have hu : (cs[k]'hk).us = [.inr (cs[k]'hk).size] := by unfold Ch.us; rw [if_pos hc]
  rw [redo_next cs N r k hk hr h, run_append, ← hy, units_take_succ cs k hk, hu]
  rw [hu, ← hy] at h1
  refine ⟨h1.1 _ rfl, ?_, ?_⟩
  · rw [List.take_of_length_le (l := [Sum.inr _]) (by simp; omega)]; rfl
  · simp; omega
theorem redo_bytes (bs : List Int) (cs : List Ch) (k : Nat) (hk : k < cs.length) (N r : Int) (hr : r = N - (units (cs.take k)).length) (h : ¬ r ≤ 0) (hc : ¬ (cs[k]'hk).cut = true) (ys : List Int) (hy : ys = run bs ((units (cs.take k)).take N.toNat))
    (q : Nat) (hq : (cs[k]'hk).bytes.take q = (cs[k]'hk).bytes.take r.toNat) :
    ys ++ (cs[k]'hk).bytes.take q = run bs ((units (cs.take (k + 1))).take N.toNat) ∧ r - (cs[k]'hk).bytes.length = N - (units (cs.take (k + 1))).length := by
  have hu : (cs[k]'hk).us = (cs[k]'hk).bytes.map Sum.inl := by unfold Ch.us; rw [if_neg hc]
  rw [redo_next cs N r k hk hr h, run_append, ← hy, units_take_succ cs k hk, hu, take_map_inl, run_bytes, hq]
  refine ⟨rfl, ?_⟩
  simp; omega
theorem mem_units (cs : List Ch) (k : Nat) (hk : k < cs.length) (z : Int) (hc : ¬ (cs[k]'hk).cut = true) (hz : z ∈ (cs[k]'hk).bytes) : Sum.inl z ∈ units cs := by
  refine List.mem_flatMap.2 ⟨_, List.getElem_mem hk, ?_⟩
  unfold Ch.us
  rw [if_neg hc]
  exact List.mem_map.2 ⟨z, hz, rfl⟩
theorem own_at3 {w : World} {base n cap : Nat} {e : TypeId} {size : Nat} {a : Option Addr} {xs : List Value} (h : w.ownsRow base e size (.slice a n cap) n xs) (hn : n ≠ 0) : ∃ g, a = some ⟨g, 0, none⟩ := by
  rcases h.2 with ⟨e, h0⟩ | ⟨g, cap', cur, e, _⟩
  · exact absurd h0 hn
  · cases e
    exact ⟨g, rfl⟩

set_option maxHeartbeats 2000000 in
theorem redo_any (D o : Nat) (w : World) (ba : Option Addr) (bcap : Nat) (bs : List Int) (N : Int) (pa : Option Addr) (pcap : Nat) (cs : List Ch)
    (hp : w.cell? ⟨D, o + 1, none⟩ = some (.slice pa cs.length pcap))
    (hprow : w.ownsRow 0 67 3 (.slice pa cs.length pcap) cs.length (cellsOf cs))
    (hbr : ∀ (j : Nat) (h : j < cs.length), w.ownsRow 0 5 1 (cs[j]'h).val (cs[j]'h).bytes.length ((cs[j]'h).bytes.map (Value.int .u8)))
    (hb : w.ownsRow 0 5 1 (.slice ba bs.length bcap) bs.length (bs.map (Value.int .u8)))
    (hn1 : ∀ g, Value.ownBlock (.slice ba bs.length bcap) = some g → Value.ownBlock (.slice pa cs.length pcap) ≠ some g ∧ ∀ (j : Nat) (h : j < cs.length), (cs[j]'h).val.ownBlock ≠ some g)
    (hsm : ∀ z, Sum.inl z ∈ units cs → 0 ≤ z ∧ z < 256)
    (hok : okb bs (units cs)) (hlen : bs.length + (units cs).length ≤ 140737488355328) (hN : N ≤ 9223372036854775807) (hcl : cs.length ≤ 140737488355328) :
    Calls Try.prog 27 #[.pointer (some ⟨D, o, none⟩), .slice ba bs.length bcap, .int .i64 N] w fun e w' => ∃ a' cap', e = .returned (.slice a' (run bs ((units cs).take N.toNat)).length cap') ∧
      w'.ownsRow 0 5 1 (.slice a' (run bs ((units cs).take N.toNat)).length cap') (run bs ((units cs).take N.toNat)).length ((run bs ((units cs).take N.toNat)).map (Value.int .u8)) ∧
      w.grownBy w' (Value.ownBlock (.slice ba bs.length bcap)) ∧
      (∀ g, Value.ownBlock (.slice a' (run bs ((units cs).take N.toNat)).length cap') = some g → Value.ownBlock (.slice ba bs.length bcap) = some g ∨ w.heap.size ≤ g) := by
  go_enter Try.func27, Try.ntmps27
  go_wp2
  go_loopw [1, 2, 14] (fun b n i wr => ∃ (k : Nat) (a : Option Addr) (cap : Nat) (ys : List Int) (l : Nat) (r : Int), k ≤ cs.length ∧ i = .int .i64 k ∧ n = .int .i64 r ∧ b = .slice a l cap ∧
      Hid (l = ys.length ∧ r = N - (units (cs.take k)).length ∧ ys = run bs ((units (cs.take k)).take N.toNat)) ∧ wr.ownsRow 0 5 1 (.slice a l cap) l (ys.map (Value.int .u8)) ∧
      w.grownBy wr (Value.ownBlock (.slice ba bs.length bcap)) ∧ (∀ g, Value.ownBlock (.slice a l cap) = some g → Value.ownBlock (.slice ba bs.length bcap) = some g ∨ w.heap.size ≤ g))
    (fun _ _ i _ => cs.length - (intOf i).toNat)
  case atStart => exact ⟨0, ba, bcap, bs, bs.length, N, Nat.zero_le _, rfl, rfl, rfl, ⟨rfl, by simp [units], by simp [units, run]⟩, hb, World.grownBy.refl _ _, fun g h => Or.inl h⟩
  case round =>
    obtain ⟨k, a, cap, ys, l, r, hk, rfl, rfl, rfl, HY, hown, hgr, hat⟩ := hrel
    have hlb := units_take_le cs k
    by_cases hlt : k < cs.length
    · obtain ⟨pg, rfl⟩ := own_at3 hprow (by omega)
      have hprow' : wr.ownsRow 0 67 3 (.slice (some ⟨pg, 0, none⟩) cs.length pcap) cs.length (cellsOf cs) := owns_same hprow fun g hg => hgr.block g (hprow.lt g hg).2 fun e => (hn1 g e.symm).1 hg
      have hk3 : k * 3 + 2 < cs.length * 3 := by omega
      have e0 := hprow'.cellAt (k * 3) (by omega)
      have e1 := hprow'.cellAt (k * 3 + 1) (by omega)
      have e2 := hprow'.cellAt (k * 3 + 2) (by omega)
      rw [show k * 3 = k * 3 + 0 from rfl, cellsOf_at cs k 0 hlt (by omega)] at e0
      rw [cellsOf_at cs k 1 hlt (by omega)] at e1
      rw [cellsOf_at cs k 2 hlt (by omega)] at e2
      have hbr' : wr.ownsRow 0 5 1 (cs[k]'hlt).val (cs[k]'hlt).bytes.length ((cs[k]'hlt).bytes.map (Value.int .u8)) := owns_same (hbr k hlt) fun g hg => hgr.block g ((hbr k hlt).lt g hg).2 fun e => (hn1 g e.symm).2 k hlt hg
      have RS := fun h hr => redo_stop cs N r k hr h
      have RC := redo_cut bs cs k hlt N r
      have RB := redo_bytes bs cs k hlt N r
      have MU := mem_units cs k hlt
      generalize hcd : (cs[k]'hlt) = c at e0 e1 e2 hbr' RC RB MU
      obtain ⟨ccut, csize, ca, ccap, cbytes⟩ := c
      simp only [Ch.cells, Ch.val, List.getElem?_cons_zero, List.getElem?_cons_succ, Nat.add_zero] at e0 e1 e2 hbr' RC RB MU
      clear hcd hbr hprow hprow' hp
      have HRS : Hid (∀ (h : r ≤ 0) (hr : r = N - ↑(units (List.take k cs)).length), List.take N.toNat (units (List.take k cs)) = List.take N.toNat (units cs)) := RS
      clear RS
      by_cases hr0 : r ≤ 0
      · clear RC RB MU
        go_wp2
        go_ret
        obtain ⟨hl, hr, hy⟩ := HY.out
        rw [HRS.out hr0 hr] at hy
        subst hy hl
        exact ⟨a, cap, rfl, hown.alloc _, hgr.trans (World.grownBy_alloc _ _ _), hat⟩
      · by_cases hcut : ccut = true
        · subst hcut
          clear RB MU HRS
          obtain ⟨hl, hr, hy⟩ := HY.out
          obtain ⟨r1, r2, r3⟩ := RC hr hr0 hok rfl ys hy
          obtain ⟨_, _, hcap⟩ := owns_form hown
          have HR : Hid (List.take csize ys = run bs (List.take N.toNat (units (List.take (k + 1) cs))) ∧ r - 1 = N - ↑(units (List.take (k + 1) cs)).length) := ⟨r2, r3⟩
          have HL : Hid (l = ys.length) := hl
          have hs0 : (0 : Int) ≤ (csize : Int) := Int.natCast_nonneg _
          have hs1 : (csize : Int) ≤ (cap : Int) := by omega
          have hs2 : csize ≤ l := by omega
          have hr1 : r ≤ 9223372036854775807 := by omega
          clear r1 r2 r3 RC hl hr hy HY
          go_wp2
          go_roundw
          case rel => exact ⟨k + 1, a, cap, ys.take csize, csize, r - 1, by omega, by go_num, rfl, rfl, ⟨by have := HL.out; rw [List.length_take]; omega, HR.out.2, HR.out.1⟩, (owns_take hown csize hs2).alloc _, hgr.trans (World.grownBy_alloc _ _ _), fun g hg => hat g ((ownBlock_any a l csize cap cap).trans hg)⟩
          case measure => simp [intOf]; omega
        · have hcf : ccut = false := by simpa using hcut
          subst hcf
          clear RC HRS
          obtain ⟨hl, hr, hy⟩ := HY.out
          obtain ⟨rn, rfl⟩ : ∃ rn : Nat, r = rn := ⟨r.toNat, by omega⟩
          obtain ⟨q, hq0, hq1, hqr⟩ := min2_any rn cbytes.length
          have hqt : List.take q cbytes = List.take (rn : Int).toNat cbytes := by
            rw [List.take_eq_take_iff]
            omega
          obtain ⟨r2, r3⟩ := RB hr hr0 hcut ys hy q hqt
          obtain ⟨_, _, hcap⟩ := owns_form hbr'
          have hys : ys.length + q ≤ 140737488355328 := by
            have h1 := run_len ((units (cs.take (k + 1))).take N.toNat) bs
            rw [← r2, List.length_append, List.length_take] at h1
            have h2 := units_take_le cs (k + 1)
            rw [List.length_take] at h1
            omega
          have hrow := ((owns_row hbr' (fun z hz => hsm z (MU z hcut hz))).1.head q (by omega)).after (w' := wr.alloc (.cells #[.bool false, .int .i64 csize, .slice ca cbytes.length ccap] 67)) ((Below.refl _ _).alloc (Nat.le_refl _) _)
          have h0' := (owns_form hbr').1
          have HR : Hid (ys ++ List.take q cbytes = run bs (List.take N.toNat (units (List.take (k + 1) cs))) ∧ (rn : Int) - cbytes.length = N - ↑(units (List.take (k + 1) cs)).length) := ⟨r2, r3⟩
          have HL : Hid (l = ys.length) := hl
          have hs0 : (0 : Int) ≤ (q : Int) := Int.natCast_nonneg _
          have hs1 : (q : Int) ≤ (ccap : Int) := by omega
          have hr1 : (rn : Int) ≤ 9223372036854775807 := by omega
          have hcb : (cbytes.length : Int) ≤ 140737488355328 := by
            have h2 := units_take_le cs (k + 1)
            omega
          have hlq : l + q ≤ 140737488355328 := by omega
          clear r2 r3 RB hl hr hy HY MU hys hqt
          generalize cbytes.length = cl at *
          have hfar : some wr.heap.size ≠ (Value.slice a l cap).ownBlock := fun e => by have := (hown.lt _ e.symm).2; omega
          have hcl2 : (wr.alloc (.cells #[.bool false, .int .i64 csize, .slice ca cl ccap] 67)).cell? ⟨wr.heap.size, 2, none⟩ = some (.slice ca cl ccap) := by
            rw [cell_of_row _ wr.heap.size 2 _ 67 (0, 0) (heap_alloc_new wr _)]; rfl
          have HCF : Hid ((wr.alloc (.cells #[.bool false, .int .i64 csize, .slice ca cl ccap] 67)).cell? ⟨wr.heap.size, 2, none⟩ = some (.slice ca cl ccap) ∧ some wr.heap.size ≠ (Value.slice a l cap).ownBlock) := ⟨hcl2, hfar⟩
          clear hcl2 hfar
          go_wp2_with (at_builtin; refine wpList_append_bytes rfl (.tmp 28) (.tmp 36) rfl (.slice a l cap) l ys rfl (hown.alloc _) ca q ccap (List.take q cbytes) rfl hrow (fun h => (h0' h).2) hlq ?_; intro a' cap' w1 hown1 hgrow1 hat1; have hc1 := hgrow1.cell HCF.out.1 HCF.out.2)
          go_roundw
          case rel =>
            refine ⟨k + 1, a', cap', ys ++ List.take q cbytes, l + q, rn - cl, by omega, by go_num, by go_num, rfl, ⟨?_, HR.out.2, HR.out.1⟩, hown1, grown_on hgr ((World.grownBy_alloc _ _ _).trans hgrow1) hat, fun g hg => ?_⟩
            · have := hown1.1
              rw [List.length_map] at this
              omega
            · rcases hat1 with h | h
              · exact hat g (h.symm.trans hg)
              · right
                rw [h] at hg
                have h2 := Option.some.inj hg
                have h3 := hgr.size
                simp at h2
                omega
          case measure => simp [intOf]; omega
    · have HE : Hid (List.take N.toNat (units (List.take k cs)) = List.take N.toNat (units cs)) := redo_end bs cs N k hlt
      go_wp2
      go_ret
      obtain ⟨hl, hr, hy⟩ := HY.out
      rw [HE.out] at hy
      subst hy hl
      exact ⟨a, cap, rfl, hown, hgr, hat⟩

end Go.Proofs.Ytnifpfkemjolkaa.Disk
