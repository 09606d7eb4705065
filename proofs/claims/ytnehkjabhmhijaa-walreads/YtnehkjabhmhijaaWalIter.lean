/-
  The iterator that goes through the records in bytes: what it tells to whatever loop ranges over it.
-/
import Derived.RangeFuncNested
import Derived.RangeFuncBound
import Derived.RangeFuncCalls
import Derived.RangeFuncLeaves
import Derived.RangeFuncBox
import Derived.Shelf.Abstract
import Derived.Shelf.RegionOpen
import Derived.OwnWalkIn
import Derived.TacticsInMore
import Derived.LoopNIn
import Derived.LoopIn
import Derived.Test.YtnehkjabhmhijaaWalRecord
import Derived.Test.YtnehkjabhmhijaaWalScope
namespace Go.Proofs.Ytnehkjabhmhijaa.Wal
set_option linter.unusedVariables false
set_option linter.unusedSimpArgs false
open Go Go.RowKit Go.Shelf Go.Proofs
open Go.Proofs.Ytnehkjabhmhijaa.Disk (Row getD_in ret_int add_add)

attribute [local go_sem] Oper.semAt_some

theorem grown_of_below {w w' : World} (h : Below w.heap.size w w') : w.grownBy w' none := ⟨h.os, h.tape, h.output, h.size, fun k hk _ => h.block k hk⟩
theorem cell_block {w w' : World} {p : Addr} (h : w'.heap[p.block]? = w.heap[p.block]?) : w'.cell? p = w.cell? p := by unfold World.cell?; rw [h]
theorem lt_of_same {w w' : World} {k : Nat} (h : w'.heap[k]? = w.heap[k]?) (hk : k < w.heap.size) : k < w'.heap.size := by
  rw [Array.getElem?_eq_getElem hk] at h
  exact (Array.getElem?_eq_some_iff.1 h).1
theorem Row.block {w w' : World} {a : Option Addr} {n : Nat} {zs : List Int} (h : Row w a n zs) (hb : ∀ x, a = Option.some x → w'.heap[x.block]? = w.heap[x.block]?) : Row w' a n zs := by
  refine ⟨h.len, h.small, fun i hi => ?_⟩
  obtain ⟨x, hx, hc⟩ := h.cell i hi
  exact ⟨x, hx, (cell_block (by rw [Disk.block_add]; exact hb x hx)).trans hc⟩

/- A record in zs: its place, how many bytes it says. -/
abbrev Rec (zs : List Int) : Type := { r : Nat × Nat // 1 ≤ r.2 ∧ r.2 ≤ 65536 ∧ r.1 + 8 + r.2 ≤ zs.length }
def encs (x : Addr) (cap : Nat) {zs : List Int} (r : Rec zs) : Array Value := #[.int .i64 r.1.1, .slice (Option.some (x.add (r.1.1 + 8))) r.1.2 (cap - (r.1.1 + 8))]
def Kp (g Bn : Nat) (W W' : World) : Prop := W'.heap[g]? = W.heap[g]? ∧ W'.heap[Bn]? = W.heap[Bn]?
theorem Kp.trans {g Bn : Nat} {A B C : World} (h : Kp g Bn A B) (h' : Kp g Bn B C) : Kp g Bn A C := ⟨h'.1.trans h.1, h'.2.trans h.2⟩

theorem first_at (x : Addr) (at_ len cap : Nat) (zs : List Int) (w : World) (hr : Row w (Option.some x) len zs) (hle : at_ ≤ len) (hlc : len ≤ cap) (hcb : cap ≤ 9223372036854775807) :
    Calls Try.prog 35 #[.slice (if cap = at_ then Option.some x else Option.some (x.add at_)) (len - at_) (cap - at_)] w fun e w' => Below w.heap.size w w' ∧
      ((first (zs.drop at_) = none ∧ e = .returned (.slice none 0 0)) ∨ ∃ k y c, Hid (first (zs.drop at_) = Option.some k) ∧ Hid (x.add (at_ + 8) = y) ∧ Hid (cap - (at_ + 8) = c) ∧ e = .returned (.slice (Option.some y) k c)) := by
  refine (first_any _ _ _ _ w (hr.tail at_ hle hlc) (by omega) (by omega)).mono ?_
  rintro e w' ⟨hb, ⟨h1, h2⟩ | ⟨y, k, h1, h2, h3⟩⟩
  · exact ⟨hb, .inl ⟨h1, h2⟩⟩
  · refine ⟨hb, .inr ⟨k, _, _, h2, rfl, rfl, ?_⟩⟩
    have hk := first_le h2
    rw [List.length_drop, hr.len] at hk
    rw [if_neg (by omega)] at h1
    cases h1
    rw [h3, add_add, Nat.sub_sub]

set_option maxRecDepth 100000 in
set_option maxHeartbeats 2000000 in
theorem records1_in (n : Nat) (l Bn : Nat) (x : Addr) (len cap : Nat) (zs : List Int) (ns : List Nat) (hd : Done zs ns) (hlc : len ≤ cap) (hcb : cap ≤ 9223372036854775807) (J Jx : List (Rec zs) → World → Prop) (W : World)
    (hJ : AbidesFrom W.heap.size J)
    (hY : ∀ pre r W1, J pre W1 → pre.length < ns.length → YieldAt Fence.wide (n - 1) Try.prog l (encs x cap r) W1 fun e W' =>
      (e = .returned (.bool true) ∧ J (pre ++ [r]) W' ∧ Kp x.block Bn W1 W') ∨ (e = .returned (.bool false) ∧ Jx (pre ++ [r]) W'))
    (hn : 1 ≤ n) (hBn : W.cell? ⟨Bn, 0, none⟩ = Option.some (.slice (Option.some x) len cap)) (hr : Row W (Option.some x) len zs) (hxb : x.block < W.heap.size) (h0 : J [] W) :
    CallsIn Fence.wide n Try.prog 34 #[.func (.yield l) #[] #[], .pointer (Option.some ⟨Bn, 0, none⟩)] W fun e W' => (∃ v, e = .returned v) ∧
      ((∃ ys : List (Rec zs), ys.map Subtype.val = places 0 ns ∧ J ys W') ∨ (∃ pre : List (Rec zs), (∃ ms, ms <+: ns ∧ pre.map Subtype.val = places 0 ms) ∧ Jx pre W')) := by
  have hl := hr.len
  have hu := fun w a l c => Disk.eql_nil w 22 5 a l c Try.underlying22
  refine callsIn_of_wp Try.func34 rfl trivial ?_ rfl
  simp only [Try.ntmps34, List.size_toArray, List.length_cons, List.length_nil, Nat.reduceAdd, Nat.reduceSub, Array.replicate_succ, Array.replicate_zero, List.push_toArray, List.append_toArray, List.nil_append, List.cons_append]
  refine wpIn_scope_straight ?_
  gi_wp2
  refine wpIn_label ?_
  gi_wp2
  gi_loopw [3] (fun p wr => ∃ (ms rest : List Nat) (pre : List (Rec zs)), ns = ms ++ rest ∧ p = .int .i64 (stop 0 ms : Nat) ∧ pre.map Subtype.val = places 0 ms ∧ J pre wr ∧ Kp x.block Bn W wr)
    (fun p wr => zs.length + 1 - (intOf p).toNat)
  case atStart => exact ⟨[], ns, [], rfl, rfl, rfl, h0, ⟨rfl, rfl⟩⟩
  case round =>
    obtain ⟨ms, rest, pre, hns, rfl, hpre, hJs, hk⟩ := hrel
    have hxw := lt_of_same hk.1 hxb
    have hle : stop 0 ms ≤ len := by
      have := Goes.le ms 0 (by omega) (((Goes.append ms rest 0).1 (hns ▸ hd.1)).1)
      omega
    have hgr := ((Goes.append ms rest 0).1 (hns ▸ hd.1)).2
    have hplen : pre.length = ms.length := by have := congrArg List.length hpre; rw [List.length_map, places_length] at this; exact this
    have hb1 : wr.cell? ⟨Bn, 0, none⟩ = Option.some (.slice (Option.some x) len cap) := by rw [cell_block (p := ⟨Bn, 0, none⟩) hk.2]; exact hBn
    have hr1 : Row wr (Option.some x) len zs := Row.block hr (fun y hy => by cases hy; exact hk.1)
    have ht := hr1.tail (stop 0 ms) hle hlc
    have cF := first_at x (stop 0 ms) len cap zs wr hr1 hle hlc hcb
    generalize hat : stop 0 ms = at_ at *
    have t1 : (at_ : Int) ≤ (len : Int) := by omega
    clear hr1 ht
    cases hf : first (zs.drop at_) with
    | none =>
      have hrest : rest = [] := by
        cases rest with
        | nil => rfl
        | cons m rest => rw [hgr.1] at hf; cases hf
      subst hrest
      rw [List.append_nil] at hns
      subst hns
      have cF' : Calls Try.prog 35 #[.slice (if cap = at_ then Option.some x else Option.some (x.add at_)) (len - at_) (cap - at_)] wr fun e w' => e = .returned (.slice none 0 0) ∧ Below wr.heap.size wr w' := by
        refine cF.mono ?_
        rintro e w' ⟨hb, ⟨h1, h2⟩ | ⟨k, y, c, h1, _⟩⟩
        · exact ⟨h2, hb⟩
        · rw [hf] at h1; cases h1.out
      clear cF hf hgr
      by_cases hca : cap = at_
      · rw [if_pos hca] at cF'
        obtain rfl : len = at_ := by omega
        subst hca
        rw [Nat.sub_self] at cF'
        gi_wp2_with (refine ⟨trivial, ?_⟩; gi_at_call 35; refine (callsIn_wide.2 cF').mono ?_; rintro e w1 ⟨rfl, hb⟩)
        rw [Exit.noGoto_normal]
        go_end0
        exact ⟨⟨_, rfl⟩, .inl ⟨pre, hpre, hJ _ _ _ none hJs (grown_of_below hb) (by intro r e; cases e)⟩⟩
      · rw [if_neg hca] at cF'
        gi_wp2_with (refine ⟨trivial, ?_⟩; gi_at_call 35; refine (callsIn_wide.2 cF').mono ?_; rintro e w1 ⟨rfl, hb⟩)
        rw [Exit.noGoto_normal]
        go_end0
        exact ⟨⟨_, rfl⟩, .inl ⟨pre, hpre, hJ _ _ _ none hJs (grown_of_below hb) (by intro r e; cases e)⟩⟩
    | some k =>
      have hk8 := first_le hf
      rw [List.length_drop] at hk8
      have hca : ¬ cap = at_ := by omega
      rw [if_neg hca] at cF
      obtain ⟨rest', rfl⟩ : ∃ rest', rest = k :: rest' := by
        cases rest with
        | nil =>
          have := hd.2
          rw [hns, List.append_nil, hat, hf] at this
          cases this
        | cons m rest =>
          have := hgr.1
          rw [hf] at this
          cases this
          exact ⟨rest, rfl⟩
      obtain ⟨y, hy⟩ : ∃ y, Hid (x.add (at_ + 8) = y) := ⟨_, rfl⟩
      obtain ⟨c, hc⟩ : ∃ c, Hid (cap - (at_ + 8) = c) := ⟨_, rfl⟩
      have cF' : Calls Try.prog 35 #[.slice (Option.some (x.add at_)) (len - at_) (cap - at_)] wr fun e w' => e = .returned (.slice (Option.some y) k c) ∧ Below wr.heap.size wr w' := by
        refine cF.mono ?_
        rintro e w' ⟨hb, ⟨h1, h2⟩ | ⟨k', y', c', h1, h2, h3, h4⟩⟩
        · rw [hf] at h1; cases h1
        · have e1 := h1.out
          rw [hf] at e1
          cases e1
          rw [← hy.out, ← hc.out, h2.out, h3.out]
          exact ⟨h4, hb⟩
      clear cF
      have hY' := fun w1 (hb : Below wr.heap.size wr w1) => hY pre ⟨(at_, k), by omega, by omega, by omega⟩ w1 (hJ _ _ _ none hJs (grown_of_below hb) (by intro r e; cases e)) (by rw [hplen, hns, List.length_append, List.length_cons]; omega)
      simp only [encs, hy.out, hc.out] at hY'
      gi_wp2_with (refine ⟨trivial, ?_⟩; gi_at_call 35; refine (callsIn_wide.2 cF').mono ?_; rintro e w1 ⟨rfl, hb⟩; obtain ⟨fn, tmps, assign, body, hyy, hR⟩ := hY' w1 hb)
      refine hR.mono ?_
      rintro e W3 (⟨rfl, hJ3, hk3⟩ | ⟨rfl, hJx3⟩)
      · gi_wp2
        go_roundw
        case rel =>
          refine ⟨ms ++ [k], rest', pre ++ [⟨(at_, k), by omega, by omega, by omega⟩], by simp [hns], ?_, ?_, hJ3, ?_⟩
          · rw [stop_snoc, hat]
            go_num
          · rw [List.map_append, hpre, places_append, hat]
            rfl
          · exact (hk.trans ⟨hb.block _ hxw, hb.block _ (World.block_lt_of_cell? wr _ hb1)⟩).trans hk3
        case measure => simp [intOf]; omega
      · gi_wp2
        rw [Exit.noGoto_normal]
        go_end0
        exact ⟨⟨_, rfl⟩, .inr ⟨pre ++ [⟨(at_, k), by omega, by omega, by omega⟩], ⟨ms ++ [k], ⟨rest', by simp [hns]⟩, by rw [List.map_append, hpre, places_append, hat]; rfl⟩, hJx3⟩⟩

set_option maxRecDepth 100000 in
set_option maxHeartbeats 2000000 in
theorem records1_nil (n : Nat) (l Bn : Nat) (J : List (Rec []) → World → Prop) (W : World) (hJ : AbidesFrom W.heap.size J)
    (hn : 1 ≤ n) (hBn : W.cell? ⟨Bn, 0, none⟩ = Option.some (.slice none 0 0)) (h0 : J [] W) :
    CallsIn Fence.wide n Try.prog 34 #[.func (.yield l) #[] #[], .pointer (Option.some ⟨Bn, 0, none⟩)] W fun e W' => (∃ v, e = .returned v) ∧ J [] W' := by
  have hu := fun w a l c => Disk.eql_nil w 22 5 a l c Try.underlying22
  have cF : Calls Try.prog 35 #[.slice none 0 0] W fun e w' => e = .returned (.slice none 0 0) ∧ Below W.heap.size W w' := by
    refine (first_any none 0 0 [] W ⟨rfl, by simp, fun i hi => by omega⟩ (by omega) (by omega)).mono ?_
    rintro e w' ⟨hb, ⟨h1, h2⟩ | ⟨y, k, h1, h2, h3⟩⟩
    · exact ⟨h2, hb⟩
    · cases h1
  refine callsIn_of_wp Try.func34 rfl trivial ?_ rfl
  simp only [Try.ntmps34, List.size_toArray, List.length_cons, List.length_nil, Nat.reduceAdd, Nat.reduceSub, Array.replicate_succ, Array.replicate_zero, List.push_toArray, List.append_toArray, List.nil_append, List.cons_append]
  refine wpIn_scope_straight ?_
  gi_wp2
  refine wpIn_label ?_
  gi_wp2
  gi_loopw [3] (fun p wr => p = .int .i64 0 ∧ wr = W) (fun p wr => 0)
  case atStart => exact ⟨rfl, rfl⟩
  case round =>
    obtain ⟨rfl, rfl⟩ := hrel
    gi_wp2_with (refine ⟨trivial, ?_⟩; gi_at_call 35; refine (callsIn_wide.2 cF).mono ?_; rintro e w1 ⟨rfl, hb⟩)
    rw [Exit.noGoto_normal]
    go_end0
    exact ⟨⟨_, rfl⟩, hJ _ _ _ none h0 (grown_of_below hb) (by intro r e; cases e)⟩

/- The iterator, as whatever ranges over it takes it. -/
theorem records_stops (n : Nat) (hn : 1 ≤ n) (Bn : Nat) (a : Option Addr) (len cap : Nat) (zs : List Int) (ns : List Nat) (hd : Done zs ns) (hlc : len ≤ cap) (hcb : cap ≤ 9223372036854775807) (h00 : a = none → len = 0 ∧ cap = 0)
    (w : World) (hBn : w.cell? ⟨Bn, 0, none⟩ = Option.some (.slice a len cap)) (hr : Row w a len zs) (x : Addr) (hx : ∀ y, a = Option.some y → y = x) (hxb : a ≠ none → x.block < w.heap.size) :
    SeqStopsK Fence.wide n Try.prog 34 #[.pointer (Option.some ⟨Bn, 0, none⟩)] (encs x cap (zs := zs)) (Kp x.block Bn) (fun ys => ys.map Subtype.val = places 0 ns) (fun pre => ∃ ms, ms <+: ns ∧ pre.map Subtype.val = places 0 ms) ns.length w := by
  intro l J Jx W hW hJ hJx hY h0
  have hc : W.cell? ⟨Bn, 0, none⟩ = Option.some (.slice a len cap) := (hW.cell (p := ⟨Bn, 0, none⟩) (World.block_lt_of_cell? w _ hBn)).trans hBn
  have hr' := hr.after hW
  cases a with
  | some y =>
    obtain rfl := hx y rfl
    exact records1_in n l Bn y len cap zs ns hd hlc hcb J Jx W hJ hY hn hc hr' (Nat.lt_of_lt_of_le (hxb (by simp)) hW.size) h0
  | none =>
    obtain ⟨rfl, rfl⟩ := h00 rfl
    obtain rfl : zs = [] := List.eq_nil_of_length_eq_zero hr.len
    obtain rfl : ns = [] := done_one hd ⟨trivial, rfl⟩
    refine (records1_nil n l Bn J W hJ hn hc h0).mono ?_
    rintro e W' ⟨hv, hj⟩
    exact ⟨hv, .inl ⟨[], rfl, hj⟩⟩

set_option maxHeartbeats 1000000 in
theorem records_any (a : Option Addr) (len cap : Nat) (w : World) : Calls Try.prog 22 #[.slice a len cap] w fun e w' => e = .returned (.func (.func 34) #[] #[.pointer (Option.some ⟨w.heap.size, 0, none⟩)]) ∧ w' = w.alloc (.cells #[.slice a len cap] 22) := by
  go_enter Try.func22, Try.ntmps22
  go_wp2
  go_ret
  exact ⟨rfl, rfl⟩
end Go.Proofs.Ytnehkjabhmhijaa.Wal
