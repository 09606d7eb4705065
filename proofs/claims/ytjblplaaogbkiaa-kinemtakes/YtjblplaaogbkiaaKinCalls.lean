/-
  Brake and the next speed, as the program has them; runs in memory.
-/
import Derived.Test.YtjblplaaogbkiaaChecked
import Derived.Test.YtjblplaaogbkiaaKinPlain
import Derived.RangeFuncNested
import Derived.RangeFuncBound
import Derived.RangeFuncCalls
import Derived.RangeFuncLeaves
import Derived.RangeFuncBox
import Derived.Shelf.Abstract
import Derived.Shelf.RegionOpen
import Derived.OwnWalkIn
import Derived.TacticsInMore
import Derived.LoopNIn
import Derived.LoopIn
import Derived.WalkKit
import Derived.ProofKit
import Derived.OpenShut
import Derived.BigQuiet
import Derived.Deep.QuietTactic
import Derived.WalkSmall
namespace Go.Proofs.Ytjblplaaogbkiaa.Kin
set_option linter.unusedVariables false
set_option linter.unusedSimpArgs false
open Go Go.RowKit Go.Shelf Go.Proofs

theorem ret_int {k : IntKind} {a b : Int} (h : a = b) : Ending.returned (.int k a) = .returned (.int k b) := by rw [h]
theorem ret_bool {a b : Bool} (h : a = b) : Ending.returned (.bool a) = .returned (.bool b) := by rw [h]
theorem bcell {W w1 : World} (hb : Below W.heap.size W w1) : (∀ b o, b < W.heap.size → w1.cell? ⟨b, o, none⟩ = W.cell? ⟨b, o, none⟩) ∧ (∀ b o, b < W.heap.size → w1.frozen? ⟨b, o, none⟩ = W.frozen? ⟨b, o, none⟩) :=
  ⟨fun b o h => hb.cell (p := ⟨b, o, none⟩) h, fun b o h => hb.frozen (p := ⟨b, o, none⟩) h⟩
theorem bcat {a b c : World} (h : Below a.heap.size a b) (k : Below b.heap.size b c) : Below a.heap.size a c := h.trans (k.mono h.size)
/- The three numbers of a Kin. -/
structure KAt (w : World) (b u a v : Nat) : Prop where
  unit : w.cell? ⟨b, 0, none⟩ = some (.int .i64 u)
  accel : w.cell? ⟨b, 1, none⟩ = some (.int .i64 a)
  speed : w.cell? ⟨b, 2, none⟩ = some (.int .i64 v)
theorem KAt.lt {w : World} {b u a v : Nat} (h : KAt w b u a v) : b < w.heap.size := World.block_lt_of_cell? w _ h.unit
theorem KAt.go {w w' : World} {b u a v : Nat} (h : KAt w b u a v) (hb : Below w.heap.size w w') : KAt w' b u a v :=
  ⟨(hb.cell (p := ⟨b, 0, none⟩) h.lt).trans h.unit, (hb.cell (p := ⟨b, 1, none⟩) h.lt).trans h.accel, (hb.cell (p := ⟨b, 2, none⟩) h.lt).trans h.speed⟩

def cutS (s : Int) (v : Nat) : Nat := (min (max s 0) v).toNat
theorem cutS_le (s : Int) (v : Nat) : cutS s v ≤ v := by unfold cutS; omega
theorem cutS_int (s : Int) (v : Nat) : min (max s 0) (v : Int) = (cutS s v : Int) := by unfold cutS; omega
theorem cutS_nat {s v : Nat} (h : s ≤ v) : cutS s v = s := by unfold cutS; omega
set_option maxHeartbeats 1000000 in
theorem brake_any (b u a v : Nat) (s : Int) (w : World) (h : KAt w b u a v) (ha : 1 ≤ a) (ha2 : a ≤ 1000) (hv : v ≤ 1000) :
    Calls Try.prog 15 #[.pointer (some ⟨b, 0, none⟩), .int .i64 s] w fun e w' => e = .returned (.int .i64 (brk a (cutS s v))) ∧ Below w.heap.size w w' := by
  obtain ⟨h0, h1, h2⟩ := h
  have hc := cutS_le s v
  have HB : Hid (∀ t, t ≤ cutS s v → brk a t ≤ 1000000) := fun t ht => by have := brk_bound ha (show t ≤ 1000 by omega); omega
  go_enter Try.func15, Try.ntmps15
  go_wp2
  go_quiet (fail)
  go_wp2
  all_goals
    go_loop [5, 6] (fun far sl => ∃ t f : Nat, t ≤ cutS s v ∧ Hid (f + brk a t = brk a (cutS s v)) ∧ far = .int .i64 f ∧ sl = .int .i64 ((t : Int) - a)) (fun _ sl => (intOf sl).toNat)
    case atStart => exact ⟨cutS s v, 0, Nat.le_refl _, Nat.zero_add _, rfl, congrArg (Value.int IntKind.i64) (by unfold cutS; first | omega | (split at * <;> omega))⟩
    case round =>
      obtain ⟨t, f, ht, hf, rfl, rfl⟩ := hrel
      have hB := HB.out t ht
      have hB0 := HB.out (cutS s v) (Nat.le_refl _)
      have hfb : f ≤ 1000000 := by have := hf.out; omega
      clear hB hB0 HB
      by_cases hlt : a < t
      · have HS : Hid (brk a t = (t - a) + brk a (t - a)) := brk_big ha hlt
        go_wp2
        go_round
        case rel => exact ⟨t - a, f + (t - a), by omega, by have := HS.out; have := hf.out; unfold Hid; omega, by go_num, by go_num⟩
        case measure => simp [intOf]; omega
      · have hs0 : Hid (brk a t = 0) := brk_small (by omega)
        go_wp2
        go_ret
        exact ⟨ret_int (by have := hs0.out; have := hf.out; omega), by first | exact below_drewN (Below.refl _ _) _ | exact Below.refl _ _⟩
set_option maxHeartbeats 1000000 in
/- The next speed. -/
theorem next_any (b u a v : Nat) (left fast : Nat) (w : World) (h : KAt w b u a v) (ha : 1 ≤ a) (ha2 : a ≤ 1000) (hv : v ≤ 1000) (hl : 1 ≤ left) (hl2 : left ≤ 2000000) (hf : 1 ≤ fast) (hf2 : fast ≤ v) :
    Calls Try.prog 42 #[.pointer (some ⟨b, 0, none⟩), .int .i64 left, .int .i64 fast] w fun e w' => e = .returned (.int .i64 (nxt a left fast)) ∧ Below w.heap.size w w' := by
  have cB := fun (s : Int) (w1 : World) (hb : Below w.heap.size w w1) => brake_any b u a v s w1 (h.go hb) ha ha2 hv
  go_enter Try.func42, Try.ntmps42
  go_wp2
  all_goals
    go_loopw [7] (fun q wr => ∃ x : Nat, 1 ≤ x ∧ x ≤ min fast left ∧ Hid (down a left x = nxt a left fast) ∧ q = .int .i64 x ∧ Below w.heap.size w wr) (fun q wr => (intOf q).toNat)
    case atStart => exact ⟨min fast left, by omega, Nat.le_refl _, rfl, congrArg (Value.int IntKind.i64) (by omega), Below.refl _ _⟩
    case round =>
      obtain ⟨x, hx1, hx2, hd, rfl, hb⟩ := hrel
      have e : cutS (x : Int) v = x := cutS_nat (by omega)
      have cB1 := cB x wr hb
      rw [e] at cB1
      have hbb : brk a x ≤ 1000000 := by have := brk_bound ha (show x ≤ 1000 by omega); omega
      clear cB e
      by_cases hlt : left - x < brk a x
      · have hx0 : 2 ≤ x := by
          by_cases h1 : x = 1
          · rw [h1, brk_small (by omega)] at hlt; omega
          · omega
        have hz : ((left : Int) - x < brk a x) := by omega
        have HD : Hid (down a left x = down a left (x - 1)) := by
          have e2 : x = (x - 1) + 1 := by omega
          have := down_no (a := a) (left := left) (q := x - 1) (by rw [← e2]; exact hlt)
          rw [← e2] at this
          exact this
        go_wp2_with (go_at_call 15; refine cB1.mono ?_; rintro e w' ⟨rfl, hb2⟩)
        go_roundw
        case rel => exact ⟨x - 1, by omega, by omega, by have := HD.out; have := hd.out; unfold Hid; rw [← HD.out]; exact hd.out, by go_num, bcat hb hb2⟩
        case measure => simp [intOf]; omega
      · have hz : ¬ ((left : Int) - x < brk a x) := by omega
        have HD : Hid (down a left x = x) := down_yes (by omega)
        go_wp2_with (go_at_call 15; refine cB1.mono ?_; rintro e w' ⟨rfl, hb2⟩)
        go_ret
        exact ⟨ret_int (by rw [← hd.out, HD.out]), bcat hb hb2⟩
theorem steps_any (b : Nat) (left s rise : Int) (w : World) : Calls Try.prog 38 #[.pointer (some ⟨b, 0, none⟩), .int .i64 left, .int .i64 s, .int .i64 rise] w fun e w' =>
    e = .returned (.func (.func 41) #[] #[.pointer (some ⟨w.heap.size + 1, 0, none⟩), .pointer (some ⟨w.heap.size + 2, 0, none⟩), .pointer (some ⟨w.heap.size, 0, none⟩), .pointer (some ⟨w.heap.size + 3, 0, none⟩)]) ∧
    w' = (((w.alloc (.cells #[.pointer (some ⟨b, 0, none⟩)] 22)).alloc (.cells #[.int .i64 left] 3)).alloc (.cells #[.int .i64 s] 3)).alloc (.cells #[.int .i64 rise] 3) := by
  have hmf : ∀ (fn : Fn) (first cap : Array Value) (w : World), (Instr.makeFunc fn first cap).run Try.prog w = .ok (.func fn first cap) w := fun _ _ _ _ => rfl
  go_enter Try.func38, Try.ntmps38
  go_wp2
  go_ret
  exact ⟨rfl, rfl⟩
end Go.Proofs.Ytjblplaaogbkiaa.Kin
