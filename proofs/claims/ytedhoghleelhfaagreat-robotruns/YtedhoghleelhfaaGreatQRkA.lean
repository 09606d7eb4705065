/-
  Runs in plain numbers: how far it goes until it can stand, the next speed, the speeds of a run.
  Brake and the next speed, as the program has them; runs in memory.
  The iterator that tells a run's speeds, to whatever loop ranges over it; statements that leave their order open, over a class of worlds.
  What is done once (sync.Once, one goroutine): the lock, the two deferred calls, doSlow and Do, over whatever the function does.
  Statements that leave their order open, step by step, over any class of worlds, also within a round of a loop over an iterator; slices of their own.
-/
import Init
import Derived.Test.YtedhoghleelhfaaGreatChecked
import Derived.RangeFuncNested
import Derived.RangeFuncBound
import Derived.RangeFuncCalls
import Derived.RangeFuncLeaves
import Derived.RangeFuncBox
import Derived.Shelf.Abstract
import Derived.Shelf.RegionOpen
import Derived.OwnWalkIn
import Derived.TacticsInMore
import Derived.LoopNIn
import Derived.LoopIn
import Derived.WalkKit
import Derived.ProofKit
import Derived.OpenShut
import Derived.BigQuiet
import Derived.Deep.QuietTactic
import Derived.WalkSmall
import Derived.Deep.RegionWith
import Derived.Deep.RegionHeld3
import Derived.Defers
import Derived.Laws.Pointers
import Derived.Laws.LoneSync
import Derived.Laws.NewBlocks
import Derived.RegionTactic
import Derived.RegionCalls
import Derived.Laws.AppendOwn
namespace Go.Proofs.YtedhoghleelhfaaGreat.Kin
set_option linter.unusedVariables false

/- How far it goes behind a tick of the speed s, slower by a each tick. -/
def brk (a s : Nat) : Nat := if h : a = 0 ∨ s ≤ a then 0 else (s - a) + brk a (s - a)
termination_by s
decreasing_by omega
theorem brk_small {a s : Nat} (h : s ≤ a) : brk a s = 0 := by rw [brk, dif_pos (Or.inr h)]
theorem brk_big {a s : Nat} (ha : 1 ≤ a) (h : a < s) : brk a s = (s - a) + brk a (s - a) := by rw [brk, dif_neg (by omega)]
theorem brk_le {a : Nat} (ha : 1 ≤ a) : ∀ s : Nat, brk a s ≤ s * s := by
  intro s
  induction s using Nat.strongRecOn with
  | ind s ih =>
    by_cases h1 : s ≤ a
    · rw [brk_small h1]; exact Nat.zero_le _
    · rw [brk_big ha (by omega)]
      have h := ih (s - a) (by omega)
      have h2 : (s - a) * (s - a + 1) ≤ s * s := Nat.mul_le_mul (by omega) (by omega)
      rw [Nat.mul_succ] at h2
      omega
theorem brk_bound {a s m : Nat} (ha : 1 ≤ a) (h : s ≤ m) : brk a s ≤ m * m := Nat.le_trans (brk_le ha s) (Nat.mul_le_mul h h)

/- The greatest speed up to q behind which it can stand within what is left. -/
def down (a left : Nat) : Nat → Nat
  | 0 => 0
  | q + 1 => if brk a (q + 1) ≤ left - (q + 1) then q + 1 else down a left q
theorem down_le (a left q : Nat) : down a left q ≤ q := by
  induction q with
  | zero => exact Nat.le_refl _
  | succ q ih => rw [down]; split <;> omega
theorem down_pos {a left : Nat} (ha : 1 ≤ a) : ∀ {q : Nat}, 1 ≤ q → 1 ≤ down a left q := by
  intro q
  induction q with
  | zero => intro h; omega
  | succ q ih =>
    intro _
    rw [down]
    by_cases h0 : q = 0
    · subst h0
      rw [if_pos (by rw [brk_small (by omega)]; exact Nat.zero_le _)]
      omega
    · split
      · omega
      · exact ih (by omega)
theorem down_fits (a left q : Nat) : down a left q = 0 ∨ brk a (down a left q) ≤ left - down a left q := by
  induction q with
  | zero => exact Or.inl rfl
  | succ q ih =>
    rw [down]
    by_cases h : brk a (q + 1) ≤ left - (q + 1)
    · rw [if_pos h]; exact Or.inr h
    · rw [if_neg h]; exact ih
theorem down_max (a left : Nat) : ∀ (q x : Nat), down a left q < x → x ≤ q → left - x < brk a x := by
  intro q
  induction q with
  | zero => intro x h1 h2; omega
  | succ q ih =>
    intro x h1 h2
    rw [down] at h1
    by_cases h : brk a (q + 1) ≤ left - (q + 1)
    · rw [if_pos h] at h1; omega
    · rw [if_neg h] at h1
      by_cases hx : x = q + 1
      · subst hx; omega
      · exact ih x h1 (by omega)
theorem down_yes {a left q : Nat} (h : brk a q ≤ left - q) : down a left q = q := by
  cases q with
  | zero => rfl
  | succ q => rw [down, if_pos h]
theorem down_no {a left q : Nat} (h : left - (q + 1) < brk a (q + 1)) : down a left (q + 1) = down a left q := by rw [down, if_neg (by omega)]

/- The next speed: what is left, how fast at most. -/
def nxt (a left f : Nat) : Nat := down a left (min f left)
theorem nxt_pos {a left f : Nat} (ha : 1 ≤ a) (hl : 1 ≤ left) (hf : 1 ≤ f) : 1 ≤ nxt a left f := down_pos ha (by omega)
theorem nxt_f (a left f : Nat) : nxt a left f ≤ f := Nat.le_trans (down_le _ _ _) (Nat.min_le_left _ _)
theorem nxt_left (a left f : Nat) : nxt a left f ≤ left := Nat.le_trans (down_le _ _ _) (Nat.min_le_right _ _)
theorem nxt_fits {a left f : Nat} (ha : 1 ≤ a) (hl : 1 ≤ left) (hf : 1 ≤ f) : brk a (nxt a left f) ≤ left - nxt a left f := by
  rcases down_fits a left (min f left) with h | h
  · have := nxt_pos ha hl hf; unfold nxt at this; omega
  · exact h
theorem nxt_max {a left f x : Nat} (h : nxt a left f < x) (hf : x ≤ f) (hl : x ≤ left) : left - x < brk a x := down_max a left _ x h (by omega)

/- The speeds of a run: what is left, the speed ahead, by how much it rises a tick, how fast at most. -/
def runs (a v rise left s : Nat) : List Nat :=
  if h : left = 0 then [] else
    if hq : nxt a left (min (s + rise) v) = 0 then [] else nxt a left (min (s + rise) v) :: runs a v rise (left - nxt a left (min (s + rise) v)) (nxt a left (min (s + rise) v))
termination_by left
decreasing_by omega
theorem runs_nil (a v rise s : Nat) : runs a v rise 0 s = [] := by rw [runs, dif_pos rfl]
theorem runs_cons {a v rise left s : Nat} (ha : 1 ≤ a) (hv : 1 ≤ v) (hl : 1 ≤ left) (hs : 1 ≤ s + rise) :
    runs a v rise left s = nxt a left (min (s + rise) v) :: runs a v rise (left - nxt a left (min (s + rise) v)) (nxt a left (min (s + rise) v)) := by
  have := nxt_pos (a := a) (left := left) (f := min (s + rise) v) ha hl (by omega)
  rw [runs, dif_neg (by omega), dif_neg (by omega)]
/- What holds of every speed of a run, and of what is left behind it. -/
structure Step (a v rise left s q : Nat) : Prop where
  pos : 1 ≤ q
  le : q ≤ left
  rises : q ≤ s + rise
  top : q ≤ v
  fits : q + brk a q ≤ left
  max : ∀ x, q < x → x ≤ s + rise → x ≤ v → x ≤ left → left < x + brk a x
theorem step_of {a v rise left s : Nat} (ha : 1 ≤ a) (hv : 1 ≤ v) (hl : 1 ≤ left) (hs : 1 ≤ s + rise) : Step a v rise left s (nxt a left (min (s + rise) v)) := by
  have h1 := nxt_pos (a := a) (left := left) (f := min (s + rise) v) ha hl (by omega)
  have h2 := nxt_f a left (min (s + rise) v)
  have h3 := nxt_left a left (min (s + rise) v)
  have h4 := nxt_fits (a := a) (left := left) (f := min (s + rise) v) ha hl (by omega)
  refine ⟨h1, h3, by omega, by omega, by omega, fun x hx h5 h6 h7 => ?_⟩
  have := nxt_max hx (by omega) h7
  omega
/- The speed ahead of the i-th tick. -/
def ahead (s : Nat) (r : List Nat) (i : Nat) : Nat := if i = 0 then s else r.getD (i - 1) 0
theorem runs_sum {a v rise : Nat} (ha : 1 ≤ a) (hv : 1 ≤ v) : ∀ (left s : Nat), 1 ≤ s + rise → (runs a v rise left s).sum = left := by
  intro left
  induction left using Nat.strongRecOn with
  | ind left ih =>
    intro s hs
    by_cases h0 : left = 0
    · subst h0; rw [runs_nil]; rfl
    · have st := step_of (a := a) (v := v) (rise := rise) (left := left) (s := s) ha hv (by omega) hs
      have := st.pos
      have := st.le
      rw [runs_cons ha hv (by omega) hs, List.sum_cons, ih _ (by omega) _ (by omega)]
      omega
theorem runs_drop {a v rise : Nat} (ha : 1 ≤ a) (hv : 1 ≤ v) : ∀ (i left s : Nat), 1 ≤ s + rise → i ≤ (runs a v rise left s).length →
    (runs a v rise left s).drop i = runs a v rise (left - ((runs a v rise left s).take i).sum) (ahead s (runs a v rise left s) i) ∧ 1 ≤ ahead s (runs a v rise left s) i + rise := by
  intro i
  induction i with
  | zero => intro left s hs _; exact ⟨by simp [ahead], by simpa [ahead] using hs⟩
  | succ i ih =>
    intro left s hs hi
    by_cases h0 : left = 0
    · subst h0; rw [runs_nil] at hi; simp at hi
    · have st := step_of (a := a) (v := v) (rise := rise) (left := left) (s := s) ha hv (by omega) hs
      have := st.pos
      rw [runs_cons ha hv (by omega) hs] at hi ⊢
      generalize nxt a left (min (s + rise) v) = q at *
      have := ih (left - q) q (by omega) (by simpa using hi)
      rw [List.drop_succ_cons, List.take_succ_cons, List.sum_cons, Nat.sub_add_eq]
      have e : ahead s (q :: runs a v rise (left - q) q) (i + 1) = ahead q (runs a v rise (left - q) q) i := by
        unfold ahead
        rw [if_neg (by omega)]
        cases i with
        | zero => simp
        | succ i => simp
      rw [e]
      exact this
/- The i-th speed of a run. -/
theorem runs_step {a v rise left s i : Nat} (ha : 1 ≤ a) (hv : 1 ≤ v) (hs : 1 ≤ s + rise) (hi : i < (runs a v rise left s).length) :
    Step a v rise (left - ((runs a v rise left s).take i).sum) (ahead s (runs a v rise left s) i) ((runs a v rise left s).getD i 0) := by
  obtain ⟨h1, h2⟩ := runs_drop ha hv i left s hs (by omega)
  generalize hr : runs a v rise left s = r at *
  have hd : r.drop i = r[i] :: r.drop (i + 1) := List.drop_eq_getElem_cons hi
  have hl : 1 ≤ left - (r.take i).sum := by
    by_cases h0 : left - (r.take i).sum = 0
    · rw [h0, runs_nil, hd] at h1; cases h1
    · omega
  have st := step_of (a := a) (v := v) (rise := rise) (left := left - (r.take i).sum) (s := ahead s r i) ha hv hl h2
  rw [runs_cons ha hv hl h2, hd] at h1
  have e := (List.cons.inj h1).1
  have e2 : r.getD i 0 = r[i] := by simp [hi]
  rw [e2, e]
  exact st
theorem take_succ_sum {r : List Nat} {i : Nat} (hi : i < r.length) : (r.take (i + 1)).sum = (r.take i).sum + r.getD i 0 := by
  rw [List.take_succ_eq_append_getElem hi, List.sum_append]
  simp [hi]
theorem take_sum_le (r : List Nat) : ∀ i, (r.take i).sum ≤ r.sum := by
  induction r with
  | nil => intro i; simp
  | cons x r ih =>
    intro i
    cases i with
    | zero => simp
    | succ i => simp only [List.take_succ_cons, List.sum_cons]; have := ih i; omega
theorem take_sum_mono (r : List Nat) {i j : Nat} (h : i ≤ j) : (r.take i).sum ≤ (r.take j).sum := by
  have : r.take i = (r.take j).take i := by rw [List.take_take]; congr 1; omega
  rw [this]
  exact take_sum_le _ _
theorem len_le_sum : ∀ (r : List Nat), (∀ x ∈ r, 1 ≤ x) → r.length ≤ r.sum := by
  intro r
  induction r with
  | nil => intro _; exact Nat.le_refl _
  | cons x r ih =>
    intro h
    have h1 := h x (by simp)
    have h2 := ih (fun y hy => h y (by simp [hy]))
    simp only [List.length_cons, List.sum_cons]
    omega
theorem sum_le_mul : ∀ (r : List Nat) (v : Nat), (∀ x ∈ r, x ≤ v) → r.sum ≤ r.length * v := by
  intro r v
  induction r with
  | nil => intro _; simp
  | cons x r ih =>
    intro h
    have h1 := h x (by simp)
    have h2 := ih (fun y hy => h y (by simp [hy]))
    simp only [List.length_cons, List.sum_cons, Nat.succ_mul]
    omega
theorem mem_getD {r : List Nat} {x : Nat} (h : x ∈ r) : ∃ i, i < r.length ∧ r.getD i 0 = x := by
  obtain ⟨i, hi, e⟩ := List.getElem_of_mem h
  exact ⟨i, hi, by simp [hi, e]⟩
theorem runs_mem {a v rise left s : Nat} (ha : 1 ≤ a) (hv : 1 ≤ v) (hs : 1 ≤ s + rise) : ∀ x ∈ runs a v rise left s, 1 ≤ x ∧ x ≤ v := by
  intro x hx
  obtain ⟨i, hi, rfl⟩ := mem_getD hx
  have st := runs_step ha hv hs hi
  exact ⟨st.pos, st.top⟩
theorem runs_len {a v rise left s : Nat} (ha : 1 ≤ a) (hv : 1 ≤ v) (hs : 1 ≤ s + rise) : (runs a v rise left s).length ≤ left ∧ left ≤ (runs a v rise left s).length * v := by
  have h := runs_mem (left := left) ha hv hs
  have e := runs_sum ha hv left s hs
  have h1 := len_le_sum _ (fun x hx => (h x hx).1)
  have h2 := sum_le_mul _ v (fun x hx => (h x hx).2)
  omega

/- The places behind each tick. -/
def sums (p : Nat) : List Nat → List Nat
  | [] => []
  | q :: l => (p + q) :: sums (p + q) l
theorem sums_length (p : Nat) (l : List Nat) : (sums p l).length = l.length := by
  induction l generalizing p with
  | nil => rfl
  | cons q l ih => simp [sums, ih]
theorem sums_snoc (p : Nat) (l : List Nat) (q : Nat) : sums p (l ++ [q]) = sums p l ++ [p + l.sum + q] := by
  induction l generalizing p with
  | nil => simp [sums]
  | cons x l ih => simp [sums, ih, Nat.add_assoc]
theorem sums_get (p : Nat) (l : List Nat) : ∀ i, i < l.length → (sums p l)[i]? = some (p + (l.take (i + 1)).sum) := by
  induction l generalizing p with
  | nil => intro i h; cases h
  | cons x l ih =>
    intro i h
    cases i with
    | zero => simp [sums]
    | succ i =>
      simp only [sums, List.getElem?_cons_succ, List.take_succ_cons, List.sum_cons]
      rw [ih _ i (by simpa using h)]
      simp [Nat.add_assoc]
/- A run's speeds, its places. -/
def spd (u a v n : Nat) : List Nat := runs a v a (n * u) 0
def prof (u a v n : Nat) : List Nat := sums 0 (spd u a v n)
/- The place behind t ticks. -/
def pos (u a v n t : Nat) : Nat := ((spd u a v n).take t).sum
theorem prof_len (u a v n : Nat) : (prof u a v n).length = (spd u a v n).length := sums_length _ _
theorem prof_get {u a v n i : Nat} (h : i < (spd u a v n).length) : (prof u a v n)[i]? = some (pos u a v n (i + 1)) := by
  unfold prof pos
  rw [sums_get 0 _ i h, Nat.zero_add]
theorem pos_zero (u a v n : Nat) : pos u a v n 0 = 0 := by simp [pos]
theorem pos_end {u a v n t : Nat} (ha : 1 ≤ a) (hv : 1 ≤ v) (h : (spd u a v n).length ≤ t) : pos u a v n t = n * u := by
  unfold pos
  rw [List.take_of_length_le h]
  exact runs_sum ha hv _ _ (by omega)
theorem pos_le {u a v n : Nat} (ha : 1 ≤ a) (hv : 1 ≤ v) (t : Nat) : pos u a v n t ≤ n * u := by
  have := take_sum_le (spd u a v n) t
  rw [show (spd u a v n).sum = n * u from runs_sum ha hv _ _ (by omega)] at this
  exact this
theorem pos_mono (u a v n : Nat) {s t : Nat} (h : s ≤ t) : pos u a v n s ≤ pos u a v n t := take_sum_mono _ h
/- How fast it was in the tick t + 1. -/
def vel (u a v n t : Nat) : Nat := pos u a v n t - pos u a v n (t - 1)
theorem vel_succ {u a v n t : Nat} (h : t < (spd u a v n).length) : vel u a v n (t + 1) = (spd u a v n).getD t 0 := by
  unfold vel pos
  rw [take_succ_sum h, Nat.add_sub_cancel]
  omega
theorem pos_succ {u a v n t : Nat} (h : t < (spd u a v n).length) : pos u a v n (t + 1) = pos u a v n t + (spd u a v n).getD t 0 := take_succ_sum h
theorem spd_step {u a v n i : Nat} (ha : 1 ≤ a) (hv : 1 ≤ v) (hi : i < (spd u a v n).length) :
    Step a v a (n * u - pos u a v n i) (ahead 0 (spd u a v n) i) ((spd u a v n).getD i 0) := runs_step ha hv (by omega) hi
theorem ahead_vel {u a v n i : Nat} (hi : i ≤ (spd u a v n).length) : ahead 0 (spd u a v n) i = vel u a v n i := by
  unfold ahead
  cases i with
  | zero => rw [if_pos rfl]; simp [vel]
  | succ i => rw [if_neg (by omega), vel_succ (by omega)]; rfl
theorem spd_len {u a v n : Nat} (ha : 1 ≤ a) (hv : 1 ≤ v) : (spd u a v n).length ≤ n * u ∧ n * u ≤ (spd u a v n).length * v := runs_len ha hv (by omega)
end Go.Proofs.YtedhoghleelhfaaGreat.Kin
namespace Go.Proofs.YtedhoghleelhfaaGreat.Kin
set_option linter.unusedVariables false
set_option linter.unusedSimpArgs false
open Go Go.RowKit Go.Shelf Go.Proofs

theorem ret_int {k : IntKind} {a b : Int} (h : a = b) : Ending.returned (.int k a) = .returned (.int k b) := by rw [h]
theorem ret_bool {a b : Bool} (h : a = b) : Ending.returned (.bool a) = .returned (.bool b) := by rw [h]
theorem bcat {a b c : World} (h : Below a.heap.size a b) (k : Below b.heap.size b c) : Below a.heap.size a c := h.trans (k.mono h.size)
/- The three numbers of a Kin. -/
structure KAt (w : World) (b u a v : Nat) : Prop where
  unit : w.cell? ⟨b, 0, none⟩ = some (.int .i64 u)
  accel : w.cell? ⟨b, 1, none⟩ = some (.int .i64 a)
  speed : w.cell? ⟨b, 2, none⟩ = some (.int .i64 v)
theorem KAt.lt {w : World} {b u a v : Nat} (h : KAt w b u a v) : b < w.heap.size := World.block_lt_of_cell? w _ h.unit
theorem KAt.go {w w' : World} {b u a v : Nat} (h : KAt w b u a v) (hb : Below w.heap.size w w') : KAt w' b u a v :=
  ⟨(hb.cell (p := ⟨b, 0, none⟩) h.lt).trans h.unit, (hb.cell (p := ⟨b, 1, none⟩) h.lt).trans h.accel, (hb.cell (p := ⟨b, 2, none⟩) h.lt).trans h.speed⟩

def cutS (s : Int) (v : Nat) : Nat := (min (max s 0) v).toNat
theorem cutS_le (s : Int) (v : Nat) : cutS s v ≤ v := by unfold cutS; omega
theorem cutS_nat {s v : Nat} (h : s ≤ v) : cutS s v = s := by unfold cutS; omega
set_option maxHeartbeats 1000000 in
theorem brake_any (b u a v : Nat) (s : Int) (w : World) (h : KAt w b u a v) (ha : 1 ≤ a) (ha2 : a ≤ 1000) (hv : v ≤ 1000) :
    Calls Tryz.prog 109 #[.pointer (some ⟨b, 0, none⟩), .int .i64 s] w fun e w' => e = .returned (.int .i64 (brk a (cutS s v))) ∧ Below w.heap.size w w' := by
  obtain ⟨h0, h1, h2⟩ := h
  have hc := cutS_le s v
  have HB : Hid (∀ t, t ≤ cutS s v → brk a t ≤ 1000000) := fun t ht => by have := brk_bound ha (show t ≤ 1000 by omega); omega
  go_enter Tryz.func109, Tryz.ntmps109
  go_wp2
  go_quiet (fail)
  go_wp2
  all_goals
    go_loop [5, 6] (fun far sl => ∃ t f : Nat, t ≤ cutS s v ∧ Hid (f + brk a t = brk a (cutS s v)) ∧ far = .int .i64 f ∧ sl = .int .i64 ((t : Int) - a)) (fun _ sl => (intOf sl).toNat)
    case atStart => exact ⟨cutS s v, 0, Nat.le_refl _, Nat.zero_add _, rfl, congrArg (Value.int IntKind.i64) (by unfold cutS; first | omega | (split at * <;> omega))⟩
    case round =>
      obtain ⟨t, f, ht, hf, rfl, rfl⟩ := hrel
      have hB := HB.out t ht
      have hB0 := HB.out (cutS s v) (Nat.le_refl _)
      have hfb : f ≤ 1000000 := by have := hf.out; omega
      clear hB hB0 HB
      by_cases hlt : a < t
      · have HS : Hid (brk a t = (t - a) + brk a (t - a)) := brk_big ha hlt
        go_wp2
        go_round
        case rel => exact ⟨t - a, f + (t - a), by omega, by have := HS.out; have := hf.out; unfold Hid; omega, by go_num, by go_num⟩
        case measure => simp [intOf]; omega
      · have hs0 : Hid (brk a t = 0) := brk_small (by omega)
        go_wp2
        go_ret
        exact ⟨ret_int (by have := hs0.out; have := hf.out; omega), by first | exact below_drewN (Below.refl _ _) _ | exact Below.refl _ _⟩
set_option maxHeartbeats 1000000 in
/- The next speed. -/
theorem next_any (b u a v : Nat) (left fast : Nat) (w : World) (h : KAt w b u a v) (ha : 1 ≤ a) (ha2 : a ≤ 1000) (hv : v ≤ 1000) (hl : 1 ≤ left) (hl2 : left ≤ 2000000) (hf : 1 ≤ fast) (hf2 : fast ≤ v) :
    Calls Tryz.prog 124 #[.pointer (some ⟨b, 0, none⟩), .int .i64 left, .int .i64 fast] w fun e w' => e = .returned (.int .i64 (nxt a left fast)) ∧ Below w.heap.size w w' := by
  have cB := fun (s : Int) (w1 : World) (hb : Below w.heap.size w w1) => brake_any b u a v s w1 (h.go hb) ha ha2 hv
  go_enter Tryz.func124, Tryz.ntmps124
  go_wp2
  all_goals
    go_loopw [7] (fun q wr => ∃ x : Nat, 1 ≤ x ∧ x ≤ min fast left ∧ Hid (down a left x = nxt a left fast) ∧ q = .int .i64 x ∧ Below w.heap.size w wr) (fun q wr => (intOf q).toNat)
    case atStart => exact ⟨min fast left, by omega, Nat.le_refl _, rfl, congrArg (Value.int IntKind.i64) (by omega), Below.refl _ _⟩
    case round =>
      obtain ⟨x, hx1, hx2, hd, rfl, hb⟩ := hrel
      have e : cutS (x : Int) v = x := cutS_nat (by omega)
      have cB1 := cB x wr hb
      rw [e] at cB1
      have hbb : brk a x ≤ 1000000 := by have := brk_bound ha (show x ≤ 1000 by omega); omega
      clear cB e
      by_cases hlt : left - x < brk a x
      · have hx0 : 2 ≤ x := by
          by_cases h1 : x = 1
          · rw [h1, brk_small (by omega)] at hlt; omega
          · omega
        have hz : ((left : Int) - x < brk a x) := by omega
        have HD : Hid (down a left x = down a left (x - 1)) := by
          have e2 : x = (x - 1) + 1 := by omega
          have := down_no (a := a) (left := left) (q := x - 1) (by rw [← e2]; exact hlt)
          rw [← e2] at this
          exact this
        go_wp2_with (go_at_call 109; refine cB1.mono ?_; rintro e w' ⟨rfl, hb2⟩)
        go_roundw
        case rel => exact ⟨x - 1, by omega, by omega, by have := HD.out; have := hd.out; unfold Hid; rw [← HD.out]; exact hd.out, by go_num, bcat hb hb2⟩
        case measure => simp [intOf]; omega
      · have hz : ¬ ((left : Int) - x < brk a x) := by omega
        have HD : Hid (down a left x = x) := down_yes (by omega)
        go_wp2_with (go_at_call 109; refine cB1.mono ?_; rintro e w' ⟨rfl, hb2⟩)
        go_ret
        exact ⟨ret_int (by rw [← hd.out, HD.out]), bcat hb hb2⟩
theorem steps_any (b : Nat) (left s rise : Int) (w : World) : Calls Tryz.prog 110 #[.pointer (some ⟨b, 0, none⟩), .int .i64 left, .int .i64 s, .int .i64 rise] w fun e w' =>
    e = .returned (.func (.func 123) #[] #[.pointer (some ⟨w.heap.size + 1, 0, none⟩), .pointer (some ⟨w.heap.size + 2, 0, none⟩), .pointer (some ⟨w.heap.size, 0, none⟩), .pointer (some ⟨w.heap.size + 3, 0, none⟩)]) ∧
    w' = (((w.alloc (.cells #[.pointer (some ⟨b, 0, none⟩)] 58)).alloc (.cells #[.int .i64 left] 3)).alloc (.cells #[.int .i64 s] 3)).alloc (.cells #[.int .i64 rise] 3) := by
  have hmf : ∀ (fn : Fn) (first cap : Array Value) (w : World), (Instr.makeFunc fn first cap).run Tryz.prog w = .ok (.func fn first cap) w := fun _ _ _ _ => rfl
  go_enter Tryz.func110, Tryz.ntmps110
  go_wp2
  go_ret
  exact ⟨rfl, rfl⟩
end Go.Proofs.YtedhoghleelhfaaGreat.Kin
namespace Go.Proofs.YtedhoghleelhfaaGreat.Kin
set_option linter.unusedVariables false
set_option linter.unusedSimpArgs false
open Go Go.RowKit Go.Shelf Go.Proofs

attribute [local go_sem] Oper.semAt_some

/- A world of a class. -/
structure Cls (S : World → Prop) : Type where
  w : World
  h : S w
theorem wp_region_cls {P : Program} (S : World → Prop) {id : Nat} {Q : Exit → Act → World → Prop} {a : Act} {w : World} {l : List Oper} (hm : P.follows .mixedOrders = true) (hB : Region.lexB .any l.toArray = true)
    (hS : S w.drew) (h : wpQuiet P l.toArray (fun w' => ∃ u : Cls S, w' = u.w) (fun a' => ∀ w', (∃ u : Cls S, w' = u.w) → Q .normal a' w') l a) : (Code.region id l.toArray true).wp P Q a w :=
  wp_region_quiet (C := fun w' => ∃ u : Cls S, w' = u.w) hm hB ⟨⟨_, hS⟩, rfl⟩ h
theorem cls_call {P : Program} {f : FuncId} {args : Array Value} {S : World → Prop} {u : Cls S} {v : Value} {R : World → Prop}
    (h : Calls P f args u.w fun e w' => e = .returned v ∧ R w') (hR : ∀ w', R w' → S w') : Calls P f args u.w fun e w' => e = .returned v ∧ ∃ u' : Cls S, w' = u'.w :=
  h.mono fun _ w' ⟨he, hw⟩ => ⟨he, ⟨w', hR w' hw⟩, rfl⟩

theorem grown_of_below {w w' : World} (h : Below w.heap.size w w') : w.grownBy w' none := ⟨h.os, h.tape, h.output, h.size, fun k hk _ => h.block k hk⟩
theorem cell_block {w w' : World} {p : Addr} (h : w'.heap[p.block]? = w.heap[p.block]?) : w'.cell? p = w.cell? p := by unfold World.cell?; rw [h]

abbrev Spd : Type := { q : Nat // 1 ≤ q ∧ q ≤ 1000 }
def encq (q : Spd) : Array Value := #[.int .i64 (q.1 : Nat)]
/- What a round leaves: the Kin's numbers, two boxes. -/
structure Kp (b Bk Br : Nat) (W W' : World) : Prop where
  kin : ∀ o, o < 3 → W'.cell? ⟨b, o, none⟩ = W.cell? ⟨b, o, none⟩
  k : W'.heap[Bk]? = W.heap[Bk]?
  r : W'.heap[Br]? = W.heap[Br]?
theorem Kp.trans {b Bk Br : Nat} {A B C : World} (h : Kp b Bk Br A B) (h' : Kp b Bk Br B C) : Kp b Bk Br A C := ⟨fun o ho => (h'.kin o ho).trans (h.kin o ho), h'.k.trans h.k, h'.r.trans h.r⟩
theorem KAt.kp {b u a v Bk Br : Nat} {W W' : World} (h : KAt W b u a v) (k : Kp b Bk Br W W') : KAt W' b u a v :=
  ⟨(k.kin 0 (by omega)).trans h.unit, (k.kin 1 (by omega)).trans h.accel, (k.kin 2 (by omega)).trans h.speed⟩

set_option maxRecDepth 100000 in
set_option maxHeartbeats 2000000 in
theorem steps1_in (n l b u a v Bk Bl Bs Br left s rise : Nat) (ha : 1 ≤ a) (ha2 : a ≤ 1000) (hv1 : 1 ≤ v) (hv : v ≤ 1000) (hs : 1 ≤ s + rise) (hs2 : s ≤ 1000) (hr2 : rise ≤ 1000) (hl2 : left ≤ 2000000)
    (J Jx : List Spd → World → Prop) (W : World) (hJ : AbidesFrom W.heap.size J) (N : Nat) (hN : (runs a v rise left s).length ≤ N)
    (hY : ∀ pre q W1, J pre W1 → pre.length < N → YieldAt Fence.wide (n - 1) Tryz.prog l (encq q) W1 fun e W' =>
      (e = .returned (.bool true) ∧ J (pre ++ [q]) W' ∧ Kp b Bk Br W1 W') ∨ (e = .returned (.bool false) ∧ Jx (pre ++ [q]) W'))
    (hn : 1 ≤ n) (hK : KAt W b u a v) (hBk : Boxed W Bk 58 (.pointer (some ⟨b, 0, none⟩))) (hBl : W.cell? ⟨Bl, 0, none⟩ = some (.int .i64 left)) (hBs : W.cell? ⟨Bs, 0, none⟩ = some (.int .i64 s)) (hBr : Boxed W Br 3 (.int .i64 rise)) (h0 : J [] W) :
    CallsIn Fence.wide n Tryz.prog 123 #[.func (.yield l) #[] #[], .pointer (some ⟨Bl, 0, none⟩), .pointer (some ⟨Bs, 0, none⟩), .pointer (some ⟨Bk, 0, none⟩), .pointer (some ⟨Br, 0, none⟩)] W fun e W' => (∃ v, e = .returned v) ∧
      ((∃ ys : List Spd, ys.map Subtype.val = runs a v rise left s ∧ J ys W') ∨ (∃ pre : List Spd, True ∧ Jx pre W')) := by
  refine callsIn_of_wp Tryz.func123 rfl trivial ?_ rfl
  simp only [Tryz.ntmps123, List.size_toArray, List.length_cons, List.length_nil, Nat.reduceAdd, Nat.reduceSub, Array.replicate_succ, Array.replicate_zero, List.push_toArray, List.append_toArray, List.nil_append, List.cons_append]
  gi_wp2
  refine wpIn_wide.2 ?_
  refine wp_region_cls (fun w' => Below W.heap.size W w') (by kernel_rfl) (by kernel_rfl) (Below.refl _ _).drew ?_
  have cl : ∀ u : Cls (fun w' => Below W.heap.size W w'), u.w.cell? ⟨Bl, 0, none⟩ = some (.int .i64 left) := fun u => (u.h.cell (p := ⟨Bl, 0, none⟩) (World.block_lt_of_cell? W _ hBl)).trans hBl
  have cs : ∀ u : Cls (fun w' => Below W.heap.size W w'), u.w.cell? ⟨Bs, 0, none⟩ = some (.int .i64 s) := fun u => (u.h.cell (p := ⟨Bs, 0, none⟩) (World.block_lt_of_cell? W _ hBs)).trans hBs
  have ne : Nonempty (Cls (fun w' => Below W.heap.size W w')) := ⟨⟨W, Below.refl _ _⟩⟩
  repeat (go_big_quiet_step (fail))
  refine wpQuiet_nil ?_
  rintro V ⟨⟨_, hV⟩, rfl⟩
  have hJ0 := hJ _ _ _ none h0 (grown_of_below hV) (by intro r e; cases e)
  have hK0 := hK.go hV
  have k0 : Boxed V Bk 58 (.pointer (some ⟨b, 0, none⟩)) := (hV.block _ hBk.lt).trans hBk
  have r0 : Boxed V Br 3 (.int .i64 rise) := (hV.block _ hBr.lt).trans hBr
  clear cl cs ne
  gi_wp2
  gi_loopw [6, 7] (fun p q wr => ∃ (pre : List Spd) (l1 s1 : Nat), p = .int .i64 l1 ∧ q = .int .i64 s1 ∧ l1 ≤ left ∧ 1 ≤ s1 + rise ∧ s1 ≤ 1000 ∧ Hid (pre.map Subtype.val ++ runs a v rise l1 s1 = runs a v rise left s) ∧ J pre wr ∧ KAt wr b u a v ∧ Hid (Boxed wr Bk 58 (.pointer (some ⟨b, 0, none⟩)) ∧ Boxed wr Br 3 (.int .i64 rise)))
    (fun p q wr => (intOf p).toNat)
  case atStart => exact ⟨[], left, s, rfl, rfl, Nat.le_refl _, hs, hs2, rfl, hJ0, hK0, k0, r0⟩
  case round =>
    obtain ⟨pre, l1, s1, rfl, rfl, hl1, hs1, hs3, HR, hJ1, hK1, HB⟩ := hrel
    by_cases hz : l1 = 0
    · subst hz
      have e := HR.out
      rw [runs_nil, List.append_nil] at e
      have HE : Hid (pre.map Subtype.val = runs a v rise left s) := e
      clear e HR
      gi_wp2
      go_end0
      exact ⟨⟨_, rfl⟩, .inl ⟨pre, HE.out, hJ1⟩⟩
    · have st := step_of (a := a) (v := v) (rise := rise) (left := l1) (s := s1) ha hv1 (by omega) hs1
      have er := runs_cons (a := a) (v := v) (rise := rise) (left := l1) (s := s1) ha hv1 (by omega) hs1
      obtain ⟨q, hq⟩ : ∃ q, nxt a l1 (min (s1 + rise) v) = q := ⟨_, rfl⟩
      have cN := fun (w1 : World) (hb : Below wr.heap.size wr w1) => next_any b u a v l1 (min (s1 + rise) v) w1 (hK1.go hb) ha ha2 hv (by omega) (by omega) (by omega) (by omega)
      rw [hq] at st er cN
      have hq1 := st.pos
      have hqs := st.rises
      have hqv := st.top
      have hql := st.le
      have HQ : Hid (pre.map Subtype.val ++ (q :: runs a v rise (l1 - q) q) = runs a v rise left s) := by rw [← er]; exact HR.out
      have hlen : pre.length < N := by
        have := congrArg List.length HQ.out
        simp at this
        omega
      have cN' : ∀ (w1 : World), Below wr.heap.size wr w1 → Calls Tryz.prog 124 #[.pointer (some ⟨b, 0, none⟩), .int .i64 l1, .int .i64 (if (v : Int) < (s1 : Int) + (rise : Int) then (v : Int) else (s1 : Int) + (rise : Int))] w1 fun e w' => e = .returned (.int .i64 q) ∧ Below w1.heap.size w1 w' := by
        intro w1 hb
        have := cN w1 hb
        have em : ((min (s1 + rise) v : Nat) : Int) = if (v : Int) < (s1 : Int) + (rise : Int) then (v : Int) else (s1 : Int) + (rise : Int) := by split <;> omega
        rw [em] at this
        exact this
      clear st er cN hq HR
      have lk := HB.out.1.cell
      have lr := HB.out.2.cell
      have lt1 := HB.out.1.lt
      have lt2 := HB.out.2.lt
      have lt3 := hK1.lt
      have l2 := hK1.speed
      have qk : ∀ u : Cls (fun w' => Below wr.heap.size wr w'), u.w.cell? ⟨Bk, 0, none⟩ = some (.pointer (some ⟨b, 0, none⟩)) := fun u => (u.h.cell (p := ⟨Bk, 0, none⟩) lt1).trans lk
      have qr : ∀ u : Cls (fun w' => Below wr.heap.size wr w'), u.w.cell? ⟨Br, 0, none⟩ = some (.int .i64 rise) := fun u => (u.h.cell (p := ⟨Br, 0, none⟩) lt2).trans lr
      have q2 : ∀ u : Cls (fun w' => Below wr.heap.size wr w'), u.w.cell? ⟨b, 2, none⟩ = some (.int .i64 v) := fun u => (u.h.cell (p := ⟨b, 2, none⟩) lt3).trans l2
      have ne : Nonempty (Cls (fun w' => Below wr.heap.size wr w')) := ⟨⟨wr, Below.refl _ _⟩⟩
      gi_wp2
      refine wpIn_wide.2 ?_
      refine wp_region_cls (fun w' => Below wr.heap.size wr w') (by kernel_rfl) (by kernel_rfl) (Below.refl _ _).drew ?_
      repeat (go_big_quiet_step ((go_at_call 124; exact cls_call (cN' _ (Cls.h _)) (fun w' hw => bcat (Cls.h _) hw))))
      refine wpQuiet_nil ?_
      rintro V1 ⟨⟨_, hV1⟩, rfl⟩
      obtain ⟨fn, tmps, assign, body, hyy, hR⟩ := hY pre ⟨q, hq1, by omega⟩ V1 (hJ _ _ _ none hJ1 (grown_of_below hV1) (by intro r e; cases e)) hlen
      simp only [encq] at hyy
      clear qk qr q2 ne cN'
      gi_wp2
      all_goals
        refine hR.mono ?_
        rintro e W3 (⟨rfl, hJ3, hk3⟩ | ⟨rfl, hJx3⟩)
        · gi_wp2
          go_roundw
          case rel =>
            refine ⟨pre ++ [⟨q, hq1, by omega⟩], l1 - q, q, by go_num, rfl, by omega, by omega, by omega, ?_, hJ3, (hK1.go hV1).kp hk3, hk3.k.trans ((hV1.block _ lt1).trans HB.out.1), hk3.r.trans ((hV1.block _ lt2).trans HB.out.2)⟩
            have := HQ.out
            unfold Hid
            rw [← this]
            simp
          case measure => simp [intOf]; omega
        · gi_wp2
          refine bodyPost_ret (results_none rfl _ _ _) rfl ?_
          exact ⟨⟨_, rfl⟩, .inr ⟨pre ++ [⟨q, hq1, by omega⟩], trivial, hJx3⟩⟩
theorem steps_stops (n b u a v Bk Bl Bs Br left s rise : Nat) (ha : 1 ≤ a) (ha2 : a ≤ 1000) (hv1 : 1 ≤ v) (hv : v ≤ 1000) (hs : 1 ≤ s + rise) (hs2 : s ≤ 1000) (hr2 : rise ≤ 1000) (hl2 : left ≤ 2000000) (hn : 1 ≤ n)
    (w : World) (hK : KAt w b u a v) (hBk : Boxed w Bk 58 (.pointer (some ⟨b, 0, none⟩))) (hBl : w.cell? ⟨Bl, 0, none⟩ = some (.int .i64 left)) (hBs : w.cell? ⟨Bs, 0, none⟩ = some (.int .i64 s)) (hBr : Boxed w Br 3 (.int .i64 rise)) :
    SeqStopsK Fence.wide n Tryz.prog 123 #[.pointer (some ⟨Bl, 0, none⟩), .pointer (some ⟨Bs, 0, none⟩), .pointer (some ⟨Bk, 0, none⟩), .pointer (some ⟨Br, 0, none⟩)] encq (Kp b Bk Br) (fun ys => ys.map Subtype.val = runs a v rise left s) (fun pre => True) (runs a v rise left s).length w := by
  intro l J Jx W hW hJ hJx hY h0
  exact steps1_in n l b u a v Bk Bl Bs Br left s rise ha ha2 hv1 hv hs hs2 hr2 hl2 J Jx W hJ _ (Nat.le_refl _) hY hn (hK.go hW) ((hW.block _ hBk.lt).trans hBk)
    ((hW.cell (p := ⟨Bl, 0, none⟩) (World.block_lt_of_cell? w _ hBl)).trans hBl) ((hW.cell (p := ⟨Bs, 0, none⟩) (World.block_lt_of_cell? w _ hBs)).trans hBs) ((hW.block _ hBr.lt).trans hBr) h0
end Go.Proofs.YtedhoghleelhfaaGreat.Kin
namespace Go.Proofs.YtedhoghleelhfaaGreat.Kin
set_option linter.unusedVariables false
set_option linter.unusedSimpArgs false
open Go Go.RowKit Go.Shelf Go.Proofs

theorem disable (w : World) : (callFunc 144 #[]).run Tryz.prog w = .ok (.value (.tuple #[])) w := run_call_mark0 Tryz.func144 (by kernel_rfl) (by kernel_rfl) (by kernel_rfl) .disable (by kernel_rfl) w
theorem enable (w : World) : (callFunc 146 #[]).run Tryz.prog w = .ok (.value (.tuple #[])) w := run_call_mark0 Tryz.func146 (by kernel_rfl) (by kernel_rfl) (by kernel_rfl) .enable (by kernel_rfl) w
theorem acquire (a : Addr) (w : World) : (callFunc 147 #[.pointer (some a)]).run Tryz.prog w = .ok (.value (.tuple #[])) w := run_call_marked Tryz.func147 (by kernel_rfl) (by kernel_rfl) (by kernel_rfl) .acquire (by kernel_rfl) a w
theorem releaseMerge (a : Addr) (w : World) : (callFunc 149 #[.pointer (some a)]).run Tryz.prog w = .ok (.value (.tuple #[])) w := run_call_marked Tryz.func149 (by kernel_rfl) (by kernel_rfl) (by kernel_rfl) .releaseMerge (by kernel_rfl) a w
theorem store_deferred (a : Addr) (x : Value) (u : FrameMode) (w : World) (hc : w.cell? a = some x) (hz : w.frozen? a = false) :
    CallsD Tryz.prog 139 #[.pointer (some a), .bool true] u w fun e u' w' => u' = u ∧ (e = .returned (.tuple #[]) ∧ w' = w.drew.setCell a (.int .u32 1)) := by
  have hc' : w.drew.cell? a = some x := by go_simp
  have hz' : w.drew.frozen? a = false := by go_simp
  have hst := run_call_store (P := Tryz.prog) Tryz.func142 (by kernel_rfl) (by kernel_rfl) (by kernel_rfl) (by kernel_rfl) (k := .u32) (y := 1) hc' hz'
  go_enter_d Tryz.func139, Tryz.ntmps139
  go_wp2
  go_region_calls
  all_goals (go_end0; exact ⟨rfl, rfl⟩)
set_option maxRecDepth 100000 in
theorem unlock_deferred (a : Addr) (u : FrameMode) (w : World) (hc : w.cell? a = some (.int .i32 1)) (hz : w.frozen? a = false) :
    CallsD Tryz.prog 138 #[.pointer (some a)] u w fun e u' w' => u' = u ∧ (e = .returned (.tuple #[]) ∧ w' = w.setCell a (.int .i32 0)) := by
  have hd := disable
  have he := enable
  have hr := releaseMerge
  have hadd := run_call_add (P := Tryz.prog) Tryz.func150 (by kernel_rfl) (by kernel_rfl) (by kernel_rfl) .i32 (by kernel_rfl) (y := -1) (s := 0) hc hz (by simp [go_sem]; rfl)
  have hcv := run_convert_to_unsafe (P := Tryz.prog) (src := 192) (dst := 196) Tryz.underlying192 Tryz.underlying196 (by kernel_rfl) hc
  go_enter_d Tryz.func138, Tryz.ntmps138
  go_wp2
  go_end0
  go_wp2
  go_end0
  exact ⟨rfl, rfl⟩
set_option maxRecDepth 100000 in
theorem lock_free (a : Addr) (w : World) (hc : w.cell? a = some (.int .i32 0)) (hz : w.frozen? a = false) :
    Calls Tryz.prog 137 #[.pointer (some a)] w fun e w' => e = .returned (.tuple #[]) ∧ w' = w.setCell a (.int .i32 1) := by
  have hd := disable
  have he := enable
  have ha := acquire
  have hcas := run_call_cas_hit (P := Tryz.prog) Tryz.func145 (by kernel_rfl) (by kernel_rfl) (by kernel_rfl) .i32 (by kernel_rfl) (y := 1) hc hz
  have hc' : (w.setCell a (.int .i32 1)).cell? a = some (.int .i32 1) := World.cell?_setCell_same w a _ hc
  have hcv := run_convert_to_unsafe (P := Tryz.prog) (src := 192) (dst := 196) Tryz.underlying192 Tryz.underlying196 (by kernel_rfl) hc'
  go_enter Tryz.func137, Tryz.ntmps137
  go_wp2
  first | go_end0 | (simp only [Exit.inBlock, Exit.then]; refine bodyPost_ret (results_none rfl _ _ _) rfl ?_) | refine bodyPost_ret (results_none rfl _ _ _) rfl ?_
  go_wp2
  go_end0
  exact ⟨rfl, rfl⟩
set_option maxRecDepth 100000 in
set_option maxHeartbeats 1600000 in
theorem slow_any (b off : Nat) (p1 p2 p3 : Value) (w : World) (R : World → Prop)
    (h0 : w.cell? ⟨b, off, none⟩ = some (.int .u32 0)) (h1 : w.cell? ⟨b, off + 1, none⟩ = some (.int .i32 0)) (f1 : w.frozen? ⟨b, off + 1, none⟩ = false)
    (hF : Calls Tryz.prog 132 #[p1, p2, p3] (w.setCell ⟨b, off + 1, none⟩ (.int .i32 1)) fun e w' => e = .returned (.tuple #[]) ∧ R w')
    (hR : ∀ w', R w' → w'.cell? ⟨b, off, none⟩ = some (.int .u32 0) ∧ w'.cell? ⟨b, off + 1, none⟩ = some (.int .i32 1) ∧ w'.frozen? ⟨b, off, none⟩ = false ∧ w'.frozen? ⟨b, off + 1, none⟩ = false) :
    Calls Tryz.prog 135 #[.pointer (some ⟨b, off, none⟩), .func (.func 132) #[] #[p1, p2, p3]] w fun e w' => e = .returned (.tuple #[]) ∧
      ∃ w1, R w1 ∧ w' = (w1.drew.setCell ⟨b, off, none⟩ (.int .u32 1)).setCell ⟨b, off + 1, none⟩ (.int .i32 0) := by
  have hl := run_call_load (P := Tryz.prog) Tryz.func136 (by kernel_rfl) (by kernel_rfl) (by kernel_rfl) .u32 (by kernel_rfl) (w := w.setCell ⟨b, off + 1, none⟩ (.int .i32 1)) (a := ⟨b, off, none⟩) (x := 0) ((World.cell?_setCell_other _ ⟨b, off + 1, none⟩ ⟨b, off, none⟩ _ (by simp)).trans h0)
  have hnot : ∀ (x : Bool) (w : World), (Op.unary .not (.bool x)).run Tryz.prog w = .ok (.bool (!x)) w := fun _ _ => rfl
  go_enter_defers Tryz.func135, Tryz.ntmps135
  go_wp2_with (first | (go_at_call 132; refine hF.mono ?_; rintro e w1 ⟨rfl, hw1⟩) | (go_at_call 137; refine (lock_free ⟨b, off + 1, none⟩ _ (by go_simp) (by go_simp)).mono ?_; rintro e w' ⟨rfl, rfl⟩) | (go_at_call 134; go_in))
  go_wp2
  obtain ⟨g0, g1, z0, z1⟩ := hR _ hw1
  refine leaves_cons (f := 139) (args := #[.pointer (some ⟨b, off, none⟩), .bool true]) (by simp) (by simp [go_sem]) ?_
  refine (store_deferred ⟨b, off, none⟩ (.int .u32 0) .returning _ g0 z0).mono ?_
  rintro e u' w'' ⟨rfl, rfl, rfl⟩
  refine leaves_cons (f := 138) (args := #[.pointer (some ⟨b, off + 1, none⟩)]) (by simp [settle]) (by simp [go_sem]) ?_
  refine (unlock_deferred ⟨b, off + 1, none⟩ _ _ ?_ (by simp [z1])).mono ?_
  · refine (World.cell?_setCell_other _ ⟨b, off, none⟩ ⟨b, off + 1, none⟩ _ (by simp)).trans ?_
    rw [World.cell?_drew]
    exact g1
  rintro e u' w'' ⟨rfl, rfl, rfl⟩
  simp [Leaves, settle, results, Tryz.results135]
  exact ⟨w1, hw1, rfl⟩
set_option maxRecDepth 100000 in
set_option maxHeartbeats 1600000 in
theorem do_first (b off : Nat) (p1 p2 p3 : Value) (w : World) (R : World → Prop)
    (h0 : w.cell? ⟨b, off, none⟩ = some (.int .u32 0)) (h1 : w.cell? ⟨b, off + 1, none⟩ = some (.int .i32 0)) (f1 : w.frozen? ⟨b, off + 1, none⟩ = false)
    (hF : Calls Tryz.prog 132 #[p1, p2, p3] (w.setCell ⟨b, off + 1, none⟩ (.int .i32 1)) fun e w' => e = .returned (.tuple #[]) ∧ R w')
    (hR : ∀ w', R w' → w'.cell? ⟨b, off, none⟩ = some (.int .u32 0) ∧ w'.cell? ⟨b, off + 1, none⟩ = some (.int .i32 1) ∧ w'.frozen? ⟨b, off, none⟩ = false ∧ w'.frozen? ⟨b, off + 1, none⟩ = false) :
    Calls Tryz.prog 131 #[.pointer (some ⟨b, off, none⟩), .func (.func 132) #[] #[p1, p2, p3]] w fun e w' => e = .returned (.tuple #[]) ∧
      ∃ w1, R w1 ∧ w' = (w1.drew.setCell ⟨b, off, none⟩ (.int .u32 1)).setCell ⟨b, off + 1, none⟩ (.int .i32 0) := by
  have hl := run_call_load (P := Tryz.prog) Tryz.func136 (by kernel_rfl) (by kernel_rfl) (by kernel_rfl) .u32 (by kernel_rfl) h0
  have hnot : ∀ (x : Bool) (w : World), (Op.unary .not (.bool x)).run Tryz.prog w = .ok (.bool (!x)) w := fun _ _ => rfl
  go_enter Tryz.func131, Tryz.ntmps131
  go_wp2_with (first | (go_at_call 135; refine (slow_any b off p1 p2 p3 _ R h0 h1 f1 hF hR).mono ?_; rintro e w' ⟨rfl, hw'⟩) | (go_at_call 134; go_in))
  go_end0
  exact ⟨rfl, hw'⟩
theorem do_done (a : Addr) (fv : Value) (w : World) (h0 : w.cell? a = some (.int .u32 1)) :
    Calls Tryz.prog 131 #[.pointer (some a), fv] w fun e w' => e = .returned (.tuple #[]) ∧ w' = w := by
  have hl := run_call_load (P := Tryz.prog) Tryz.func136 (by kernel_rfl) (by kernel_rfl) (by kernel_rfl) .u32 (by kernel_rfl) h0
  have hnot : ∀ (x : Bool) (w : World), (Op.unary .not (.bool x)).run Tryz.prog w = .ok (.bool (!x)) w := fun _ _ => rfl
  go_enter Tryz.func131, Tryz.ntmps131
  go_wp2
  go_end0
  exact ⟨rfl, rfl⟩
end Go.Proofs.YtedhoghleelhfaaGreat.Kin
namespace Go.Proofs.YtedhoghleelhfaaGreat.Kin
set_option linter.unusedVariables false
set_option linter.unusedSimpArgs false
open Go Go.RowKit Go.Shelf Go.Proofs

theorem own_form {w : World} {base : Nat} {e : TypeId} {S : Nat} {v : Value} {n : Nat} {xs : List Value} (h : w.ownsRow base e S v n xs) : ∃ a cap, v = .slice a n cap ∧ (a = none → n = 0 ∧ cap = 0) ∧ n ≤ cap ∧ cap ≤ maxLen := by
  rcases h.2 with ⟨rfl, h0⟩ | ⟨g, cap, cur, rfl, hb, hg, hnc, hcm, hcs, htake⟩
  · subst h0; exact ⟨none, 0, rfl, fun _ => ⟨rfl, rfl⟩, Nat.le_refl _, Nat.zero_le _⟩
  · exact ⟨_, cap, rfl, fun h => (by cases h), hnc, hcm⟩
theorem owns_same {w w' : World} {base : Nat} {e : TypeId} {size : Nat} {v : Value} {n : Nat} {xs : List Value} (h : w.ownsRow base e size v n xs) (hb : ∀ k, v.ownBlock = some k → w'.heap[k]? = w.heap[k]?) : w'.ownsRow base e size v n xs := by
  refine ⟨h.1, ?_⟩
  rcases h.2 with hn | ⟨g, cap, cur, rfl, hb', hg, rest⟩
  · exact .inl hn
  · exact .inr ⟨g, cap, cur, rfl, hb', by rw [hb g rfl]; exact hg, rest⟩
theorem owns_go {w w' : World} {base : Nat} {e : TypeId} {size : Nat} {v : Value} {n : Nat} {xs : List Value} (h : w.ownsRow base e size v n xs) (hb : Below w.heap.size w w') : w'.ownsRow base e size v n xs :=
  owns_same h fun k hk => hb.block k (h.lt k hk).2
theorem own_since {w : World} {base : Nat} {e : TypeId} {S : Nat} {v : Value} {n : Nat} {xs : List Value} (h : w.ownsRow base e S v n xs) : ∀ k, v.ownBlock = some k → base ≤ k ∧ k < w.heap.size := fun k hk => h.lt k hk
theorem owns_base {w : World} {b b' : Nat} {e : TypeId} {size : Nat} {v : Value} {n : Nat} {xs : List Value} (hb : b' ≤ b) (h : w.ownsRow b e size v n xs) : w.ownsRow b' e size v n xs := by
  refine ⟨h.1, ?_⟩
  rcases h.2 with hn | ⟨g, cap, cur, rfl, hb', rest⟩
  · exact .inl hn
  · exact .inr ⟨g, cap, cur, rfl, by omega, rest⟩
/- The operation of that number: it comes written out. -/
def nth : List Oper → Nat → Option Oper
  | [], _ => none
  | o :: _, 0 => some o
  | _ :: l, n + 1 => nth l n
theorem nth_eq : ∀ (l : List Oper) (i : Nat), l.toArray[i]? = nth l i
  | [], _ => rfl
  | o :: l, 0 => by simp [nth]
  | o :: l, n + 1 => by
    have := nth_eq l n
    simp only [List.getElem?_toArray] at this ⊢
    rw [List.getElem?_cons_succ, this]
    rfl
theorem start_held {P : Program} {S : World → Prop} {Q : Exit → Act → World → Prop} {id : Nat} {a : Act} {w : World} {l : List Oper} (N : Nat) (hN : l.length = N) (hm : P.follows .mixedOrders = true)
    (hS : S w.drew) (h : wpAnyH P .any l.toArray Q S N (Array.replicate N false) a w.drew) : (Code.region id l.toArray true).wp P Q a w := by
  subst hN
  exact wp_region_held_drew (S := S) hm hS fun _ => by simpa using h
theorem take_held {P : Program} {S : World → Prop} {Q : Exit → Act → World → Prop} {md : Region.Mode} {l : List Oper} (i : Nat) {oi : Oper} {v : Value} {fuel : Nat} {listed : Array Bool} {a : Act} {w : World} (hS : S w) (hi : nth l i = some oi)
    (hs : Region.noSelect l.toArray = true) (hf : Region.free md l.toArray listed i = true) (hr : (Region.ready md l.toArray listed).contains i = true) (hQ : ∀ c a w, Q (.panic c) (a.put oi.dst v) w → Q (.panic c) a w)
    (hw : Region.wanted oi (yielded l.toArray a.tmps) = true) (hy : ∀ w, S w → (execOp a.eval oi).run P w = .ok (.value v) w)
    (h : wpAnyH P md l.toArray Q S fuel (listed.setIfInBounds i true) (a.put oi.dst v) w) : wpAnyH P md l.toArray Q S (fuel + 1) listed a w :=
  wpAnyH_take ((nth_eq l i).trans hi) hs hf hr hQ (Or.inl ⟨hw, hy⟩) hS h
theorem tkq {P : Program} {S : World → Prop} {Q : Exit → Act → World → Prop} {md : Region.Mode} {l : List Oper} (i : Nat) {oi : Oper} {v : Value} {fuel : Nat} {listed : Array Bool} {a a' : Act} {w : World} (hS : S w) (h : wpAnyH P md l.toArray Q S fuel (listed.setIfInBounds i true) a' w)
    (hi : nth l i = some oi := by rfl) (hy : ∀ w, S w → (execOp a.eval oi).run P w = .ok (.value v) w := by (intro u hu; go_simp; try rfl)) (ha : a.put oi.dst v = a' := by (simp only [Act.put, List.setIfInBounds_toArray, List.set_cons_zero, List.set_cons_succ]; try rfl))
    (hs : Region.noSelect l.toArray = true := by kernel_rfl) (hf : Region.free md l.toArray listed i = true := by kernel_rfl) (hr : (Region.ready md l.toArray listed).contains i = true := by kernel_rfl)
    (hQ : ∀ c a w, Q (.panic c) (a.put oi.dst v) w → Q (.panic c) a w := by exact fun _ _ _ h => h) (hw : Region.wanted oi (yielded l.toArray a.tmps) = true := by kernel_rfl) : wpAnyH P md l.toArray Q S (fuel + 1) listed a w :=
  take_held i hS hi hs hf hr hQ hw hy (ha ▸ h)
theorem tkf {P : Program} {S : World → Prop} {Q : Exit → Act → World → Prop} {md : Region.Mode} {l : List Oper} (i : Nat) {oi : Oper} {v : Value} {fuel : Nat} {listed : Array Bool} {a a' : Act} {w : World} (hS : S w) (hi : nth l i = some oi) (hy : ∀ w, S w → (execOp a.eval oi).run P w = .ok (.value v) w) (h : wpAnyH P md l.toArray Q S fuel (listed.setIfInBounds i true) a' w)
    (ha : a.put oi.dst v = a' := by (simp only [Act.put, List.setIfInBounds_toArray, List.set_cons_zero, List.set_cons_succ]; try rfl))
    (hs : Region.noSelect l.toArray = true := by kernel_rfl) (hf : Region.free md l.toArray listed i = true := by kernel_rfl) (hr : (Region.ready md l.toArray listed).contains i = true := by kernel_rfl)
    (hQ : ∀ c a w, Q (.panic c) (a.put oi.dst v) w → Q (.panic c) a w := by exact fun _ _ _ h => h) (hw : Region.wanted oi (yielded l.toArray a.tmps) = true := by kernel_rfl) : wpAnyH P md l.toArray Q S (fuel + 1) listed a w :=
  take_held i hS hi hs hf hr hQ hw hy (ha ▸ h)
/- One operation that stands alone and writes. -/
theorem store_held {P : Program} {S : World → Prop} {Q : Exit → Act → World → Prop} {md : Region.Mode} {l : List Oper} (i : Nat) {o : Oper} {fuel : Nat} {listed : Array Bool} {a : Act} {w : World} (hi : nth l i = some o)
    (hr : Region.ready md l.toArray listed = [i]) (hw : Region.wanted o (yielded l.toArray a.tmps) = true) (w' : World) (hrun : (execOp a.eval o).run P w = .ok .skip w') (hS : S w')
    (h : wpAnyH P md l.toArray Q S fuel (listed.setIfInBounds i true) (a.put o.dst undef) w') : wpAnyH P md l.toArray Q S (fuel + 1) listed a w := by
  refine wpAnyH_ready hr (by simp) (AllReadyH.cons ((nth_eq l i).trans hi) ?_ AllReadyH.nil)
  intro K' hK
  rw [if_pos hw]
  unfold Oper.wp
  rw [hrun]
  exact hK.out _ _ hS fun _ => h
theorem done_held {P : Program} {S : World → Prop} {Q : Exit → Act → World → Prop} {md : Region.Mode} {l : List Oper} {listed : Array Bool} {a : Act} {w : World} (hr : Region.ready md l.toArray listed = []) (h : Q .normal a w) (fuel : Nat) : wpAnyH P md l.toArray Q S fuel listed a w :=
  wpAnyH_done hr h fuel

theorem run_store_op {o : Oper} {a : Act} {w w' : World} (ty : TypeId) (x y : Operand) (ho : o.op = .store ty x y) (g : Nat) (cells : Array Value) (hx : a.eval x = .pointer (some ⟨g, 0, none⟩)) (hy : a.eval y = .agg cells)
    (h : (storeVar ty ⟨g, 0, none⟩ (.agg cells)).run Tryz.prog w = .ok () w') : (execOp a.eval o).run Tryz.prog w = .ok .skip w' := by
  unfold execOp
  simp only [ho, hx, hy, Instr.storeAt, Instr.sureAddr, Sem.run_bind, Sem.run_pure, Result.andThen_ok, h]
theorem skip_held {P : Program} {S : World → Prop} {Q : Exit → Act → World → Prop} {md : Region.Mode} {l : List Oper} (i : Nat) {oi : Oper} {fuel : Nat} {listed : Array Bool} {a : Act} {w : World} (hS : S w) (hi : nth l i = some oi)
    (hs : Region.noSelect l.toArray = true) (hf : Region.free md l.toArray listed i = true) (hr : (Region.ready md l.toArray listed).contains i = true) (hQ : ∀ c a w, Q (.panic c) (a.put oi.dst undef) w → Q (.panic c) a w)
    (hw : Region.wanted oi (yielded l.toArray a.tmps) = false)
    (h : wpAnyH P md l.toArray Q S fuel (listed.setIfInBounds i true) (a.put oi.dst undef) w) : wpAnyH P md l.toArray Q S (fuel + 1) listed a w :=
  wpAnyH_take ((nth_eq l i).trans hi) hs hf hr hQ (Or.inr ⟨hw, rfl⟩) hS h
theorem skq {P : Program} {S : World → Prop} {Q : Exit → Act → World → Prop} {md : Region.Mode} {l : List Oper} (i : Nat) {oi : Oper} {fuel : Nat} {listed : Array Bool} {a a' : Act} {w : World} (hS : S w) (h : wpAnyH P md l.toArray Q S fuel (listed.setIfInBounds i true) a' w)
    (hi : nth l i = some oi := by rfl) (ha : a.put oi.dst undef = a' := by (simp only [Act.put, List.setIfInBounds_toArray, List.set_cons_zero, List.set_cons_succ]; try rfl))
    (hs : Region.noSelect l.toArray = true := by kernel_rfl) (hf : Region.free md l.toArray listed i = true := by kernel_rfl) (hr : (Region.ready md l.toArray listed).contains i = true := by kernel_rfl)
    (hQ : ∀ c a w, Q (.panic c) (a.put oi.dst undef) w → Q (.panic c) a w := by exact fun _ _ _ h => h) (hw : Region.wanted oi (yielded l.toArray a.tmps) = false := by kernel_rfl) : wpAnyH P md l.toArray Q S (fuel + 1) listed a w :=
  skip_held i hS hi hs hf hr hQ hw (ha ▸ h)
theorem call_in {P : Program} {S : World → Prop} {Q : Exit → Act → World → Prop} {md : Region.Mode} {l : List Oper} {o : Oper} {fuel : Nat} {listed : Array Bool} {a : Act} {w : World} {E : Prop} {K' : Act → World → Prop} (hK : Shut (∀ a w, S w → (S w → wpAnyH P md l.toArray Q S fuel listed a w) → K' a w))
    (hw : Region.wanted o (yielded l.toArray a.tmps) = true) (f : FuncId) (vals : Array Value) (hrun : (execOp a.eval o).run P w = .ok (.enter f vals) w) (R : Value → World → Prop)
    (hc : Calls P f vals w fun e w' => ∃ v, e = .returned v ∧ R v w') (h : ∀ v w', R v w' → S w' ∧ wpAnyH P md l.toArray Q S fuel listed (a.put o.dst v) w') : if Region.wanted o (yielded l.toArray a.tmps) = true then Oper.wp P o a w K' Q else E := by
  rw [if_pos hw]
  unfold Oper.wp
  rw [hrun]
  refine Calls.mono hc ?_
  rintro e w' ⟨v, rfl, hR⟩
  exact hK.out _ _ (h v w' hR).1 fun _ => (h v w' hR).2
theorem value_in {P : Program} {S : World → Prop} {Q : Exit → Act → World → Prop} {md : Region.Mode} {l : List Oper} {o : Oper} {fuel : Nat} {listed : Array Bool} {a : Act} {w : World} {E : Prop} {K' : Act → World → Prop} (hK : Shut (∀ a w, S w → (S w → wpAnyH P md l.toArray Q S fuel listed a w) → K' a w))
    (hw : Region.wanted o (yielded l.toArray a.tmps) = true) (v : Value) (w' : World) (hrun : (execOp a.eval o).run P w = .ok (.value v) w') (hS : S w') (h : wpAnyH P md l.toArray Q S fuel listed (a.put o.dst v) w') : if Region.wanted o (yielded l.toArray a.tmps) = true then Oper.wp P o a w K' Q else E := by
  rw [if_pos hw]
  unfold Oper.wp
  rw [hrun]
  exact hK.out _ _ hS fun _ => h
theorem skip_in {P : Program} {S : World → Prop} {Q : Exit → Act → World → Prop} {md : Region.Mode} {l : List Oper} {o : Oper} {fuel : Nat} {listed : Array Bool} {a : Act} {w : World} {E : Prop} {K' : Act → World → Prop} (hK : Shut (∀ a w, S w → (S w → wpAnyH P md l.toArray Q S fuel listed a w) → K' a w))
    (hw : Region.wanted o (yielded l.toArray a.tmps) = true) (w' : World) (hrun : (execOp a.eval o).run P w = .ok .skip w') (hS : S w') (h : wpAnyH P md l.toArray Q S fuel listed (a.put o.dst undef) w') : if Region.wanted o (yielded l.toArray a.tmps) = true then Oper.wp P o a w K' Q else E := by
  rw [if_pos hw]
  unfold Oper.wp
  rw [hrun]
  exact hK.out _ _ hS fun _ => h

/- A statement that does not panic. -/
def calm (Q : Exit → Act → World → Prop) : Exit → Act → World → Prop
  | .normal, a, w => Q .normal a w
  | _, _, _ => False
theorem calm_wp {P : Program} {c : Code} {Q : Exit → Act → World → Prop} {a : Act} {w : World} (h : c.wp P (calm Q) a w) : c.wp P Q a w :=
  wp_mono h (fun e a w hq => by cases e <;> first | exact hq | exact hq.elim)
theorem done_calm {P : Program} {S : World → Prop} {Q : Exit → Act → World → Prop} {md : Region.Mode} {l : List Oper} {listed : Array Bool} {a : Act} {w : World} (hr : Region.ready md l.toArray listed = []) (h : Q .normal a w) (fuel : Nat) : wpAnyH P md l.toArray (calm Q) S fuel listed a w :=
  wpAnyH_done (Q := calm Q) hr h fuel
/- Within a round: what holds in every order of the plain walk holds there. -/
def noDefer (l : List Oper) : Bool := l.all fun o => match o.op with
  | .defer _ => false
  | _ => true
theorem noDefer_at {l : List Oper} (h : noDefer l = true) {i : Nat} {o : Oper} (hi : l.toArray[i]? = some o) : ∀ c, o.op ≠ .defer c := by
  intro c hc
  have hm : o ∈ l := by
    rw [List.getElem?_toArray] at hi
    exact List.mem_of_getElem? hi
  have := List.all_eq_true.1 h o hm
  rw [hc] at this
  cases this
theorem op_round {l n : Nat} {P : Program} {o : Oper} {a : Act} {w : World} {K : Act → World → Prop} {Q : Exit → Act → World → Prop} (hd : ∀ c, o.op ≠ .defer c) (h : o.wp P a w K Q) : o.wpIn (Fence.wide.inRound l) n P a w K Q := by
  unfold Oper.wpIn
  refine ⟨fun _ _ => trivial, ?_⟩
  rw [Oper.semAt_plain _ _ _ hd]
  unfold Oper.wp at h
  generalize (execOp a.eval o).run P w = r at *
  cases r with
  | ok x w' =>
    cases x <;> simp only [Oper.upon, Oper.uponIn] at h ⊢ <;>
      first
        | exact h
        | exact ⟨fun hh => (by cases hh), CallsIn.inRound l (callsIn_wide.2 h)⟩
        | exact ⟨fun hh => (by cases hh), fun c cs _ => by obtain ⟨v, w2, q, s⟩ := h c cs; exact ⟨v, w2, q, stepsIn_wide.2 s⟩⟩
        | exact h.elim
  | halt x w' => cases x <;> simp only [Oper.upon, Oper.uponIn] at h ⊢ <;> exact h
theorem any_round {l n : Nat} {P : Program} {md : Region.Mode} {ops : Array Oper} {Q : Exit → Act → World → Prop} (hO : ∀ a w, ¬ Q .outgrown a w) (hd : ∀ (i : Nat) (o : Oper), ops[i]? = some o → ∀ c, o.op ≠ .defer c) : ∀ (fuel : Nat) (listed : Array Bool) (a : Act) (w : World), wpAny P md ops Q fuel listed a w → wpAnyIn (Fence.wide.inRound l) n P md ops Q fuel listed a w
  | 0, _, _, _, h => h
  | fuel + 1, listed, a, w, h => ⟨h.1, fun i hi => by
      have h2 := wpOp_mono (fun a' w' h' => any_round (l := l) (n := n) hO hd fuel _ a' w' h') (h.2 i hi)
      unfold wpOpIn
      unfold wpOp at h2
      cases ho : ops[i]? with
      | none => simpa [ho] using h2
      | some o =>
        simp only [ho] at h2 ⊢
        by_cases hw : Region.wanted o (yielded ops a.tmps) = true
        · rw [if_pos hw] at h2 ⊢
          rcases h2 with h2 | ⟨_, a', w', h3⟩
          · exact op_round (hd i o ho) h2
          · exact (hO a' w' h3).elim
        · rw [if_neg hw] at h2 ⊢
          exact ⟨fun _ _ => trivial, h2⟩⟩
theorem start_round {l n : Nat} {P : Program} {S : World → Prop} {Q : Exit → Act → World → Prop} {id : Nat} {a : Act} {w : World} {ls : List Oper} (N : Nat) (hN : ls.length = N) (hm : P.follows .mixedOrders = true) (hd : noDefer ls = true) (hO : ∀ a w, ¬ Q .outgrown a w)
    (hS : S w.drew) (h : wpAnyH P .any ls.toArray Q S N (Array.replicate N false) a w.drew) : (Code.region id ls.toArray true).wpIn (Fence.wide.inRound l) n P Q a w := by
  subst hN
  refine wpIn_region_any hm (any_round hO (fun i o hi => noDefer_at hd hi) _ _ _ _ ?_)
  have := wpAny_of_held _ _ _ _ h
  simpa using this
end Go.Proofs.YtedhoghleelhfaaGreat.Kin
