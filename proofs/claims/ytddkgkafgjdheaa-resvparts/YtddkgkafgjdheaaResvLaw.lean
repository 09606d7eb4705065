/-
  Claims of one want; lists that are held against each other; a number within bounds.
-/
import Derived.Test.YtddkgkafgjdheaaResvGaps
import Derived.ChangeKeysEq
import Derived.Laws.StructEq
namespace Go.Proofs.Ytddkgkafgjdheaa.Rs
set_option linter.unusedVariables false
set_option linter.unusedSimpArgs false
open Go Go.RowKit Go.Shelf Go.Proofs Hp
attribute [local go_sem] Oper.semAt_some

def place (v n : Int) : Int := if v.tmod n < 0 then v.tmod n + n else v.tmod n
theorem tmod_low (v n : Int) (h : 0 < n) : -n < v.tmod n := by
  by_cases g : 0 ≤ v
  · have := Int.tmod_nonneg n g
    omega
  · have h1 := Int.tmod_lt_of_pos (-v) h
    rw [Int.neg_tmod] at h1
    omega
theorem place_bd (v n : Int) (h : 0 < n) : 0 ≤ place v n ∧ place v n < n := by
  have h2 := Int.tmod_lt_of_pos v h
  have h3 := tmod_low v n h
  unfold place
  split <;> omega
set_option maxHeartbeats 1000000 in
theorem place_any (v n : Int) (w : World) (h0 : 0 < n) (h1 : n ≤ 9223372036854775807) : Calls Try.prog 21 #[.int .i64 v, .int .i64 n] w fun e w' => e = .returned (.int .i64 (place v n)) ∧ w' = w := by
  have h2 := Int.tmod_lt_of_pos v h0
  have h3 := tmod_low v n h0
  have H : Hid (place v n = if v.tmod n < 0 then v.tmod n + n else v.tmod n) := rfl
  generalize place v n = r at *
  by_cases hc : v.tmod n < 0
  all_goals
    go_enter Try.func21, Try.ntmps21
    go_wp2
    go_ret
    exact ⟨ret_int (by rw [H.out]; first | rw [if_pos (by omega)] | rw [if_neg (by omega)]), rfl⟩
theorem with_one {x : Sl} (h : Fit x) : With [] [x] [x] :=
  ⟨⟨List.pairwise_singleton _ _, fun s hs => by rw [List.mem_singleton] at hs; subst hs; exact h⟩, fun t r => by simp [has_nil], by simp⟩
theorem moreOf_one {R f t : Int} {i : Nat} {j : Nat} : moreOf R [⟨(i : Nat), f, t⟩] (j : Nat) = if i = j then [⟨f, t, R⟩] else [] := by
  unfold moreOf
  by_cases h : i = j
  · subst h; simp
  · rw [if_neg h]
    have : ¬ ((i : Int) = (j : Int)) := by omega
    simp [this]
theorem badArg_one {R f t : Int} {i n : Nat} (hR : 0 ≤ R) (hi : i < n) (h : 0 ≤ f ∧ f < t ∧ t ≤ FV) : badArg R [⟨(i : Nat), f, t⟩] n = false := by
  unfold badArg
  have : badW n ⟨(i : Nat), f, t⟩ = false := by
    unfold badW isThere FV at *
    simp
    omega
  simp [this]
  omega
theorem claim_one {R f t : Int} {ls : List (List Sl)} {i : Nat} (hl : OkT ls) (hi : i < ls.length) (hR : 0 ≤ R) (h : 0 ≤ f ∧ f < t ∧ t ≤ FV) {l' : List Sl} (hw : With ls[i] [⟨f, t, R⟩] l') : ClaimR R [⟨(i : Nat), f, t⟩] ls 0 (ls.set i l') := by
  have hb := badArg_one (n := ls.length) hR hi h
  refine ⟨fun q => (by rw [hb] at q; cases q), fun _ ⟨j, hj, hm⟩ => ?_, fun _ _ => ⟨rfl, by rw [List.length_set], fun j h1 h2 => ?_⟩⟩
  · exfalso
    rw [moreOf_one] at hm
    by_cases e : i = j
    · subst e
      rw [if_pos rfl] at hm
      exact hw.no_met (fun s hs => ((hl _ (List.getElem_mem hi)).fit s hs).2.1) (fun s hs => by rw [List.mem_singleton] at hs; subst hs; exact h.2.1) (fun s hs => by rw [List.mem_singleton] at hs; subst hs; rfl) hm
    · rw [if_neg e] at hm
      obtain ⟨_, _, m, hm, _⟩ := hm
      cases hm
  · rw [moreOf_one]
    by_cases e : i = j
    · subst e
      rw [if_pos rfl]
      simp only [List.getElem_set_self]
      exact hw
    · rw [if_neg e, List.getElem_set_ne e]
      exact With.none (hl _ (List.getElem_mem h1))
theorem claim_one_taken {R f t : Int} {ls : List (List Sl)} {i : Nat} (hi : i < ls.length) (hR : 0 ≤ R) (h : 0 ≤ f ∧ f < t ∧ t ≤ FV) (hm : Met ls[i] R [⟨f, t, R⟩]) : ClaimR R [⟨(i : Nat), f, t⟩] ls 18 ls := by
  have hb := badArg_one (n := ls.length) hR hi h
  refine ⟨fun q => (by rw [hb] at q; cases q), fun _ _ => ⟨rfl, rfl⟩, fun _ q => absurd ⟨i, hi, ?_⟩ q⟩
  rw [moreOf_one, if_pos rfl]
  exact hm
theorem bare_ok (n : Nat) : OkT (List.replicate n []) := fun l hl => by rw [List.eq_of_mem_replicate hl]; exact Ok.nil
theorem bare_small (n m : Nat) : Small m (List.replicate n []) := fun l hl => by rw [List.eq_of_mem_replicate hl]; exact Nat.zero_le _
theorem want_row {w : World} {q : Nat} {x : Wn} (c0 : w.cell? ⟨q, 0, none⟩ = some (.int .i64 x.c)) (c1 : w.cell? ⟨q, 1, none⟩ = some (.int .i64 x.f)) (c2 : w.cell? ⟨q, 2, none⟩ = some (.int .i64 x.t)) : RowAt wnL (fun _ => True) w (.slice (some ⟨q, 0, none⟩) 1 1) [x] := by
  refine Or.inr ⟨q, 0, 1, rfl, Nat.le_refl _, by unfold maxLen; omega, fun _ => trivial, fun j u hj => ?_⟩
  rw [Nat.zero_add]
  match j with
  | 0 => cases hj; exact c0
  | 1 => cases hj; exact c1
  | 2 => cases hj; exact c2
  | j + 3 => simp [rowL, wnL] at hj
/- Pairs, and slots, held against each other. -/
theorem infoInt : (Try.prog.info? 3).map (fun i => (i.zero, i.size, i.bytes)) = some (some (.int .i64 0), 1, 8) := by kernel_rfl
theorem part0 (p q : Int) (w : World) : (part 3 #[.int .i64 p, .int .i64 q] 0).run Try.prog w = .ok (.int .i64 p) w := by kernel_rfl
theorem part1 (p q : Int) (w : World) : (part 3 #[.int .i64 p, .int .i64 q] 1).run Try.prog w = .ok (.int .i64 q) w := by kernel_rfl
theorem eq_pr (a b c d : Int) (w : World) : (Op.equalIn 10000 54 (.agg #[.int .i64 a, .int .i64 b]) (.agg #[.int .i64 c, .int .i64 d])).run Try.prog w = .ok (decide ((a, b) = (c, d))) w := by
  obtain ⟨i0, hi, hz0, hz1, hz2⟩ := info_parts infoInt
  rw [run_equalIn_array w 9999 _ _ Try.underlying54 hi]
  have hc : Try.prog.cellsOf 3 = 1 := by kernel_rfl
  rw [hc, show List.range 2 = [0, 1] from rfl]
  simp only [Op.eqItems, Sem.run_bind, Nat.zero_mul, Nat.one_mul, part0, part1, Result.andThen_ok, run_equalIn_int w 9998 3 .i64 .i64 _ _ Try.underlying3, Sem.run_pure]
  by_cases h1 : a = c <;> by_cases h2 : b = d <;> simp [h1, h2, part0, part1, Result.andThen, run_equalIn_int w 9998 3 .i64 .i64 _ _ Try.underlying3]
theorem eql_pr (a b c d : Int) (w : World) : (binOp .eql 54 (.agg #[.int .i64 a, .int .i64 b]) (.agg #[.int .i64 c, .int .i64 d])).run Try.prog w = .ok (.bool (decide ((a, b) = (c, d)))) w := by
  rw [run_eql_struct, eq_pr]; rfl
theorem neq_pr (a b c d : Int) (w : World) : (binOp .neq 54 (.agg #[.int .i64 a, .int .i64 b]) (.agg #[.int .i64 c, .int .i64 d])).run Try.prog w = .ok (.bool (!decide ((a, b) = (c, d)))) w := by
  rw [run_neq_struct, eq_pr]; rfl
instance : DecidableEq Sl := fun a b => decidable_of_iff (a.f = b.f ∧ a.t = b.t ∧ a.r = b.r) ⟨fun h => by cases a; cases b; simp_all, fun h => by subst h; exact ⟨rfl, rfl, rfl⟩⟩
theorem sl_eq {a b : Sl} : a = b ↔ a.f = b.f ∧ a.t = b.t ∧ a.r = b.r := ⟨fun h => by subst h; exact ⟨rfl, rfl, rfl⟩, fun h => by cases a; cases b; simp_all⟩
set_option maxRecDepth 100000 in
theorem neq_sl (a b : Sl) (w : World) : (binOp .neq 40 (.agg #[.int .i64 a.f, .int .i64 a.t, .int .i64 a.r]) (.agg #[.int .i64 b.f, .int .i64 b.t, .int .i64 b.r])).run Try.prog w = .ok (.bool (!decide (a = b))) w := by
  have e : decide (a = b) = decide (a.f = b.f ∧ a.t = b.t ∧ a.r = b.r) := by rw [decide_eq_decide]; exact sl_eq
  rw [e]
  by_cases h1 : a.f = b.f <;> by_cases h2 : a.t = b.t <;> by_cases h3 : a.r = b.r <;> (go_simp; try simp [h1, h2, h3])
theorem take_eq_succ {α : Type} {l1 l2 : List α} {i : Nat} (h1 : i < l1.length) (h2 : i < l2.length) (h : l1.take i = l2.take i) (e : l1[i] = l2[i]) : l1.take (i + 1) = l2.take (i + 1) := by
  rw [List.take_succ_eq_append_getElem h1, List.take_succ_eq_append_getElem h2, h, e]
set_option maxRecDepth 100000 in
set_option maxHeartbeats 1000000 in
theorem sameSlots_any (F G : Nat → Prop) (v1 v2 : Value) (l1 l2 : List Sl) (w : World) (h1 : RowAt slL F w v1 l1) (h2 : RowAt slL G w v2 l2) (hm : l1.length ≤ 1000000000) :
    Calls Try.prog 20 #[v1, v2] w fun e w' => e = .returned (.bool (decide (l1 = l2))) ∧ Below w.heap.size w w' := by
  obtain ⟨a1, c1, e1, _⟩ := h1.form
  obtain ⟨a2, c2, e2, _⟩ := h2.form
  have H1 : Hid (RowAt slL F w v1 l1) := h1
  have H2 : Hid (RowAt slL G w v2 l2) := h2
  subst e1
  subst e2
  clear h1 h2
  by_cases hl : l1.length = l2.length
  · have hl' : ((l1.length : Int) != (l2.length : Int)) = false := by simp [hl]
    have HL : Hid (l1.length = l2.length) := hl
    obtain ⟨r, hr⟩ : ∃ r, decide (l1 = l2) = r := ⟨_, rfl⟩
    have HRr : Hid (decide (l1 = l2) = r) := hr
    rw [hr]
    clear hl hr
    go_enter Try.func20, Try.ntmps20
    go_wp2_with fail
    go_loopw [5] (fun s5 wr => ∃ i : Nat, s5 = .int .i64 i ∧ i ≤ l1.length ∧ Hid (l1.take i = l2.take i) ∧ Hid (Below w.heap.size w wr)) (fun s5 _ => l1.length - (intOf s5).toNat)
    case atStart => exact ⟨0, rfl, Nat.zero_le _, by unfold Hid; simp, Below.refl _ _⟩
    case round =>
      obtain ⟨i, rfl, hi, hT, bw⟩ := hrel
      rcases Nat.lt_or_ge i l1.length with hlt | hge
      · have hlt2 : i < l2.length := by rw [← HL.out]; exact hlt
        obtain ⟨g1, o1, k1, x1, p0, p1, p2⟩ := box_item (H1.out.go slL_len bw.out) i hlt
        obtain ⟨g2, o2, k2, x2, q0, q1, q2⟩ := box_item (H2.out.go slL_len bw.out) i hlt2
        cases x1
        cases x2
        have i1 : (i : Int) < (l1.length : Int) := by omega
        have i2 : (i : Int) < (l2.length : Int) := by omega
        have i3 : (i : Int) + 1 ≤ 1000000000 := by omega
        have hn := fun u => neq_sl l1[i] l2[i] u
        have hS : Hid (l1[i] = l2[i] → l1.take (i + 1) = l2.take (i + 1)) := fun e => take_eq_succ hlt hlt2 hT.out e
        have hN : Hid (¬ l1[i] = l2[i] → l1 ≠ l2) := fun e q => e (by subst q; rfl)
        obtain ⟨x, hx⟩ : ∃ x, l1[i] = x := ⟨_, rfl⟩
        obtain ⟨y, hy⟩ : ∃ y, l2[i] = y := ⟨_, rfl⟩
        rw [hx] at p0 p1 p2 hn hS hN
        rw [hy] at q0 q1 q2 hn hS hN
        clear hx hy
        by_cases hxy : x = y
        · have hSS : Hid _ := hS.out hxy
          rw [decide_eq_true hxy] at hn
          clear hxy
          go_wp2_with fail
          go_quiet (fail)
          go_wp2_with fail
          go_roundw
          case measure => simp only [intOf]; omega
          case rel => exact ⟨i + 1, rfl, hlt, hSS, below_drewN bw.out _⟩
        · have hNN : Hid (r = false) := by unfold Hid; rw [← HRr.out]; exact decide_eq_false (hN.out hxy)
          rw [decide_eq_false hxy] at hn
          clear hxy
          go_wp2_with fail
          go_quiet (fail)
          go_wp2
          go_ret
          exact ⟨ret_bool hNN.out.symm, below_drewN bw.out _⟩
      · obtain rfl : i = l1.length := by omega
        have e : l1 = l2 := by have := hT.out; rwa [List.take_length, HL.out, List.take_length] at this
        have hR2 : Hid (r = true) := by unfold Hid; rw [← HRr.out]; exact decide_eq_true e
        clear e
        go_wp2
        go_ret
        exact ⟨ret_bool hR2.out.symm, bw.out⟩
  · have hl' : ((l1.length : Int) != (l2.length : Int)) = true := by simp; omega
    have e : decide (l1 = l2) = false := decide_eq_false (fun e => hl (by rw [e]))
    rw [e]
    clear e hl
    go_enter Try.func20, Try.ntmps20
    go_wp2
    go_ret
    exact ⟨rfl, Below.refl _ _⟩
end Go.Proofs.Ytddkgkafgjdheaa.Rs
