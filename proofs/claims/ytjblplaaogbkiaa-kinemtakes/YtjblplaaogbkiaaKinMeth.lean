/-
  What a Kin answers: Profile, Time, At, Speed, for any run and any tick.
-/
import Derived.Test.YtjblplaaogbkiaaKinAt
import Derived.Lib.AppendZeros
import Derived.Laws.Cover3
namespace Go.Proofs.Ytjblplaaogbkiaa.Kin
set_option linter.unusedVariables false
set_option linter.unusedSimpArgs false
open Go Go.RowKit Go.Shelf Go.Proofs
attribute [local go_sem] Oper.semAt_some

theorem eql_nil (w : World) (t e : TypeId) (a : Option Addr) (l c : Nat) (h : Try.prog.underlying t = some (.slice e)) : (binOp .eql t (.slice a l c) (.slice none 0 0)).run Try.prog w = .ok (.bool a.isNone) w := by
  simp only [binOp]
  simp [run_equal_slice_nil w t e a l c h]
/- Numbers that may be. -/
structure Ok (u a v : Nat) : Prop where
  u1 : 1 ≤ u
  u2 : u ≤ 1000
  a1 : 1 ≤ a
  a2 : a ≤ 1000
  v1 : 1 ≤ v
  v2 : v ≤ 1000
theorem spd_bd {u a v n : Nat} (h : Ok u a v) (hn1 : 1 ≤ n) (hn : n ≤ 16) : 1 ≤ (spd u a v n).length ∧ (spd u a v n).length ≤ 16000 := by
  have h1 := spd_len (u := u) (n := n) h.a1 h.v1
  have h2 := mul_small hn h.u2
  have h3 : 1 ≤ n * u := Nat.mul_pos hn1 h.u1
  refine ⟨?_, by omega⟩
  by_cases h0 : (spd u a v n).length = 0
  · rw [h0, Nat.zero_mul] at h1; omega
  · omega
set_option maxHeartbeats 1000000 in
theorem clone_any (base : Nat) (x : Value) (ps : List Nat) (w : World) (hr : w.ownsRow base 3 1 x ps.length (ints ps)) (hm : ps.length ≤ 16000) :
    Calls Try.prog 35 #[x] w fun e w' => ∃ x', e = .returned x' ∧ w'.ownsRow w.heap.size 3 1 x' ps.length (ints ps) ∧ Below w.heap.size w w' := by
  have hu := fun w a l c => eql_nil w 33 3 a l c Try.underlying33
  obtain ⟨i0, hi, hz0, hz1, hz2⟩ := info_parts infoInt
  rcases hr.2 with ⟨rfl, h0⟩ | ⟨g, cap, cur, rfl, hb, hg, hnc, hcm, hcs, htake⟩
  · obtain rfl : ps = [] := List.eq_nil_of_length_eq_zero h0
    go_enter Try.func35, Try.ntmps35
    go_wp2
    go_ret
    exact ⟨_, rfl, World.ownsRow_nil _ _ _ _, Below.refl _ _⟩
  · have bA : Below w.heap.size w (w.alloc (.cells #[] 3)) := (Below.refl _ _).alloc (Nat.le_refl _) _
    have hrA := owns_go hr bA
    obtain ⟨v6, w6, hrun, o6, g6, _⟩ := run_append_own (P := Try.prog) (w.alloc (.cells #[] 3)) w.heap.size 33 33 3 i0 (.int .i64 0) 1 8 Try.underlying33 hi hz0 hz1 hz2 rfl (by decide) (.slice (some ⟨w.heap.size, 0, none⟩) 0 0) 0 []
      (World.ownsRow_made w #[] 0 (Nat.le_refl _) (by decide) (by decide)) ⟨g, 0, none⟩ ps.length cap (ints ps) (by rw [ints_len]; omega)
      (fun j z hj => by
        have hlt : j < ps.length := by have := (List.getElem?_eq_some_iff.1 hj).1; rw [ints_len] at this; exact this
        rw [Addr.add_lit, Nat.zero_add, hrA.cellAt j (by omega)]
        exact hj)
      (fun z hz => by obtain ⟨q, _, rfl⟩ := List.mem_map.1 hz; rfl) (by unfold maxLen; omega) (by omega) (by simp)
    have bR : Below w.heap.size w w6 := bA.grown g6 (by simp) (by intro k hk; simp [Value.ownBlock] at hk; omega)
    rw [Nat.zero_add, List.nil_append] at o6
    obtain ⟨xa, xc, rfl, _⟩ := own_form o6
    have HO : Hid (w6.ownsRow w.heap.size 3 1 (.slice xa ps.length xc) ps.length (ints ps)) := o6
    clear o6 hrA hg htake hcs hr g6
    generalize hn : ps.length = n at *
    have HN : Hid (ps.length = n) := hn
    clear hn
    go_enter Try.func35, Try.ntmps35
    go_wp2_with (at_builtin; refine Lib.wpList_append_run _ rfl _ _ 33 33 rfl _ _ rfl rfl _ _ hrun ?_)
    go_ret
    exact ⟨_, rfl, HO.out, bR⟩
/- A profile that is asked for: none, if there is no such run. -/
def profI (u a v : Nat) (n : Int) : List Nat := if 1 ≤ n ∧ n ≤ 16 then prof u a v n.toNat else []
theorem profI_in {u a v : Nat} {n : Nat} (h1 : 1 ≤ n) (h2 : n ≤ 16) : profI u a v n = prof u a v n := by unfold profI; rw [if_pos (by omega)]; rfl
theorem profI_out {u a v : Nat} {n : Int} (h : n < 1 ∨ 16 < n) : profI u a v n = [] := by unfold profI; rw [if_neg (by omega)]
theorem profI_len {u a v : Nat} (h : Ok u a v) (n : Int) : (profI u a v n).length ≤ 16000 := by
  by_cases hn : 1 ≤ n ∧ n ≤ 16
  · obtain ⟨m, rfl⟩ := Int.eq_ofNat_of_zero_le (show 0 ≤ n by omega)
    rw [profI_in (by omega) (by omega), prof_len]
    exact (spd_bd h (by omega) (by omega)).2
  · rw [profI_out (by omega)]; simp
set_option maxHeartbeats 1000000 in
/- places, for any number of cells. -/
theorem places_all (b u a v : Nat) (n : Int) (w : World) (h : KinAt w b u a v) (ok : Ok u a v) :
    Calls Try.prog 36 #[.pointer (some ⟨b, 0, none⟩), .int .i64 n] w fun e w' => ∃ x, e = .returned x ∧ w'.ownsRow (b + 1) 3 1 x (profI u a v n).length (ints (profI u a v n)) ∧ KGo b u a v w w' := by
  by_cases hn : 1 ≤ n ∧ n ≤ 16
  · obtain ⟨m, rfl⟩ := Int.eq_ofNat_of_zero_le (show 0 ≤ n by omega)
    rw [profI_in (by omega) (by omega), prof_len]
    exact places_any b u a v m w h ok.u2 ok.a1 ok.a2 ok.v1 ok.v2 (by omega) (by omega)
  · rw [profI_out (by omega)]
    refine (places_none b n (by omega) w).mono ?_
    rintro e w' ⟨rfl, hb⟩
    exact ⟨_, rfl, World.ownsRow_nil _ _ _ _, KGo.below h hb⟩
set_option maxHeartbeats 1000000 in
theorem profile_any (b u a v : Nat) (n : Int) (w : World) (h : KinAt w b u a v) (ok : Ok u a v) :
    Calls Try.prog 19 #[.pointer (some ⟨b, 0, none⟩), .int .i64 n] w fun e w' => ∃ x, e = .returned x ∧ w'.ownsRow w.heap.size 3 1 x (profI u a v n).length (ints (profI u a v n)) ∧ KGo b u a v w w' := by
  have hl := profI_len ok n
  have cP := places_all b u a v n w h ok
  go_enter Try.func19, Try.ntmps19
  go_wp2_with (first | (go_at_call 35; refine (clone_any (b + 1) x _ w1 r1 hl).mono ?_; rintro e w2 ⟨y, rfl, r2, b2⟩) | (go_at_call 36; refine cP.mono ?_; rintro e w1 ⟨x, rfl, r1, g1⟩))
  go_ret
  exact ⟨y, rfl, owns_base g1.grow.size r2, g1.then b2⟩
set_option maxHeartbeats 1000000 in
theorem time_any (b u a v : Nat) (n : Int) (w : World) (h : KinAt w b u a v) (ok : Ok u a v) :
    Calls Try.prog 21 #[.pointer (some ⟨b, 0, none⟩), .int .i64 n] w fun e w' => e = .returned (.int .i64 ((profI u a v n).length : Nat)) ∧ KGo b u a v w w' := by
  have cP := places_all b u a v n w h ok
  generalize hk : (profI u a v n).length = k at *
  generalize ints (profI u a v n) = xs at *
  clear hk
  go_enter Try.func21, Try.ntmps21
  go_wp2_with (go_at_call 36; refine cP.mono ?_; rintro e w1 ⟨x, rfl, r1, g1⟩; obtain ⟨xa, xc, rfl, _⟩ := own_form r1)
  go_ret
  exact ⟨rfl, g1⟩
/- The place behind t ticks. -/
def atI (u a v : Nat) (n t : Int) : Nat := if t < 1 then 0 else ((profI u a v n)[min t.toNat (profI u a v n).length - 1]?).getD 0
theorem atI_low {u a v : Nat} {n t : Int} (h : t < 1) : atI u a v n t = 0 := if_pos h
theorem atI_out {u a v : Nat} {n t : Int} (h : n < 1 ∨ 16 < n) : atI u a v n t = 0 := by unfold atI; rw [profI_out h]; simp
theorem atI_in {u a v : Nat} (ok : Ok u a v) {n : Nat} (h1 : 1 ≤ n) (h2 : n ≤ 16) (t : Nat) : atI u a v n t = pos u a v n t := by
  have hl := spd_bd ok h1 h2
  unfold atI
  rw [profI_in h1 h2, prof_len]
  by_cases ht : t = 0
  · subst ht; rw [if_pos (by omega), pos_zero]
  · rw [if_neg (by omega), Int.toNat_natCast, prof_get (by omega), Option.getD_some]
    by_cases hm : t ≤ (spd u a v n).length
    · congr 1; omega
    · rw [pos_end ok.a1 ok.v1 (by omega), pos_end ok.a1 ok.v1 (by omega)]
set_option maxHeartbeats 1000000 in
theorem at_any (b u a v : Nat) (n t : Int) (w : World) (h : KinAt w b u a v) (ok : Ok u a v) :
    Calls Try.prog 23 #[.pointer (some ⟨b, 0, none⟩), .int .i64 n, .int .i64 t] w fun e w' => e = .returned (.int .i64 (atI u a v n t : Nat)) ∧ KGo b u a v w w' := by
  have cP := places_all b u a v n w h ok
  have hl := profI_len ok n
  by_cases ht : t < 1
  · rw [atI_low ht]
    go_enter Try.func23, Try.ntmps23
    go_wp2_with (go_at_call 36; refine cP.mono ?_; rintro e w1 ⟨x, rfl, r1, g1⟩; obtain ⟨xa, xc, rfl, _⟩ := own_form r1)
    go_ret
    exact ⟨rfl, g1⟩
  · by_cases h0 : (profI u a v n).length = 0
    · have e0 : atI u a v n t = 0 := by unfold atI; rw [List.eq_nil_of_length_eq_zero h0]; simp
      rw [e0]
      rw [h0] at cP
      clear hl h0 e0
      go_enter Try.func23, Try.ntmps23
      go_wp2_with (go_at_call 36; refine cP.mono ?_; rintro e w1 ⟨x, rfl, r1, g1⟩; obtain ⟨xa, xc, rfl, _⟩ := own_form r1)
      go_ret
      exact ⟨rfl, g1⟩
    · obtain ⟨m, hm⟩ : ∃ m, min t.toNat (profI u a v n).length = m + 1 := ⟨min t.toNat (profI u a v n).length - 1, by omega⟩
      have e0 : atI u a v n t = ((profI u a v n)[m]?).getD 0 := by unfold atI; rw [if_neg ht, hm]; rfl
      have hmk : m < (profI u a v n).length := by omega
      obtain ⟨z, hz⟩ : ∃ z, ((profI u a v n)[m]?) = some z := ⟨_, List.getElem?_eq_getElem hmk⟩
      rw [e0, hz, Option.getD_some]
      have hzi : (ints (profI u a v n))[m]? = some (.int .i64 (z : Nat)) := by unfold ints; rw [List.getElem?_map, hz]; rfl
      have HT : Hid ((t.toNat : Int) = t) := by unfold Hid; omega
      have cP' : Calls Try.prog 36 #[.pointer (some ⟨b, 0, none⟩), .int .i64 n] w fun e w' => ∃ g c, e = .returned (.slice (some ⟨g, 0, none⟩) (profI u a v n).length c) ∧ w'.cell? ⟨g, m, none⟩ = some (.int .i64 (z : Nat)) ∧ KGo b u a v w w' := by
        refine cP.mono ?_
        rintro e w' ⟨x, rfl, r1, g1⟩
        rcases r1.2 with ⟨_, q⟩ | ⟨g, c, cur, rfl, _⟩
        · omega
        · exact ⟨g, c, rfl, (r1.cellAt m (by omega)).trans hzi, g1⟩
      clear cP hz hzi e0
      generalize (profI u a v n).length = k at *
      by_cases hlt : (k : Int) < t
      · obtain rfl : k = m + 1 := by omega
        have hd1 : decide (t < 1) = false := decide_eq_false ht
        have hd2 : ((m : Int) + 1 == 0) = false := by rw [beq_eq_false_iff_ne]; omega
        go_enter Try.func23, Try.ntmps23
        go_wp2_with (go_at_call 36; refine cP'.mono ?_; rintro e w1 ⟨g, c, rfl, cz, g1⟩)
        go_ret
        exact ⟨rfl, g1⟩
      · obtain rfl : t = ((m + 1 : Nat) : Int) := by omega
        have hd1 : decide ((m : Int) + 1 < 1) = false := decide_eq_false (by omega)
        have hd2 : ((k : Int) == 0) = false := by rw [beq_eq_false_iff_ne]; omega
        go_enter Try.func23, Try.ntmps23
        go_wp2_with (go_at_call 36; refine cP'.mono ?_; rintro e w1 ⟨g, c, rfl, cz, g1⟩)
        go_ret
        exact ⟨rfl, g1⟩
/- How far it went in the tick t. -/
def velI (u a v : Nat) (n t : Int) : Nat := if t < 1 then 0 else atI u a v n t - atI u a v n (t - 1)
theorem velI_in {u a v : Nat} (ok : Ok u a v) {n : Nat} (h1 : 1 ≤ n) (h2 : n ≤ 16) (t : Nat) : velI u a v n t = vel u a v n t := by
  unfold velI vel
  by_cases ht : t = 0
  · subst ht; simp
  · rw [if_neg (by omega), atI_in ok h1 h2, show ((t : Int) - 1) = ((t - 1 : Nat) : Int) by omega, atI_in ok h1 h2]
theorem atI_mono {u a v : Nat} (ok : Ok u a v) (n : Int) {s t : Int} (h : s ≤ t) : atI u a v n s ≤ atI u a v n t := by
  by_cases hn : 1 ≤ n ∧ n ≤ 16
  · obtain ⟨m, rfl⟩ := Int.eq_ofNat_of_zero_le (show 0 ≤ n by omega)
    by_cases hs : s < 1
    · rw [atI_low hs]; exact Nat.zero_le _
    · obtain ⟨s', rfl⟩ := Int.eq_ofNat_of_zero_le (show 0 ≤ s by omega)
      obtain ⟨t', rfl⟩ := Int.eq_ofNat_of_zero_le (show 0 ≤ t by omega)
      rw [atI_in ok (by omega) (by omega), atI_in ok (by omega) (by omega)]
      exact pos_mono _ _ _ _ (by omega)
  · rw [atI_out (by omega)]; exact Nat.zero_le _
theorem atI_le {u a v : Nat} (ok : Ok u a v) (n t : Int) : atI u a v n t ≤ n.toNat * u ∧ atI u a v n t ≤ 16000 := by
  by_cases hn : 1 ≤ n ∧ n ≤ 16
  · obtain ⟨m, rfl⟩ := Int.eq_ofNat_of_zero_le (show 0 ≤ n by omega)
    by_cases ht : t < 1
    · rw [atI_low ht]; omega
    · obtain ⟨t', rfl⟩ := Int.eq_ofNat_of_zero_le (show 0 ≤ t by omega)
      rw [atI_in ok (by omega) (by omega), Int.toNat_natCast]
      have := pos_le (u := u) (n := m) ok.a1 ok.v1 t'
      have := mul_small (n := m) (by omega) ok.u2
      omega
  · rw [atI_out (by omega)]; omega
set_option maxHeartbeats 1000000 in
theorem speed_any (b u a v : Nat) (n t : Int) (w : World) (h : KinAt w b u a v) (ok : Ok u a v) (ht2 : t ≤ 9223372036854775807) :
    Calls Try.prog 25 #[.pointer (some ⟨b, 0, none⟩), .int .i64 n, .int .i64 t] w fun e w' => e = .returned (.int .i64 (velI u a v n t : Nat)) ∧ KGo b u a v w w' := by
  by_cases ht : t < 1
  · have e : velI u a v n t = 0 := if_pos ht
    rw [e]
    go_enter Try.func25, Try.ntmps25
    go_wp2
    go_ret
    exact ⟨rfl, KGo.refl h⟩
  · have e : velI u a v n t = atI u a v n t - atI u a v n (t - 1) := if_neg ht
    have hm := atI_mono ok n (show t - 1 ≤ t by omega)
    have hb := (atI_le ok n t).2
    have c1 := at_any b u a v n t w h ok
    have c2 := fun (w1 : World) (h1 : KinAt w1 b u a v) => at_any b u a v n (t - 1) w1 h1 ok
    rw [e]
    generalize atI u a v n t = p at *
    generalize atI u a v n (t - 1) = q at *
    clear e
    go_enter Try.func25, Try.ntmps25
    go_wp2_with (first | (go_at_call 23; refine (c2 w1 g1.kin).mono ?_; rintro e w2 ⟨rfl, g2⟩) | (go_at_call 23; refine c1.mono ?_; rintro e w1 ⟨rfl, g1⟩))
    go_ret
    exact ⟨ret_int (by omega), g1.trans g2⟩
end Go.Proofs.Ytjblplaaogbkiaa.Kin
