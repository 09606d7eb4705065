/-
  A statement that leaves its order open, whose operations read, and whose callees may make memory but turn nothing old: one walk in the order of the text serves every order (the library's law on quiet regions, at the class 'nothing old has turned').
-/
import Derived.Test.YtnehkjabhmhijaaWalNum
import Derived.Deep.RegionWith
import Derived.Deep.QuietTactic
import Derived.BigQuiet
namespace Go.Proofs.Ytnehkjabhmhijaa.Wal
set_option linter.unusedVariables false
set_option linter.unusedSimpArgs false
open Go Go.RowKit
open Go.Proofs.Ytnehkjabhmhijaa.Disk (Row getD_in ret_int add_add)

/- A world in which nothing of W has turned. -/
structure Later (W : World) : Type where
  w : World
  bel : Below W.heap.size W w

theorem Later.some (W : World) : Nonempty (Later W) := ⟨⟨W, Below.refl _ _⟩⟩

theorem wp_region_later {P : Program} {W : World} {id : Nat} {Q : Exit → Act → World → Prop} {a : Act} {w : World} {l : List Oper} (hm : P.follows .mixedOrders = true) (hB : Region.lexB .any l.toArray = true)
    (hb : Below W.heap.size W w)
    (h : wpQuiet P l.toArray (fun w' => ∃ u : Later W, w' = u.w) (fun a' => ∀ w', (∃ u : Later W, w' = u.w) → Q .normal a' w') l a) : (Code.region id l.toArray true).wp P Q a w :=
  wp_region_quiet (C := fun w' => ∃ u : Later W, w' = u.w) hm hB ⟨⟨_, hb.drew⟩, rfl⟩ h

theorem later_same {P : Program} {f : FuncId} {args : Array Value} {W : World} {u : Later W} {v : Value}
    (h : Calls P f args u.w fun e w' => e = .returned v ∧ w' = u.w) : Calls P f args u.w fun e w' => e = .returned v ∧ ∃ u' : Later W, w' = u'.w :=
  h.mono fun _ _ ⟨he, hw⟩ => ⟨he, u, hw⟩
theorem later_grown {P : Program} {f : FuncId} {args : Array Value} {W : World} {u : Later W} {v : Value}
    (h : Calls P f args u.w fun e w' => e = .returned v ∧ Below u.w.heap.size u.w w') : Calls P f args u.w fun e w' => e = .returned v ∧ ∃ u' : Later W, w' = u'.w :=
  h.mono fun _ w' ⟨he, hw⟩ => ⟨he, ⟨w', u.bel.trans (hw.mono u.bel.size)⟩, rfl⟩

theorem first_short {b : List Int} (h : b.length < 8) : first b = none := if_pos h
theorem first_odd {b : List Int} (h : ¬ b.length < 8) (h2 : num (b.take 4) < 1 ∨ 65536 < num (b.take 4) ∨ (b.length : Int) - 8 < num (b.take 4)) : first b = none := by
  unfold first; rw [if_neg h, if_pos h2]
theorem first_sum {b : List Int} (h : ¬ b.length < 8) (k : Nat) (hk : num (b.take 4) = k) (h1 : 1 ≤ k) (h2 : k ≤ 65536) (h3 : 8 + k ≤ b.length) : first b = if num ((b.drop 4).take 4) = sumOf (b.take 4) ((b.drop 8).take k) then Option.some k else none := by
  unfold first
  rw [if_neg h, if_neg (by rw [hk]; omega), hk, Int.toNat_natCast]

set_option maxHeartbeats 2000000 in
theorem first_any (a : Option Addr) (n cap : Nat) (zs : List Int) (w : World) (hr : Row w a n zs) (hn : n ≤ cap) (hc : cap ≤ 9223372036854775807) :
    Calls Try.prog 35 #[.slice a n cap] w fun e w' => Below w.heap.size w w' ∧
      ((first zs = none ∧ e = .returned (.slice none 0 0)) ∨ ∃ x k, a = Option.some x ∧ first zs = Option.some k ∧ e = .returned (.slice (Option.some (x.add 8)) k (cap - 8))) := by
  have hl := hr.len
  by_cases h8 : n < 8
  · have hf := first_short (b := zs) (by omega)
    go_enter Try.func35, Try.ntmps35
    go_wp2
    go_ret
    exact ⟨Below.refl _ _, .inl ⟨hf, rfl⟩⟩
  · obtain ⟨x, rfl, _⟩ := hr.cell 0 (by omega)
    have r4 : Row w (Option.some x) 4 (zs.take 4) := hr.head 4 (by omega)
    have hb4 := num_bd (zs.take 4) r4.len r4.small
    obtain ⟨N, hN⟩ := Int.eq_ofNat_of_zero_le hb4.1
    have c1 := number_any (Option.some x) cap (zs.take 4) w r4
    rw [hN] at c1 hb4
    by_cases h1 : 1 ≤ N ∧ N ≤ 65536
    · by_cases h2 : n - 8 < N
      · have hf := first_odd (b := zs) (by omega) (by rw [hN]; omega)
        have cm := mayBe_any (N : Int) w
        rw [decide_eq_true (by omega)] at cm
        go_enter Try.func35, Try.ntmps35
        go_wp2_with (first | (go_at_call 29; refine cm.mono ?_; rintro e w' ⟨rfl, rfl⟩) | (go_at_call 41; refine c1.mono ?_; rintro e w' ⟨rfl, rfl⟩))
        go_ret
        exact ⟨Below.refl _ _, .inl ⟨hf, rfl⟩⟩
      · have hf := first_sum (b := zs) (by omega) N hN h1.1 h1.2 (by omega)
        have cm := mayBe_any (N : Int) w
        rw [decide_eq_true (by omega)] at cm
        have hne := Later.some w
        have r48 := hr.part 4 4 (by omega)
        have rs := hr.part 8 N (by omega)
        have b48 := num_bd _ r48.len r48.small
        have bs := sumOf_bd (zs.take 4) ((zs.drop 8).take N)
        have e8 : 8 + N - 8 = N := by omega
        have cn := fun u : Later w => number_any (Option.some ⟨x.block, x.off + 4, none⟩) (cap - 4) _ u.w (r48.after u.bel)
        have cs := fun u : Later w => sum_any (Option.some x) (Option.some ⟨x.block, x.off + 8, none⟩) 4 cap N (cap - 8) _ _ u.w (r4.after u.bel) (rs.after u.bel) (by omega) (by omega)
        have t4 : ¬ cap = 4 := by omega
        clear r48 rs
        generalize num ((zs.drop 4).take 4) = p at *
        generalize sumOf (zs.take 4) ((zs.drop 8).take N) = q at *
        have t1 : (8 : Int) + N ≤ cap := by omega
        by_cases hpq : p = q
        · rw [if_pos hpq] at hf
          subst hpq
          go_enter Try.func35, Try.ntmps35
          go_wp2_with (first | (go_at_call 29; refine cm.mono ?_; rintro e w' ⟨rfl, rfl⟩) | (go_at_call 41; refine c1.mono ?_; rintro e w' ⟨rfl, rfl⟩))
          refine wp_region_later (W := w') (by kernel_rfl) (by kernel_rfl) (Below.refl _ _) ?_
          repeat (go_big_quiet_step (first | (go_at_call 41; exact later_same (cn _)) | (go_at_call 40; exact later_same (cs _))))
          refine wpQuiet_nil ?_
          rintro _ ⟨u, rfl⟩
          go_wp2
          go_ret
          exact ⟨u.bel, .inr ⟨x, N, rfl, hf, by rw [e8]; rfl⟩⟩
        · rw [if_neg hpq] at hf
          go_enter Try.func35, Try.ntmps35
          go_wp2_with (first | (go_at_call 29; refine cm.mono ?_; rintro e w' ⟨rfl, rfl⟩) | (go_at_call 41; refine c1.mono ?_; rintro e w' ⟨rfl, rfl⟩))
          refine wp_region_later (W := w') (by kernel_rfl) (by kernel_rfl) (Below.refl _ _) ?_
          repeat (go_big_quiet_step (first | (go_at_call 41; exact later_same (cn _)) | (go_at_call 40; exact later_same (cs _))))
          refine wpQuiet_nil ?_
          rintro _ ⟨u, rfl⟩
          go_wp2
          go_ret
          exact ⟨u.bel, .inl ⟨hf, rfl⟩⟩
    · have hf := first_odd (b := zs) (by omega) (by rw [hN]; omega)
      have cm := mayBe_any (N : Int) w
      rw [decide_eq_false (by omega)] at cm
      go_enter Try.func35, Try.ntmps35
      go_wp2_with (first | (go_at_call 29; refine cm.mono ?_; rintro e w' ⟨rfl, rfl⟩) | (go_at_call 41; refine c1.mono ?_; rintro e w' ⟨rfl, rfl⟩))
      go_ret
      exact ⟨Below.refl _ _, .inl ⟨hf, rfl⟩⟩
end Go.Proofs.Ytnehkjabhmhijaa.Wal
