/-
  sort.Search over a function that reads; the three that resv hands to it.
-/
import Derived.Test.YtddkgkafgjdheaaResvCalls
import Derived.Deep.LoopGhost
namespace Go.Proofs.Ytddkgkafgjdheaa.Rs
set_option linter.unusedVariables false
set_option linter.unusedSimpArgs false
open Go Go.RowKit Go.Shelf Go.Proofs Hp
attribute [local go_sem] Oper.semAt_some

set_option maxHeartbeats 2000000 in
set_option maxRecDepth 100000 in
theorem search_any (g : Nat) (cb : Array Value) (n : Nat) (p : Nat → Bool) (w : World) (eg : ∀ args w, (callFunc g args).run Try.prog w = .ok (.enter g args) w) (hsz : n < 4611686018427387904)
    (hf : ∀ u, Below w.heap.size w u → ∀ i, i < n → Calls Try.prog g (#[.int .i64 i] ++ cb) u fun e w' => e = .returned (.bool (p i)) ∧ Below u.heap.size u w')
    (hmono : ∀ a b, a ≤ b → b < n → p a = true → p b = true) :
    Calls Try.prog 52 #[.int .i64 n, .func (.func g) #[] cb] w fun e w' => ∃ k : Nat, e = .returned (.int .i64 k) ∧ k ≤ n ∧ (∀ t, t < k → p t = false) ∧ (∀ t, k ≤ t → t < n → p t = true) ∧ Below w.heap.size w w' := by
  have HF : Hid _ := hf
  have M : Hid _ := hmono
  clear hf hmono
  go_enter Try.func52, Try.ntmps52
  go_wp2
  go_loopw [5, 6] (fun s5 s6 wr => ∃ (lo hi : Nat), s5 = .int .i64 lo ∧ s6 = .int .i64 hi ∧ lo ≤ hi ∧ hi ≤ n ∧ Hid (Below w.heap.size w wr ∧ (∀ t, t < lo → p t = false) ∧ (∀ t, hi ≤ t → t < n → p t = true))) (fun s5 s6 _ => (intOf s6 - intOf s5).toNat)
  case atStart => exact ⟨0, n, rfl, rfl, Nat.zero_le _, Nat.le_refl _, (⟨Below.refl _ _, fun t ht => absurd ht (Nat.not_lt_zero _), fun t h1 h2 => by omega⟩ : Below w.heap.size w w ∧ (∀ t, t < 0 → p t = false) ∧ (∀ t, n ≤ t → t < n → p t = true))⟩
  case round =>
    obtain ⟨lo, hi, rfl, rfl, hlh, hin, I⟩ := hrel
    by_cases hlt : lo < hi
    · have hc := HF.out wr I.out.1 ((lo + hi) / 2) (by omega)
      rw [show (((lo + hi) / 2 : Nat) : Int) = ((lo : Int) + (hi : Int)) / 2 by omega] at hc
      cases hp : p ((lo + hi) / 2) <;> rw [hp] at hc
      · have HP : Hid (p ((lo + hi) / 2) = false) := hp
        clear hp
        go_wp2_with (go_at_fn g; refine hc.mono ?_; rintro e w' ⟨rfl, b1⟩)
        go_roundw
        case measure => simp only [intOf]; omega
        case rel =>
          have I2 : Hid (Below w.heap.size w w' ∧ (∀ t, t < (lo + hi) / 2 + 1 → p t = false) ∧ (∀ t, hi ≤ t → t < n → p t = true)) := ⟨bcat I.out.1 b1, fun t ht => (by
            cases h : p t with
            | false => rfl
            | true => have := M.out t ((lo + hi) / 2) (by omega) (by omega) h; rw [HP.out] at this; cases this), I.out.2.2⟩
          exact ⟨(lo + hi) / 2 + 1, hi, by rw [show ((lo : Int) + (hi : Int)) / 2 + 1 = (((lo + hi) / 2 + 1 : Nat) : Int) by omega], rfl, by omega, hin, I2⟩
      · have HP : Hid (p ((lo + hi) / 2) = true) := hp
        clear hp
        go_wp2_with (go_at_fn g; refine hc.mono ?_; rintro e w' ⟨rfl, b1⟩)
        go_roundw
        case measure => simp only [intOf]; omega
        case rel =>
          have I2 : Hid (Below w.heap.size w w' ∧ (∀ t, t < lo → p t = false) ∧ (∀ t, (lo + hi) / 2 ≤ t → t < n → p t = true)) := ⟨bcat I.out.1 b1, I.out.2.1, fun t ht htn => M.out ((lo + hi) / 2) t ht htn HP.out⟩
          exact ⟨lo, (lo + hi) / 2, rfl, by rw [show ((lo : Int) + (hi : Int)) / 2 = (((lo + hi) / 2 : Nat) : Int) by omega], by omega, by omega, I2⟩
    · obtain rfl : hi = lo := by omega
      go_wp2
      go_ret
      exact ⟨hi, rfl, hin, I.out.2.1, I.out.2.2, I.out.1⟩
/- A list in a box, and its item. -/
theorem box_item {F : Nat → Prop} {w : World} {v : Value} {l : List Sl} (h : RowAt slL F w v l) (i : Nat) (hi : i < l.length) : ∃ g o cap, v = .slice (some ⟨g, o, none⟩) l.length cap ∧ w.cell? ⟨g, o + i * 3, none⟩ = some (.int .i64 (l[i]).f) ∧ w.cell? ⟨g, o + i * 3 + 1, none⟩ = some (.int .i64 (l[i]).t) ∧ w.cell? ⟨g, o + i * 3 + 2, none⟩ = some (.int .i64 (l[i]).r) := by
  obtain ⟨g, o, cap, rfl, _, _, _, hc⟩ := h.has (by omega)
  exact ⟨g, o, cap, rfl, hc.at slL_len i hi 0 _ rfl, hc.at slL_len i hi 1 _ rfl, hc.at slL_len i hi 2 _ rfl⟩
set_option maxHeartbeats 1000000 in
theorem with1_any (F : Nat → Prop) (ba bx : Nat) (v : Value) (l : List Sl) (x : Int) (i : Nat) (hi : i < l.length) (u : World) (h : RowAt slL F u v l) (ha : u.cell? ⟨ba, 0, none⟩ = some v) (hx : u.cell? ⟨bx, 0, none⟩ = some (.int .i64 x)) :
    Calls Try.prog 61 (#[.int .i64 i] ++ #[.pointer (some ⟨ba, 0, none⟩), .pointer (some ⟨bx, 0, none⟩)]) u fun e w' => e = .returned (.bool (decide (x ≤ (l[i]).t))) ∧ Below u.heap.size u w' := by
  obtain ⟨g, o, cap, rfl, c0, c1, c2⟩ := box_item h i hi
  have hi2 : (i : Int) < (l.length : Int) := by omega
  generalize l[i] = s at *
  generalize l.length = n at *
  clear h c0 c2
  go_enter Try.func61, Try.ntmps61
  go_wp2
  go_region
  all_goals go_wp2
  all_goals go_ret
  all_goals exact ⟨by first | rfl | exact ret_bool (by simp), (Below.refl _ _).drew⟩
set_option maxHeartbeats 1000000 in
theorem with2_any (F : Nat → Prop) (ba bx : Nat) (v : Value) (l : List Sl) (x : Int) (i : Nat) (hi : i < l.length) (u : World) (h : RowAt slL F u v l) (ha : u.cell? ⟨ba, 0, none⟩ = some v) (hx : u.cell? ⟨bx, 0, none⟩ = some (.int .i64 x)) :
    Calls Try.prog 62 (#[.int .i64 i] ++ #[.pointer (some ⟨ba, 0, none⟩), .pointer (some ⟨bx, 0, none⟩)]) u fun e w' => e = .returned (.bool (decide (x < (l[i]).f))) ∧ Below u.heap.size u w' := by
  obtain ⟨g, o, cap, rfl, c0, c1, c2⟩ := box_item h i hi
  have hi2 : (i : Int) < (l.length : Int) := by omega
  generalize l[i] = s at *
  generalize l.length = n at *
  clear h c1 c2
  go_enter Try.func62, Try.ntmps62
  go_wp2
  go_region
  all_goals go_wp2
  all_goals go_ret
  all_goals exact ⟨by first | rfl | exact ret_bool (by simp), (Below.refl _ _).drew⟩
set_option maxHeartbeats 1000000 in
theorem ext1_any (F : Nat → Prop) (ba bx : Nat) (v : Value) (l : List Sl) (x : Int) (i : Nat) (hi : i < l.length) (u : World) (h : RowAt slL F u v l) (ha : u.cell? ⟨ba, 0, none⟩ = some v) (hx : u.cell? ⟨bx, 0, none⟩ = some (.int .i64 x)) :
    Calls Try.prog 53 (#[.int .i64 i] ++ #[.pointer (some ⟨ba, 0, none⟩), .pointer (some ⟨bx, 0, none⟩)]) u fun e w' => e = .returned (.bool (decide (x < (l[i]).t))) ∧ Below u.heap.size u w' := by
  obtain ⟨g, o, cap, rfl, c0, c1, c2⟩ := box_item h i hi
  have hi2 : (i : Int) < (l.length : Int) := by omega
  generalize l[i] = s at *
  generalize l.length = n at *
  clear h c0 c2
  go_enter Try.func53, Try.ntmps53
  go_wp2
  go_region
  all_goals go_wp2
  all_goals go_ret
  all_goals exact ⟨by first | rfl | exact ret_bool (by simp), (Below.refl _ _).drew⟩
/- Where a list's slots begin to reach to a tick, and to begin behind one. -/
theorem find_to (F : Nat → Prop) (g ba bx : Nat) (v : Value) (l : List Sl) (p : Sl → Bool) (w : World) (hl : l.Pairwise Ahead) (hfit : Fits l) (hn : l.length ≤ 1000000000) (h : RowAt slL F w v l) (x : Int) (ha : w.cell? ⟨ba, 0, none⟩ = some v) (hx : w.cell? ⟨bx, 0, none⟩ = some (.int .i64 x)) (eg : ∀ args w, (callFunc g args).run Try.prog w = .ok (.enter g args) w)
    (hc : ∀ u, RowAt slL F u v l → u.cell? ⟨ba, 0, none⟩ = some v → u.cell? ⟨bx, 0, none⟩ = some (.int .i64 x) → ∀ i (hi : i < l.length), Calls Try.prog g (#[.int .i64 i] ++ #[.pointer (some ⟨ba, 0, none⟩), .pointer (some ⟨bx, 0, none⟩)]) u fun e w' => e = .returned (.bool (p l[i])) ∧ Below u.heap.size u w')
    (hp : ∀ a b, Ahead a b → a.f < a.t → b.f < b.t → p a = true → p b = true) :
    Calls Try.prog 52 #[.int .i64 l.length, .func (.func g) #[] #[.pointer (some ⟨ba, 0, none⟩), .pointer (some ⟨bx, 0, none⟩)]] w fun e w' => ∃ k : Nat, e = .returned (.int .i64 k) ∧ k ≤ l.length ∧ (∀ a ∈ l.take k, p a = false) ∧ (∀ b ∈ l.drop k, p b = true) ∧ Below w.heap.size w w' := by
  have la := World.block_lt_of_cell? w _ ha
  have lx := World.block_lt_of_cell? w _ hx
  refine (search_any g _ l.length (fun i => if h : i < l.length then p l[i] else true) w eg (by omega) (fun u hu i hi => ?_) (fun a b hab hb q => ?_)).mono ?_
  · rw [dif_pos hi]
    exact hc u (h.go slL_len hu) ((cell_same (hu.block ba la)).trans ha) ((cell_same (hu.block bx lx)).trans hx) i hi
  · rw [dif_pos hb]
    rw [dif_pos (by omega)] at q
    rcases Nat.lt_or_ge a b with k | k
    · exact hp _ _ (List.pairwise_iff_getElem.1 hl a b (by omega) hb k) (hfit _ (List.getElem_mem _)) (hfit _ (List.getElem_mem _)) q
    · obtain rfl : a = b := by omega
      exact q
  · rintro e w' ⟨k, he, hk, h1, h2, hb⟩
    refine ⟨k, he, hk, fun a ha => ?_, fun b hb' => ?_, hb⟩
    · obtain ⟨i, hi, rfl⟩ := List.mem_iff_getElem.1 ha
      have hi' := hi
      rw [List.length_take] at hi'
      have := h1 i (by omega)
      rw [dif_pos (by omega)] at this
      rw [List.getElem_take]
      exact this
    · obtain ⟨i, hi, rfl⟩ := List.mem_iff_getElem.1 hb'
      have hi' := hi
      rw [List.length_drop] at hi'
      have := h2 (k + i) (by omega) (by omega)
      rw [dif_pos (by omega)] at this
      rw [List.getElem_drop]
      exact this
end Go.Proofs.Ytddkgkafgjdheaa.Rs
