/-
  How far two cells are apart: the code's answer, and the chapter's.
-/
import Derived.Test.YtebfjldbhmmmlaaDgD
import Derived.Deep.RegionWith
namespace Go.Proofs.Ytebfjldbhmmmlaa.Grid
set_option linter.unusedVariables false
set_option linter.unusedSimpArgs false
open Go Go.RowKit Go.Proofs

def near (v : Int) : Bool := decide (-1099511627776 ≤ v) && decide (v ≤ 1099511627776)
def gapP (a b : Int) : Int := if b < a then a - b else b - a
def awayP (a b : Cell) : Int := if near a.1 && near a.2 && near b.1 && near b.2 then gapP a.1 b.1 + gapP a.2 b.2 else 0
theorem near_iff (v : Int) : near v = true ↔ -1099511627776 ≤ v ∧ v ≤ 1099511627776 := by unfold near; simp
theorem near_false (v : Int) (h : near v = false) : v < -1099511627776 ∨ 1099511627776 < v := by
  rw [← Bool.not_eq_true, near_iff] at h
  omega
set_option maxHeartbeats 1000000 in
theorem apart_any (a b : Int) (w : World) (ha : near a = true) (hb : near b = true) : Calls Try.prog 60 #[.int .i64 a, .int .i64 b] w fun e w' => ∃ v, e = .returned v ∧ v = .int .i64 (gapP a b) ∧ w' = w := by
  rw [near_iff] at ha hb
  have H : Hid (gapP a b = if b < a then a - b else b - a) := rfl
  generalize gapP a b = r at *
  have h1 : max a b - min a b = r := by rw [H.out]; split <;> omega
  have HW : Hid (max a b - min a b = r) := h1
  clear h1
  go_enter Try.func60, Try.ntmps60
  go_wp2
  go_ret
  exact ⟨_, rfl, congrArg (Value.int .i64) HW.out, rfl⟩
theorem within_any (v lo hi : Int) (w : World) : Calls Try.prog 48 #[.int .i64 v, .int .i64 lo, .int .i64 hi] w fun e w' => e = .returned (.bool (decide (lo ≤ v) && decide (v ≤ hi))) ∧ w' = w := by
  by_cases h1 : lo ≤ v
  · by_cases h2 : v ≤ hi
    all_goals
      go_enter Try.func48, Try.ntmps48
      go_wp2
      go_ret
      exact ⟨ret_bool (by simp [h1, h2]), rfl⟩
  · go_enter Try.func48, Try.ntmps48
    go_wp2
    go_ret
    exact ⟨ret_bool (by simp; omega), rfl⟩
theorem not_near (vs : List Int) (k : Nat) (hk : k < vs.length) (h : near (vs.getD k 0) = false) : vs.all near = false := by
  rw [List.getD_eq_getElem?_getD, List.getElem?_eq_getElem hk, Option.getD_some] at h
  rw [List.all_eq_false]
  exact ⟨_, List.getElem_mem hk, by rw [h]; simp⟩
theorem away_eq (ax ay bx by_ : Int) : awayP (ax, ay) (bx, by_) = if [ax, ay, bx, by_].all near then gapP ax bx + gapP ay by_ else 0 := by
  unfold awayP
  simp [Bool.and_assoc]
theorem gap_bd {a b : Int} (ha : near a = true) (hb : near b = true) : 0 ≤ gapP a b ∧ gapP a b ≤ 2199023255552 := by
  rw [near_iff] at ha hb
  unfold gapP
  split <;> omega
set_option maxRecDepth 100000 in
set_option maxHeartbeats 2000000 in
theorem away_any (ax ay bx by_ : Int) (w : World) : Calls Try.prog 46 #[.agg #[.int .i64 ax, .int .i64 ay], .agg #[.int .i64 bx, .int .i64 by_]] w fun e w' => ∃ v, e = .returned v ∧ v = .int .i64 (awayP (ax, ay) (bx, by_)) ∧ Below w.heap.size w w' := by
  have HT : Hid (∀ j, j < 4 → #[.int .i64 ax, .int .i64 ay, .int .i64 bx, .int .i64 by_][j]? = some (Value.int .i64 ([ax, ay, bx, by_].getD j 0))) := by
    show ∀ j, j < 4 → _
    intro j hj
    match j, hj with
    | 0, _ => rfl
    | 1, _ => rfl
    | 2, _ => rfl
    | 3, _ => rfl
  have HE := away_eq ax ay bx by_
  have HA : Hid (awayP (ax, ay) (bx, by_) = if [ax, ay, bx, by_].all near then gapP ax bx + gapP ay by_ else 0) := HE
  clear HE
  have bW : Below w.heap.size w (((w.alloc (.cells #[.int .i64 ax, .int .i64 ay] 30)).alloc (.cells #[.int .i64 bx, .int .i64 by_] 30)).alloc (.cells #[.int .i64 ax, .int .i64 ay, .int .i64 bx, .int .i64 by_] 3)) := below_new (below_two _ _ _) _
  have s2 : ((w.alloc (.cells #[.int .i64 ax, .int .i64 ay] 30)).alloc (.cells #[.int .i64 bx, .int .i64 by_] 30)).heap.size = w.heap.size + 2 := by simp
  have HC : Hid (∀ j, j < 4 → (((w.alloc (.cells #[.int .i64 ax, .int .i64 ay] 30)).alloc (.cells #[.int .i64 bx, .int .i64 by_] 30)).alloc (.cells #[.int .i64 ax, .int .i64 ay, .int .i64 bx, .int .i64 by_] 3)).cell? ⟨w.heap.size + 1 + 1, j, none⟩ = some (.int .i64 ([ax, ay, bx, by_].getD j 0))) := fun j hj => by
    have := heap_alloc_new ((w.alloc (.cells #[.int .i64 ax, .int .i64 ay] 30)).alloc (.cells #[.int .i64 bx, .int .i64 by_] 30)) (.cells #[.int .i64 ax, .int .i64 ay, .int .i64 bx, .int .i64 by_] 3)
    rw [s2] at this
    exact (cell_of this j).trans (HT.out j hj)
  have mA : (((w.alloc (.cells #[.int .i64 ax, .int .i64 ay] 30)).alloc (.cells #[.int .i64 bx, .int .i64 by_] 30)).alloc (.cells #[.int .i64 ax, .int .i64 ay, .int .i64 bx, .int .i64 by_] 3)).heap[w.heap.size]? = some (.cells #[.int .i64 ax, .int .i64 ay] 30 (0, 0)) := (alloc_old _ _ _ (by rw [s2]; omega)).trans ((alloc_old _ _ _ (by simp)).trans (heap_alloc_new w _))
  have mB : (((w.alloc (.cells #[.int .i64 ax, .int .i64 ay] 30)).alloc (.cells #[.int .i64 bx, .int .i64 by_] 30)).alloc (.cells #[.int .i64 ax, .int .i64 ay, .int .i64 bx, .int .i64 by_] 3)).heap[w.heap.size + 1]? = some (.cells #[.int .i64 bx, .int .i64 by_] 30 (0, 0)) := (alloc_old _ _ _ (by rw [s2]; omega)).trans (heap_new2 _ _ _)
  generalize awayP (ax, ay) (bx, by_) = R at *
  have HL : Hid ([ax, ay, bx, by_].length = 4) := rfl
  have HN : Hid ([ax, ay, bx, by_].all near = true → near ax = true ∧ near ay = true ∧ near bx = true ∧ near by_ = true) := by
    intro h
    simp at h
    exact h
  generalize [ax, ay, bx, by_] = T at *
  go_enter Try.func46, Try.ntmps46
  go_wp2
  generalize hWA : (((w.alloc (.cells #[.int .i64 ax, .int .i64 ay] 30)).alloc (.cells #[.int .i64 bx, .int .i64 by_] 30)).alloc (.cells #[.int .i64 ax, .int .i64 ay, .int .i64 bx, .int .i64 by_] 3)) = WW at *
  clear hWA HT
  go_loopw [17] (fun i wr => ∃ k : Nat, k ≤ 4 ∧ i = .int .i64 k ∧ wr = WW ∧ Hid (∀ j, j < k → near (T.getD j 0) = true)) (fun i _ => 4 - (intOf i).toNat)
  case atStart => exact ⟨0, by omega, rfl, rfl, fun j hj => by omega⟩
  case round =>
    obtain ⟨k, hk, rfl, rfl, HK⟩ := hrel
    by_cases hlt : k < 4
    · have ck := HC.out k hlt
      have hlt2 : (k : Int) < 4 := by omega
      have HX : Hid (near (T.getD k 0) = true → ∀ j, j < k + 1 → near (T.getD j 0) = true) := fun h j hj => by
        by_cases q : j < k
        · exact HK.out j q
        · obtain rfl : j = k := by omega
          exact h
      have HY : Hid (near (T.getD k 0) = false → R = 0) := fun h => by rw [HA.out, if_neg (by rw [not_near T k (by rw [HL.out]; exact hlt) h]; decide)]
      generalize T.getD k 0 = z at *
      cases hz : near z
      · have HR : Hid (R = 0) := HY.out hz
        rcases near_false z hz with hq | hq
        · go_wp2
          go_ret
          exact ⟨_, rfl, congrArg (Value.int .i64) HR.out.symm, bW⟩
        · have hq2 : ¬ z < -1099511627776 := by omega
          go_wp2
          go_ret
          exact ⟨_, rfl, congrArg (Value.int .i64) HR.out.symm, bW⟩
      · have hq := (near_iff z).1 hz
        have hq1 : ¬ z < -1099511627776 := by omega
        have hq2 : ¬ 1099511627776 < z := by omega
        go_wp2
        go_roundw
        case rel => exact ⟨k + 1, by omega, by go_num, trivial, HX.out hz⟩
        case measure => simp [intOf]; omega
    · obtain rfl : k = 4 := by omega
      have hall : T.all near = true := by
        rw [List.all_eq_true]
        intro x hx
        obtain ⟨j, hj, e⟩ := List.getElem_of_mem hx
        have := HK.out j (by rw [HL.out] at hj; exact hj)
        rw [List.getD_eq_getElem?_getD, List.getElem?_eq_getElem hj, Option.getD_some, e] at this
        exact this
      obtain ⟨n1, n2, n3, n4⟩ := HN.out hall
      have HR : Hid (R = gapP ax bx + gapP ay by_) := by show R = _; rw [HA.out, if_pos hall]
      obtain ⟨g1, g2⟩ := gap_bd n1 n3
      obtain ⟨g3, g4⟩ := gap_bd n2 n4
      have cA := fun u => apart_any ax bx u n1 n3
      have cB := fun u => apart_any ay by_ u n2 n4
      generalize gapP ax bx = p at *
      generalize gapP ay by_ = q at *
      obtain ⟨IH, hIH⟩ : ∃ I : World → Prop, I = fun u => u = wr.drew := ⟨_, rfl⟩
      have k0 : ∀ u, IH u → u.cell? ⟨w.heap.size, 0, none⟩ = some (.int .i64 ax) := fun u hu => by rw [hIH] at hu; rw [hu]; exact cell_of mA 0
      have k1 : ∀ u, IH u → u.cell? ⟨w.heap.size, 1, none⟩ = some (.int .i64 ay) := fun u hu => by rw [hIH] at hu; rw [hu]; exact cell_of mA 1
      have k2 : ∀ u, IH u → u.cell? ⟨w.heap.size + 1, 0, none⟩ = some (.int .i64 bx) := fun u hu => by rw [hIH] at hu; rw [hu]; exact cell_of mB 0
      have k3 : ∀ u, IH u → u.cell? ⟨w.heap.size + 1, 1, none⟩ = some (.int .i64 by_) := fun u hu => by rw [hIH] at hu; rw [hu]; exact cell_of mB 1
      have hS : IH wr.drew := by rw [hIH]
      go_wp2
      refine start_held (S := IH) 12 rfl (by kernel_rfl) (hS) ?_
      simp only [Array.replicate_succ, Array.replicate_zero, List.push_toArray, List.nil_append, List.cons_append]
      refine take_held 0 (by assumption) rfl (by kernel_rfl) (by kernel_rfl) (by kernel_rfl) (fun _ _ _ h => h) (by kernel_rfl) (v := ?v0) ?y0 ?r0
      case y0 => (intro u hu; go_simp; try rfl)
      simp only [Act.put, List.setIfInBounds_toArray, List.set_cons_zero, List.set_cons_succ]
      refine take_held 1 (by assumption) rfl (by kernel_rfl) (by kernel_rfl) (by kernel_rfl) (fun _ _ _ h => h) (by kernel_rfl) (v := ?v1) ?y1 ?r1
      case y1 => (intro u hu; have z0 := k0 u hu; go_simp; try rfl)
      simp only [Act.put, List.setIfInBounds_toArray, List.set_cons_zero, List.set_cons_succ]
      refine take_held 2 (by assumption) rfl (by kernel_rfl) (by kernel_rfl) (by kernel_rfl) (fun _ _ _ h => h) (by kernel_rfl) (v := ?v2) ?y2 ?r2
      case y2 => (intro u hu; go_simp; try rfl)
      simp only [Act.put, List.setIfInBounds_toArray, List.set_cons_zero, List.set_cons_succ]
      refine take_held 3 (by assumption) rfl (by kernel_rfl) (by kernel_rfl) (by kernel_rfl) (fun _ _ _ h => h) (by kernel_rfl) (v := ?v3) ?y3 ?r3
      case y3 => (intro u hu; have z0 := k2 u hu; go_simp; try rfl)
      simp only [Act.put, List.setIfInBounds_toArray, List.set_cons_zero, List.set_cons_succ]
      refine take_held 5 (by assumption) rfl (by kernel_rfl) (by kernel_rfl) (by kernel_rfl) (fun _ _ _ h => h) (by kernel_rfl) (v := ?v4) ?y4 ?r4
      case y4 => (intro u hu; go_simp; try rfl)
      simp only [Act.put, List.setIfInBounds_toArray, List.set_cons_zero, List.set_cons_succ]
      refine take_held 6 (by assumption) rfl (by kernel_rfl) (by kernel_rfl) (by kernel_rfl) (fun _ _ _ h => h) (by kernel_rfl) (v := ?v5) ?y5 ?r5
      case y5 => (intro u hu; have z0 := k1 u hu; go_simp; try rfl)
      simp only [Act.put, List.setIfInBounds_toArray, List.set_cons_zero, List.set_cons_succ]
      refine take_held 7 (by assumption) rfl (by kernel_rfl) (by kernel_rfl) (by kernel_rfl) (fun _ _ _ h => h) (by kernel_rfl) (v := ?v6) ?y6 ?r6
      case y6 => (intro u hu; go_simp; try rfl)
      simp only [Act.put, List.setIfInBounds_toArray, List.set_cons_zero, List.set_cons_succ]
      refine take_held 8 (by assumption) rfl (by kernel_rfl) (by kernel_rfl) (by kernel_rfl) (fun _ _ _ h => h) (by kernel_rfl) (v := ?v7) ?y7 ?r7
      case y7 => (intro u hu; have z0 := k3 u hu; go_simp; try rfl)
      simp only [Act.put, List.setIfInBounds_toArray, List.set_cons_zero, List.set_cons_succ]
      refine wpAnyH_ready (rs := [4]) (by kernel_rfl) (by simp) (AllReadyH.cons ((nth_eq _ 4).trans rfl) ?_ AllReadyH.nil)
      intro K' hK
      refine call_in hK (by kernel_rfl) 60 #[.int .i64 ax, .int .i64 bx] (by go_simp) _ (cA wr.drew) ?_
      rintro v w7 ⟨rfl, rfl⟩
      refine ⟨hS, ?_⟩
      simp only [Act.put, List.setIfInBounds_toArray, List.set_cons_zero, List.set_cons_succ]
      refine wpAnyH_ready (rs := [9]) (by kernel_rfl) (by simp) (AllReadyH.cons ((nth_eq _ 9).trans rfl) ?_ AllReadyH.nil)
      intro K' hK
      refine call_in hK (by kernel_rfl) 60 #[.int .i64 ay, .int .i64 by_] (by go_simp) _ (cB wr.drew) ?_
      rintro v w8 ⟨rfl, rfl⟩
      refine ⟨hS, ?_⟩
      simp only [Act.put, List.setIfInBounds_toArray, List.set_cons_zero, List.set_cons_succ]
      refine take_held 10 (by assumption) rfl (by kernel_rfl) (by kernel_rfl) (by kernel_rfl) (fun _ _ _ h => h) (by kernel_rfl) (v := ?v8) ?y8 ?r8
      case y8 => (intro u hu; go_simp; try rfl)
      simp only [Act.put, List.setIfInBounds_toArray, List.set_cons_zero, List.set_cons_succ]
      refine take_held 11 (by assumption) rfl (by kernel_rfl) (by kernel_rfl) (by kernel_rfl) (fun _ _ _ h => h) (by kernel_rfl) (v := ?v9) ?y9 ?r9
      case y9 => (intro u hu; go_simp; try rfl)
      simp only [Act.put, List.setIfInBounds_toArray, List.set_cons_zero, List.set_cons_succ]
      refine done_held (by kernel_rfl) ?_ _
      go_wp2
      go_ret
      refine ⟨_, rfl, congrArg (Value.int .i64) ?_, bW.drew⟩
      rw [HR.out, IntKind.wrap_i64]
      omega
end Go.Proofs.Ytebfjldbhmmmlaa.Grid
