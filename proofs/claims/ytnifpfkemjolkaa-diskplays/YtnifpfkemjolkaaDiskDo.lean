/-
  A call at both disks.
-/
import Derived.Test.YtnifpfkemjolkaaDiskBoth
namespace Go.Proofs.Ytnifpfkemjolkaa.Disk
set_option linter.unusedVariables false
set_option linter.unusedSimpArgs false
open Go Go.RowKit
attribute [local go_sem ↓] Go.wp_at_zero Go.wp_at_succ

theorem place_bounds (v n : Int) (h : 0 < n) : 0 ≤ place v n ∧ place v n < n := by
  have h1 := Int.tmod_lt_of_pos v h
  have h2 : -n < v.tmod n := by
    have := Int.lt_tmod_of_pos v h
    omega
  unfold place
  by_cases h3 : v.tmod n < 0
  · rw [if_pos h3]; omega
  · rw [if_neg h3]; omega
theorem Both.none {W w : World} {P : Nat → Prop} {D E : Nat} {σ τ : St} {m : Nat} (h : Both W w P D E σ τ m) : Both W w (fun _ => False) D E σ τ m := h.fresh _ (Below.refl _ _) fun _ hk => hk.elim
/- What 'do' leaves. -/
def Did (W : World) (m : Nat) (e : Ending) (w' : World) : Prop := ∃ D' E' σ', e = .returned (.tuple #[.pointer (some ⟨D', 0, none⟩), .pointer (some ⟨E', 0, none⟩), .bool true]) ∧ Both W w' (fun _ => False) D' E' σ' σ' (m + 2)

set_option maxRecDepth 100000 in
set_option maxHeartbeats 4000000 in
theorem do_append {W w : World} {D E : Nat} {σ : St} {m : Nat} (h : Both W w (fun _ => False) D E σ σ m) (hm : m < 262000) (kind file n q : Int) (ba : Option Addr) (bl bcap : Nat) (bs : List Int) (hr : Row W ba bl bs) (hx : 0 < bl → ∀ x, ba = some x → x.block < W.heap.size) (hnil : ba = none → bl = 0 ∧ bcap = 0) (hl : bl ≤ 2000)
    (hn : n ≤ 9223372036854775807) (hq : q ≤ 9223372036854775807) (hk : place kind 4 = 0) : Calls Try.prog 7 #[.pointer (some ⟨D, 0, none⟩), .pointer (some ⟨E, 0, none⟩), .agg #[.int .i64 kind, .int .i64 file, .int .i64 n, .int .i64 q, .slice ba bl bcap]] w fun e w' => Did W m e w' := by
  obtain ⟨pl, hpl, cP⟩ : ∃ pl : Int → Int, (∀ v, pl v = place v 4) ∧ ∀ v w, Calls Try.prog 15 #[.int .i64 v, .int .i64 4] w fun e w' => e = .returned (.int .i64 (pl v)) ∧ w' = w := ⟨fun v => place v 4, fun _ => rfl, fun v w => place_any v 4 w (by decide) (by decide)⟩
  rw [← hpl] at hk
  obtain ⟨f0, f1⟩ := place_bounds file 4 (by decide)
  rw [← hpl] at f0 f1
  clear hpl
  have hb0 : Below w.heap.size w (w.alloc (.cells #[.int .i64 kind, .int .i64 file, .int .i64 n, .int .i64 q, .slice ba bl bcap] 30)) := (Below.refl _ _).alloc (Nat.le_refl _) _
  have hsz : (w.alloc (.cells #[.int .i64 kind, .int .i64 file, .int .i64 n, .int .i64 q, .slice ba bl bcap] 30)).heap.size = w.heap.size + 1 := by simp
  have hr0 := hr.after (h.later hb0).below
  have cc := copy_any ba bl bcap bs _ hr0 (by omega) hnil
  have n4 : (w.alloc (.cells #[.int .i64 kind, .int .i64 file, .int .i64 n, .int .i64 q, .slice ba bl bcap] 30)).cell? ⟨w.heap.size, 4, none⟩ = some (.slice ba bl bcap) := cell_of_row _ _ 4 _ _ _ (heap_alloc_new w _)
  go_enter Try.func7, Try.ntmps7
  go_wp2_with (first
    | (go_at_call 9; refine (both_append hB (by omega) _ a5 bl cap5 bs hr5 hn5 (by omega)).mono ?_; rintro e w7 ⟨_, rfl, rfl, h7, hp7⟩)
    | (go_at_call 16; refine cc.mono ?_; rintro e w5 ⟨a5, cap5, rfl, hr5, ho5, hb5⟩; have hn5 := (owns_row ho5 hr5.small).2.1; have hB := h.fresh (fun k => k = w.heap.size ∨ (Value.slice a5 bl cap5).ownBlock = some k) (hb0.trans (hb5.mono hb0.size)) (fun k hk => by
        have hz := hb5.size
        rcases hk with rfl | hk
        · omega
        · have := ho5.lt k hk; omega))
    | (go_at_call 15; refine (cP _ _).mono ?_; rintro e v ⟨rfl, rfl⟩; try rw [hk]))
  rw [hsz] at ho5
  have ho7 := owns_same ho5 fun k hk => hp7 k (.inr hk)
  have n7 : w7.cell? ⟨w.heap.size, 4, none⟩ = some (.slice ba bl bcap) := (World.cell?_of_block (hp7 w.heap.size (.inl rfl))).trans ((hb5.cell (p := ⟨w.heap.size, 4, none⟩) (by show w.heap.size < _; omega)).trans n4)
  have hsW := h.below.size
  have hPW : ∀ k, (k = w.heap.size ∨ (Value.slice a5 bl cap5).ownBlock = some k) → W.heap.size ≤ k := fun k hk => by
    rcases hk with rfl | hk
    · exact hsW
    · have := (ho5.lt k hk).1; omega
  obtain ⟨τ, hτ⟩ : ∃ τ, τ = appSt σ (pl file - 1) bs := ⟨_, rfl⟩
  have HT : Hid (τ = appSt σ (pl file - 1) bs) := hτ
  rw [← hτ] at h7
  clear hτ hB hp7 n4 cc ho5 hr5 hb5 hr0
  go_loopw [12] (fun i wx => ∃ (j : Nat) (ys : List Int), j ≤ bl ∧ i = .int .i64 j ∧ wx.ownsRow (w.heap.size + 1) 5 1 (.slice a5 bl cap5) bl (ys.map (Value.int .u8)) ∧ Both W wx (fun k => k = w.heap.size ∨ (Value.slice a5 bl cap5).ownBlock = some k) D E τ σ (m + 1) ∧ wx.cell? ⟨w.heap.size, 4, none⟩ = some (.slice ba bl bcap)) (fun i _ => bl - (intOf i).toNat)
  case atStart => exact ⟨0, bs, Nat.zero_le _, rfl, ho7, h7, n7⟩
  case round =>
    obtain ⟨j, ys, hj, rfl, hox, hBx, nx⟩ := hrel
    have hyl : ys.length = bl := by have := hox.1; simpa using this
    by_cases hjl : j < bl
    · obtain ⟨g, rfl⟩ := own_at hox (by omega)
      have cj := hox.cellAt j (by omega)
      rw [List.getElem?_map, List.getElem?_eq_getElem (by omega)] at cj
      have fj := hox.frozenAt j
      have hst := fun u => (hox.stored j u).1
      have hgb := (hox.lt g rfl).1
      generalize ys[j] = z at cj
      simp only [Option.map_some] at cj
      have t1 : (j : Int) < (bl : Int) := by omega
      have t0 : (0 : Int) ≤ (j : Int) := by omega
      have HST : Hid (∀ u, (wr.setCell ⟨g, j, none⟩ u).ownsRow (w.heap.size + 1) 5 1 (.slice (some ⟨g, 0, none⟩) bl cap5) bl ((ys.map (Value.int .u8)).set j u)) := hst
      have HBX : Hid (∀ u, Both W (wr.setCell ⟨g, j, none⟩ u) (fun k => k = w.heap.size ∨ (Value.slice (some ⟨g, 0, none⟩) bl cap5).ownBlock = some k) D E τ σ (m + 1)) := fun u => hBx.turn hPW (by simp) (fun k _ hk => Below.heap_setCell _ _ _ _ (fun e => hk (.inr (by subst e; rfl)))) rfl rfl rfl
      have HNX : Hid (∀ u, (wr.setCell ⟨g, j, none⟩ u).cell? ⟨w.heap.size, 4, none⟩ = some (.slice ba bl bcap)) := fun u => (World.cell?_setCell_far _ _ _ _ (by show g ≠ w.heap.size; omega)).trans nx
      clear hst hBx nx h7 n7 ho7
      go_wp2
      go_roundw
      case rel => exact ⟨j + 1, ys.set j _, by omega, by go_num, by rw [List.map_set]; exact HST.out _, HBX.out _, HNX.out _⟩
      case measure => simp [intOf]; omega
    · have t1 : ¬ (j : Int) < (bl : Int) := by omega
      have hrx := hr.after hBx.below
      go_wp2_with (go_at_call 17; refine (both_rappend hBx (by omega) _ ba bl bcap bs hrx hx (by omega)).mono ?_; rintro e w9 ⟨_, rfl, rfl, h9, hp9⟩)
      go_ret3
      rw [← HT.out] at h9
      exact ⟨D, E, τ, rfl, h9.none⟩

end Go.Proofs.Ytnifpfkemjolkaa.Disk
