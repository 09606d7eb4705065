/-
  The chapter's own answer (package skepref03) in memory: the bytes behind so many units.
-/
import Derived.Test.YtnifpfkemjolkaaDiskScript
namespace Go.Proofs.Ytnifpfkemjolkaa.Disk
set_option linter.unusedVariables false
set_option linter.unusedSimpArgs false
open Go Go.RowKit
attribute [local go_sem ↓] Go.wp_at_zero Go.wp_at_succ

def uByte (u : U) : Int := match u with | .inl z => z | .inr _ => 0
def uCut (u : U) : Bool := match u with | .inl _ => false | .inr _ => true
def uSize (u : U) : Nat := match u with | .inl _ => 0 | .inr n => n
def uCells (u : U) : List Value := [.int .u8 (uByte u), .bool (uCut u), .int .i64 (uSize u)]
def usCells (us : List U) : List Value := us.flatMap uCells
theorem usCells_length (us : List U) : (usCells us).length = us.length * 3 := by
  induction us with
  | nil => rfl
  | cons u us ih => show (uCells u ++ usCells us).length = _; rw [List.length_append, ih, List.length_cons]; show 3 + _ = _; omega
theorem usCells_at (us : List U) : ∀ (k j : Nat) (hk : k < us.length), j < 3 → (usCells us)[k * 3 + j]? = (uCells (us[k]'hk))[j]? := by
  induction us with
  | nil => intro k j hk; simp at hk
  | cons u us ih =>
    intro k j hk hj
    have hl : (uCells u).length = 3 := rfl
    cases k with
    | zero => show (uCells u ++ usCells us)[0 * 3 + j]? = _; rw [List.getElem?_append_left (by omega), Nat.zero_mul, Nat.zero_add]; rfl
    | succ k =>
      show (uCells u ++ usCells us)[(k + 1) * 3 + j]? = _
      rw [List.getElem?_append_right (by omega), hl, show (k + 1) * 3 + j - 3 = k * 3 + j by omega, ih k j (by simpa using hk) hj]
      rfl
theorem step_at (zs : List Int) (us : List U) (k : Nat) (hk : k < us.length) : run zs (us.take (k + 1)) = step (run zs (us.take k)) (us[k]'hk) := by
  rw [List.take_succ_eq_append_getElem hk, run_append]
  rfl
theorem cut_ok (zs : List Int) (us : List U) (k : Nat) (hk : k < us.length) (ok : okb zs us) (n : Nat) (hu : us[k]'hk = .inr n) : n ≤ (run zs (us.take k)).length := by
  have h1 := (okb_append (us.take (k + 1)) (us.drop (k + 1)) zs).1 (by rw [List.take_append_drop]; exact ok)
  rw [List.take_succ_eq_append_getElem hk] at h1
  have h2 := ((okb_append _ _ zs).1 h1.1).2
  rw [hu] at h2
  exact h2.1 n rfl

set_option maxHeartbeats 2000000 in
theorem with_any (w : World) (sa : Option Addr) (scap : Nat) (zs : List Int) (pa : Option Addr) (pcap : Nat) (us : List U) (N : Int)
    (crow : w.ownsRow 0 5 1 (.slice sa zs.length scap) zs.length (zs.map (Value.int .u8))) (prow : w.ownsRow 0 64 3 (.slice pa us.length pcap) us.length (usCells us))
    (hsm : ∀ z ∈ zs, 0 ≤ z ∧ z < 256) (hum : ∀ z, Sum.inl z ∈ us → 0 ≤ z ∧ z < 256) (hok : okb zs us) (hlen : zs.length + us.length ≤ 140737488355328) :
    Calls Try.prog 30 #[.agg #[.slice sa zs.length scap, .slice pa us.length pcap], .int .i64 N] w fun e w' => ∃ a' cap', e = .returned (.slice a' (run zs (us.take N.toNat)).length cap') ∧
      w'.ownsRow w.heap.size 5 1 (.slice a' (run zs (us.take N.toNat)).length cap') (run zs (us.take N.toNat)).length ((run zs (us.take N.toNat)).map (Value.int .u8)) ∧ Below w.heap.size w w' := by
  obtain ⟨i0, hi, hz0, hz1, hz2⟩ := info_parts info5
  obtain ⟨hrow, h0, _⟩ := owns_row crow hsm
  go_enter Try.func30, Try.ntmps30
  go_wp2_with (at_builtin; refine wpList_append_bytes rfl _ _ rfl (.slice none 0 0) 0 [] rfl (World.ownsRow_nil _ _ _ _) sa zs.length scap zs rfl (hrow.after ((Below.refl _ _).alloc (Nat.le_refl _) _)) h0 (by omega) ?_; intro a' cap' w1 hown1 hgrow1 hat1)
  rw [Nat.zero_add, List.nil_append] at hown1
  rw [Nat.zero_add] at hat1
  have hrow1 := heap_alloc_new w (.cells #[.slice sa zs.length scap, .slice pa us.length pcap] 50)
  have hbox : w1.cell? ⟨w.heap.size, 1, none⟩ = some (.slice pa us.length pcap) := hgrow1.cell (cell_of_row _ _ 1 _ _ _ hrow1) (by simp [Value.ownBlock])
  have hown1' : w1.ownsRow (w.heap.size + 1) 5 1 (.slice a' zs.length cap') zs.length (zs.map (Value.int .u8)) := owns_base hown1 fun q hq => by
    rcases hat1 with h | h
    · rw [h] at hq; simp [Value.ownBlock] at hq
    · rw [h] at hq; have := Option.some.inj hq; simp at this; omega
  have hbel1 : Below w.heap.size w w1 := ((Below.refl _ _).alloc (Nat.le_refl _) _).grown hgrow1 (by simp) fun q hq => by simp [Value.ownBlock] at hq
  clear hgrow1 hat1 hown1 hrow1 crow hrow
  go_loopw [5, 6] (fun b i wr => ∃ (k : Nat) (a : Option Addr) (cap : Nat) (ys : List Int) (l : Nat), k ≤ us.length ∧ k ≤ N.toNat ∧ i = .int .i64 k ∧ b = .slice a l cap ∧ Hid (l = ys.length ∧ ys = run zs (us.take k)) ∧
      wr.ownsRow (w.heap.size + 1) 5 1 (.slice a l cap) l (ys.map (Value.int .u8)) ∧ wr.cell? ⟨w.heap.size, 1, none⟩ = some (.slice pa us.length pcap) ∧ Below w.heap.size w wr) (fun _ i _ => us.length - (intOf i).toNat)
  case atStart => exact ⟨0, a', cap', zs, zs.length, Nat.zero_le _, Nat.zero_le _, rfl, rfl, ⟨rfl, rfl⟩, hown1', hbox, hbel1⟩
  case round =>
    obtain ⟨k, a, cap, ys, l, hk1, hk2, rfl, rfl, HY, hown, hbx, hbel⟩ := hrel
    by_cases hlt : k < us.length ∧ (k : Int) < N
    · obtain ⟨hk, hkN⟩ := hlt
      obtain ⟨pg, rfl⟩ := own_at3 prow (by omega)
      have hpr : wr.ownsRow 0 64 3 (.slice (some ⟨pg, 0, none⟩) us.length pcap) us.length (usCells us) := owns_same prow fun g hg => hbel.block g (prow.lt g hg).2
      have e0 := hpr.cellAt (k * 3) (by omega)
      have e1 := hpr.cellAt (k * 3 + 1) (by omega)
      have e2 := hpr.cellAt (k * 3 + 2) (by omega)
      rw [show k * 3 = k * 3 + 0 from rfl, usCells_at us k 0 hk (by omega)] at e0
      rw [usCells_at us k 1 hk (by omega)] at e1
      rw [usCells_at us k 2 hk (by omega)] at e2
      have hst := step_at zs us k hk
      have hcut := cut_ok zs us k hk hok
      have hrl := run_len (us.take k) zs
      rw [List.length_take] at hrl
      have t1 : (k : Int) < (us.length : Int) := by omega
      have t0 : (0 : Int) ≤ (k : Int) := by omega
      have hul : (us.length : Int) ≤ 140737488355328 := by omega
      have hB := hbel.size
      cases hu : us[k]'hk with
      | inl z =>
        rw [hu] at e0 e1 e2 hst
        simp only [uCells, uByte, uCut, uSize, List.getElem?_cons_zero, List.getElem?_cons_succ, Nat.add_zero] at e0 e1 e2
        have HN : Hid (run zs (us.take (k + 1)) = ys ++ [z]) := show _ = _ from by rw [hst, HY.out.2]; rfl
        have hl2 : l + 1 ≤ 140737488355328 := by have := HY.out.1; rw [this, HY.out.2]; omega
        obtain ⟨zl, zh⟩ := hum z (hu ▸ List.getElem_mem hk)
        have hone := one_row wr z zl zh
        have HL : Hid (l = ys.length) := HY.out.1
        have hfar : some w.heap.size ≠ (Value.slice a l cap).ownBlock := fun e => by have := (hown.lt _ e.symm).1; omega
        have hbx2 : (wr.alloc (.cells #[.int .u8 z] 5)).cell? ⟨w.heap.size, 1, none⟩ = some (.slice (some ⟨pg, 0, none⟩) us.length pcap) := by
          rw [← hbx]
          exact ((Below.refl wr.heap.size wr).alloc (Nat.le_refl _) _).cell (World.block_lt_of_cell? wr _ hbx)
        have HX : Hid ((wr.alloc (.cells #[.int .u8 z] 5)).cell? ⟨w.heap.size, 1, none⟩ = some (.slice (some ⟨pg, 0, none⟩) us.length pcap)) := hbx2
        clear hst hcut hu HY hrl hbx2
        go_wp2_with (at_builtin; refine wpList_append_bytes rfl (.tmp 36) (.tmp 43) rfl (.slice a l cap) l ys rfl (owns_zero (hown.alloc _)) (some ⟨wr.heap.size, 0, none⟩) 1 1 [z] rfl hone (fun h => by cases h) hl2 ?_; intro a2 cap2 w2 hown2 hgrow2 hat2)
        go_roundw
        case rel =>
          refine ⟨k + 1, a2, cap2, ys ++ [z], l + 1, by omega, by omega, by go_num, rfl, ⟨by have := HL.out; simp; omega, HN.out.symm⟩, owns_base hown2 fun q hq => ?_, hgrow2.cell HX.out hfar, (hbel.alloc hB _).grown hgrow2 (by simp; omega) fun q hq => by have := (hown.lt q hq).1; omega⟩
          rcases hat2 with h | h
          · rw [h] at hq; exact (hown.lt q hq).1
          · rw [h] at hq
            have h3 := Option.some.inj hq
            have h4 := World.block_lt_of_cell? wr _ hbx
            simp at h3 h4
            omega
        case measure => simp [intOf]; omega
      | inr n =>
        rw [hu] at e0 e1 e2 hst
        simp only [uCells, uByte, uCut, uSize, List.getElem?_cons_zero, List.getElem?_cons_succ, Nat.add_zero] at e0 e1 e2
        have HN : Hid (run zs (us.take (k + 1)) = ys.take n) := show _ = _ from by rw [hst, HY.out.2]; rfl
        have hnl : n ≤ l := by have h1 := hcut n hu; rw [← HY.out.2, ← HY.out.1] at h1; exact h1
        obtain ⟨_, _, hcap⟩ := owns_form hown
        have s0 : (0 : Int) ≤ (n : Int) := by omega
        have s1 : (n : Int) ≤ (cap : Int) := by omega
        have HL : Hid (l = ys.length) := HY.out.1
        clear hst hcut hu HY hrl
        go_wp2
        go_roundw
        case rel => exact ⟨k + 1, a, cap, ys.take n, n, by omega, by omega, by go_num, rfl, ⟨by have := HL.out; rw [List.length_take]; omega, HN.out.symm⟩, owns_take hown n hnl, hbx, hbel⟩
        case measure => simp [intOf]; omega
    · have HF : Hid (l = (run zs (us.take N.toNat)).length ∧ ys = run zs (us.take N.toNat)) := by
        have : us.take N.toNat = us.take k := by rw [List.take_eq_take_iff]; omega
        rw [this]
        exact ⟨by rw [← HY.out.2]; exact HY.out.1, HY.out.2⟩
      have hcase : (k : Int) < (us.length : Int) ∧ ¬ (k : Int) < N ∨ ¬ (k : Int) < (us.length : Int) := by omega
      rcases hcase with ⟨q1, q2⟩ | q1
      all_goals
        go_wp2
        go_ret
        obtain ⟨h1, h2⟩ := HF.out
        subst h2
        rw [← h1]
        exact ⟨a, cap, rfl, owns_base (owns_zero hown) fun q hq => by have := (hown.lt q hq).1; omega, hbel⟩

end Go.Proofs.Ytnifpfkemjolkaa.Disk
