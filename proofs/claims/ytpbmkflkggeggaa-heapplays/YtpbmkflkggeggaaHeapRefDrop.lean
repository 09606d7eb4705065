/-
  Drop of the chapter's own heap.
-/
import Derived.Test.YtpbmkflkggeggaaHeapRefPop
namespace Go.Proofs.Ytpbmkflkggeggaa.Hp
set_option linter.unusedVariables false
set_option linter.unusedSimpArgs false
open Go Go.RowKit Go.Shelf Go.Proofs
attribute [local go_sem] Oper.semAt_some

set_option maxRecDepth 100000 in
set_option maxHeartbeats 4000000 in
theorem rdrop_any (B r : Nat) (x : Value) (L : List (Int × Int)) (md rs : Int) (p : Int × Int → Bool) (w : World) (h : RAt B w r x L) (hm : L.length ≤ 100000) (hmd : ¬ md = 0) (hp : ∀ v, p v = decide (v.2.tmod md = rs)) : Calls Try.prog 25 #[.pointer (some ⟨r, 0, none⟩), .int .i64 md, .int .i64 rs] w fun e w' => e = .returned (.int .i64 (L.countP p : Nat)) ∧ ∃ x', RAt B w' r x' (L.filter fun v => !p v) ∧ Tn r x x' w w' := by
  obtain ⟨xa, xc, rfl, fx⟩ := v_form h.row
  have HX : Hid (∀ i (hi : i < L.length), ∃ g, xa = some ⟨g, 0, none⟩ ∧ w.cell? ⟨g, i * 2, none⟩ = some (.int .i64 (L[i]).1) ∧ w.cell? ⟨g, i * 2 + 1, none⟩ = some (.int .i64 (L[i]).2)) := fx
  have hc := h.cell
  have hl := h.lt
  have hR : Hid (RAt B w r (.slice xa L.length xc) L) := h
  obtain ⟨n, hn⟩ : ∃ n, L.length = n := ⟨_, rfl⟩
  have HN : Hid (L.length = n) := hn
  have HP : Hid (∀ v, p v = decide (v.2.tmod md = rs)) := hp
  rw [hn] at hm hc ⊢
  clear fx h hn hp
  go_enter Try.func25, Try.ntmps25
  go_wp2
  go_loopw [7, 8, 9] (fun lx cx ix wr => ∃ (i : Nat) (y : Value), lx = y ∧ cx = .int .i64 ((L.take i).countP p : Nat) ∧ ix = .int .i64 i ∧ i ≤ n ∧ Hid (wr.ownsRow w.heap.size 27 2 y ((L.take i).filter fun v => !p v).length (rowL vL ((L.take i).filter fun v => !p v))) ∧ Below w.heap.size w wr) (fun lx cx ix wr => n - (intOf ix).toNat)
  case atStart => exact ⟨0, _, rfl, rfl, rfl, Nat.zero_le _, World.ownsRow_nil _ _ _ _, Below.refl _ _⟩
  case round =>
    obtain ⟨i, y, rfl, rfl, rfl, hi, HY, br⟩ := hrel
    have c0 := (br.cell (p := ⟨r, 0, none⟩) hl).trans hc
    have cnl : (L.take i).countP p ≤ i := Nat.le_trans List.countP_le_length (by rw [List.length_take]; omega)
    have fil : ((L.take i).filter fun v => !p v).length ≤ i := Nat.le_trans (List.length_filter_le _ _) (by rw [List.length_take]; omega)
    obtain ⟨acc, hacc⟩ : ∃ acc, ((L.take i).filter fun v => !p v) = acc := ⟨_, rfl⟩
    have HA : Hid (((L.take i).filter fun v => !p v) = acc) := hacc
    rw [hacc] at HY fil
    obtain ⟨ya, yc, rfl, _⟩ := own_form HY.out
    obtain ⟨q, hq⟩ : ∃ q, acc.length = q := ⟨_, rfl⟩
    have HQ : Hid (acc.length = q) := hq
    rw [hq] at HY fil ⊢
    clear hacc hq
    by_cases hlt : i < n
    · have hlt' : (i : Int) < (n : Int) := by omega
      have hil : i < L.length := by rw [HN.out]; exact hlt
      obtain ⟨g, rfl, x0, x1⟩ := HX.out i hil
      have gl := World.block_lt_of_cell? w _ x0
      simp only at gl
      have k0 := (br.cell (p := ⟨g, i * 2, none⟩) gl).trans x0
      have k1 := (br.cell (p := ⟨g, i * 2 + 1, none⟩) gl).trans x1
      have ht : L.take (i + 1) = L.take i ++ [L[i]] := by rw [List.take_add_one, List.getElem?_eq_getElem hil]; rfl
      have hpi := HP.out L[i]
      obtain ⟨z, hz⟩ : ∃ z, L[i] = z := ⟨_, rfl⟩
      rw [hz] at k0 k1 ht hpi
      have HT : Hid (L.take (i + 1) = L.take i ++ [z]) := ht
      obtain ⟨tm, htm⟩ : ∃ tm, z.2.tmod md = tm := ⟨_, rfl⟩
      rw [htm] at hpi
      generalize hcc : (L.take i).countP p = cc at *
      have HCC : Hid ((L.take i).countP p = cc) := hcc
      clear hcc ht hz x0 x1
      by_cases hpt : tm = rs
      · have hpz : p z = true := by rw [hpi]; exact decide_eq_true hpt
        have C2 : Hid ((L.take (i + 1)).countP p = cc + 1) := by unfold Hid; rw [HT.out, List.countP_append, HCC.out]; simp [hpz]
        have A2 : Hid (((L.take (i + 1)).filter fun v => !p v) = acc) := by unfold Hid; rw [HT.out, List.filter_append, HA.out]; simp [hpz]
        subst hpt
        clear hpi
        go_wp2
        go_roundw
        case rel => exact ⟨i + 1, _, rfl, by rw [C2.out]; exact congrArg (Value.int IntKind.i64) (by omega), by go_num, by omega, by rw [A2.out, HQ.out]; exact HY.out, br⟩
        case measure => simp [intOf]; omega
      · have hpz : p z = false := by rw [hpi]; exact decide_eq_false hpt
        have hpt' : (tm == rs) = false := by rw [beq_eq_false_iff_ne]; exact hpt
        have C2 : Hid ((L.take (i + 1)).countP p = cc) := by unfold Hid; rw [HT.out, List.countP_append, HCC.out]; simp [hpz]
        have A2 : Hid (((L.take (i + 1)).filter fun v => !p v) = acc ++ [z]) := by unfold Hid; rw [HT.out, List.filter_append, HA.out]; simp [hpz]
        clear hpi
        go_wp2_with (at_builtin; refine wpList_pushV rfl (.tmp 33) (.tmp 41) rfl w.heap.size (.slice ya q yc) acc rfl (by rw [HQ.out]; exact HY.out.alloc _) wr.heap.size z rfl (by simp) (by simp) (by rw [HQ.out]; omega) (by have := br.size; simp; omega) ?_; intro v5 w5 o5 g5 a5; rw [show (acc ++ [z]).length = q + 1 by rw [List.length_append, HQ.out]; rfl] at o5; obtain ⟨v5a, v5c, rfl, _⟩ := own_form o5)
        have c5 : Below w.heap.size w w5 := (br.alloc br.size _).grown g5 (by have := br.size; simp; omega) (fun k e => (own_since HY.out k e).1)
        go_roundw
        case rel => exact ⟨i + 1, _, rfl, by rw [C2.out], by go_num, by omega, by rw [A2.out, show (acc ++ [z]).length = q + 1 by rw [List.length_append, HQ.out]; rfl]; exact o5, c5⟩
        case measure => simp [intOf]; omega
    · obtain rfl : i = n := by omega
      have eT : L.take i = L := List.take_of_length_le (by rw [HN.out]; exact Nat.le_refl _)
      have ha := HA.out
      rw [eT] at ha ⊢
      have Rr := hR.out.go br
      have r0 := Rr.froz 0
      have hyo : ∀ k, (Value.slice ya q yc).ownBlock = some k → w.heap.size ≤ k := fun k hk => (own_since HY.out k hk).1
      have low := Rr.low
      have e2 : RAt B (wr.setCell ⟨r, 0, none⟩ (.slice ya q yc)) r (.slice ya q yc) (L.filter fun v => !p v) := by
        have ap : (Value.slice ya q yc).ownBlock ≠ some r := fun e => by have := hyo r e; omega
        refine ⟨World.cell?_setCell_same _ _ _ Rr.cell, fun o => by rw [World.frozen?_setCell]; exact Rr.froz o, ?_, ap, low⟩
        rw [ha, HQ.out]
        exact owns_same (owns_base (by omega) HY.out) fun k hk => Below.heap_setCell _ _ _ k (fun e => ap (by rw [hk]; exact congrArg some e))
      have T2 : Tn r (.slice xa i xc) (.slice ya q yc) w (wr.setCell ⟨r, 0, none⟩ (.slice ya q yc)) := ⟨br.os, br.tape, br.output, by simp only [World.setCell, Array.size_modify]; exact br.size, fun k hk hb _ => (Below.heap_setCell _ _ _ k hb).trans (br.block k hk), fun k hk => Or.inr (hyo k hk)⟩
      clear ha
      go_wp2
      go_ret
      exact ⟨rfl, _, e2, T2⟩
end Go.Proofs.Ytpbmkflkggeggaa.Hp
