/-
  The chapter's own heap in memory: the first of the least, Peek, Push.
-/
import Derived.Test.YtpbmkflkggeggaaHeapRefPlain
import Derived.Deep.CutRange
namespace Go.Proofs.Ytpbmkflkggeggaa.Hp
set_option linter.unusedVariables false
set_option linter.unusedSimpArgs false
open Go Go.RowKit Go.Shelf Go.Proofs
attribute [local go_sem] Oper.semAt_some

structure RAt (B : Nat) (w : World) (r : Nat) (x : Value) (L : List (Int × Int)) : Prop where
  cell : w.cell? ⟨r, 0, none⟩ = some x
  froz : ∀ o, w.frozen? ⟨r, o, none⟩ = false
  row : w.ownsRow B 27 2 x L.length (rowL vL L)
  apart : x.ownBlock ≠ some r
  low : B ≤ r
theorem RAt.lt {B r : Nat} {w : World} {x : Value} {L : List (Int × Int)} (h : RAt B w r x L) : r < w.heap.size := World.block_lt_of_cell? w _ h.cell
theorem RAt.same {B r : Nat} {w w' : World} {x : Value} {L : List (Int × Int)} (h : RAt B w r x L) (hb : w'.heap[r]? = w.heap[r]?) (hv : ∀ k, x.ownBlock = some k → w'.heap[k]? = w.heap[k]?) : RAt B w' r x L :=
  ⟨(cell_same hb).trans h.cell, fun o => (frozen_same hb).trans (h.froz o), owns_same h.row hv, h.apart, h.low⟩
theorem RAt.go {B r : Nat} {w w' : World} {x : Value} {L : List (Int × Int)} (h : RAt B w r x L) (hb : Below w.heap.size w w') : RAt B w' r x L :=
  h.same (hb.block r h.lt) fun k hk => hb.block k (own_since h.row k hk).2
theorem RAt.past {B r : Nat} {w w' : World} {x x' : Value} {L : List (Int × Int)} (t : Tn r x x' w w') (h : RAt B w r x L) (hB : B ≤ w.heap.size) : Below B w w' :=
  ⟨t.os, t.tape, t.output, t.size, fun k hk => t.block k (by omega) (by have := h.low; omega) (fun e => by have := (own_since h.row k e).1; omega)⟩
theorem getD_in {L : List (Int × Int)} {i : Nat} (h : i < L.length) : L.getD i (0, 0) = L[i] := by rw [List.getD_eq_getElem?_getD, List.getElem?_eq_getElem h]; rfl
set_option maxRecDepth 100000 in
set_option maxHeartbeats 2000000 in
theorem first_any (B r : Nat) (x : Value) (L : List (Int × Int)) (w : World) (h : RAt B w r x L) (hm : L.length ≤ 100000) : Calls Try.prog 39 #[.pointer (some ⟨r, 0, none⟩)] w fun e w' => e = .returned (.int .i64 (best L L.length)) ∧ Below w.heap.size w w' := by
  obtain ⟨xa, xc, rfl, fx⟩ := v_form h.row
  have HX : Hid (∀ i (hi : i < L.length), ∃ g, xa = some ⟨g, 0, none⟩ ∧ w.cell? ⟨g, i * 2, none⟩ = some (.int .i64 (L[i]).1) ∧ w.cell? ⟨g, i * 2 + 1, none⟩ = some (.int .i64 (L[i]).2)) := fx
  have hc := h.cell
  have hl := h.lt
  obtain ⟨n, hn⟩ : ∃ n, L.length = n := ⟨_, rfl⟩
  have HN : Hid (L.length = n) := hn
  rw [hn] at hm hc ⊢
  clear fx h hn
  go_enter Try.func39, Try.ntmps39
  go_wp2
  go_loopw [3, 4] (fun bx ix wr => ∃ i : Nat, bx = .int .i64 (best L i) ∧ ix = .int .i64 i ∧ i ≤ n ∧ Below w.heap.size w wr) (fun bx ix wr => n - (intOf ix).toNat)
  case atStart => exact ⟨0, rfl, rfl, Nat.zero_le _, Below.refl _ _⟩
  case round =>
    obtain ⟨i, rfl, rfl, hi, br⟩ := hrel
    have c0 := (br.cell (p := ⟨r, 0, none⟩) hl).trans hc
    by_cases hlt : i < n
    · have hlt' : (i : Int) < (n : Int) := by omega
      have hil : i < L.length := by rw [HN.out]; exact hlt
      obtain ⟨g, rfl, x0, _⟩ := HX.out i hil
      have k0 := (br.cell (p := ⟨g, i * 2, none⟩) (World.block_lt_of_cell? w _ x0)).trans x0
      have bn : best L (i + 1) = if best L i < 0 ∨ (L.getD i (0, 0)).1 < (L.getD (best L i).toNat (0, 0)).1 then (i : Int) else best L i := rfl
      rw [getD_in hil] at bn
      go_wp2_with fail
      obtain ⟨IH, hIH⟩ : ∃ I : World → Prop, I = Below wr.heap.size wr := ⟨_, rfl⟩
      have kI : ∀ u, IH u → Below wr.heap.size wr u := fun u hu => by rw [hIH] at hu; exact hu
      have hS : IH wr.drew := by rw [hIH]; exact (Below.refl _ _).drew
      have LX := fun u hu => ((kI u hu).cell (p := ⟨r, 0, none⟩) (World.block_lt_of_cell? wr _ c0)).trans c0
      have KI := fun u hu => ((kI u hu).cell (p := ⟨g, i * 2, none⟩) (World.block_lt_of_cell? wr _ k0)).trans k0
      rcases best_bd L i with ⟨rfl, hb⟩ | ⟨h0, b1, b2⟩
      · have BN : Hid (best L (0 + 1) = ((0 : Nat) : Int)) := by unfold Hid; rw [bn, if_pos (Or.inl (by omega))]
        rw [hb]
        clear bn
        refine start_held (S := IH) 21 rfl (by kernel_rfl) (hS) ?_
        simp only [Array.replicate_succ, Array.replicate_zero, List.push_toArray, List.nil_append, List.cons_append]
        refine take_held 0 (by assumption) rfl (by kernel_rfl) (by kernel_rfl) (by kernel_rfl) (fun _ _ _ h => h) (by kernel_rfl) (v := ?v0) ?y0 ?r0
        case y0 => (intro u hu; go_simp; try rfl)
        simp only [Act.put, List.setIfInBounds_toArray, List.set_cons_zero, List.set_cons_succ]
        refine take_held 1 (by assumption) rfl (by kernel_rfl) (by kernel_rfl) (by kernel_rfl) (fun _ _ _ h => h) (by kernel_rfl) (v := .bool true) ?y1 ?r1
        case y1 => (intro u hu; go_simp; try simp; try omega)
        simp only [Act.put, List.setIfInBounds_toArray, List.set_cons_zero, List.set_cons_succ]
        refine take_held 2 (by assumption) rfl (by kernel_rfl) (by kernel_rfl) (by kernel_rfl) (fun _ _ _ h => h) (by kernel_rfl) (v := ?v2) ?y2 ?r2
        case y2 => (intro u hu; go_simp; try rfl)
        simp only [Act.put, List.setIfInBounds_toArray, List.set_cons_zero, List.set_cons_succ]
        refine skip_held 3 (by assumption) rfl (by kernel_rfl) (by kernel_rfl) (by kernel_rfl) (fun _ _ _ h => h) (by kernel_rfl) ?_
        simp only [Act.put, List.setIfInBounds_toArray, List.set_cons_zero, List.set_cons_succ]
        refine skip_held 4 (by assumption) rfl (by kernel_rfl) (by kernel_rfl) (by kernel_rfl) (fun _ _ _ h => h) (by kernel_rfl) ?_
        simp only [Act.put, List.setIfInBounds_toArray, List.set_cons_zero, List.set_cons_succ]
        refine skip_held 5 (by assumption) rfl (by kernel_rfl) (by kernel_rfl) (by kernel_rfl) (fun _ _ _ h => h) (by kernel_rfl) ?_
        simp only [Act.put, List.setIfInBounds_toArray, List.set_cons_zero, List.set_cons_succ]
        refine skip_held 6 (by assumption) rfl (by kernel_rfl) (by kernel_rfl) (by kernel_rfl) (fun _ _ _ h => h) (by kernel_rfl) ?_
        simp only [Act.put, List.setIfInBounds_toArray, List.set_cons_zero, List.set_cons_succ]
        refine skip_held 7 (by assumption) rfl (by kernel_rfl) (by kernel_rfl) (by kernel_rfl) (fun _ _ _ h => h) (by kernel_rfl) ?_
        simp only [Act.put, List.setIfInBounds_toArray, List.set_cons_zero, List.set_cons_succ]
        refine skip_held 8 (by assumption) rfl (by kernel_rfl) (by kernel_rfl) (by kernel_rfl) (fun _ _ _ h => h) (by kernel_rfl) ?_
        simp only [Act.put, List.setIfInBounds_toArray, List.set_cons_zero, List.set_cons_succ]
        refine skip_held 9 (by assumption) rfl (by kernel_rfl) (by kernel_rfl) (by kernel_rfl) (fun _ _ _ h => h) (by kernel_rfl) ?_
        simp only [Act.put, List.setIfInBounds_toArray, List.set_cons_zero, List.set_cons_succ]
        refine skip_held 10 (by assumption) rfl (by kernel_rfl) (by kernel_rfl) (by kernel_rfl) (fun _ _ _ h => h) (by kernel_rfl) ?_
        simp only [Act.put, List.setIfInBounds_toArray, List.set_cons_zero, List.set_cons_succ]
        refine skip_held 11 (by assumption) rfl (by kernel_rfl) (by kernel_rfl) (by kernel_rfl) (fun _ _ _ h => h) (by kernel_rfl) ?_
        simp only [Act.put, List.setIfInBounds_toArray, List.set_cons_zero, List.set_cons_succ]
        refine skip_held 12 (by assumption) rfl (by kernel_rfl) (by kernel_rfl) (by kernel_rfl) (fun _ _ _ h => h) (by kernel_rfl) ?_
        simp only [Act.put, List.setIfInBounds_toArray, List.set_cons_zero, List.set_cons_succ]
        refine skip_held 13 (by assumption) rfl (by kernel_rfl) (by kernel_rfl) (by kernel_rfl) (fun _ _ _ h => h) (by kernel_rfl) ?_
        simp only [Act.put, List.setIfInBounds_toArray, List.set_cons_zero, List.set_cons_succ]
        refine skip_held 14 (by assumption) rfl (by kernel_rfl) (by kernel_rfl) (by kernel_rfl) (fun _ _ _ h => h) (by kernel_rfl) ?_
        simp only [Act.put, List.setIfInBounds_toArray, List.set_cons_zero, List.set_cons_succ]
        refine skip_held 15 (by assumption) rfl (by kernel_rfl) (by kernel_rfl) (by kernel_rfl) (fun _ _ _ h => h) (by kernel_rfl) ?_
        simp only [Act.put, List.setIfInBounds_toArray, List.set_cons_zero, List.set_cons_succ]
        refine skip_held 16 (by assumption) rfl (by kernel_rfl) (by kernel_rfl) (by kernel_rfl) (fun _ _ _ h => h) (by kernel_rfl) ?_
        simp only [Act.put, List.setIfInBounds_toArray, List.set_cons_zero, List.set_cons_succ]
        refine skip_held 17 (by assumption) rfl (by kernel_rfl) (by kernel_rfl) (by kernel_rfl) (fun _ _ _ h => h) (by kernel_rfl) ?_
        simp only [Act.put, List.setIfInBounds_toArray, List.set_cons_zero, List.set_cons_succ]
        refine skip_held 18 (by assumption) rfl (by kernel_rfl) (by kernel_rfl) (by kernel_rfl) (fun _ _ _ h => h) (by kernel_rfl) ?_
        simp only [Act.put, List.setIfInBounds_toArray, List.set_cons_zero, List.set_cons_succ]
        refine skip_held 19 (by assumption) rfl (by kernel_rfl) (by kernel_rfl) (by kernel_rfl) (fun _ _ _ h => h) (by kernel_rfl) ?_
        simp only [Act.put, List.setIfInBounds_toArray, List.set_cons_zero, List.set_cons_succ]
        refine take_held 20 (by assumption) rfl (by kernel_rfl) (by kernel_rfl) (by kernel_rfl) (fun _ _ _ h => h) (by kernel_rfl) (v := ?v3) ?y3 ?r3
        case y3 => (intro u hu; go_simp; try rfl)
        simp only [Act.put, List.setIfInBounds_toArray, List.set_cons_zero, List.set_cons_succ]
        refine done_held (by kernel_rfl) ?_ _
        go_wp2
        go_roundw
        case rel => exact ⟨0 + 1, by rw [BN.out], by first | rfl | go_num, by omega, br.drew⟩
        case measure => first | (simp [intOf]; omega) | simp [intOf]
      · obtain ⟨q, hq⟩ : ∃ q : Nat, best L i = (q : Int) := ⟨(best L i).toNat, by omega⟩
        rw [hq] at bn b2 ⊢
        have hql : q < L.length := by omega
        rw [Int.toNat_natCast, getD_in hql] at bn
        obtain ⟨g', eg, q0, _⟩ := HX.out q hql
        cases eg
        have j0 := (br.cell (p := ⟨g, q * 2, none⟩) (World.block_lt_of_cell? w _ q0)).trans q0
        have KQ := fun u hu => ((kI u hu).cell (p := ⟨g, q * 2, none⟩) (World.block_lt_of_cell? wr _ j0)).trans j0
        have hqn : (q : Int) < (n : Int) := by omega
        have hq0 : ¬ (q : Int) < 0 := by omega
        generalize (L[i]).1 = ki at *
        generalize (L[q]).1 = kq at *
        by_cases hk : ki < kq
        · have BN : Hid (best L (i + 1) = (i : Int)) := by unfold Hid; rw [bn, if_pos (Or.inr hk)]
          clear bn
          refine start_held (S := IH) 21 rfl (by kernel_rfl) (hS) ?_
          simp only [Array.replicate_succ, Array.replicate_zero, List.push_toArray, List.nil_append, List.cons_append]
          refine take_held 0 (by assumption) rfl (by kernel_rfl) (by kernel_rfl) (by kernel_rfl) (fun _ _ _ h => h) (by kernel_rfl) (v := ?v4) ?y4 ?r4
          case y4 => (intro u hu; go_simp; try rfl)
          simp only [Act.put, List.setIfInBounds_toArray, List.set_cons_zero, List.set_cons_succ]
          refine take_held 1 (by assumption) rfl (by kernel_rfl) (by kernel_rfl) (by kernel_rfl) (fun _ _ _ h => h) (by kernel_rfl) (v := .bool false) ?y5 ?r5
          case y5 => (intro u hu; go_simp; try simp; try omega)
          simp only [Act.put, List.setIfInBounds_toArray, List.set_cons_zero, List.set_cons_succ]
          refine take_held 2 (by assumption) rfl (by kernel_rfl) (by kernel_rfl) (by kernel_rfl) (fun _ _ _ h => h) (by kernel_rfl) (v := ?v6) ?y6 ?r6
          case y6 => (intro u hu; go_simp; try rfl)
          simp only [Act.put, List.setIfInBounds_toArray, List.set_cons_zero, List.set_cons_succ]
          refine take_held 3 (by assumption) rfl (by kernel_rfl) (by kernel_rfl) (by kernel_rfl) (fun _ _ _ h => h) (by kernel_rfl) (v := ?v7) ?y7 ?r7
          case y7 => (intro u hu; go_simp; try rfl)
          simp only [Act.put, List.setIfInBounds_toArray, List.set_cons_zero, List.set_cons_succ]
          refine take_held 4 (by assumption) rfl (by kernel_rfl) (by kernel_rfl) (by kernel_rfl) (fun _ _ _ h => h) (by kernel_rfl) (v := ?v8) ?y8 ?r8
          case y8 => (intro u hu; go_simp; try rfl)
          simp only [Act.put, List.setIfInBounds_toArray, List.set_cons_zero, List.set_cons_succ]
          refine take_held 5 (by assumption) rfl (by kernel_rfl) (by kernel_rfl) (by kernel_rfl) (fun _ _ _ h => h) (by kernel_rfl) (v := ?v9) ?y9 ?r9
          case y9 => (intro u hu; go_simp; try rfl)
          simp only [Act.put, List.setIfInBounds_toArray, List.set_cons_zero, List.set_cons_succ]
          refine take_held 6 (by assumption) rfl (by kernel_rfl) (by kernel_rfl) (by kernel_rfl) (fun _ _ _ h => h) (by kernel_rfl) (v := ?v10) ?y10 ?r10
          case y10 => (intro u hu; have zz0 := LX u hu; go_simp; try rfl)
          simp only [Act.put, List.setIfInBounds_toArray, List.set_cons_zero, List.set_cons_succ]
          refine take_held 7 (by assumption) rfl (by kernel_rfl) (by kernel_rfl) (by kernel_rfl) (fun _ _ _ h => h) (by kernel_rfl) (v := ?v11) ?y11 ?r11
          case y11 => (intro u hu; go_simp; try rfl)
          simp only [Act.put, List.setIfInBounds_toArray, List.set_cons_zero, List.set_cons_succ]
          refine take_held 8 (by assumption) rfl (by kernel_rfl) (by kernel_rfl) (by kernel_rfl) (fun _ _ _ h => h) (by kernel_rfl) (v := ?v12) ?y12 ?r12
          case y12 => (intro u hu; go_simp; try rfl)
          simp only [Act.put, List.setIfInBounds_toArray, List.set_cons_zero, List.set_cons_succ]
          refine take_held 9 (by assumption) rfl (by kernel_rfl) (by kernel_rfl) (by kernel_rfl) (fun _ _ _ h => h) (by kernel_rfl) (v := ?v13) ?y13 ?r13
          case y13 => (intro u hu; go_simp; try rfl)
          simp only [Act.put, List.setIfInBounds_toArray, List.set_cons_zero, List.set_cons_succ]
          refine take_held 10 (by assumption) rfl (by kernel_rfl) (by kernel_rfl) (by kernel_rfl) (fun _ _ _ h => h) (by kernel_rfl) (v := ?v14) ?y14 ?r14
          case y14 => (intro u hu; have zz0 := KI u hu; go_simp; try rfl)
          simp only [Act.put, List.setIfInBounds_toArray, List.set_cons_zero, List.set_cons_succ]
          refine take_held 11 (by assumption) rfl (by kernel_rfl) (by kernel_rfl) (by kernel_rfl) (fun _ _ _ h => h) (by kernel_rfl) (v := ?v15) ?y15 ?r15
          case y15 => (intro u hu; go_simp; try rfl)
          simp only [Act.put, List.setIfInBounds_toArray, List.set_cons_zero, List.set_cons_succ]
          refine take_held 12 (by assumption) rfl (by kernel_rfl) (by kernel_rfl) (by kernel_rfl) (fun _ _ _ h => h) (by kernel_rfl) (v := ?v16) ?y16 ?r16
          case y16 => (intro u hu; go_simp; try rfl)
          simp only [Act.put, List.setIfInBounds_toArray, List.set_cons_zero, List.set_cons_succ]
          refine take_held 13 (by assumption) rfl (by kernel_rfl) (by kernel_rfl) (by kernel_rfl) (fun _ _ _ h => h) (by kernel_rfl) (v := ?v17) ?y17 ?r17
          case y17 => (intro u hu; go_simp; try rfl)
          simp only [Act.put, List.setIfInBounds_toArray, List.set_cons_zero, List.set_cons_succ]
          refine take_held 14 (by assumption) rfl (by kernel_rfl) (by kernel_rfl) (by kernel_rfl) (fun _ _ _ h => h) (by kernel_rfl) (v := ?v18) ?y18 ?r18
          case y18 => (intro u hu; have zz0 := LX u hu; go_simp; try rfl)
          simp only [Act.put, List.setIfInBounds_toArray, List.set_cons_zero, List.set_cons_succ]
          refine take_held 15 (by assumption) rfl (by kernel_rfl) (by kernel_rfl) (by kernel_rfl) (fun _ _ _ h => h) (by kernel_rfl) (v := ?v19) ?y19 ?r19
          case y19 => (intro u hu; go_simp; try rfl)
          simp only [Act.put, List.setIfInBounds_toArray, List.set_cons_zero, List.set_cons_succ]
          refine take_held 16 (by assumption) rfl (by kernel_rfl) (by kernel_rfl) (by kernel_rfl) (fun _ _ _ h => h) (by kernel_rfl) (v := ?v20) ?y20 ?r20
          case y20 => (intro u hu; go_simp; try rfl)
          simp only [Act.put, List.setIfInBounds_toArray, List.set_cons_zero, List.set_cons_succ]
          refine take_held 17 (by assumption) rfl (by kernel_rfl) (by kernel_rfl) (by kernel_rfl) (fun _ _ _ h => h) (by kernel_rfl) (v := ?v21) ?y21 ?r21
          case y21 => (intro u hu; go_simp; try rfl)
          simp only [Act.put, List.setIfInBounds_toArray, List.set_cons_zero, List.set_cons_succ]
          refine take_held 18 (by assumption) rfl (by kernel_rfl) (by kernel_rfl) (by kernel_rfl) (fun _ _ _ h => h) (by kernel_rfl) (v := ?v22) ?y22 ?r22
          case y22 => (intro u hu; have zz0 := KQ u hu; go_simp; try rfl)
          simp only [Act.put, List.setIfInBounds_toArray, List.set_cons_zero, List.set_cons_succ]
          refine take_held 19 (by assumption) rfl (by kernel_rfl) (by kernel_rfl) (by kernel_rfl) (fun _ _ _ h => h) (by kernel_rfl) (v := .bool true) ?y23 ?r23
          case y23 => (intro u hu; go_simp; try simp; try omega)
          simp only [Act.put, List.setIfInBounds_toArray, List.set_cons_zero, List.set_cons_succ]
          refine take_held 20 (by assumption) rfl (by kernel_rfl) (by kernel_rfl) (by kernel_rfl) (fun _ _ _ h => h) (by kernel_rfl) (v := ?v24) ?y24 ?r24
          case y24 => (intro u hu; go_simp; try rfl)
          simp only [Act.put, List.setIfInBounds_toArray, List.set_cons_zero, List.set_cons_succ]
          refine done_held (by kernel_rfl) ?_ _
          go_wp2
          go_roundw
          case rel => exact ⟨i + 1, by rw [BN.out], by go_num, by omega, br.drew⟩
          case measure => simp [intOf]; omega
        · have BN : Hid (best L (i + 1) = (q : Int)) := by unfold Hid; rw [bn, if_neg (by omega)]
          clear bn
          refine start_held (S := IH) 21 rfl (by kernel_rfl) (hS) ?_
          simp only [Array.replicate_succ, Array.replicate_zero, List.push_toArray, List.nil_append, List.cons_append]
          refine take_held 0 (by assumption) rfl (by kernel_rfl) (by kernel_rfl) (by kernel_rfl) (fun _ _ _ h => h) (by kernel_rfl) (v := ?v25) ?y25 ?r25
          case y25 => (intro u hu; go_simp; try rfl)
          simp only [Act.put, List.setIfInBounds_toArray, List.set_cons_zero, List.set_cons_succ]
          refine take_held 1 (by assumption) rfl (by kernel_rfl) (by kernel_rfl) (by kernel_rfl) (fun _ _ _ h => h) (by kernel_rfl) (v := .bool false) ?y26 ?r26
          case y26 => (intro u hu; go_simp; try simp; try omega)
          simp only [Act.put, List.setIfInBounds_toArray, List.set_cons_zero, List.set_cons_succ]
          refine take_held 2 (by assumption) rfl (by kernel_rfl) (by kernel_rfl) (by kernel_rfl) (fun _ _ _ h => h) (by kernel_rfl) (v := ?v27) ?y27 ?r27
          case y27 => (intro u hu; go_simp; try rfl)
          simp only [Act.put, List.setIfInBounds_toArray, List.set_cons_zero, List.set_cons_succ]
          refine take_held 3 (by assumption) rfl (by kernel_rfl) (by kernel_rfl) (by kernel_rfl) (fun _ _ _ h => h) (by kernel_rfl) (v := ?v28) ?y28 ?r28
          case y28 => (intro u hu; go_simp; try rfl)
          simp only [Act.put, List.setIfInBounds_toArray, List.set_cons_zero, List.set_cons_succ]
          refine take_held 4 (by assumption) rfl (by kernel_rfl) (by kernel_rfl) (by kernel_rfl) (fun _ _ _ h => h) (by kernel_rfl) (v := ?v29) ?y29 ?r29
          case y29 => (intro u hu; go_simp; try rfl)
          simp only [Act.put, List.setIfInBounds_toArray, List.set_cons_zero, List.set_cons_succ]
          refine take_held 5 (by assumption) rfl (by kernel_rfl) (by kernel_rfl) (by kernel_rfl) (fun _ _ _ h => h) (by kernel_rfl) (v := ?v30) ?y30 ?r30
          case y30 => (intro u hu; go_simp; try rfl)
          simp only [Act.put, List.setIfInBounds_toArray, List.set_cons_zero, List.set_cons_succ]
          refine take_held 6 (by assumption) rfl (by kernel_rfl) (by kernel_rfl) (by kernel_rfl) (fun _ _ _ h => h) (by kernel_rfl) (v := ?v31) ?y31 ?r31
          case y31 => (intro u hu; have zz0 := LX u hu; go_simp; try rfl)
          simp only [Act.put, List.setIfInBounds_toArray, List.set_cons_zero, List.set_cons_succ]
          refine take_held 7 (by assumption) rfl (by kernel_rfl) (by kernel_rfl) (by kernel_rfl) (fun _ _ _ h => h) (by kernel_rfl) (v := ?v32) ?y32 ?r32
          case y32 => (intro u hu; go_simp; try rfl)
          simp only [Act.put, List.setIfInBounds_toArray, List.set_cons_zero, List.set_cons_succ]
          refine take_held 8 (by assumption) rfl (by kernel_rfl) (by kernel_rfl) (by kernel_rfl) (fun _ _ _ h => h) (by kernel_rfl) (v := ?v33) ?y33 ?r33
          case y33 => (intro u hu; go_simp; try rfl)
          simp only [Act.put, List.setIfInBounds_toArray, List.set_cons_zero, List.set_cons_succ]
          refine take_held 9 (by assumption) rfl (by kernel_rfl) (by kernel_rfl) (by kernel_rfl) (fun _ _ _ h => h) (by kernel_rfl) (v := ?v34) ?y34 ?r34
          case y34 => (intro u hu; go_simp; try rfl)
          simp only [Act.put, List.setIfInBounds_toArray, List.set_cons_zero, List.set_cons_succ]
          refine take_held 10 (by assumption) rfl (by kernel_rfl) (by kernel_rfl) (by kernel_rfl) (fun _ _ _ h => h) (by kernel_rfl) (v := ?v35) ?y35 ?r35
          case y35 => (intro u hu; have zz0 := KI u hu; go_simp; try rfl)
          simp only [Act.put, List.setIfInBounds_toArray, List.set_cons_zero, List.set_cons_succ]
          refine take_held 11 (by assumption) rfl (by kernel_rfl) (by kernel_rfl) (by kernel_rfl) (fun _ _ _ h => h) (by kernel_rfl) (v := ?v36) ?y36 ?r36
          case y36 => (intro u hu; go_simp; try rfl)
          simp only [Act.put, List.setIfInBounds_toArray, List.set_cons_zero, List.set_cons_succ]
          refine take_held 12 (by assumption) rfl (by kernel_rfl) (by kernel_rfl) (by kernel_rfl) (fun _ _ _ h => h) (by kernel_rfl) (v := ?v37) ?y37 ?r37
          case y37 => (intro u hu; go_simp; try rfl)
          simp only [Act.put, List.setIfInBounds_toArray, List.set_cons_zero, List.set_cons_succ]
          refine take_held 13 (by assumption) rfl (by kernel_rfl) (by kernel_rfl) (by kernel_rfl) (fun _ _ _ h => h) (by kernel_rfl) (v := ?v38) ?y38 ?r38
          case y38 => (intro u hu; go_simp; try rfl)
          simp only [Act.put, List.setIfInBounds_toArray, List.set_cons_zero, List.set_cons_succ]
          refine take_held 14 (by assumption) rfl (by kernel_rfl) (by kernel_rfl) (by kernel_rfl) (fun _ _ _ h => h) (by kernel_rfl) (v := ?v39) ?y39 ?r39
          case y39 => (intro u hu; have zz0 := LX u hu; go_simp; try rfl)
          simp only [Act.put, List.setIfInBounds_toArray, List.set_cons_zero, List.set_cons_succ]
          refine take_held 15 (by assumption) rfl (by kernel_rfl) (by kernel_rfl) (by kernel_rfl) (fun _ _ _ h => h) (by kernel_rfl) (v := ?v40) ?y40 ?r40
          case y40 => (intro u hu; go_simp; try rfl)
          simp only [Act.put, List.setIfInBounds_toArray, List.set_cons_zero, List.set_cons_succ]
          refine take_held 16 (by assumption) rfl (by kernel_rfl) (by kernel_rfl) (by kernel_rfl) (fun _ _ _ h => h) (by kernel_rfl) (v := ?v41) ?y41 ?r41
          case y41 => (intro u hu; go_simp; try rfl)
          simp only [Act.put, List.setIfInBounds_toArray, List.set_cons_zero, List.set_cons_succ]
          refine take_held 17 (by assumption) rfl (by kernel_rfl) (by kernel_rfl) (by kernel_rfl) (fun _ _ _ h => h) (by kernel_rfl) (v := ?v42) ?y42 ?r42
          case y42 => (intro u hu; go_simp; try rfl)
          simp only [Act.put, List.setIfInBounds_toArray, List.set_cons_zero, List.set_cons_succ]
          refine take_held 18 (by assumption) rfl (by kernel_rfl) (by kernel_rfl) (by kernel_rfl) (fun _ _ _ h => h) (by kernel_rfl) (v := ?v43) ?y43 ?r43
          case y43 => (intro u hu; have zz0 := KQ u hu; go_simp; try rfl)
          simp only [Act.put, List.setIfInBounds_toArray, List.set_cons_zero, List.set_cons_succ]
          refine take_held 19 (by assumption) rfl (by kernel_rfl) (by kernel_rfl) (by kernel_rfl) (fun _ _ _ h => h) (by kernel_rfl) (v := .bool false) ?y44 ?r44
          case y44 => (intro u hu; go_simp; try simp; try omega)
          simp only [Act.put, List.setIfInBounds_toArray, List.set_cons_zero, List.set_cons_succ]
          refine take_held 20 (by assumption) rfl (by kernel_rfl) (by kernel_rfl) (by kernel_rfl) (fun _ _ _ h => h) (by kernel_rfl) (v := ?v45) ?y45 ?r45
          case y45 => (intro u hu; go_simp; try rfl)
          simp only [Act.put, List.setIfInBounds_toArray, List.set_cons_zero, List.set_cons_succ]
          refine done_held (by kernel_rfl) ?_ _
          go_wp2
          go_roundw
          case rel => exact ⟨i + 1, by rw [BN.out], by go_num, by omega, br.drew⟩
          case measure => simp [intOf]; omega
    · obtain rfl : i = n := by omega
      go_wp2
      go_ret
      exact ⟨rfl, br⟩
theorem rpeek_none (B r : Nat) (x : Value) (w : World) (h : RAt B w r x []) : Calls Try.prog 19 #[.pointer (some ⟨r, 0, none⟩)] w fun e w' => e = .returned (.tuple #[.agg #[.int .i64 0, .int .i64 0], .bool false]) ∧ Below w.heap.size w w' := by
  have b0 : Below w.heap.size w (w.alloc (.cells #[.int .i64 0, .int .i64 0] 27)) := (Below.refl _ _).alloc (Nat.le_refl _) _
  have cF := first_any B r x [] _ (h.go b0) (by simp)
  have e1 : best [] ([] : List (Int × Int)).length = -1 := rfl
  rw [e1] at cF
  go_enter Try.func19, Try.ntmps19
  go_wp2_with (go_at_call 39; refine cF.mono ?_; rintro e w1 ⟨rfl, b1⟩; have e0 : w1.heap[w.heap.size]? = (w.alloc (.cells #[.int .i64 0, .int .i64 0] 27)).heap[w.heap.size]? := b1.block _ (by simp); have y0 : w1.cell? ⟨w.heap.size, 0, none⟩ = some (.int .i64 0) := (cell_same e0).trans (by simp); have y1 : w1.cell? ⟨w.heap.size, 1, none⟩ = some (.int .i64 0) := (cell_same e0).trans (by simp); have z0 : w1.frozen? ⟨w.heap.size, 0, none⟩ = false := (frozen_same e0).trans (by simp); have z1 : w1.frozen? ⟨w.heap.size, 1, none⟩ = false := (frozen_same e0).trans (by simp))
  refine bodyPost_ret (results_cell_tmp Try.results19 _ _ w.heap.size _ rfl (by go_simp)) rfl ⟨rfl, ?_⟩
  have b2 := bcat b0 b1
  exact ((b2.setCell (p := ⟨w.heap.size, 0, none⟩) (Nat.le_refl _) _).setCell (p := ⟨w.heap.size, 1, none⟩) (Nat.le_refl _) _)
theorem rpeek_some (B r : Nat) (x : Value) (L : List (Int × Int)) (j : Nat) (w : World) (h : RAt B w r x L) (hm : L.length ≤ 100000) (hj : best L L.length = (j : Nat)) (hjl : j < L.length) : Calls Try.prog 19 #[.pointer (some ⟨r, 0, none⟩)] w fun e w' => e = .returned (.tuple #[.agg #[.int .i64 (L.getD j (0, 0)).1, .int .i64 (L.getD j (0, 0)).2], .bool true]) ∧ Below w.heap.size w w' := by
  have b0 : Below w.heap.size w (w.alloc (.cells #[.int .i64 0, .int .i64 0] 27)) := (Below.refl _ _).alloc (Nat.le_refl _) _
  have cF := first_any B r x L _ (h.go b0) hm
  rw [hj] at cF
  rw [getD_in hjl]
  obtain ⟨xa, xc, rfl, fx⟩ := v_form h.row
  obtain ⟨g, rfl, x0, x1⟩ := fx j hjl
  have hc := h.cell
  have hl := h.lt
  have gl := World.block_lt_of_cell? w _ x0
  simp only at gl
  have hjn : (j : Int) < (L.length : Int) := by omega
  have hj0 : ¬ (j : Int) < 0 := by omega
  clear fx h hj
  generalize L[j] = z at *
  clear hjl
  generalize L.length = n at *
  go_enter Try.func19, Try.ntmps19
  go_wp2_with (go_at_call 39; refine cF.mono ?_; rintro e w1 ⟨rfl, b1⟩; have bb := bcat b0 b1; have c1 := (bb.cell (p := ⟨r, 0, none⟩) hl).trans hc; have k0 := (bb.cell (p := ⟨g, j * 2, none⟩) gl).trans x0; have k1 := (bb.cell (p := ⟨g, j * 2 + 1, none⟩) gl).trans x1; have e0 : w1.heap[w.heap.size]? = (w.alloc (.cells #[.int .i64 0, .int .i64 0] 27)).heap[w.heap.size]? := b1.block _ (by simp); have y0 : w1.cell? ⟨w.heap.size, 0, none⟩ = some (.int .i64 0) := (cell_same e0).trans (by simp); have y1 : w1.cell? ⟨w.heap.size, 1, none⟩ = some (.int .i64 0) := (cell_same e0).trans (by simp); have z0 : w1.frozen? ⟨w.heap.size, 0, none⟩ = false := (frozen_same e0).trans (by simp); have z1 : w1.frozen? ⟨w.heap.size, 1, none⟩ = false := (frozen_same e0).trans (by simp))
  refine bodyPost_ret (results_cell_tmp Try.results19 _ _ w.heap.size _ rfl (by go_simp)) rfl ⟨rfl, ?_⟩
  exact ((bb.setCell (p := ⟨w.heap.size, 0, none⟩) (Nat.le_refl _) _).setCell (p := ⟨w.heap.size, 1, none⟩) (Nat.le_refl _) _)
/- The slice of the chapter's heap is written anew. -/
theorem RAt.set {B r n : Nat} {w1 w2 : World} {x x2 : Value} {L L2 : List (Int × Int)} (h : RAt B w1 r x L) (g : w1.grownBy w2 x.ownBlock) (a : x2.ownBlock = x.ownBlock ∨ ∀ k, x2.ownBlock = some k → w1.heap.size ≤ k) (o : w2.ownsRow B 27 2 x2 n (rowL vL L2)) (hn : L2.length = n) :
    RAt B (w2.setCell ⟨r, 0, none⟩ x2) r x2 L2 ∧ Tn r x x2 w1 (w2.setCell ⟨r, 0, none⟩ x2) := by
  have e2 : w2.heap[r]? = w1.heap[r]? := g.block r h.lt (fun e => h.apart e.symm)
  have ap : x2.ownBlock ≠ some r := fun e => by
    rcases a with q | q
    · exact h.apart (by rw [← q]; exact e)
    · have := q r e
      have := h.lt
      omega
  subst hn
  refine ⟨⟨World.cell?_setCell_same _ _ _ ((cell_same e2).trans h.cell), fun j => by rw [World.frozen?_setCell]; exact (frozen_same e2).trans (h.froz j), owns_same o fun k hk => Below.heap_setCell _ _ _ k (fun e => ap (by rw [hk]; exact congrArg some e)), ap, h.low⟩,
    ⟨g.os, g.tape, g.output, by simp only [World.setCell, Array.size_modify]; exact g.size, fun k hk hb hv => (Below.heap_setCell _ _ _ k hb).trans (g.block k hk (fun e => hv e.symm)), fun k hk => ?_⟩⟩
  rcases a with q | q
  · exact Or.inl (by rw [← q]; exact hk)
  · exact Or.inr (q k hk)
theorem step_pushV {w : World} {ops : Array Oper} {o : Oper} {a : Act} {K : Act → World → Prop} {Q : Exit → Act → World → Prop} {E : Prop} (hgd : o.guard = none) (s y : Operand)
    (ho : o.op = .call { callee := .builtin .append, args := #[s, y], argTypes := #[30, 30] }) (B : Nat) (v : Value) (l : List (Int × Int)) (hs : a.eval s = v) (hown : w.ownsRow B 27 2 v l.length (rowL vL l)) (q : Nat) (x : Int × Int) (hy : a.eval y = .slice (some ⟨q, 0, none⟩) 1 1)
    (c0 : w.cell? ⟨q, 0, none⟩ = some (.int .i64 x.1)) (c1 : w.cell? ⟨q, 1, none⟩ = some (.int .i64 x.2)) (hm : l.length ≤ 1000000) (hB : B ≤ w.heap.size)
    (h : ∀ v' w', w'.ownsRow B 27 2 v' (l ++ [x]).length (rowL vL (l ++ [x])) → w.grownBy w' v.ownBlock → (v'.ownBlock = v.ownBlock ∨ v'.ownBlock = some w.heap.size) → K (a.put o.dst v') w') :
    if Region.wanted o (yielded ops a.tmps) = true then Oper.wp Try.prog o a w K Q else E := by
  have hw : Region.wanted o (yielded ops a.tmps) = true := by simp [Region.wanted, hgd]
  rw [if_pos hw]
  obtain ⟨v', w', hrun, h2, h3, h4⟩ := run_pushV hown q x c0 c1 hm hB o.type
  unfold Oper.wp execOp
  simp only [ho, resolve, invoke, builtin, Sem.run_bind, Sem.run_pure, Result.andThen_ok, List.map_toArray, List.map_cons, List.map_nil, hs, hy, hrun]
  exact h v' w' h2 h3 h4
set_option maxRecDepth 100000 in
set_option maxHeartbeats 4000000 in
theorem rpush_any (B r : Nat) (x : Value) (L : List (Int × Int)) (k n : Int) (w : World) (h : RAt B w r x L) (hm : L.length ≤ 100000) : Calls Try.prog 15 #[.pointer (some ⟨r, 0, none⟩), .agg #[.int .i64 k, .int .i64 n]] w fun e w' => e = .returned (.tuple #[]) ∧ ∃ x', RAt B w' r x' (L ++ [(k, n)]) ∧ Tn r x x' w w' := by
  obtain ⟨w0, hw0⟩ : ∃ w0, w.alloc (.cells #[.int .i64 k, .int .i64 n] 27) = w0 := ⟨_, rfl⟩
  have b0 : Below w.heap.size w w0 := by rw [← hw0]; exact (Below.refl _ _).alloc (Nat.le_refl _) _
  have v0 : w0.cell? ⟨w.heap.size, 0, none⟩ = some (.int .i64 k) := by rw [← hw0]; simp
  have v1 : w0.cell? ⟨w.heap.size, 1, none⟩ = some (.int .i64 n) := by rw [← hw0]; simp
  have h0 := h.go b0
  have h1 := h0.cell
  have f1 := h0.froz 0
  have hbl := h0.lt
  have hlow := h0.low
  obtain ⟨w1, hw1⟩ : ∃ w1, (w0.alloc (.cells #[.int .i64 k, .int .i64 n] 27)).drew = w1 := ⟨_, rfl⟩
  have b1 : Below w0.heap.size w0 w1 := by rw [← hw1]; exact ((Below.refl _ _).alloc (Nat.le_refl _) _).drew
  have h01 := h0.go b1
  have n0 : w1.cell? ⟨w0.heap.size, 0, none⟩ = some (.int .i64 k) := by rw [← hw1]; simp
  have n1 : w1.cell? ⟨w0.heap.size, 1, none⟩ = some (.int .i64 n) := by rw [← hw1]; simp
  have hrow := h01.row
  have h11 := h01.cell
  obtain ⟨va, vc, rfl, _⟩ := own_form h.row
  have ap := h.apart
  go_enter Try.func15, Try.ntmps15
  go_upto_region 1 with fail
  try rw [hw0]
  go_region_law (refine step_pushV (by rfl) (.tmp 8) (.tmp 10) (by rfl) B (.slice va L.length vc) L (by simp [Act.eval, Act.put]) hrow w0.heap.size (k, n) (by simp [Act.eval, Act.put]) n0 n1 (by omega) (by have := b1.size; omega) ?_; intro v2 w2 o2 g2 a2; rw [show (L ++ [(k, n)]).length = L.length + 1 by simp] at o2; obtain ⟨va2, vc2, rfl, _⟩ := own_form o2; have e2 : w2.heap[r]? = w1.heap[r]? := g2.block r (by have := b1.size; omega) (fun e => ap e.symm); have k1 := (cell_same (o := 0) e2).trans h01.cell; have r1 := (frozen_same (o := 0) e2).trans (h01.froz 0))
  all_goals
    have P := h01.set g2 (a2.elim Or.inl (fun e => Or.inr (fun k hk => by rw [e] at hk; have := Option.some.inj hk; omega))) o2 (by simp)
    go_wp2
    go_end0
    exact ⟨rfl, _, P.1, (Tn.below (b := r) (v := .slice va L.length vc) (bcat b0 b1)).trans P.2⟩
end Go.Proofs.Ytpbmkflkggeggaa.Hp
